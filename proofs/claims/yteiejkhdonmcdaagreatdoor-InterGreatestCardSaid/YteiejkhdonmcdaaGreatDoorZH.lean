/- The program's Has and the document's, walked (VHas). The document's helper that compares two lists, walked. -/
import Derived.Test.YteiejkhdonmcdaaGreatDoorIUnion
import Derived.Test.YteiejkhdonmcdaaGreatDoorMShelf
import Derived.Test.YteiejkhdonmcdaaGreatDoorZA
import Derived.Test.YteiejkhdonmcdaaGreatDoorIJRef
import Derived.BigQuiet
import Derived.Deep.QuietTactic
import Derived.Test.YteiejkhdonmcdaaGreatDoorIRank
import Derived.Test.YteiejkhdonmcdaaGreatDoorX0A
import Derived.Test.YteiejkhdonmcdaaGreatDoorX0B
set_option maxHeartbeats 4000000
set_option maxRecDepth 100000
open Go.Lib (hid)
namespace Go.Proofs.YteiejkhdonmcdaaGreatDoor
open Go.RowKit
namespace Wp
theorem Zo4 (v:Value) (l:List Int) (x:Int) (B:Nat) (w:World) (o:Row w B v l) (hl:l.length≤1048576) :
  Calls Tryz.prog 98 #[v,.int .i64 x] w fun e w'=>e=.returned (.bool (l.contains x))∧w'=w:=by
 obtain ⟨A,c,rfl,_,d⟩:=o;rcases l with _ | ⟨y,r⟩
 ·exact Tryz.slices_Contains_int_empty A c x w
 ·obtain ⟨g,rfl,z,hc⟩:=d 0 z36_
  obtain ⟨b,q,s⟩:=g;have p:s=none:=by simpa [Addr.add] using World.cell?_spot hc
  subst p;have h:=Tryz.slices_Contains_int b q (y :: r).length c (y :: r) x w (Nat.le_refl _) k35_ (fun j m=>by
   obtain ⟨u,hA,_,k⟩:=d j m;injection hA with hA;subst hA;rw [← k];congr 1;unfold Addr.add;split
   ·simp
   ·rfl)
  rw [List.take_length] at h;exact h
theorem has_no {l:List Int} {x:Int} (h:mayB l=false):hasB l x=false:=q45_
theorem has_yes {l:List Int} {x:Int} (h:mayB l=true):hasB l x=l.contains x:=q45_
theorem Xd6 (v:Value) (l:List Int) (x:Int) (w:World) (m:Row w w.heap.size v l) (hl:l.length≤1048576) :
  Calls Tryz.prog 77 #[v,.int .i64 x] w (Says w (hasB l x)):=by
 have g:=hid m;clear m;rcases hm:mayB l with _ | _
 ·have c:=hid (has_no (x:=x) hm)
  go_enter Tryz.func77,Tryz.ntmps77
  go_wp2_with fail
  refine (may_any v l w g.out k35_).mono ?_;rintro e o ⟨rfl,d⟩;rw [hm];go_wp2;go_ret;exact X5_ c.out rfl d
 ·have c:=hid (has_yes (x:=x) hm)
  obtain ⟨j,k⟩:∃ j,j=l.contains x:=⟨_,rfl⟩;have h:=hid (Zo4 v l x w.heap.size);rw [← k] at c h;clear k
  go_enter Tryz.func77,Tryz.ntmps77
  go_wp2_with fail
  refine (may_any v l w g.out k35_).mono ?_;rintro e o ⟨rfl,d⟩;rw [hm]
  go_wp2_with fail
  refine (h.out o (g.out.below d) hl).mono ?_;rintro e p ⟨rfl,rfl⟩;go_wp2;go_ret;exact X5_ c.out rfl d
theorem Fam.bel {w w':World} {B:Nat} {c:List Value} {pp:List (List Int)} (h:Fam w B c pp) (hb:Below w.heap.size w w'):Fam w' B c pp:=h.new (Z9_ hb none)
open Go.RowKit
def sameB (a b:List Int):Bool:=decide (a=b)
theorem Xt1 (K L:Value) (a b:List Int) (w:World) (ha:Row w w.heap.size K a) (hb:Row w w.heap.size L b) (W:a.length≤1048576) (_hlb:b.length≤1048576) :
  Calls Tryz.prog 21 #[K,L] w fun e w'=>e=.returned (.bool (sameB a b))∧∃ q,w'=w.drewN q:=by
 obtain ⟨A,R,rfl,_,D⟩:=ha;obtain ⟨Q,S,rfl,_,E⟩:=hb;have p:=hid D;have r:=hid E;clear D E;by_cases hl:a.length=b.length
 ·have P:((a.length:Int) != (b.length:Int))=false:=by rw [hl];simp
  have s:=hid hl;clear hl
  go_enter Tryz.func21,Tryz.ntmps21
  go_wp2
  go_loopw [5] (fun o wr=>∃ k q:Nat,o=.int .i64 k∧wr=w.drewN q∧k≤a.length∧a.take k=b.take k) (fun o _=>a.length - (intOf o).toNat)
  case atStart=>exact ⟨0,0,rfl,rfl,Nat.zero_le _,rfl⟩
  case round =>
   obtain ⟨k,q,rfl,J,V,I⟩:=hrel;have d:=hid J;clear J;have j:=hid I;clear I;by_cases G:k<a.length
   ·have H:k<b.length:=by have:=s.out;omega
    obtain ⟨M,hA,_,B⟩:=p.out k G;obtain ⟨N,O,_,C⟩:=r.out k H;subst hA O;have T:wr.cell? (M.add k)=some (.int .i64 (a.getD k 0)):=by rw [d.out];exact B
    have U:wr.cell? (N.add k)=some (.int .i64 (b.getD k 0)):=by rw [d.out];exact C
    have Y:(k:Int)<(a.length:Int):=k35_;have Z:(k:Int)<(b.length:Int):=k35_;have m:∀ l:List Int,k<l.length→l.take (k+1)=l.take k ++ [l.getD k 0]:=by
     intro l h;rw [List.take_succ_eq_append_getElem h];simp [List.getD,h]
    have u:=hid (m a G);have v:=hid (m b H);clear m B C p r;generalize a.getD k 0=x at *
    generalize b.getD k 0=y at *
    by_cases g:x=y
    ·subst g
     go_wp2
     go_quiet (fail)
     go_wp2
     go_roundw
     case rel=>exact ⟨k+1,q+nq,x37_,by rw [d.out,World.drewN_drewN],k35_,by rw [u.out,v.out,j.out]⟩
     case measure=>simp [intOf];omega
    ·have X:(x != y)=true:=by simpa using g
     have c:Hid (sameB a b=false):=by
      show sameB a b=false;unfold sameB;rw [decide_eq_false_iff_not];intro h;have z:a.take (k+1)=b.take (k+1):=by rw [h]
      rw [u.out,v.out,j.out] at z;have h3:=List.append_cancel_left z;simp at h3;exact g h3
     clear g;go_wp2
     go_quiet (fail)
     go_wp2;go_ret;refine ⟨?_,q+nq,by rw [d.out,World.drewN_drewN]⟩;rw [c.out];rfl
   ·have F:k=a.length:=by omega
    have c:Hid (sameB a b=true):=by
     show sameB a b=true;unfold sameB;rw [decide_eq_true_iff];have h:=j.out;rw [F,List.take_length] at h;rw [h,s.out,List.take_length]
    subst F;go_wp2;go_ret;refine ⟨?_,q,d.out⟩;rw [c.out];rfl
 ·have P:((a.length:Int) != (b.length:Int))=true:=by
   rw [bne_iff_ne];omega
  have c:Hid (sameB a b=false):=by
   show sameB a b=false;unfold sameB;rw [decide_eq_false_iff_not];intro h;exact hl (by rw [h])
  clear hl
  go_enter Tryz.func21,Tryz.ntmps21
  go_wp2;go_ret;refine ⟨?_,0,rfl⟩;rw [c.out];rfl
theorem Xd7 (c d:Value) (a b:List Int) (w:World) (ha:Row w w.heap.size c a) (hb:Row w w.heap.size d b) (h:a.length≤1048576) (j:b.length≤1048576) :
  Calls Tryz.prog 21 #[c,d] w (Says w (sameB a b)) :=
 (Xt1 c d a b w ha hb h j).mono fun _ _ ⟨e,q,g⟩=>⟨e,by rw [g];exact Y0_ (Below.refl _ _) q⟩
theorem Ve0 (c d:Value) (a b:List Int) (w:World) (ha:Row w w.heap.size c a) (hb:Row w w.heap.size d b) (e:a.length≤1048576) (g:b.length≤1048576) {x:Bool} (h:sameB a b=x) :
  Calls Tryz.prog 21 #[c,d] w (Says w x):=by
 subst h;exact Xd7 c d a b w ha hb e g
open Go.RowKit
theorem Xt2 {k:Nat} {L:List Int} (f:k≤64) (h:InN k L):InN (k+1) (L ++ [(k:Int)]):=by
 refine ⟨⟨List.pairwise_append.2 ⟨h.1.1,z36_,fun x d y e=>?_⟩,fun x d=>?_⟩,fun x d=>?_⟩
 ·rw [List.mem_singleton.1 e]
  exact (h.2 x d).2
 ·rcases List.mem_append.1 d with c | c
  ·exact h.1.2 x c
  ·rw [List.mem_singleton.1 c];exact ⟨k35_,k35_⟩
 ·rcases List.mem_append.1 d with c | c
  ·have:=h.2 x c;omega
  ·rw [List.mem_singleton.1 c];omega
theorem Xt3 {k n:Nat} {L:List Int} (d:k≤n) (h:InN k L):InN n L:=⟨h.1,fun x c=>by have:=h.2 x c;omega⟩
def Xd8 (n:Nat) (w:World) (e:Ending) (w':World):Prop:=∃ (L:List Int) (v:Value),InN n L∧L.length≤n∧e=.returned v∧Row w' w'.heap.size v L∧Below w.heap.size w w'
theorem Yt0 (n B:Nat) (w:World) (F:n≤64):Calls Tryz.prog 42 #[.int .i64 (n:Int),.int .i64 (B:Int)] w (Xd8 n w):=by
 go_enter Tryz.func42,Tryz.ntmps42
 have u:(w.alloc (.cells #[] 3)).ownsRow w.heap.size 3 1 (.slice (some ⟨w.heap.size,0,none⟩) 0 0) 0 [] :=
  World.ownsRow_made w #[] 0 (Nat.le_refl _) j37_ rfl
 have j:Below w.heap.size w (w.alloc (.cells #[] 3)):=(Below.refl _ w).alloc (Nat.le_refl _) _;go_wp2
 go_loopw [5,6] (fun v e wr=>∃ (k:Nat) (L:List Int),e=.int .i64 k∧k≤n∧InN k L∧L.length≤k∧wr.ownsRow w.heap.size 3 1 v L.length (ints L)∧Below w.heap.size w wr) (fun _ e _=>n - (intOf e).toNat)
 case atStart=>exact ⟨0,[],rfl,Nat.zero_le _,Ya3 0,Nat.le_refl _,u,j⟩
 case round =>
  obtain ⟨k,L,rfl,y,g,r,c,hbr⟩:=hrel;have d:=hid g;clear g;by_cases E:k<n
  ·have D:(k:Int)<(n:Int):=by omega
   have z:(0:Int)≤(k:Int):=k35_;have C:(k:Int)<64:=k35_;rcases hq:(bits BinOp.and IntKind.i64 ((B:Int) / 2 ^ k) 1==1) with _ | _
   ·go_wp2
    go_roundw
    case rel=>exact ⟨k+1,L,x37_,k35_,Xt3 (Nat.le_succ k) d.out,k35_,c,hbr⟩
    case measure=>simp [intOf];omega
   ·go_wp2_with (at_builtin;refine Z5_ rfl _ _ rfl w.heap.size _ _ _ L [(k:Int)] rfl rfl (c.alloc _) (Row.lit1 _ (k:Int)) k35_ z36_ j38_ ?_)
    intro G x s o;have m:Below w.heap.size wr x:=((Below.refl _ wr).alloc hbr.size _).grown o j38_ (fun i p=>(c.lt i p).1);go_wp2
    go_roundw
    case rel=>exact ⟨k+1,L ++ [(k:Int)],x37_,k35_,Xt2 k35_ d.out,by rw [List.length_append];simp;omega,by rw [List.length_append];exact s,hbr.trans m⟩
    case measure=>simp [intOf];omega
  ·have q:k=n:=by omega
   subst q;have h:=hid (Row.of_own c rfl);go_wp2;go_ret;exact ⟨L,_,d.out,r,rfl,h.out,hbr⟩
end Wp
end Go.Proofs.YteiejkhdonmcdaaGreatDoor
