/- The program's Has and the document's, walked (VHas). The document's helper that compares two lists, walked. -/
import Derived.Test.YtnbcaibflhgdoaaGreatDoorIUnion
import Derived.Test.YtnbcaibflhgdoaaGreatDoorMShelf
import Derived.Test.YtnbcaibflhgdoaaGreatDoorZA
import Derived.Test.YtnbcaibflhgdoaaGreatDoorIJRef
import Derived.BigQuiet
import Derived.Deep.QuietTactic
import Derived.Test.YtnbcaibflhgdoaaGreatDoorX0A
import Derived.Test.YtnbcaibflhgdoaaGreatDoorX0B
set_option maxHeartbeats 2000000
set_option maxRecDepth 100000
open Go.Lib (hid)
namespace Go.Proofs.YtnbcaibflhgdoaaGreatDoor
open Go.RowKit
namespace Wp
theorem Zd6 (v:Value) (l:List Int) (x:Int) (B:Nat) (w:World) (o:Row w B v l) (hl:l.length≤1048576) :
  Calls Tryz.prog 105 #[v,.int .i64 x] w fun e w'=>e=.returned (.bool (l.contains x))∧w'=w:=by
 obtain ⟨A,c,rfl,_,d⟩:=o;rcases l with _ | ⟨y,r⟩
 ·exact Tryz.slices_Contains_int_empty A c x w
 ·obtain ⟨g,rfl,z,hc⟩:=d 0 x30_
  obtain ⟨b,q,s⟩:=g;have p:s=none:=by simpa [Addr.add] using World.cell?_spot hc
  subst p;have h:=Tryz.slices_Contains_int b q (y :: r).length c (y :: r) x w (Nat.le_refl _) j29_ (fun j m=>by
   obtain ⟨u,hA,_,k⟩:=d j m;injection hA with hA;subst hA;rw [← k];congr 1;unfold Addr.add;split
   ·simp
   ·rfl)
  rw [List.take_length] at h;exact h
theorem Vv4 {l:List Int} {x:Int} (h:mayB l=false):hasB l x=false:=by unfold hasB;rw [h];rfl
theorem Xp8 {l:List Int} {x:Int} (h:mayB l=true):hasB l x=l.contains x:=by unfold hasB;rw [h];rfl
theorem Ys1 (v:Value) (l:List Int) (x:Int) (w:World) (m:Row w w.heap.size v l) (hl:l.length≤1048576) :
  Calls Tryz.prog 76 #[v,.int .i64 x] w (Says w (hasB l x)):=by
 have g:=hid m;clear m;rcases hm:mayB l with _ | _
 ·have c:=hid (Vv4 (x:=x) hm)
  go_enter Tryz.func76,Tryz.ntmps76
  go_wp2_with fail
  refine (may_any v l w g.out j29_).mono ?_;rintro e o ⟨rfl,d⟩;rw [hm];go_wp2;go_ret;exact X6_ c.out rfl d
 ·have c:=hid (Xp8 (x:=x) hm)
  obtain ⟨j,k⟩:∃ j,j=l.contains x:=⟨_,rfl⟩;have h:=hid (Zd6 v l x w.heap.size);rw [← k] at c h;clear k
  go_enter Tryz.func76,Tryz.ntmps76
  go_wp2_with fail
  refine (may_any v l w g.out j29_).mono ?_;rintro e o ⟨rfl,d⟩;rw [hm]
  go_wp2_with fail
  refine (h.out o (g.out.below d) hl).mono ?_;rintro e p ⟨rfl,rfl⟩;go_wp2;go_ret;exact X6_ c.out rfl d
theorem Fam.bel {w w':World} {B:Nat} {d:List Value} {c:List (List Int)} (h:Fam w B d c) (hb:Below w.heap.size w w'):Fam w' B d c:=h.new (Y6_ hb none)
open Go.RowKit
def sameB (a b:List Int):Bool:=decide (a=b)
theorem Xc2 (K L:Value) (a b:List Int) (w:World) (ha:Row w w.heap.size K a) (hb:Row w w.heap.size L b) (W:a.length≤1048576) (_hlb:b.length≤1048576) :
  Calls Tryz.prog 10 #[K,L] w fun e w'=>e=.returned (.bool (sameB a b))∧∃ q,w'=w.drewN q:=by
 obtain ⟨A,R,rfl,_,D⟩:=ha;obtain ⟨Q,S,rfl,_,E⟩:=hb;have p:=hid D;have r:=hid E;clear D E;by_cases hl:a.length=b.length
 ·have P:((a.length:Int) != (b.length:Int))=false:=by rw [hl];simp
  have s:=hid hl;clear hl
  go_enter Tryz.func10,Tryz.ntmps10
  go_wp2
  go_loopw [5] (fun o wr=>∃ k q:Nat,o=.int .i64 k∧wr=w.drewN q∧k≤a.length∧a.take k=b.take k) (fun o _=>a.length - (intOf o).toNat)
  case atStart=>exact ⟨0,0,rfl,rfl,Nat.zero_le _,rfl⟩
  case round =>
   obtain ⟨k,q,rfl,J,V,I⟩:=hrel;have d:=hid J;clear J;have j:=hid I;clear I;by_cases G:k<a.length
   ·have H:k<b.length:=by have:=s.out;omega
    obtain ⟨M,hA,_,B⟩:=p.out k G;obtain ⟨N,O,_,C⟩:=r.out k H;subst hA O;have T:wr.cell? (M.add k)=some (.int .i64 (a.getD k 0)):=by rw [d.out];exact B
    have U:wr.cell? (N.add k)=some (.int .i64 (b.getD k 0)):=by rw [d.out];exact C
    have Y:(k:Int)<(a.length:Int):=j29_;have Z:(k:Int)<(b.length:Int):=j29_;have m:∀ l:List Int,k<l.length→l.take (k+1)=l.take k ++ [l.getD k 0]:=by
     intro l h;rw [List.take_succ_eq_append_getElem h];simp [List.getD,h]
    have u:=hid (m a G);have v:=hid (m b H);clear m B C p r;generalize a.getD k 0=x at *
    generalize b.getD k 0=y at *
    by_cases g:x=y
    ·subst g
     go_wp2
     go_quiet (fail)
     go_wp2
     go_roundw
     case rel=>exact ⟨k+1,q+nq,y31_,by rw [d.out,World.drewN_drewN],j29_,by rw [u.out,v.out,j.out]⟩
     case measure=>simp [intOf];omega
    ·have X:(x != y)=true:=by simpa using g
     have c:Hid (sameB a b=false):=by
      show sameB a b=false;unfold sameB;rw [decide_eq_false_iff_not];intro h;have z:a.take (k+1)=b.take (k+1):=by rw [h]
      rw [u.out,v.out,j.out] at z;have h3:=List.append_cancel_left z;simp at h3;exact g h3
     clear g;go_wp2
     go_quiet (fail)
     go_wp2;go_ret;refine ⟨?_,q+nq,by rw [d.out,World.drewN_drewN]⟩;rw [c.out];rfl
   ·have F:k=a.length:=by omega
    have c:Hid (sameB a b=true):=by
     show sameB a b=true;unfold sameB;rw [decide_eq_true_iff];have h:=j.out;rw [F,List.take_length] at h;rw [h,s.out,List.take_length]
    subst F;go_wp2;go_ret;refine ⟨?_,q,d.out⟩;rw [c.out];rfl
 ·have P:((a.length:Int) != (b.length:Int))=true:=by
   rw [bne_iff_ne];omega
  have c:Hid (sameB a b=false):=by
   show sameB a b=false;unfold sameB;rw [decide_eq_false_iff_not];intro h;exact hl (by rw [h])
  clear hl
  go_enter Tryz.func10,Tryz.ntmps10
  go_wp2;go_ret;refine ⟨?_,0,rfl⟩;rw [c.out];rfl
theorem Ys2 (c d:Value) (a b:List Int) (w:World) (ha:Row w w.heap.size c a) (hb:Row w w.heap.size d b) (h:a.length≤1048576) (j:b.length≤1048576) :
  Calls Tryz.prog 10 #[c,d] w (Says w (sameB a b)) :=
 (Xc2 c d a b w ha hb h j).mono fun _ _ ⟨e,q,g⟩=>⟨e,by rw [g];exact Y4_ (Below.refl _ _) q⟩
theorem Xp9 (c d:Value) (a b:List Int) (w:World) (ha:Row w w.heap.size c a) (hb:Row w w.heap.size d b) (e:a.length≤1048576) (g:b.length≤1048576) {x:Bool} (h:sameB a b=x) :
  Calls Tryz.prog 10 #[c,d] w (Says w x):=by
 subst h;exact Ys2 c d a b w ha hb e g
end Wp
end Go.Proofs.YtnbcaibflhgdoaaGreatDoor
