/- The document's helper that compares two lists, walked. What the laws of what is greedy lean on: a list's numbers one by one, a dual written out, the document's Sub, walked. The program's Has and the document's, walked (VHas). -/
import Derived.Test.YteiejkhdonmcdaaGreatDoorZA
import Derived.BigQuiet
import Derived.Deep.QuietTactic
import Derived.Test.YteiejkhdonmcdaaGreatDoorZF
import Derived.Test.YteiejkhdonmcdaaGreatDoorIUnion
import Derived.Test.YteiejkhdonmcdaaGreatDoorMShelf
import Derived.Test.YteiejkhdonmcdaaGreatDoorIJRef
import Derived.Test.YteiejkhdonmcdaaGreatDoorX0A
import Derived.Test.YteiejkhdonmcdaaGreatDoorX0B
set_option maxHeartbeats 2000000
set_option maxRecDepth 100000
open Go.Lib (hid)
namespace Go.Proofs.YteiejkhdonmcdaaGreatDoor
open Go.RowKit
namespace Wp
def sameB (a b:List Int):Bool:=decide (a=b)
theorem Xw3 (K L:Value) (a b:List Int) (w:World) (ha:Row w w.heap.size K a) (hb:Row w w.heap.size L b) (W:a.length≤1048576) (_hlb:b.length≤1048576) :
  Calls Tryz.prog 21 #[K,L] w fun e w'=>e=.returned (.bool (sameB a b))∧∃ q,w'=w.drewN q:=by
 obtain ⟨A,R,rfl,_,D⟩:=ha;obtain ⟨Q,S,rfl,_,E⟩:=hb;have p:=hid D;have r:=hid E;clear D E;by_cases hl:a.length=b.length
 ·have P:((a.length:Int) != (b.length:Int))=false:=by rw [hl];simp
  have s:=hid hl;clear hl
  go_enter Tryz.func21,Tryz.ntmps21
  go_wp2
  go_loopw [5] (fun o wr=>∃ k q:Nat,o=.int .i64 k∧wr=w.drewN q∧k≤a.length∧a.take k=b.take k) (fun o _=>a.length - (intOf o).toNat)
  case atStart=>exact ⟨0,0,rfl,rfl,Nat.zero_le _,rfl⟩
  case round =>
   obtain ⟨k,q,rfl,J,V,I⟩:=hrel;have d:=hid J;clear J;have j:=hid I;clear I;by_cases G:k<a.length
   ·have H:k<b.length:=by have:=s.out;omega
    obtain ⟨M,hA,_,B⟩:=p.out k G;obtain ⟨N,O,_,C⟩:=r.out k H;subst hA O;have T:wr.cell? (M.add k)=some (.int .i64 (a.getD k 0)):=by rw [d.out];exact B
    have U:wr.cell? (N.add k)=some (.int .i64 (b.getD k 0)):=by rw [d.out];exact C
    have Y:(k:Int)<(a.length:Int):=q39_;have Z:(k:Int)<(b.length:Int):=q39_;have m:∀ l:List Int,k<l.length→l.take (k+1)=l.take k ++ [l.getD k 0]:=by
     intro l h;rw [List.take_succ_eq_append_getElem h];simp [List.getD,h]
    have u:=hid (m a G);have v:=hid (m b H);clear m B C p r;generalize a.getD k 0=x at *
    generalize b.getD k 0=y at *
    by_cases g:x=y
    ·subst g
     go_wp2
     go_quiet (fail)
     go_wp2
     go_roundw
     case rel=>exact ⟨k+1,q+nq,j40_,by rw [d.out,World.drewN_drewN],q39_,by rw [u.out,v.out,j.out]⟩
     case measure=>simp [intOf];omega
    ·have X:(x != y)=true:=by simpa using g
     have c:Hid (sameB a b=false):=by
      show sameB a b=false;unfold sameB;rw [decide_eq_false_iff_not];intro h;have z:a.take (k+1)=b.take (k+1):=by rw [h]
      rw [u.out,v.out,j.out] at z;have h3:=List.append_cancel_left z;simp at h3;exact g h3
     clear g;go_wp2
     go_quiet (fail)
     go_wp2;go_ret;refine ⟨?_,q+nq,by rw [d.out,World.drewN_drewN]⟩;rw [c.out];rfl
   ·have F:k=a.length:=by omega
    have c:Hid (sameB a b=true):=by
     show sameB a b=true;unfold sameB;rw [decide_eq_true_iff];have h:=j.out;rw [F,List.take_length] at h;rw [h,s.out,List.take_length]
    subst F;go_wp2;go_ret;refine ⟨?_,q,d.out⟩;rw [c.out];rfl
 ·have P:((a.length:Int) != (b.length:Int))=true:=by
   rw [bne_iff_ne];omega
  have c:Hid (sameB a b=false):=by
   show sameB a b=false;unfold sameB;rw [decide_eq_false_iff_not];intro h;exact hl (by rw [h])
  clear hl
  go_enter Tryz.func21,Tryz.ntmps21
  go_wp2;go_ret;refine ⟨?_,0,rfl⟩;rw [c.out];rfl
theorem Xf0 (c d:Value) (a b:List Int) (w:World) (ha:Row w w.heap.size c a) (hb:Row w w.heap.size d b) (h:a.length≤1048576) (j:b.length≤1048576) :
  Calls Tryz.prog 21 #[c,d] w (Says w (sameB a b)) :=
 (Xw3 c d a b w ha hb h j).mono fun _ _ ⟨e,q,g⟩=>⟨e,by rw [g];exact Y2_ (Below.refl _ _) q⟩
theorem Vg4 (c d:Value) (a b:List Int) (w:World) (ha:Row w w.heap.size c a) (hb:Row w w.heap.size d b) (e:a.length≤1048576) (g:b.length≤1048576) {x:Bool} (h:sameB a b=x) :
  Calls Tryz.prog 21 #[c,d] w (Says w x):=by
 subst h;exact Xf0 c d a b w ha hb e g
open Go.RowKit
theorem Row.nth {w:World} {B:Nat} {A:Option Addr} {n c:Nat} {l:List Int} (h:Row w B (.slice A n c) l) {k:Nat} (hk:k<l.length):∃ ad,A=some ad∧∀ W,Below B w W→W.cell? (ad.add k)=some (.int .i64 (l.getD k 0)):=q8_
theorem dual_lit {W:World} {c c1 c2 c3 c4 c5:Value} {m:Mat} (h:MatV W W.heap.size (.agg #[c,c1,c2,c3,c4,c5]) m) :
  MatV (W.alloc (.cells #[c,c1,c2,c3,c4,c5] 25)) (W.heap.size+1) (.agg #[.int .i64 8,.int .i64 m.n,.int .i64 0,.int .i64 0,.slice none 0 0,.slice (some ⟨W.heap.size,0,none⟩) 1 1]) (Vv7 m) :=
 MatV.shut (Zf0 _ _) (Yl5 h)
theorem Xf1 {a b:List Int} {k:Nat} (e:k<a.length) (h:b.contains (a.getD k 0)=false):subB a b=false:=by
 rw [← Bool.not_eq_true];intro hs;have c:mayB a=true∧mayB b=true:=by
  unfold subB at hs;simp at hs;exact hs.1
 have d:=(Zn2 (mayB_iff.1 c.1) (mayB_iff.1 c.2)).1 hs (a.getD k 0) (by simp [List.getD,e]);rw [← Bool.not_eq_true,List.contains_iff_mem] at h;exact h d
theorem Vg5 {a b:List Int} {k:Nat} (c:k=a.length) (h:∀ z∈a.take k,z∈b):subB a b=(mayB a && mayB b):=by
 subst c;rw [List.take_length] at h;rcases ha:mayB a with _ | _
 ·rw [Xx3 ha];rfl
 ·rcases hb:mayB b with _ | _
  ·rw [Xx4 hb];rfl
  ·exact (Zn2 (mayB_iff.1 ha) (mayB_iff.1 hb)).2 h
theorem Xw4 {a b:List Int} {k:Nat} (d:k<a.length) (h:∀ z∈a.take k,z∈b) (e:b.contains (a.getD k 0)=true):∀ z∈a.take (k+1),z∈b:=by
 intro z c;rw [List.take_succ_eq_append_getElem d,List.mem_append,List.mem_singleton] at c;rcases c with c | c
 ·exact h z c
 ·rw [List.contains_iff_mem] at e
  rw [c];simpa [List.getD,d] using e
open Go.RowKit
theorem Zr3 (v:Value) (l:List Int) (x:Int) (B:Nat) (w:World) (o:Row w B v l) (hl:l.length≤1048576) :
  Calls Tryz.prog 98 #[v,.int .i64 x] w fun e w'=>e=.returned (.bool (l.contains x))∧w'=w:=by
 obtain ⟨A,c,rfl,_,d⟩:=o;rcases l with _ | ⟨y,r⟩
 ·exact Tryz.slices_Contains_int_empty A c x w
 ·obtain ⟨g,rfl,u,hc⟩:=d 0 j39_
  obtain ⟨b,off,q⟩:=g;have p:q=none:=by simpa [Addr.add] using World.cell?_spot hc
  subst p;have h:=Tryz.slices_Contains_int b off (y :: r).length c (y :: r) x w (Nat.le_refl _) q39_ (fun j m=>by
   obtain ⟨s,hA,_,k⟩:=d j m;injection hA with hA;subst hA;rw [← k];congr 1;unfold Addr.add;split
   ·simp
   ·rfl)
  rw [List.take_length] at h;exact h
theorem has_no {l:List Int} {x:Int} (h:mayB l=false):hasB l x=false:=z45_
theorem has_yes {l:List Int} {x:Int} (h:mayB l=true):hasB l x=l.contains x:=z45_
theorem Xf2 (v:Value) (l:List Int) (x:Int) (w:World) (m:Row w w.heap.size v l) (hl:l.length≤1048576) :
  Calls Tryz.prog 77 #[v,.int .i64 x] w (Says w (hasB l x)):=by
 have g:=hid m;clear m;rcases hm:mayB l with _ | _
 ·have c:=hid (has_no (x:=x) hm)
  go_enter Tryz.func77,Tryz.ntmps77
  go_wp2_with fail
  refine (may_any v l w g.out q39_).mono ?_;rintro e o ⟨rfl,d⟩;rw [hm];go_wp2;go_ret;exact Y7_ c.out rfl d
 ·have c:=hid (has_yes (x:=x) hm)
  obtain ⟨j,k⟩:∃ j,j=l.contains x:=⟨_,rfl⟩;have h:=hid (Zr3 v l x w.heap.size);rw [← k] at c h;clear k
  go_enter Tryz.func77,Tryz.ntmps77
  go_wp2_with fail
  refine (may_any v l w g.out q39_).mono ?_;rintro e o ⟨rfl,d⟩;rw [hm]
  go_wp2_with fail
  refine (h.out o (g.out.below d) hl).mono ?_;rintro e p ⟨rfl,rfl⟩;go_wp2;go_ret;exact Y7_ c.out rfl d
theorem refhas_any (v:Value) (l:List Int) (x:Int) (w:World) (c:Row w w.heap.size v l) (hl:l.length≤1048576) :
  Calls Tryz.prog 33 #[v,.int .i64 x] w (Says w (hasB l x)):=by
 have Hr:=hid c;clear c;rcases hm:mayB l with _ | _
 ·have Hf:=hid (has_no (x:=x) hm)
  exact x6_
 ·have Hf:=hid (has_yes (x:=x) hm)
  exact z3_
theorem Fam.bel {w w':World} {B:Nat} {c:List Value} {pp:List (List Int)} (h:Fam w B c pp) (hb:Below w.heap.size w w'):Fam w' B c pp:=h.new (Z6_ hb none)
end Wp
end Go.Proofs.YteiejkhdonmcdaaGreatDoor
