/- The document's Turn of layer 13, walked. -/
import Derived.Test.YteiejkhdonmcdaaGreatDoorZI
import Derived.Test.YteiejkhdonmcdaaGreatDoorZN
import Derived.Test.YteiejkhdonmcdaaGreatDoorX0A
import Derived.Test.YteiejkhdonmcdaaGreatDoorX0B
set_option maxHeartbeats 8000000
set_option maxRecDepth 100000
open Go.Lib (hid)
namespace Go.Proofs.YteiejkhdonmcdaaGreatDoor
open Go Go.RowKit
namespace Wp
theorem Zm5 (H G:Value) (s l:List Int) (w:World) (z:mayB s=true) (m:(sortL l).length=l.length) (hs:Row w w.heap.size H s) (B:Row w w.heap.size G l) (x2:s.length≤1000) (x1:l.length≤1000) :
  Calls Tryz.prog 23 #[H,G] w (Gives w (Y1_ (Z5_ s (sortL l)) (Z5_ (sortL l) s))):=by
 have u:=hid hs;have M:=hid B;have L:=hid z;obtain ⟨As,cs,rfl,_⟩:=hs;obtain ⟨Y,cp,rfl,_⟩:=B;clear z
 go_enter Tryz.func23,Tryz.ntmps23
 go_wp2_with fail
 refine (L5_ _ l _ M.out q39_).mono ?_;rintro e w1 ⟨v1,rfl,C,x⟩;have d:=hid C;have p:=hid x;obtain ⟨P,g⟩:∃ P,sortL l=P:=⟨_,rfl⟩;have N:=hid g;rw [g] at d m;have h:P.length≤1048576:=q39_;have o:s.length≤1048576:=q39_;obtain ⟨Z,cq,rfl,_⟩:=id d.out;have x0:((P.length:Int) != (l.length:Int))=false:=by rw [m];simp
 clear C x g m
 go_wp2_with fail
 refine (M8_ _ s true L.out _ (u.out.up p.out)).mono ?_;rintro e w2 ⟨rfl,j⟩;have q:=hid (Z0_ p.out (Nat.le_refl _) j);have r:=hid (d.out.up j);have v:=hid (u.out.up q.out);clear j
 go_wp2_with fail
 refine (C2_ _ _ s P _ v.out r.out o h).mono ?_;rintro e w3 ⟨v3,rfl,D,c⟩;have Q:=hid D;have I:=hid (Z0_ q.out (Nat.le_refl _) c);have O:=hid (r.out.up c);have U:=hid (v.out.up c);clear c D
 go_wp2_with fail
 refine (C2_ _ _ P s _ O.out U.out h o).mono ?_;rintro e w4 ⟨v4,rfl,E,k⟩;have S:=hid E;have J:=hid (Z0_ I.out (Nat.le_refl _) k);have R:=hid (Q.out.up k);clear k E;have V:(Z5_ s P).length≤1048576:=Nat.le_trans (O9_ s P) o;have W:(Z5_ P s).length≤1048576:=Nat.le_trans (O9_ P s) h
 go_wp2_with fail
 refine (F0_ _ _ (Z5_ s P) (Z5_ P s) _ R.out S.out V W).mono ?_;rintro e w5 ⟨X,rfl,F,y⟩;have T:=hid F;have K:=hid (Z0_ J.out (Nat.le_refl _) y);clear y F;go_wp2;go_ret;exact ⟨X,rfl,by rw [N.out];exact T.out,K.out⟩
theorem Zg3 (r q:Value) (s l:List Int) (w:World) (c:mayB s=false∨(mayB s=true∧(sortL l).length≠l.length)) (hs:Row w w.heap.size r s) (p:Row w w.heap.size q l) (_hsl:s.length≤1000) (G:l.length≤1000) :
  Calls Tryz.prog 23 #[r,q] w (Gives w []):=by
 have o:=hid hs;have k:=hid p;obtain ⟨B,cs,rfl,_⟩:=hs;obtain ⟨z,C,rfl,_⟩:=p;obtain ⟨P,j⟩:∃ P,sortL l=P:=⟨_,rfl⟩;have m:=hid j;rw [j] at c;clear j;rcases c with c | ⟨c,D⟩
 ·have h:=hid c
  clear c
  go_enter Tryz.func23,Tryz.ntmps23
  go_wp2_with fail
  refine (L5_ _ l _ k.out q39_).mono ?_;rintro e y ⟨x,rfl,g,d⟩;rw [m.out] at g;have HB1:=hid d;obtain ⟨u,v,rfl,_⟩:=g;clear d
  go_wp2_with fail
  refine (M8_ _ s false h.out _ (o.out.up HB1.out)).mono ?_;exact x7_
 ·have h:=hid c
  have E:((P.length:Int) != (l.length:Int))=true:=k39_;have F:((P.length:Int)==(l.length:Int))=false:=k39_;clear c
  go_enter Tryz.func23,Tryz.ntmps23
  go_wp2_with fail
  refine (L5_ _ l _ k.out q39_).mono ?_;rintro e y ⟨x,rfl,g,d⟩;rw [m.out] at g;have HB1:=hid d;obtain ⟨u,v,rfl,_⟩:=g;clear d
  go_wp2_with fail
  refine (M8_ _ s true h.out _ (o.out.up HB1.out)).mono ?_;exact x7_
theorem Ye4 (d c:Value) (s l:List Int) (w:World) (hs:Row w w.heap.size d s) (g:Row w w.heap.size c l) (k:s.length≤1000) (j:l.length≤1000) :
  Calls Tryz.prog 23 #[d,c] w (Gives w (turnL s l)):=by
 unfold turnL;by_cases h:mayB s=true∧(sortL l).length=l.length
 ·rw [if_pos h];exact Zm5 d c s l w h.1 h.2 hs g k j
 ·rw [if_neg h]
  refine Zg3 d c s l w ?_ hs g k j;exact y27_
end Wp
end Go.Proofs.YteiejkhdonmcdaaGreatDoor
