/- The program's Turn of layer 13; the document's May and Lists; walked (written by gen_vturn.py). -/
import Derived.Test.YtnbcaibflhgdoaaGreatDoorVGraph
import Derived.Test.YtnbcaibflhgdoaaGreatDoorVInd
import Derived.Test.YtnbcaibflhgdoaaGreatDoorVIndep
import Derived.Test.YtnbcaibflhgdoaaGreatDoorIUnion
import Derived.Test.YtnbcaibflhgdoaaGreatDoorZH
import Derived.Test.YtnbcaibflhgdoaaGreatDoorX0A
import Derived.Test.YtnbcaibflhgdoaaGreatDoorX0B
set_option maxHeartbeats 8000000
set_option maxRecDepth 100000
open Go.Lib (hid)
namespace Go.Proofs.YtnbcaibflhgdoaaGreatDoor
open Go Go.RowKit
namespace Wp
theorem Zx6 (v:Value) (l:List Int) (b:Bool) (h:mayB l=b) (w:World) (c:Row w w.heap.size v l):Calls Tryz.prog 53 #[v] w (Says w b):=by
 obtain ⟨_,_,_,⟨e,d,_⟩,_⟩:=id c;have:=may_any v l w c (by unfold maxLen at d;omega)
 rwa [h] at this
theorem Yw1 (H G:Value) (s l:List Int) (w:World) (z:mayB s=true) (y:(sortL l).length=l.length) (hs:Row w w.heap.size H s) (B:Row w w.heap.size G l) (x3:s.length≤1000) (x2:l.length≤1000) :
  Calls Tryz.prog 23 #[H,G] w (Gives w (Y7_ (Z4_ s (sortL l)) (Z4_ (sortL l) s))):=by
 have r:=hid hs;have M:=hid B;have L:=hid z;obtain ⟨As,cs,rfl,_⟩:=hs;obtain ⟨Y,cp,rfl,_⟩:=B;clear z
 go_enter Tryz.func23,Tryz.ntmps23
 go_wp2_with fail
 refine (O0_ _ l _ M.out j29_).mono ?_;rintro e w1 ⟨v1,rfl,C,v⟩;have d:=hid C;have o:=hid v;obtain ⟨P,g⟩:∃ P,sortL l=P:=⟨_,rfl⟩;have N:=hid g;rw [g] at d y;have h:P.length≤1048576:=j29_;have m:s.length≤1048576:=j29_;obtain ⟨Z,cq,rfl,_⟩:=id d.out;have x0:¬ (P.length:Int)<(l.length:Int):=j29_;have x1:P.length≤1048576:=j29_;clear C v g y
 go_wp2_with fail
 refine (Zx6 _ s true L.out _ (r.out.up o.out)).mono ?_;rintro e w2 ⟨rfl,j⟩;have p:=hid (Z0_ o.out (Nat.le_refl _) j);have q:=hid (d.out.up j);have u:=hid (r.out.up p.out);clear j
 go_wp2_with fail
 refine (B6_ _ _ s P _ u.out q.out m h).mono ?_;rintro e w3 ⟨v3,rfl,D,c⟩;have Q:=hid D;have I:=hid (Z0_ p.out (Nat.le_refl _) c);have O:=hid (q.out.up c);have U:=hid (u.out.up c);clear c D
 go_wp2_with fail
 refine (B6_ _ _ P s _ O.out U.out h m).mono ?_;rintro e w4 ⟨v4,rfl,E,k⟩;have S:=hid E;have J:=hid (Z0_ I.out (Nat.le_refl _) k);have R:=hid (Q.out.up k);clear k E;have V:(Z4_ s P).length≤1048576:=Nat.le_trans (Zx5 s P) m;have W:(Z4_ P s).length≤1048576:=Nat.le_trans (Zx5 P s) h
 go_wp2_with fail
 refine (Zz8 _ _ (Z4_ s P) (Z4_ P s) _ R.out S.out V W).mono ?_;rintro e w5 ⟨X,rfl,F,x⟩;have T:=hid F;have K:=hid (Z0_ J.out (Nat.le_refl _) x);clear x F;go_wp2;go_ret;exact ⟨X,rfl,by rw [N.out];exact T.out,K.out⟩
theorem Yf7 (u r:Value) (s l:List Int) (w:World) (c:mayB s=false∨(mayB s=true∧(sortL l).length≠l.length)) (hs:Row w w.heap.size u s) (q:Row w w.heap.size r l) (_hsl:s.length≤1000) (G:l.length≤1000) :
  Calls Tryz.prog 23 #[u,r] w (Gives w []):=by
 have p:=hid hs;have o:=hid q;obtain ⟨C,cs,rfl,_⟩:=hs;obtain ⟨B,D,rfl,_⟩:=q;obtain ⟨P,m⟩:∃ P,sortL l=P:=⟨_,rfl⟩;have k:=hid m;rw [m] at c;clear m;rcases c with c | ⟨c,E⟩
 ·have j:=hid c
  clear c
  go_enter Tryz.func23,Tryz.ntmps23
  go_wp2_with fail
  refine (O0_ _ l _ o.out j29_).mono ?_;rintro e z ⟨y,rfl,g,d⟩;rw [k.out] at g;have HB1:=hid d;obtain ⟨v,x,rfl,_⟩:=g;clear d
  go_wp2_with fail
  refine (Zx6 _ s false j.out _ (p.out.up HB1.out)).mono ?_;exact y11_
 ·have j:=hid c
  have F:(P.length:Int)<(l.length:Int):=by have h:=E4_ l;rw [k.out] at h;omega
  clear c
  go_enter Tryz.func23,Tryz.ntmps23
  go_wp2_with fail
  refine (O0_ _ l _ o.out j29_).mono ?_;rintro e z ⟨y,rfl,g,d⟩;rw [k.out] at g;have HB1:=hid d;obtain ⟨v,x,rfl,_⟩:=g;clear d
  go_wp2_with fail
  refine (Zx6 _ s true j.out _ (p.out.up HB1.out)).mono ?_;exact y11_
theorem Yf8 (d c:Value) (s l:List Int) (w:World) (hs:Row w w.heap.size d s) (g:Row w w.heap.size c l) (k:s.length≤1000) (j:l.length≤1000) :
  Calls Tryz.prog 23 #[d,c] w (Gives w (turnL s l)):=by
 unfold turnL;by_cases h:mayB s=true∧(sortL l).length=l.length
 ·rw [if_pos h];exact Yw1 d c s l w h.1 h.2 hs g k j
 ·rw [if_neg h]
  refine Yf7 d c s l w ?_ hs g k j;cases hb:mayB s
  ·exact .inl rfl
  ·exact .inr ⟨rfl,fun e=>h ⟨hb,e⟩⟩
open Go Go.RowKit
theorem cS (u v:Value) (l:List Int) (W:World) (c:Row W W.heap.size u l) (d:Row W W.heap.size v l) (hl:l.length≤1000):Calls Tryz.prog 10 #[u,v] W (Says W true) :=
 Xp9 u v l l W c d j29_ j29_ (by unfold sameB;simp)
end Wp
end Go.Proofs.YtnbcaibflhgdoaaGreatDoor
