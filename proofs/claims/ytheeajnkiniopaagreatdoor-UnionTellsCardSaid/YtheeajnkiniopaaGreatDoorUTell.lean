/- UnionTells, walked: it answers true (written by gen_utell.py). -/
import Derived.Test.YtheeajnkiniopaaGreatDoorUFx16
import Derived.Test.YtheeajnkiniopaaGreatDoorURFew
import Derived.Test.YtheeajnkiniopaaGreatDoorURCls
import Derived.Test.YtheeajnkiniopaaGreatDoorURMax
import Derived.Test.YtheeajnkiniopaaGreatDoorX0A
import Derived.Test.YtheeajnkiniopaaGreatDoorX0B
set_option maxHeartbeats 16000000
set_option maxRecDepth 100000
open Go.Lib (hid)
open Nat (le_refl)
namespace Go.Proofs.YtheeajnkiniopaaGreatDoor.Wp
open Go Go.RowKit
theorem W9_ {ms:List Mat} {c most:Int} (h:few16 ms c most=true):(ms.length:Int)≤c∧∀ m∈ms,Sml m:=by
 unfold few16 at h;rw [Bool.and_eq_true,decide_eq_true_iff,List.all_eq_true] at h;exact ⟨h.1,fun m d=>Vm0 (h.2 m d)⟩
theorem sameT (u v:Value) (l:List Int) (W:World) (c:Row W W.heap.size u l) (d:Row W W.heap.size v l) (hl:l.length≤1000):Calls Tryz.prog 15 #[u,v] W (Says W true) :=
 Xi5 u v l l W c d q40_ q40_ (by unfold sameB;simp)
theorem Vp2 {m:Mat} {u:List Int} (hc:chk m=0) (h:okA m.n u=true):mayI m u=true:=by
 unfold mayI;rw [← S6_ (chk_n hc).1 (chk_n hc).2,h];simp [hc]
theorem Yq5 (m:Mat) (u:List Int):-1≤rankT m u∧rankT m u≤1000:=by
 by_cases h:mayI m u=true
 ·have hc:=(mayI_iff.1 h).1
  have c:=(rk_of hc).le_cnt (memP u);have d:=A3_ (memP u) (nN m);have f:=(Y0_ hc).2;rw [Yv7 h];omega
 ·have e:rankT m u=-1:=if_neg h
  omega
theorem Zl8 (E:Nat→Addr) (ms:List Mat) (p z:Value) (u:List Int) (w:World) (hl:MatL w w.heap.size p ms) (hs:∀ m∈ms,Sml m) (d:Row w w.heap.size z u) (K:ms.length≤1000) (c:sevB ms=false∨(sevB ms=true∧mayI (ms.getD 0 default) u=false)):Calls Tryz.prog 17 #[p,z] w (Tells w (B1_ ms u)):=by
 have N:=hid hl;have C:=hid d;have g:=hid (P7_ E ms p w hl hs K);have G:Hid (B1_ ms u=-1):=hid (by
  unfold B1_;rcases c with h | ⟨_,h⟩
  ·rw [if_neg (by rw [h];simp)]
  ·rw [if_neg (by rw [h];simp)])
 rw [G.out];rcases c with c | ⟨o,c⟩
 ·rw [c] at g
  obtain ⟨M,I,rfl,-⟩:=id hl;obtain ⟨B,H,rfl,-⟩:=id d;clear hl d hs
  go_enter Tryz.func17,Tryz.ntmps17
  go_wp2_with fail
  refine g.out.mono ?_;exact k37_
 ·rw [o] at g
  have q:=hid (sev_iff.1 o).1;obtain ⟨y,P⟩:=q.out.many;obtain ⟨ad,I,R,Q,rfl,_,v⟩:=MatL.one hl y;obtain ⟨B,H,rfl,-⟩:=id d;obtain ⟨s,L⟩:=q.out.may 0 y;have O:(0:Int)<(ms.length:Int):=q40_;have x:ad.add (0 * 6)=ad:=x43_;have k:okA (ms.getD 0 default).n u=false:=by
   cases h:okA (ms.getD 0 default).n u with
   | false=>rfl
   | true =>
    rw [show mayI (ms.getD 0 default) u=true from Vp2 s h] at c;cases c
  obtain ⟨n,j⟩:∃ n,(ms.getD 0 default).n=n:=⟨_,rfl⟩;rw [j] at k;have F:Hid (∀ W,Below w.heap.size w W→W.cell? ⟨ad.block,ad.off+1,none⟩=some (.int .i64 n)):=hid fun W J=>by
   have h:=(v W J).2.1;rw [x,j] at h;exact h
  have D:=hid k;clear hl d v s L j x k hs o c
  go_enter Tryz.func17,Tryz.ntmps17
  go_wp2_with fail
  refine g.out.mono ?_;rintro e w1 ⟨rfl,hb1⟩;have Hb1:=hid hb1;clear hb1;have q1:=F.out w1 Hb1.out
  go_wp2_with fail
  refine (D7_ _ u n _ (C.out.up Hb1.out)).mono ?_;rintro e S ⟨rfl,r⟩;rw [D.out];have Hb2:=hid (Z0_ Hb1.out (le_refl _) r);clear r q1 Hb1;exact z2_
theorem Zv9 (E:Nat→Addr) (ms:List Mat) (c d:Value) (u:List Int) (w:World) (hl:MatL w w.heap.size c ms) (hs:∀ m∈ms,Sml m) (e:Row w w.heap.size d u) (g:ms.length≤1000):Calls Tryz.prog 17 #[c,d] w (Tells w (B1_ ms u)):=by
 cases h:sevB ms with
 | false=>exact Zl8 E ms c d u w hl hs e g (.inl h)
 | true =>
  cases h2:mayI (ms.getD 0 default) u with
  | false=>exact Zl8 E ms c d u w hl hs e g (.inr ⟨h,h2⟩)
  | true=>exact Xn6 E ms c d u w hl hs e h (mayI_iff.1 h2).2
theorem uy_1 (E:Nat→Addr) (ms:List Mat) (v c:Value) (u:List Int) (k:Int) (w:World) (hl:MatL w w.heap.size v ms) (hlim:ms.length≤140737488355328∧∀ x∈ms,Lim x) (hr:Row w w.heap.size c u) (hE:Env E w) (hf:few16 ms 4 6=false):Calls Tryz.prog 3 #[v,c,.int .i64 k] w (Truly w):=by
 have Hf:=hid hf;exact j30_
theorem uy_2 (E:Nat→Addr) (ms:List Mat) (v c:Value) (u:List Int) (k:Int) (w:World) (hl:MatL w w.heap.size v ms) (hlim:ms.length≤140737488355328∧∀ x∈ms,Lim x) (hr:Row w w.heap.size c u) (hE:Env E w) (hf:few16 ms 4 6=true) (d:20<u.length):Calls Tryz.prog 3 #[v,c,.int .i64 k] w (Truly w):=by
 have Hf:=hid hf;have g:(20:Int)<(u.length:Int):=q40_;exact j30_
theorem uy_3 (E:Nat→Addr) (ms:List Mat) (v D:Value) (u:List Int) (k:Int) (w:World) (hl:MatL w w.heap.size v ms) (z:ms.length≤140737488355328∧∀ x∈ms,Lim x) (q:Row w w.heap.size D u) (y:Env E w) (o:few16 ms 4 6=true) (C:u.length≤20) (B:sevB ms=false):Calls Tryz.prog 3 #[v,D,.int .i64 k] w (Truly w):=by
 have F:=hid o;have Hs:=hid (W9_ o).2;have hK:ms.length≤1000:=by have:=(W9_ o).1;omega
 have K:u.length≤20:=C;have L:¬ (20:Int)<(u.length:Int):=q40_;clear o;have s:=hid B;clear B C;have r:=hid z;have HL:=hid hl;have HE:=hid y;have HR:=hid q;have Hb0:=hid (Below.refl w.heap.size w);obtain ⟨G,J,rfl,-⟩:=id hl;obtain ⟨H,I,rfl,-⟩:=id q;clear hl q y z
 go_enter Tryz.func3,Tryz.ntmps3
 go_wp2_with fail
 refine (P6_ ms _ 4 6 _ HL.out r.out.2 r.out.1).mono ?_;rintro e M ⟨rfl,g⟩;rw [F.out];replace HE:=hid (HE.out.up g);replace HL:=hid (HL.out.up g);replace HR:=hid (HR.out.up g);replace Hb0:=hid (Z0_ Hb0.out (le_refl _) g);clear g
 go_wp2_with fail
 refine (Yo8 E ms _ _ HL.out Hs.out HE.out s.out).mono ?_;rintro e N ⟨rfl,h⟩;replace HE:=hid (HE.out.up h);replace HL:=hid (HL.out.up h);replace HR:=hid (HR.out.up h);replace Hb0:=hid (Z0_ Hb0.out (le_refl _) h);clear h
 go_wp2_with fail
 refine (Xj3 E ms _ _ HL.out Hs.out hK s.out).mono ?_;rintro e d ⟨rfl,m⟩;replace HE:=hid (HE.out.up m);replace HL:=hid (HL.out.up m);replace HR:=hid (HR.out.up m);replace Hb0:=hid (Z0_ Hb0.out (le_refl _) m);clear m;obtain ⟨c,hc⟩:∃ c:List Int,c=[]:=⟨_,rfl⟩;obtain ⟨u1,p⟩:∃ c:List Int,c=[]:=⟨_,rfl⟩;have HC1:Hid (Row d d.heap.size (.slice none 0 0) c):=hid (by rw [hc];exact Row.nil_ _ _);have HC2:Hid (Row d d.heap.size (.slice none 0 0) c):=hid (by rw [hc];exact Row.nil_ _ _);have HU1:Hid (Row d d.heap.size (.slice none 0 0) u1):=hid (by rw [p];exact Row.nil_ _ _);have HU2:Hid (Row d d.heap.size (.slice none 0 0) u1):=hid (by rw [p];exact Row.nil_ _ _);have Hcl:Hid (c.length≤1000):=hid (by rw [hc];simp);have Hul:Hid (u1.length≤1000):=hid (by rw [p];simp);clear hc p;exact q1_
theorem Vp3 (E:Nat→Addr) (ms:List Mat) (v L:Value) (u:List Int) (k:Int) (w:World) (hl:MatL w w.heap.size v ms) (F:ms.length≤140737488355328∧∀ x∈ms,Lim x) (r:Row w w.heap.size L u) (B:Env E w) (m:few16 ms 4 6=true) (I:u.length≤20) (q:sevB ms=true):Calls Tryz.prog 3 #[v,L,.int .i64 k] w (Truly w):=by
 have M:=hid m;have Hs:=hid (W9_ m).2;have hK:ms.length≤1000:=by have:=(W9_ m).1;omega
 have R:u.length≤20:=I;have S:¬ (20:Int)<(u.length:Int):=q40_;clear m;have z:=hid q;have o:=hid (sev_iff.1 q).1;clear q I;have y:=hid F;have HL:=hid hl;have HE:=hid B;have HR:=hid r;have Hb0:=hid (Below.refl w.heap.size w);obtain ⟨N,Q,rfl,-⟩:=id hl;obtain ⟨O,P,rfl,-⟩:=id r;clear hl r B F
 go_enter Tryz.func3,Tryz.ntmps3
 go_wp2_with fail
 refine (P6_ ms _ 4 6 _ HL.out y.out.2 y.out.1).mono ?_;rintro e X ⟨rfl,g⟩;rw [M.out];replace HE:=hid (HE.out.up g);replace HL:=hid (HL.out.up g);replace HR:=hid (HR.out.up g);replace Hb0:=hid (Z0_ Hb0.out (le_refl _) g);clear g
 go_wp2_with fail
 refine (Xk0 E ms _ _ HL.out Hs.out HE.out z.out).mono ?_;rintro e Y ⟨U,V,c,u1,rfl,C,J,h,G⟩;have HC1:=hid C;have HU1:=hid J;have s:=hid G;clear C J G;replace HE:=hid (HE.out.up h);replace HL:=hid (HL.out.up h);replace HR:=hid (HR.out.up h);replace Hb0:=hid (Z0_ Hb0.out (le_refl _) h);clear h
 go_wp2_with fail
 refine (Xn7 E ms _ _ HL.out Hs.out z.out).mono ?_;rintro e Z ⟨vc,W,c2,T,rfl,D,K,d,H⟩;obtain ⟨rfl,rfl⟩:=Zf8 s.out H;have p:=Xl1 o.out s.out;have Hcl:Hid (c.length≤1000):=hid (by have:=p.2.1;have:=o.out.n64;omega);have Hul:Hid (u1.length≤1000):=hid (by have:=Y7_ p.2.2.1;have:=o.out.n64;omega);have HC2:=hid D;have HU2:=hid K;clear D K H p;replace HE:=hid (HE.out.up d);replace HL:=hid (HL.out.up d);replace HR:=hid (HR.out.up d);replace HC1:=hid (HC1.out.up d);replace HU1:=hid (HU1.out.up d);replace Hb0:=hid (Z0_ Hb0.out (le_refl _) d);clear d;exact q1_
theorem UnionTells_any (E:Nat→Addr) (ms:List Mat) (v c:Value) (u:List Int) (k:Int) (w:World) (hl:MatL w w.heap.size v ms) (e:ms.length≤140737488355328∧∀ x∈ms,Lim x) (g:Row w w.heap.size c u) (d:Env E w):Calls Tryz.prog 3 #[v,c,.int .i64 k] w (Truly w):=by
 cases hf:few16 ms 4 6 with
 | false=>exact uy_1 E ms v c u k w hl e g d hf
 | true =>
  by_cases h:u.length≤20
  ·cases hm:sevB ms with
   | false=>exact uy_3 E ms v c u k w hl e g d hf h hm
   | true=>exact Vp3 E ms v c u k w hl e g d hf h hm
  ·exact uy_2 E ms v c u k w hl e g d hf q40_
end Go.Proofs.YtheeajnkiniopaaGreatDoor.Wp
