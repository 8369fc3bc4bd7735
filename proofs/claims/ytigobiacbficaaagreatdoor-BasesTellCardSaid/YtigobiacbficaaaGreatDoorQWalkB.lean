/- The program's fits, walked, kind by kind. -/
import Derived.Test.YtigobiacbficaaaGreatDoorQWalkA
import Derived.Test.YtigobiacbficaaaGreatDoorZE
import Derived.Test.YtigobiacbficaaaGreatDoorX0A
import Derived.Test.YtigobiacbficaaaGreatDoorX0B
set_option maxHeartbeats 8000000
set_option maxRecDepth 100000
open Go.Lib (hid)
open Nat (le_refl)
namespace Go.Proofs.YtigobiacbficaaaGreatDoor.Wp
private theorem x31_ {P:Prop} (h:P:=by
 subst hu0 hu1
 clear hv hlk hr0 hr1 hc0 hc1 h0 h1 hl2 hsz Hr0 Hr1
 go_enter Tryz.func152,Tryz.ntmps152
 go_wp2
 rw [← HW0.out]
 clear hW0
 refine Z6_ W0.heap.size W0 (by kernel_rfl) (by kernel_rfl) (Below.refl _ _) ?_
 iterate 19 (first
   | go_big_quiet_step (with_reducible exact Hn0.out _)
   | go_big_quiet_step (with_reducible exact Hn1.out _)
   | (go_big_quiet_want;apply Exists.intro;refine ⟨fun W hW=>?_,?_⟩;(· have q:=Hbox.out W hW;have q1:=q 1;have q2:=q 2;have q4:=q 4;clear q;have r0:=Hc0.out W hW;have r1:=Hc1.out W hW;go_simp;first | exact rfl | exact ⟨rfl,rfl⟩);go_simp;go_big_quiet_on))
 exact k2_):P:=h
private theorem y31_ {P:Prop} (h:P:=by
 subst hu0
 clear hv hlk hik hr0 hc0 hp hsz Hv s0 s1 hmv hui hrow
 go_enter Tryz.func152,Tryz.ntmps152
 go_wp2
 rw [← HW0.out]
 clear hW0
 refine Z6_ W0.heap.size W0 (by kernel_rfl) (by kernel_rfl) (Below.refl _ _) ?_
 iterate 13 (first
   | go_big_quiet_step (with_reducible exact Hp.out _)
   | (go_big_quiet_want;apply Exists.intro;refine ⟨fun W hW=>?_,?_⟩;(· have q:=Hbox.out W hW;have q0:=q 0;have q1:=q 1;have q2:=q 2;have q3:=q 3;have q4:=q 4;have q5:=q 5;clear q;have r0:=Hc0.out W hW;have r1:=Hc1.out W hW;go_simp;first | exact rfl | exact ⟨rfl,rfl⟩);go_simp;go_big_quiet_on))
 exact k2_):P:=h
open Go.RowKit
theorem Jx8 (n a b:Int) (l:List (List Int)) (i:List Mat) (v:Value) (w:World) (c:MatV w w.heap.size v (.mk 0 n a b l i)):Calls Tryz.prog 152 #[v] w (Says w (fitsB (.mk 0 n a b l i))):=by
 obtain ⟨e,d,rfl,_,_⟩:=c.open;rw [show fitsB (.mk 0 n a b l i)=decide (a≤n) from rfl];simp only [Mat.t,Mat.n,Mat.a,Mat.b];have Hb0:Hid (Below w.heap.size w (w.alloc (.cells #[.int .i64 0,.int .i64 n,.int .i64 a,.int .i64 b,e,d] 25))):=(Below.refl _ w).alloc (le_refl _) _;clear c;exact y37_
theorem Vj7 (A:Int) (B:Nat) (w:World) (c:B<w.heap.size) (hc:w.cell? ⟨B,2,none⟩=some (.int .i64 A)):Yv2 w 172 #[.pointer (some ⟨B,0,none⟩)] (edgeB A) :=
 fun u zs W d e=>Vx2 A B u zs W ((d.cell (p:=⟨B,2,none⟩) c).trans hc) e
theorem Jx9 (n a b:Int) (l:List (List Int)) (i:List Mat) (v:Value) (w:World) (j:MatV w w.heap.size v (.mk 1 n a b l i)) (q:l.length≤1000):Calls Tryz.prog 152 #[v] w (Says w (fitsB (.mk 1 n a b l i))):=by
 obtain ⟨d,k,rfl,hl,_⟩:=j.open;rw [show fitsB (.mk 1 n a b l i)=(decide (1≤a) && !l.any (edgeB a)) from rfl];simp only [Mat.t,Mat.n,Mat.a,Mat.b];have Hb0:Hid (Below w.heap.size w (w.alloc (.cells #[.int .i64 1,.int .i64 n,.int .i64 a,.int .i64 b,d,k] 25))):=(Below.refl _ w).alloc (le_refl _) _;have m:=hid (hl.up Hb0.out);have g:=hid (L8_ 172 #[.pointer (some ⟨w.heap.size,0,none⟩)] (edgeB a) d l (w.alloc (.cells #[.int .i64 1,.int .i64 n,.int .i64 a,.int .i64 b,d,k] 25)) (enters_of Tryz.func172 z40_ rfl) m.out y40_ (Vj7 a w.heap.size _ k40_ ((Blk.new w _ _).cell 2)));obtain ⟨o,cl,rfl,_⟩:=hl;clear j;by_cases h:1≤a
 ·rw [decide_eq_true h,Bool.true_and]
  generalize l.any (edgeB a)=c at *
  go_enter Tryz.func152,Tryz.ntmps152
  go_wp2_with fail
  refine (g.out).mono ?_;exact q39_
 ·rw [decide_eq_false h,Bool.false_and]
  have p:a<1:=y40_;clear g;exact y37_
theorem Jv0 (n a b:Int) (l:List (List Int)) (i:List Mat) (v:Value) (w:World) (d:MatV w w.heap.size v (.mk 3 n a b l i)):Calls Tryz.prog 152 #[v] w (Says w (fitsB (.mk 3 n a b l i))):=by
 obtain ⟨j,h,rfl,hl,_⟩:=d.open;rw [show fitsB (.mk 3 n a b l i)=mayM a l from rfl];simp only [Mat.t,Mat.n,Mat.a,Mat.b];have Hb0:Hid (Below w.heap.size w (w.alloc (.cells #[.int .i64 3,.int .i64 n,.int .i64 a,.int .i64 b,j,h] 25))):=(Below.refl _ w).alloc (le_refl _) _;have g:=hid (hl.up Hb0.out);generalize hc:mayM a l=c;have Hcc:Hid (mayM a l=c):=hc;obtain ⟨k,cl,rfl,_⟩:=hl;clear d hc
 go_enter Tryz.func152,Tryz.ntmps152
 go_wp2_with fail
 refine (kmay_any a _ l _ g.out).mono ?_;exact j38_
theorem Jv1 (n a b:Int) (l:List (List Int)) (i:List Mat) (v:Value) (w:World) (d:MatV w w.heap.size v (.mk 4 n a b l i)) (hM:Met w):Calls Tryz.prog 152 #[v] w (Says w (fitsB (.mk 4 n a b l i))):=by
 obtain ⟨k,j,rfl,hl,_⟩:=d.open;rw [show fitsB (.mk 4 n a b l i)=elimB b a l from rfl];simp only [Mat.t,Mat.n,Mat.a,Mat.b];have Hb0:Hid (Below w.heap.size w (w.alloc (.cells #[.int .i64 4,.int .i64 n,.int .i64 a,.int .i64 b,k,j] 25))):=(Below.refl _ w).alloc (le_refl _) _;have h:=hid (hl.up Hb0.out);have g:=hid (hM.up Hb0.out);clear hM;generalize hc:elimB b a l=c;have Hcc:Hid (elimB b a l=c):=hc;obtain ⟨m,cl,rfl,_⟩:=hl;clear d hc
 go_enter Tryz.func152,Tryz.ntmps152
 go_wp2_with fail
 refine (Vx3 b a _ l _ g.out h.out).mono ?_;exact j38_
open Go.RowKit
theorem Vj8 (n a b:Int) (l:List (List Int)) (i:List Mat) (v:Value) (w:World) (hv:MatV w w.heap.size v (.mk 2 n a b l i)) (hl2:l.length=2) (F:n≤64) (ha:a≤64) (h0:numsB (l.getD 0 []) n a=true) (h1:numsB (l.getD 1 []) a 65=true):Calls Tryz.prog 152 #[v] w (Says w (fitsB (.mk 2 n a b l i))):=by
 obtain ⟨G,g,rfl,⟨r,cl,rfl,_,hlk⟩,_⟩:=hv.open;simp only [Mat.t,Mat.n,Mat.a,Mat.b,Mat.l] at *
 rw [show fitsB (.mk 2 n a b l i)=true from by show (numsB (l.getD 0 []) n a && numsB (l.getD 1 []) a 65)=true;rw [h0,h1];rfl];obtain ⟨c,h,m,d,hc0,hr0⟩:=hlk 0 y40_;subst m;obtain ⟨x,j,o,_,hc1,hr1⟩:=hlk 1 y40_;obtain rfl:=Option.some.inj o;rw [add_zero] at hc0;generalize l.getD 0 []=r0 at *
 generalize l.getD 1 []=r1 at *
 obtain ⟨s,y,hu0,_⟩:=id hr0;obtain ⟨u,z,hu1,_⟩:=id hr1;have Hb0:Hid (Below w.heap.size w (w.alloc (.cells #[.int .i64 2,.int .i64 n,.int .i64 a,.int .i64 b,.slice (some c) l.length cl,g] 25))):=(Below.refl _ w).alloc (le_refl _) _;have Hbox:=hid (K1_ (w:=w) (t := 25) (cs:=#[.int .i64 2,.int .i64 n,.int .i64 a,.int .i64 b,.slice (some c) l.length cl,g]));have Hr0:=hid (hr0.up Hb0.out);have Hr1:=hid (hr1.up Hb0.out);have Hc0:=hid (V7_ ((Hb0.out.cell (p:=c) d).trans hc0) (Nat.lt_of_lt_of_le d Hb0.out.size));rw [show c.add 1=(⟨c.block,c.off+1,none⟩:Addr) by simp [Addr.add]] at hc1;have Hc1:=hid (V7_ ((Hb0.out.cell (p:=⟨c.block,c.off+1,none⟩) d).trans hc1) (show c.block<_ from Nat.lt_of_lt_of_le d Hb0.out.size));have B:(1:Int)<(l.length:Int):=y40_;have C:(0:Int)<(l.length:Int):=y40_;have D:0<l.length:=y40_;have E:1<l.length:=y40_;obtain ⟨W0,hW0⟩:∃ W0,W0=w.alloc (.cells #[.int .i64 2,.int .i64 n,.int .i64 a,.int .i64 b,.slice (some c) l.length cl,g] 25):=⟨_,rfl⟩;have hsz:W0.heap.size=w.heap.size+1:=z42_;have HW0:=hid hW0;have k:=(Blk.new w 25 #[.int .i64 2,.int .i64 n,.int .i64 a,.int .i64 b,.slice (some c) l.length cl,g]).cell 0;rw [← hW0] at Hb0 Hbox Hr0 Hr1 Hc0 Hc1 k;rw [← hsz] at Hbox;have Hn0:Hid (∀ W,Below W0.heap.size W0 W→Calls Tryz.prog 173 #[h,.int .i64 n,.int .i64 a] W fun e w'=>e=.returned (.bool true)∧Below W0.heap.size W0 w'):=fun W hW =>
  (D1_ n a h r0 W (Hr0.out.up hW) y40_).mono fun _ _ ⟨h2,h3⟩=>⟨by rw [h2,h0],Z0_ hW (le_refl _) h3⟩
 have Hn1:Hid (∀ W,Below W0.heap.size W0 W→Calls Tryz.prog 173 #[j,.int .i64 a,.int .i64 65] W fun e w'=>e=.returned (.bool true)∧Below W0.heap.size W0 w'):=fun W hW =>
  (D1_ a 65 j r1 W (Hr1.out.up hW) y40_).mono fun _ _ ⟨h2,h3⟩=>⟨by rw [h2,h1],Z0_ hW (le_refl _) h3⟩
 exact x31_
theorem Vj9 (n a b:Int) (l:List (List Int)) (i:List Mat) (v:Value) (w:World) (hv:MatV w w.heap.size v (.mk 2 n a b l i)) (hl2:l.length=2) (F:n≤64) (ha:a≤64) (h0:numsB (l.getD 0 []) n a=true) (h1:numsB (l.getD 1 []) a 65=false):Calls Tryz.prog 152 #[v] w (Says w (fitsB (.mk 2 n a b l i))):=by
 obtain ⟨G,g,rfl,⟨r,cl,rfl,_,hlk⟩,_⟩:=hv.open;simp only [Mat.t,Mat.n,Mat.a,Mat.b,Mat.l] at *
 rw [show fitsB (.mk 2 n a b l i)=false from by show (numsB (l.getD 0 []) n a && numsB (l.getD 1 []) a 65)=false;rw [h0,h1];rfl];obtain ⟨c,h,m,d,hc0,hr0⟩:=hlk 0 y40_;subst m;obtain ⟨x,j,o,_,hc1,hr1⟩:=hlk 1 y40_;obtain rfl:=Option.some.inj o;rw [add_zero] at hc0;generalize l.getD 0 []=r0 at *
 generalize l.getD 1 []=r1 at *
 obtain ⟨s,y,hu0,_⟩:=id hr0;obtain ⟨u,z,hu1,_⟩:=id hr1;have Hb0:Hid (Below w.heap.size w (w.alloc (.cells #[.int .i64 2,.int .i64 n,.int .i64 a,.int .i64 b,.slice (some c) l.length cl,g] 25))):=(Below.refl _ w).alloc (le_refl _) _;have Hbox:=hid (K1_ (w:=w) (t := 25) (cs:=#[.int .i64 2,.int .i64 n,.int .i64 a,.int .i64 b,.slice (some c) l.length cl,g]));have Hr0:=hid (hr0.up Hb0.out);have Hr1:=hid (hr1.up Hb0.out);have Hc0:=hid (V7_ ((Hb0.out.cell (p:=c) d).trans hc0) (Nat.lt_of_lt_of_le d Hb0.out.size));rw [show c.add 1=(⟨c.block,c.off+1,none⟩:Addr) by simp [Addr.add]] at hc1;have Hc1:=hid (V7_ ((Hb0.out.cell (p:=⟨c.block,c.off+1,none⟩) d).trans hc1) (show c.block<_ from Nat.lt_of_lt_of_le d Hb0.out.size));have B:(1:Int)<(l.length:Int):=y40_;have C:(0:Int)<(l.length:Int):=y40_;have D:0<l.length:=y40_;have E:1<l.length:=y40_;obtain ⟨W0,hW0⟩:∃ W0,W0=w.alloc (.cells #[.int .i64 2,.int .i64 n,.int .i64 a,.int .i64 b,.slice (some c) l.length cl,g] 25):=⟨_,rfl⟩;have hsz:W0.heap.size=w.heap.size+1:=z42_;have HW0:=hid hW0;have k:=(Blk.new w 25 #[.int .i64 2,.int .i64 n,.int .i64 a,.int .i64 b,.slice (some c) l.length cl,g]).cell 0;rw [← hW0] at Hb0 Hbox Hr0 Hr1 Hc0 Hc1 k;rw [← hsz] at Hbox;have Hn0:Hid (∀ W,Below W0.heap.size W0 W→Calls Tryz.prog 173 #[h,.int .i64 n,.int .i64 a] W fun e w'=>e=.returned (.bool true)∧Below W0.heap.size W0 w'):=fun W hW =>
  (D1_ n a h r0 W (Hr0.out.up hW) y40_).mono fun _ _ ⟨h2,h3⟩=>⟨by rw [h2,h0],Z0_ hW (le_refl _) h3⟩
 have Hn1:Hid (∀ W,Below W0.heap.size W0 W→Calls Tryz.prog 173 #[j,.int .i64 a,.int .i64 65] W fun e w'=>e=.returned (.bool false)∧Below W0.heap.size W0 w'):=fun W hW =>
  (D1_ a 65 j r1 W (Hr1.out.up hW) y40_).mono fun _ _ ⟨h2,h3⟩=>⟨by rw [h2,h1],Z0_ hW (le_refl _) h3⟩
 exact x31_
theorem Vp7 (n a b:Int) (l:List (List Int)) (i:List Mat) (v:Value) (w:World) (E:MatV w w.heap.size v (.mk 2 n a b l i)) (M:l.length=2) (hn:n≤64) (o:numsB (l.getD 0 []) n a=false):Calls Tryz.prog 152 #[v] w (Says w (fitsB (.mk 2 n a b l i))):=by
 obtain ⟨lv,j,rfl,⟨Q,cl,rfl,_,u⟩,_⟩:=E.open;simp only [Mat.t,Mat.n,Mat.a,Mat.b,Mat.l] at *
 rw [show fitsB (.mk 2 n a b l i)=false from by show (numsB (l.getD 0 []) n a && numsB (l.getD 1 []) a 65)=false;rw [o];rfl];obtain ⟨c,G,K,h,r,x⟩:=u 0 y40_;subst K;obtain ⟨T,u1,L,_,s,y⟩:=u 1 y40_;obtain rfl:=Option.some.inj L;rw [add_zero] at r;generalize l.getD 0 []=F at *
 generalize l.getD 1 []=P at *
 obtain ⟨R,U,N,_⟩:=id x;obtain ⟨S,V,O,_⟩:=id y;have Hb0:Hid (Below w.heap.size w (w.alloc (.cells #[.int .i64 2,.int .i64 n,.int .i64 a,.int .i64 b,.slice (some c) l.length cl,j] 25))):=(Below.refl _ w).alloc (le_refl _) _;have k:=hid (K1_ (w:=w) (t := 25) (cs:=#[.int .i64 2,.int .i64 n,.int .i64 a,.int .i64 b,.slice (some c) l.length cl,j]));have m:=hid (x.up Hb0.out);have C:=hid (y.up Hb0.out);have z:=hid (V7_ ((Hb0.out.cell (p:=c) h).trans r) (Nat.lt_of_lt_of_le h Hb0.out.size));rw [show c.add 1=(⟨c.block,c.off+1,none⟩:Addr) by simp [Addr.add]] at s;have B:=hid (V7_ ((Hb0.out.cell (p:=⟨c.block,c.off+1,none⟩) h).trans s) (show c.block<_ from Nat.lt_of_lt_of_le h Hb0.out.size));have X:(1:Int)<(l.length:Int):=y40_;have Y:(0:Int)<(l.length:Int):=y40_;have Z:0<l.length:=y40_;have x0:1<l.length:=y40_;obtain ⟨d,hW0⟩:∃ d,d=w.alloc (.cells #[.int .i64 2,.int .i64 n,.int .i64 a,.int .i64 b,.slice (some c) l.length cl,j] 25):=⟨_,rfl⟩;have D:d.heap.size=w.heap.size+1:=z42_;have H:=hid hW0;have J:=(Blk.new w 25 #[.int .i64 2,.int .i64 n,.int .i64 a,.int .i64 b,.slice (some c) l.length cl,j]).cell 0;rw [← hW0] at Hb0 k m C z B J;rw [← D] at k;have I:Hid (∀ W,Below d.heap.size d W→Calls Tryz.prog 173 #[G,.int .i64 n,.int .i64 a] W fun e w'=>e=.returned (.bool false)∧Below d.heap.size d w'):=fun W g =>
  (D1_ n a G F W (m.out.up g) y40_).mono fun _ _ ⟨h2,h3⟩=>⟨by rw [h2,o],Z0_ g (le_refl _) h3⟩
 subst N O;clear E u x y r s o M D m C
 go_enter Tryz.func152,Tryz.ntmps152
 go_wp2;rw [← H.out];clear hW0;refine Z6_ d.heap.size d z40_ z40_ (Below.refl _ _) ?_
 iterate 19 (first
   | go_big_quiet_step (with_reducible exact I.out _)
   | (go_big_quiet_want;apply Exists.intro;refine ⟨fun W g=>?_,?_⟩;(· have q:=k.out W g;have q1:=q 1;have q2:=q 2;have q4:=q 4;clear q;have F:=z.out W g;have P:=B.out W g;go_simp;first | exact rfl | exact ⟨rfl,rfl⟩);go_simp;go_big_quiet_on))
 exact k2_
theorem Jv2 (n a b:Int) (l:List (List Int)) (i:List Mat) (v:Value) (w:World) (e:MatV w w.heap.size v (.mk 2 n a b l i)) (c:l.length=2) (d:n≤64) (ha:a≤64):Calls Tryz.prog 152 #[v] w (Says w (fitsB (.mk 2 n a b l i))):=by
 rcases h0:numsB (l.getD 0 []) n a with _ | _
 ·exact Vp7 n a b l i v w e c d h0
 ·rcases h1:numsB (l.getD 1 []) a 65 with _ | _
  ·exact Vj9 n a b l i v w e c d ha h0 h1
  ·exact Vj8 n a b l i v w e c d ha h0 h1
open Go.RowKit
theorem Vp8 (n a b:Int) (l:List (List Int)) (i:List Mat) (v:Value) (w:World) (hv:MatV w w.heap.size v (.mk 5 n a b l i)) (hs:Sml (.mk 5 n a b l i)) (k:0<l.length) (s:0<i.length) (hp:partB (.mk 5 n a b l i)=true):Calls Tryz.prog 152 #[v] w (Says w (fitsB (.mk 5 n a b l i))):=by
 have hrow:(l.getD 0 []).length≤1000:=sml_r hs (Y4_ l 0 [] k);obtain ⟨E,D,C,B,z⟩:=hv.open;rw [show fitsB (.mk 5 n a b l i)=decide (n=((l.getD 0 []).length:Int)) from by show (partB (.mk 5 n a b l i) && decide (n=((l.getD 0 []).length:Int)))=_;rw [hp];rfl];have Hb0:Hid (Below w.heap.size w (w.alloc (.cells #[.int .i64 5,.int .i64 n,.int .i64 a,.int .i64 b,E,D] 25))):=(Below.refl _ w).alloc (le_refl _) _;have Hv:=hid (hv.up Hb0.out);obtain ⟨G,cl,rfl,_,hlk⟩:=B;obtain ⟨F,h,rfl,_,hik⟩:=z;obtain rfl:=C;simp only [Mat.t,Mat.n,Mat.a,Mat.b,Mat.l,Mat.i] at *
 obtain ⟨g,O,j,m,hc0,hr0⟩:=hlk 0 k;subst j;obtain ⟨d,P,j,o,u,hmv⟩:=hik 0 s;subst j;rw [add_zero] at hc0;rw [show (0:Nat) * 6=0 from rfl,add_zero] at u;obtain ⟨N,M,hui,_,_⟩:=hmv.open;obtain ⟨Q,R,S,T,U,V,c,s0,s1,_⟩:=u;rw [hui] at c;injection c with c;injection c with c;injection c with _ c;injection c with hx1 _;subst hx1;generalize l.getD 0 []=r at *
 generalize i.getD 0 default=x at *
 obtain ⟨H,I,hu0,_⟩:=id hr0;have Hbox:=hid (K1_ (w:=w) (t := 25) (cs:=#[.int .i64 5,.int .i64 n,.int .i64 a,.int .i64 b,.slice (some g) l.length cl,.slice (some d) i.length h]));have Hc0:=hid (V7_ ((Hb0.out.cell (p:=g) m).trans hc0) (Nat.lt_of_lt_of_le m Hb0.out.size));have Hc1:=hid (V7_ ((Hb0.out.cell (p:=⟨d.block,d.off+1,none⟩) o).trans s1) (show d.block<_ from Nat.lt_of_lt_of_le o Hb0.out.size));have K:(0:Int)<(l.length:Int):=y40_;have J:(0:Int)<(i.length:Int):=y40_;have L:(r.length:Int)≤1000:=y40_;obtain ⟨W0,hW0⟩:∃ W0,W0=w.alloc (.cells #[.int .i64 5,.int .i64 n,.int .i64 a,.int .i64 b,.slice (some g) l.length cl,.slice (some d) i.length h] 25):=⟨_,rfl⟩;have hsz:W0.heap.size=w.heap.size+1:=z42_;have HW0:=hid hW0;have y:=(Blk.new w 25 #[.int .i64 5,.int .i64 n,.int .i64 a,.int .i64 b,.slice (some g) l.length cl,.slice (some d) i.length h]).cell 0;rw [← hW0] at Hb0 Hbox Hv Hc0 Hc1 y;rw [← hsz] at Hbox;have Hp:Hid (∀ W,Below W0.heap.size W0 W→Calls Tryz.prog 174 #[.agg #[.int .i64 5,.int .i64 n,.int .i64 a,.int .i64 b,.slice (some g) l.length cl,.slice (some d) i.length h]] W fun e w'=>e=.returned (.bool true)∧Below W0.heap.size W0 w'):=fun W hW =>
  (W4_ (.mk 5 n a b l i) _ W (Hv.out.up hW) hs k s).mono fun _ _ ⟨h2,h3⟩=>⟨by rw [h2,hp],Z0_ hW (le_refl _) h3⟩
 exact y31_
theorem Vp9 (n a b:Int) (l:List (List Int)) (i:List Mat) (v:Value) (w:World) (hv:MatV w w.heap.size v (.mk 5 n a b l i)) (hs:Sml (.mk 5 n a b l i)) (k:0<l.length) (s:0<i.length) (hp:partB (.mk 5 n a b l i)=false):Calls Tryz.prog 152 #[v] w (Says w (fitsB (.mk 5 n a b l i))):=by
 have hrow:(l.getD 0 []).length≤1000:=sml_r hs (Y4_ l 0 [] k);obtain ⟨E,D,C,B,z⟩:=hv.open;rw [show fitsB (.mk 5 n a b l i)=false from by show (partB (.mk 5 n a b l i) && decide (n=((l.getD 0 []).length:Int)))=_;rw [hp];rfl];have Hb0:Hid (Below w.heap.size w (w.alloc (.cells #[.int .i64 5,.int .i64 n,.int .i64 a,.int .i64 b,E,D] 25))):=(Below.refl _ w).alloc (le_refl _) _;have Hv:=hid (hv.up Hb0.out);obtain ⟨G,cl,rfl,_,hlk⟩:=B;obtain ⟨F,h,rfl,_,hik⟩:=z;obtain rfl:=C;simp only [Mat.t,Mat.n,Mat.a,Mat.b,Mat.l,Mat.i] at *
 obtain ⟨g,O,j,m,hc0,hr0⟩:=hlk 0 k;subst j;obtain ⟨d,P,j,o,u,hmv⟩:=hik 0 s;subst j;rw [add_zero] at hc0;rw [show (0:Nat) * 6=0 from rfl,add_zero] at u;obtain ⟨N,M,hui,_,_⟩:=hmv.open;obtain ⟨Q,R,S,T,U,V,c,s0,s1,_⟩:=u;rw [hui] at c;injection c with c;injection c with c;injection c with _ c;injection c with hx1 _;subst hx1;generalize l.getD 0 []=r at *
 generalize i.getD 0 default=x at *
 obtain ⟨H,I,hu0,_⟩:=id hr0;have Hbox:=hid (K1_ (w:=w) (t := 25) (cs:=#[.int .i64 5,.int .i64 n,.int .i64 a,.int .i64 b,.slice (some g) l.length cl,.slice (some d) i.length h]));have Hc0:=hid (V7_ ((Hb0.out.cell (p:=g) m).trans hc0) (Nat.lt_of_lt_of_le m Hb0.out.size));have Hc1:=hid (V7_ ((Hb0.out.cell (p:=⟨d.block,d.off+1,none⟩) o).trans s1) (show d.block<_ from Nat.lt_of_lt_of_le o Hb0.out.size));have K:(0:Int)<(l.length:Int):=y40_;have J:(0:Int)<(i.length:Int):=y40_;have L:(r.length:Int)≤1000:=y40_;obtain ⟨W0,hW0⟩:∃ W0,W0=w.alloc (.cells #[.int .i64 5,.int .i64 n,.int .i64 a,.int .i64 b,.slice (some g) l.length cl,.slice (some d) i.length h] 25):=⟨_,rfl⟩;have hsz:W0.heap.size=w.heap.size+1:=z42_;have HW0:=hid hW0;have y:=(Blk.new w 25 #[.int .i64 5,.int .i64 n,.int .i64 a,.int .i64 b,.slice (some g) l.length cl,.slice (some d) i.length h]).cell 0;rw [← hW0] at Hb0 Hbox Hv Hc0 Hc1 y;rw [← hsz] at Hbox;have Hp:Hid (∀ W,Below W0.heap.size W0 W→Calls Tryz.prog 174 #[.agg #[.int .i64 5,.int .i64 n,.int .i64 a,.int .i64 b,.slice (some g) l.length cl,.slice (some d) i.length h]] W fun e w'=>e=.returned (.bool false)∧Below W0.heap.size W0 w'):=fun W hW =>
  (W4_ (.mk 5 n a b l i) _ W (Hv.out.up hW) hs k s).mono fun _ _ ⟨h2,h3⟩=>⟨by rw [h2,hp],Z0_ hW (le_refl _) h3⟩
 exact y31_
theorem Jv3 (n a b:Int) (l:List (List Int)) (i:List Mat) (v:Value) (w:World) (e:MatV w w.heap.size v (.mk 5 n a b l i)) (hs:Sml (.mk 5 n a b l i)) (d:0<l.length) (c:0<i.length):Calls Tryz.prog 152 #[v] w (Says w (fitsB (.mk 5 n a b l i))):=by
 rcases h0:partB (.mk 5 n a b l i) with _ | _
 ·exact Vp9 n a b l i v w e hs d c h0
 ·exact Vp8 n a b l i v w e hs d c h0
theorem Vr0 (n a b:Int) (l:List (List Int)) (i:List Mat) (v:Value) (w:World) (C:MatV w w.heap.size v (.mk 6 n a b l i)) (hs:Sml (.mk 6 n a b l i)) (z:0<l.length) (H:0<i.length) (B:partB (.mk 6 n a b l i)=true):Calls Tryz.prog 152 #[v] w (Says w (fitsB (.mk 6 n a b l i))):=by
 have X:(l.getD 0 []).length≤1000:=sml_r hs (Y4_ l 0 [] z);obtain ⟨lv,iv,Z,V,U⟩:=C.open;rw [show fitsB (.mk 6 n a b l i)=decide (IntKind.i64.wrap (n+((l.getD 0 []).length:Int))=(i.getD 0 default).n) from by show (partB (.mk 6 n a b l i) && decide (IntKind.i64.wrap (n+((l.getD 0 []).length:Int))=(i.getD 0 default).n))=_;rw [B];rfl];have d:Hid (Below w.heap.size w (w.alloc (.cells #[.int .i64 6,.int .i64 n,.int .i64 a,.int .i64 b,lv,iv] 25))):=(Below.refl _ w).alloc (le_refl _) _;have s:=hid (C.up d.out);obtain ⟨Al,cl,rfl,_,J⟩:=V;obtain ⟨Ai,m,rfl,_,I⟩:=U;obtain rfl:=Z;simp only [Mat.t,Mat.n,Mat.a,Mat.b,Mat.l,Mat.i] at *
 obtain ⟨k,u0,u,F,y,L⟩:=J 0 z;subst u;obtain ⟨h,ui,u,G,M,K⟩:=I 0 H;subst u;rw [add_zero] at y;rw [show (0:Nat) * 6=0 from rfl,add_zero] at M;obtain ⟨xa,x9,O,_,_⟩:=K.open;obtain ⟨x0,x1,x2,x3,x4,x5,g,s0,P,_⟩:=M;rw [O] at g;injection g with g;injection g with g;injection g with _ g;injection g with hx1 _;subst hx1;generalize l.getD 0 []=r at *
 generalize i.getD 0 default=x at *
 obtain ⟨Ar,cr,Y,_⟩:=id L;have o:=hid (K1_ (w:=w) (t := 25) (cs:=#[.int .i64 6,.int .i64 n,.int .i64 a,.int .i64 b,.slice (some k) l.length cl,.slice (some h) i.length m]));have D:=hid (V7_ ((d.out.cell (p:=k) F).trans y) (Nat.lt_of_lt_of_le F d.out.size));have E:=hid (V7_ ((d.out.cell (p:=⟨h.block,h.off+1,none⟩) G).trans P) (show h.block<_ from Nat.lt_of_lt_of_le G d.out.size));have x7:(0:Int)<(l.length:Int):=y40_;have x6:(0:Int)<(i.length:Int):=y40_;have x8:(r.length:Int)≤1000:=y40_;obtain ⟨c,hW0⟩:∃ c,c=w.alloc (.cells #[.int .i64 6,.int .i64 n,.int .i64 a,.int .i64 b,.slice (some k) l.length cl,.slice (some h) i.length m] 25):=⟨_,rfl⟩;have N:c.heap.size=w.heap.size+1:=z42_;have Q:=hid hW0;have S:=(Blk.new w 25 #[.int .i64 6,.int .i64 n,.int .i64 a,.int .i64 b,.slice (some k) l.length cl,.slice (some h) i.length m]).cell 0;rw [← hW0] at d o s D E S;rw [← N] at o;have R:Hid (∀ W,Below c.heap.size c W→Calls Tryz.prog 174 #[.agg #[.int .i64 6,.int .i64 n,.int .i64 a,.int .i64 b,.slice (some k) l.length cl,.slice (some h) i.length m]] W fun e w'=>e=.returned (.bool true)∧Below c.heap.size c w'):=fun W j =>
  (W4_ (.mk 6 n a b l i) _ W (s.out.up j) hs z H).mono fun _ _ ⟨h2,h3⟩=>⟨by rw [h2,B],Z0_ j (le_refl _) h3⟩
 subst Y;clear C J I L y B N s s0 P K O X
 go_enter Tryz.func152,Tryz.ntmps152
 go_wp2;rw [← Q.out];clear hW0;refine Z6_ c.heap.size c z40_ z40_ (Below.refl _ _) ?_
 iterate 19 (first
   | go_big_quiet_step (with_reducible exact R.out _)
   | (go_big_quiet_want;apply Exists.intro;refine ⟨fun W j=>?_,?_⟩;(· have q:=o.out W j;have q0:=q 0;have q1:=q 1;have q2:=q 2;have q3:=q 3;have q4:=q 4;have q5:=q 5;clear q;have r0:=D.out W j;have r1:=E.out W j;go_simp;first | exact rfl | exact ⟨rfl,rfl⟩);go_simp;go_big_quiet_on))
 refine wpQuiet_nil ?_;intro w5 T;go_wp2;go_ret;exact ⟨by rw [Xk5];rfl,d.out.trans (T.mono d.out.size)⟩
theorem Vr1 (n a b:Int) (l:List (List Int)) (i:List Mat) (v:Value) (w:World) (B:MatV w w.heap.size v (.mk 6 n a b l i)) (hs:Sml (.mk 6 n a b l i)) (y:0<l.length) (G:0<i.length) (z:partB (.mk 6 n a b l i)=false):Calls Tryz.prog 152 #[v] w (Says w (fitsB (.mk 6 n a b l i))):=by
 have U:(l.getD 0 []).length≤1000:=sml_r hs (Y4_ l 0 [] y);obtain ⟨Z,Y,X,T,S⟩:=B.open;rw [show fitsB (.mk 6 n a b l i)=false from by show (partB (.mk 6 n a b l i) && decide (IntKind.i64.wrap (n+((l.getD 0 []).length:Int))=(i.getD 0 default).n))=_;rw [z];rfl];have Hb0:Hid (Below w.heap.size w (w.alloc (.cells #[.int .i64 6,.int .i64 n,.int .i64 a,.int .i64 b,Z,Y] 25))):=(Below.refl _ w).alloc (le_refl _) _;have o:=hid (B.up Hb0.out);obtain ⟨Al,cl,rfl,_,I⟩:=T;obtain ⟨Ai,k,rfl,_,H⟩:=S;obtain rfl:=X;simp only [Mat.t,Mat.n,Mat.a,Mat.b,Mat.l,Mat.i] at *
 obtain ⟨j,u0,s,E,u,K⟩:=I 0 y;subst s;obtain ⟨g,ui,s,F,L,J⟩:=H 0 G;subst s;rw [add_zero] at u;rw [show (0:Nat) * 6=0 from rfl,add_zero] at L;obtain ⟨xa,x9,N,_,_⟩:=J.open;obtain ⟨x0,x1,x2,x3,x4,x5,d,s0,O,_⟩:=L;rw [N] at d;injection d with d;injection d with d;injection d with _ d;injection d with hx1 _;subst hx1;generalize l.getD 0 []=r at *
 generalize i.getD 0 default=x at *
 obtain ⟨Ar,cr,V,_⟩:=id K;have m:=hid (K1_ (w:=w) (t := 25) (cs:=#[.int .i64 6,.int .i64 n,.int .i64 a,.int .i64 b,.slice (some j) l.length cl,.slice (some g) i.length k]));have C:=hid (V7_ ((Hb0.out.cell (p:=j) E).trans u) (Nat.lt_of_lt_of_le E Hb0.out.size));have D:=hid (V7_ ((Hb0.out.cell (p:=⟨g.block,g.off+1,none⟩) F).trans O) (show g.block<_ from Nat.lt_of_lt_of_le F Hb0.out.size));have x7:(0:Int)<(l.length:Int):=y40_;have x6:(0:Int)<(i.length:Int):=y40_;have x8:(r.length:Int)≤1000:=y40_;obtain ⟨c,hW0⟩:∃ c,c=w.alloc (.cells #[.int .i64 6,.int .i64 n,.int .i64 a,.int .i64 b,.slice (some j) l.length cl,.slice (some g) i.length k] 25):=⟨_,rfl⟩;have M:c.heap.size=w.heap.size+1:=z42_;have P:=hid hW0;have R:=(Blk.new w 25 #[.int .i64 6,.int .i64 n,.int .i64 a,.int .i64 b,.slice (some j) l.length cl,.slice (some g) i.length k]).cell 0;rw [← hW0] at Hb0 m o C D R;rw [← M] at m;have Q:Hid (∀ W,Below c.heap.size c W→Calls Tryz.prog 174 #[.agg #[.int .i64 6,.int .i64 n,.int .i64 a,.int .i64 b,.slice (some j) l.length cl,.slice (some g) i.length k]] W fun e w'=>e=.returned (.bool false)∧Below c.heap.size c w'):=fun W h =>
  (W4_ (.mk 6 n a b l i) _ W (o.out.up h) hs y G).mono fun _ _ ⟨h2,h3⟩=>⟨by rw [h2,z],Z0_ h (le_refl _) h3⟩
 subst V;clear B I H K u z M o s0 O J N U
 go_enter Tryz.func152,Tryz.ntmps152
 go_wp2;rw [← P.out];clear hW0;refine Z6_ c.heap.size c z40_ z40_ (Below.refl _ _) ?_
 iterate 19 (first
   | go_big_quiet_step (with_reducible exact Q.out _)
   | (go_big_quiet_want;apply Exists.intro;refine ⟨fun W h=>?_,?_⟩;(· have q:=m.out W h;have q0:=q 0;have q1:=q 1;have q2:=q 2;have q3:=q 3;have q4:=q 4;have q5:=q 5;clear q;have r0:=C.out W h;have r1:=D.out W h;go_simp;first | exact rfl | exact ⟨rfl,rfl⟩);go_simp;go_big_quiet_on))
 exact k2_
theorem Jv4 (n a b:Int) (l:List (List Int)) (i:List Mat) (v:Value) (w:World) (e:MatV w w.heap.size v (.mk 6 n a b l i)) (hs:Sml (.mk 6 n a b l i)) (d:0<l.length) (c:0<i.length):Calls Tryz.prog 152 #[v] w (Says w (fitsB (.mk 6 n a b l i))):=by
 rcases h0:partB (.mk 6 n a b l i) with _ | _
 ·exact Vr1 n a b l i v w e hs d c h0
 ·exact Vr0 n a b l i v w e hs d c h0
end Go.Proofs.YtigobiacbficaaaGreatDoor.Wp
