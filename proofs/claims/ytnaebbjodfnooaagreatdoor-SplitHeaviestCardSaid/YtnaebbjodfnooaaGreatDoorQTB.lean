/- The program's fits, walked, kind by kind. -/
import Derived.Test.YtnaebbjodfnooaaGreatDoorQWalkA
import Derived.Test.YtnaebbjodfnooaaGreatDoorZE
import Derived.Test.YtnaebbjodfnooaaGreatDoorQTA
import Derived.Test.YtnaebbjodfnooaaGreatDoorX0A
import Derived.Test.YtnaebbjodfnooaaGreatDoorX0C
set_option maxHeartbeats 8000000
set_option maxRecDepth 100000
open Go.Lib (hid)
open Nat (le_refl)
namespace Go.Proofs.YtnaebbjodfnooaaGreatDoor.Wp
private theorem z1_ {P:Prop} (h:P:=by
 have Hb:=hid hb
 have Hc:Hid (∀ W,Below W0.heap.size W0 W→Calls Tryz.prog 104 #[.agg #[.bool f.fa,.bool f.fb,.int .i64 f.lists,.int .i64 f.least,.int .i64 f.most],.agg #[.int .i64 (T:Int),.int .i64 m.n,.int .i64 m.a,.int .i64 m.b,lv,iv]] W fun e w'=>e=.returned (.bool true)∧Below W0.heap.size W0 w'):=fun W hW =>
  (show Calls _ _ #[formV f,_] W _ from (Htakes.out _ W (Hv.out.up hW)).mono fun _ _ ⟨h2,h3⟩=>⟨by rw [h2,Hb.out],Z0_ hW (le_refl _) h3⟩)
 clear hb
 go_enter Tryz.func77,Tryz.ntmps77
 go_wp2
 rw [← Hmt.out,← HW0.out,Hmt.out]
 clear hW0 g0 g1 g2 a1 a2 a3 a4 a5 a6
 refine Z6_ W0.heap.size W0 (by kernel_rfl) (by kernel_rfl) (Below.refl _ _) ?_
 iterate 8 (first
  | go_big_quiet_step (with_reducible exact Hc.out _)
  | (go_big_quiet_want;apply Exists.intro;refine ⟨fun W hW=>?_,?_⟩;(· have q:=Hbox.out W hW;have q0:=q 0;have q1:=q 1;have q2:=q 2;have q3:=q 3;have q4:=q 4;have q5:=q 5;clear q;obtain ⟨f0,f1,f2,f3,f4⟩:=Hf.out W hW;go_simp;first | exact rfl | exact ⟨rfl,rfl⟩);go_simp;go_big_quiet_on))
 refine wpQuiet_nil ?_
 intro w5 hB5
 have q:=Hbox.out w5 hB5
 have q0:=q 0
 have q1:=q 1
 have q2:=q 2
 have q3:=q 3
 have q4:=q 4
 have q5:=q 5
 have HE5:=hid (HE.out.up hB5)
 have Hv5:=hid (Hv.out.up hB5)
 have Hb5:=hid (Hb0.out.trans (hB5.mono Hb0.out.size))
 clear hB5 q
 go_wp2_with fail
 refine (Hfits'.out w5 Hv5.out HE5.out).mono ?_
 rintro e w6 ⟨rfl,hb6⟩
 have HE6:=HE5.out.up hb6
 have gE:=HE6.g4
 have Hb6:=hid (Z0_ Hb5.out (le_refl _) hb6)
 unfold eS at gE
 clear hb6 HE6
 go_wp2
 go_ret
 exact ⟨rfl,Hb6.out⟩):P:=h
private theorem k28_ {P:Prop} (h:P:=by
 subst hu0 hu1
 clear hv hlk hr0 hr1 hc0 hc1 h0 h1 hl2 hsz Hr0 Hr1
 go_enter Tryz.func78,Tryz.ntmps78
 go_wp2
 rw [← HW0.out]
 clear hW0
 refine Z6_ W0.heap.size W0 (by kernel_rfl) (by kernel_rfl) (Below.refl _ _) ?_
 repeat (first
   | go_big_quiet_step (with_reducible exact Hn0.out _)
   | go_big_quiet_step (with_reducible exact Hn1.out _)
   | (go_big_quiet_want;apply Exists.intro;refine ⟨fun W hW=>?_,?_⟩;(· have q:=Hbox.out W hW;have q1:=q 1;have q2:=q 2;have q4:=q 4;have q0:=q 0;clear q;have r0:=Hc0.out W hW;have r1:=Hc1.out W hW;go_simp;first | exact rfl | exact ⟨rfl,rfl⟩);go_simp;go_big_quiet_on))
 exact z2_):P:=h
private theorem q29_ {P:Prop} (h:P:=by
 subst hu0 hu1
 clear hv hlk hr0 hr1 hc0 hc1 h0 h1 hl2 hsz Hr0 Hr1
 go_enter Tryz.func105,Tryz.ntmps105
 go_wp2
 rw [← HW0.out]
 clear hW0
 refine Z6_ W0.heap.size W0 (by kernel_rfl) (by kernel_rfl) (Below.refl _ _) ?_
 iterate 19 (first
   | go_big_quiet_step (with_reducible exact Hn0.out _)
   | go_big_quiet_step (with_reducible exact Hn1.out _)
   | (go_big_quiet_want;apply Exists.intro;refine ⟨fun W hW=>?_,?_⟩;(· have q:=Hbox.out W hW;have q1:=q 1;have q2:=q 2;have q4:=q 4;clear q;have r0:=Hc0.out W hW;have r1:=Hc1.out W hW;go_simp;first | exact rfl | exact ⟨rfl,rfl⟩);go_simp;go_big_quiet_on))
 exact z2_):P:=h
private theorem x29_ {P:Prop} (h:P:=by
 subst hu0
 clear hv hlk hik hr0 hc0 hp hsz Hv s0 s1 hmv hui hrow
 go_enter Tryz.func105,Tryz.ntmps105
 go_wp2
 rw [← HW0.out]
 clear hW0
 refine Z6_ W0.heap.size W0 (by kernel_rfl) (by kernel_rfl) (Below.refl _ _) ?_
 iterate 13 (first
   | go_big_quiet_step (with_reducible exact Hp.out _)
   | (go_big_quiet_want;apply Exists.intro;refine ⟨fun W hW=>?_,?_⟩;(· have q:=Hbox.out W hW;have q0:=q 0;have q1:=q 1;have q2:=q 2;have q3:=q 3;have q4:=q 4;have q5:=q 5;clear q;have r0:=Hc0.out W hW;have r1:=Hc1.out W hW;go_simp;first | exact rfl | exact ⟨rfl,rfl⟩);go_simp;go_big_quiet_on))
 exact z2_):P:=h
open Go.RowKit
theorem Jz5 (n a b:Int) (l:List (List Int)) (i:List Mat) (v:Value) (w:World) (c:MatV w w.heap.size v (.mk 0 n a b l i)):Calls Tryz.prog 105 #[v] w (Says w (fitsB (.mk 0 n a b l i))):=by
 obtain ⟨e,d,rfl,_,_⟩:=c.open;rw [show fitsB (.mk 0 n a b l i)=decide (a≤n) from rfl];simp only [Mat.t,Mat.n,Mat.a,Mat.b];have Hb0:Hid (Below w.heap.size w (w.alloc (.cells #[.int .i64 0,.int .i64 n,.int .i64 a,.int .i64 b,e,d] 25))):=(Below.refl _ w).alloc (le_refl _) _;clear c;exact j34_
theorem Vz4 (A:Int) (B:Nat) (w:World) (hB:B<w.heap.size) (hc:w.cell? ⟨B,2,none⟩=some (.int .i64 A)):Zw4 w 120 #[.pointer (some ⟨B,0,none⟩)] (edgeB A) :=
 fun u zs W c d=>Xt1 A B u zs W ((c.cell (p:=⟨B,2,none⟩) hB).trans hc) d
theorem Jz6 (n a b:Int) (l:List (List Int)) (i:List Mat) (v:Value) (w:World) (j:MatV w w.heap.size v (.mk 1 n a b l i)) (q:l.length≤1000):Calls Tryz.prog 105 #[v] w (Says w (fitsB (.mk 1 n a b l i))):=by
 obtain ⟨d,k,rfl,hl,_⟩:=j.open;rw [show fitsB (.mk 1 n a b l i)=(decide (1≤a) && !l.any (edgeB a)) from rfl];simp only [Mat.t,Mat.n,Mat.a,Mat.b];have Hb0:Hid (Below w.heap.size w (w.alloc (.cells #[.int .i64 1,.int .i64 n,.int .i64 a,.int .i64 b,d,k] 25))):=(Below.refl _ w).alloc (le_refl _) _;have m:=hid (hl.up Hb0.out);have g:=hid (L7_ 120 #[.pointer (some ⟨w.heap.size,0,none⟩)] (edgeB a) d l (w.alloc (.cells #[.int .i64 1,.int .i64 n,.int .i64 a,.int .i64 b,d,k] 25)) (enters_of Tryz.func120 y37_ rfl) m.out x37_ (Vz4 a w.heap.size _ j37_ ((Blk.new w _ _).cell 2)));obtain ⟨o,cl,rfl,_⟩:=hl;clear j;by_cases h:1≤a
 ·rw [decide_eq_true h,Bool.true_and]
  generalize l.any (edgeB a)=c at *
  go_enter Tryz.func105,Tryz.ntmps105
  go_wp2_with fail
  refine (g.out).mono ?_;exact k36_
 ·rw [decide_eq_false h,Bool.false_and]
  have p:a<1:=x37_;clear g;exact j34_
theorem Jz7 (n a b:Int) (l:List (List Int)) (i:List Mat) (v:Value) (w:World) (d:MatV w w.heap.size v (.mk 3 n a b l i)):Calls Tryz.prog 105 #[v] w (Says w (fitsB (.mk 3 n a b l i))):=by
 obtain ⟨j,h,rfl,hl,_⟩:=d.open;rw [show fitsB (.mk 3 n a b l i)=mayM a l from rfl];simp only [Mat.t,Mat.n,Mat.a,Mat.b];have Hb0:Hid (Below w.heap.size w (w.alloc (.cells #[.int .i64 3,.int .i64 n,.int .i64 a,.int .i64 b,j,h] 25))):=(Below.refl _ w).alloc (le_refl _) _;have g:=hid (hl.up Hb0.out);generalize hc:mayM a l=c;have Hcc:Hid (mayM a l=c):=hc;obtain ⟨k,cl,rfl,_⟩:=hl;clear d hc
 go_enter Tryz.func105,Tryz.ntmps105
 go_wp2_with fail
 refine (kmay_any a _ l _ g.out).mono ?_;exact k35_
theorem Jz8 (n a b:Int) (l:List (List Int)) (i:List Mat) (v:Value) (w:World) (g:MatV w w.heap.size v (.mk 4 n a b l i)) (d:Met w):Calls Tryz.prog 105 #[v] w (Says w (fitsB (.mk 4 n a b l i))):=by
 obtain ⟨m,k,rfl,hl,_⟩:=g.open;rw [show fitsB (.mk 4 n a b l i)=elimB b a l from rfl];simp only [Mat.t,Mat.n,Mat.a,Mat.b];have Hb0:Hid (Below w.heap.size w (w.alloc (.cells #[.int .i64 4,.int .i64 n,.int .i64 a,.int .i64 b,m,k] 25))):=(Below.refl _ w).alloc (le_refl _) _;have j:=hid (hl.up Hb0.out);have h:=hid (d.up Hb0.out);clear d;generalize hc:elimB b a l=c;have Hcc:Hid (elimB b a l=c):=hc;obtain ⟨o,cl,rfl,_⟩:=hl;clear g hc
 go_enter Tryz.func105,Tryz.ntmps105
 go_wp2_with fail
 refine (Xt2 b a _ l _ h.out j.out).mono ?_;exact k35_
open Go.RowKit
theorem Vz5 (n a b:Int) (l:List (List Int)) (i:List Mat) (v:Value) (w:World) (hv:MatV w w.heap.size v (.mk 2 n a b l i)) (hl2:l.length=2) (F:n≤64) (ha:a≤64) (h0:numsB (l.getD 0 []) n a=true) (h1:numsB (l.getD 1 []) a 65=true):Calls Tryz.prog 105 #[v] w (Says w (fitsB (.mk 2 n a b l i))):=by
 obtain ⟨G,g,rfl,⟨r,cl,rfl,_,hlk⟩,_⟩:=hv.open;simp only [Mat.t,Mat.n,Mat.a,Mat.b,Mat.l] at *
 rw [show fitsB (.mk 2 n a b l i)=true from by show (numsB (l.getD 0 []) n a && numsB (l.getD 1 []) a 65)=true;rw [h0,h1];rfl];obtain ⟨c,j,hA,d,hc0,hr0⟩:=hlk 0 x37_;subst hA;obtain ⟨x,k,o,_,hc1,hr1⟩:=hlk 1 x37_;obtain rfl:=Option.some.inj o;rw [add_zero] at hc0;generalize l.getD 0 []=r0 at *
 generalize l.getD 1 []=r1 at *
 obtain ⟨s,y,hu0,_⟩:=id hr0;obtain ⟨u,z,hu1,_⟩:=id hr1;have Hb0:Hid (Below w.heap.size w (w.alloc (.cells #[.int .i64 2,.int .i64 n,.int .i64 a,.int .i64 b,.slice (some c) l.length cl,g] 25))):=(Below.refl _ w).alloc (le_refl _) _;have Hbox:=hid (K6_ (w:=w) (t := 25) (cs:=#[.int .i64 2,.int .i64 n,.int .i64 a,.int .i64 b,.slice (some c) l.length cl,g]));have Hr0:=hid (hr0.up Hb0.out);have Hr1:=hid (hr1.up Hb0.out);have Hc0:=hid (V6_ ((Hb0.out.cell (p:=c) d).trans hc0) (Nat.lt_of_lt_of_le d Hb0.out.size));rw [show c.add 1=(⟨c.block,c.off+1,none⟩:Addr) by simp [Addr.add]] at hc1;have Hc1:=hid (V6_ ((Hb0.out.cell (p:=⟨c.block,c.off+1,none⟩) d).trans hc1) (show c.block<_ from Nat.lt_of_lt_of_le d Hb0.out.size));have B:(1:Int)<(l.length:Int):=x37_;have C:(0:Int)<(l.length:Int):=x37_;have D:0<l.length:=x37_;have E:1<l.length:=x37_;obtain ⟨W0,hW0⟩:∃ W0,W0=w.alloc (.cells #[.int .i64 2,.int .i64 n,.int .i64 a,.int .i64 b,.slice (some c) l.length cl,g] 25):=⟨_,rfl⟩;have hsz:W0.heap.size=w.heap.size+1:=x39_;have HW0:=hid hW0;have m:=(Blk.new w 25 #[.int .i64 2,.int .i64 n,.int .i64 a,.int .i64 b,.slice (some c) l.length cl,g]).cell 0;rw [← hW0] at Hb0 Hbox Hr0 Hr1 Hc0 Hc1 m;rw [← hsz] at Hbox;have Hn0:Hid (∀ W,Below W0.heap.size W0 W→Calls Tryz.prog 121 #[j,.int .i64 n,.int .i64 a] W fun e w'=>e=.returned (.bool true)∧Below W0.heap.size W0 w'):=fun W hW =>
  (D6_ n a j r0 W (Hr0.out.up hW) x37_).mono fun _ _ ⟨h,h3⟩=>⟨by rw [h,h0],Z0_ hW (le_refl _) h3⟩
 have Hn1:Hid (∀ W,Below W0.heap.size W0 W→Calls Tryz.prog 121 #[k,.int .i64 a,.int .i64 65] W fun e w'=>e=.returned (.bool true)∧Below W0.heap.size W0 w'):=fun W hW =>
  (D6_ a 65 k r1 W (Hr1.out.up hW) x37_).mono fun _ _ ⟨h,h3⟩=>⟨by rw [h,h1],Z0_ hW (le_refl _) h3⟩
 exact q29_
theorem Vz6 (n a b:Int) (l:List (List Int)) (i:List Mat) (v:Value) (w:World) (hv:MatV w w.heap.size v (.mk 2 n a b l i)) (hl2:l.length=2) (F:n≤64) (ha:a≤64) (h0:numsB (l.getD 0 []) n a=true) (h1:numsB (l.getD 1 []) a 65=false):Calls Tryz.prog 105 #[v] w (Says w (fitsB (.mk 2 n a b l i))):=by
 obtain ⟨G,g,rfl,⟨r,cl,rfl,_,hlk⟩,_⟩:=hv.open;simp only [Mat.t,Mat.n,Mat.a,Mat.b,Mat.l] at *
 rw [show fitsB (.mk 2 n a b l i)=false from by show (numsB (l.getD 0 []) n a && numsB (l.getD 1 []) a 65)=false;rw [h0,h1];rfl];obtain ⟨c,j,hA,d,hc0,hr0⟩:=hlk 0 x37_;subst hA;obtain ⟨x,k,o,_,hc1,hr1⟩:=hlk 1 x37_;obtain rfl:=Option.some.inj o;rw [add_zero] at hc0;generalize l.getD 0 []=r0 at *
 generalize l.getD 1 []=r1 at *
 obtain ⟨s,y,hu0,_⟩:=id hr0;obtain ⟨u,z,hu1,_⟩:=id hr1;have Hb0:Hid (Below w.heap.size w (w.alloc (.cells #[.int .i64 2,.int .i64 n,.int .i64 a,.int .i64 b,.slice (some c) l.length cl,g] 25))):=(Below.refl _ w).alloc (le_refl _) _;have Hbox:=hid (K6_ (w:=w) (t := 25) (cs:=#[.int .i64 2,.int .i64 n,.int .i64 a,.int .i64 b,.slice (some c) l.length cl,g]));have Hr0:=hid (hr0.up Hb0.out);have Hr1:=hid (hr1.up Hb0.out);have Hc0:=hid (V6_ ((Hb0.out.cell (p:=c) d).trans hc0) (Nat.lt_of_lt_of_le d Hb0.out.size));rw [show c.add 1=(⟨c.block,c.off+1,none⟩:Addr) by simp [Addr.add]] at hc1;have Hc1:=hid (V6_ ((Hb0.out.cell (p:=⟨c.block,c.off+1,none⟩) d).trans hc1) (show c.block<_ from Nat.lt_of_lt_of_le d Hb0.out.size));have B:(1:Int)<(l.length:Int):=x37_;have C:(0:Int)<(l.length:Int):=x37_;have D:0<l.length:=x37_;have E:1<l.length:=x37_;obtain ⟨W0,hW0⟩:∃ W0,W0=w.alloc (.cells #[.int .i64 2,.int .i64 n,.int .i64 a,.int .i64 b,.slice (some c) l.length cl,g] 25):=⟨_,rfl⟩;have hsz:W0.heap.size=w.heap.size+1:=x39_;have HW0:=hid hW0;have m:=(Blk.new w 25 #[.int .i64 2,.int .i64 n,.int .i64 a,.int .i64 b,.slice (some c) l.length cl,g]).cell 0;rw [← hW0] at Hb0 Hbox Hr0 Hr1 Hc0 Hc1 m;rw [← hsz] at Hbox;have Hn0:Hid (∀ W,Below W0.heap.size W0 W→Calls Tryz.prog 121 #[j,.int .i64 n,.int .i64 a] W fun e w'=>e=.returned (.bool true)∧Below W0.heap.size W0 w'):=fun W hW =>
  (D6_ n a j r0 W (Hr0.out.up hW) x37_).mono fun _ _ ⟨h,h3⟩=>⟨by rw [h,h0],Z0_ hW (le_refl _) h3⟩
 have Hn1:Hid (∀ W,Below W0.heap.size W0 W→Calls Tryz.prog 121 #[k,.int .i64 a,.int .i64 65] W fun e w'=>e=.returned (.bool false)∧Below W0.heap.size W0 w'):=fun W hW =>
  (D6_ a 65 k r1 W (Hr1.out.up hW) x37_).mono fun _ _ ⟨h,h3⟩=>⟨by rw [h,h1],Z0_ hW (le_refl _) h3⟩
 exact q29_
theorem Vl7 (n a b:Int) (l:List (List Int)) (i:List Mat) (v:Value) (w:World) (E:MatV w w.heap.size v (.mk 2 n a b l i)) (M:l.length=2) (hn:n≤64) (o:numsB (l.getD 0 []) n a=false):Calls Tryz.prog 105 #[v] w (Says w (fitsB (.mk 2 n a b l i))):=by
 obtain ⟨lv,j,rfl,⟨Q,cl,rfl,_,u⟩,_⟩:=E.open;simp only [Mat.t,Mat.n,Mat.a,Mat.b,Mat.l] at *
 rw [show fitsB (.mk 2 n a b l i)=false from by show (numsB (l.getD 0 []) n a && numsB (l.getD 1 []) a 65)=false;rw [o];rfl];obtain ⟨c,G,hA,h,r,x⟩:=u 0 x37_;subst hA;obtain ⟨T,u1,L,_,s,y⟩:=u 1 x37_;obtain rfl:=Option.some.inj L;rw [add_zero] at r;generalize l.getD 0 []=F at *
 generalize l.getD 1 []=P at *
 obtain ⟨R,U,N,_⟩:=id x;obtain ⟨S,V,O,_⟩:=id y;have Hb0:Hid (Below w.heap.size w (w.alloc (.cells #[.int .i64 2,.int .i64 n,.int .i64 a,.int .i64 b,.slice (some c) l.length cl,j] 25))):=(Below.refl _ w).alloc (le_refl _) _;have k:=hid (K6_ (w:=w) (t := 25) (cs:=#[.int .i64 2,.int .i64 n,.int .i64 a,.int .i64 b,.slice (some c) l.length cl,j]));have m:=hid (x.up Hb0.out);have C:=hid (y.up Hb0.out);have z:=hid (V6_ ((Hb0.out.cell (p:=c) h).trans r) (Nat.lt_of_lt_of_le h Hb0.out.size));rw [show c.add 1=(⟨c.block,c.off+1,none⟩:Addr) by simp [Addr.add]] at s;have B:=hid (V6_ ((Hb0.out.cell (p:=⟨c.block,c.off+1,none⟩) h).trans s) (show c.block<_ from Nat.lt_of_lt_of_le h Hb0.out.size));have X:(1:Int)<(l.length:Int):=x37_;have Y:(0:Int)<(l.length:Int):=x37_;have Z:0<l.length:=x37_;have x0:1<l.length:=x37_;obtain ⟨d,hW0⟩:∃ d,d=w.alloc (.cells #[.int .i64 2,.int .i64 n,.int .i64 a,.int .i64 b,.slice (some c) l.length cl,j] 25):=⟨_,rfl⟩;have D:d.heap.size=w.heap.size+1:=x39_;have H:=hid hW0;have J:=(Blk.new w 25 #[.int .i64 2,.int .i64 n,.int .i64 a,.int .i64 b,.slice (some c) l.length cl,j]).cell 0;rw [← hW0] at Hb0 k m C z B J;rw [← D] at k;have I:Hid (∀ W,Below d.heap.size d W→Calls Tryz.prog 121 #[G,.int .i64 n,.int .i64 a] W fun e w'=>e=.returned (.bool false)∧Below d.heap.size d w'):=fun W g =>
  (D6_ n a G F W (m.out.up g) x37_).mono fun _ _ ⟨K,h3⟩=>⟨by rw [K,o],Z0_ g (le_refl _) h3⟩
 subst N O;clear E u x y r s o M D m C
 go_enter Tryz.func105,Tryz.ntmps105
 go_wp2;rw [← H.out];clear hW0;refine Z6_ d.heap.size d y37_ y37_ (Below.refl _ _) ?_
 iterate 19 (first
   | go_big_quiet_step (with_reducible exact I.out _)
   | (go_big_quiet_want;apply Exists.intro;refine ⟨fun W g=>?_,?_⟩;(· have q:=k.out W g;have q1:=q 1;have q2:=q 2;have q4:=q 4;clear q;have F:=z.out W g;have P:=B.out W g;go_simp;first | exact rfl | exact ⟨rfl,rfl⟩);go_simp;go_big_quiet_on))
 exact z2_
theorem Jz9 (n a b:Int) (l:List (List Int)) (i:List Mat) (v:Value) (w:World) (e:MatV w w.heap.size v (.mk 2 n a b l i)) (c:l.length=2) (d:n≤64) (ha:a≤64):Calls Tryz.prog 105 #[v] w (Says w (fitsB (.mk 2 n a b l i))):=by
 rcases h0:numsB (l.getD 0 []) n a with _ | _
 ·exact Vl7 n a b l i v w e c d h0
 ·rcases h1:numsB (l.getD 1 []) a 65 with _ | _
  ·exact Vz6 n a b l i v w e c d ha h0 h1
  ·exact Vz5 n a b l i v w e c d ha h0 h1
open Go.RowKit
theorem Vl8 (n a b:Int) (l:List (List Int)) (i:List Mat) (v:Value) (w:World) (hv:MatV w w.heap.size v (.mk 5 n a b l i)) (hs:Sml (.mk 5 n a b l i)) (j:0<l.length) (o:0<i.length) (hp:partB (.mk 5 n a b l i)=true):Calls Tryz.prog 105 #[v] w (Says w (fitsB (.mk 5 n a b l i))):=by
 have hrow:(l.getD 0 []).length≤1000:=sml_r hs (Y6_ l 0 [] j);obtain ⟨E,D,C,B,z⟩:=hv.open;rw [show fitsB (.mk 5 n a b l i)=decide (n=((l.getD 0 []).length:Int)) from by show (partB (.mk 5 n a b l i) && decide (n=((l.getD 0 []).length:Int)))=_;rw [hp];rfl];have Hb0:Hid (Below w.heap.size w (w.alloc (.cells #[.int .i64 5,.int .i64 n,.int .i64 a,.int .i64 b,E,D] 25))):=(Below.refl _ w).alloc (le_refl _) _;have Hv:=hid (hv.up Hb0.out);obtain ⟨G,cl,rfl,_,hlk⟩:=B;obtain ⟨F,h,rfl,_,hik⟩:=z;obtain rfl:=C;simp only [Mat.t,Mat.n,Mat.a,Mat.b,Mat.l,Mat.i] at *
 obtain ⟨g,O,hA,k,hc0,hr0⟩:=hlk 0 j;subst hA;obtain ⟨d,P,hA,m,s,hmv⟩:=hik 0 o;subst hA;rw [add_zero] at hc0;rw [show (0:Nat) * 6=0 from rfl,add_zero] at s;obtain ⟨N,M,hui,_,_⟩:=hmv.open;obtain ⟨Q,R,S,T,U,V,c,s0,s1,_⟩:=s;rw [hui] at c;injection c with c;injection c with c;injection c with _ c;injection c with hx1 _;subst hx1;generalize l.getD 0 []=r at *
 generalize i.getD 0 default=x at *
 obtain ⟨H,I,hu0,_⟩:=id hr0;have Hbox:=hid (K6_ (w:=w) (t := 25) (cs:=#[.int .i64 5,.int .i64 n,.int .i64 a,.int .i64 b,.slice (some g) l.length cl,.slice (some d) i.length h]));have Hc0:=hid (V6_ ((Hb0.out.cell (p:=g) k).trans hc0) (Nat.lt_of_lt_of_le k Hb0.out.size));have Hc1:=hid (V6_ ((Hb0.out.cell (p:=⟨d.block,d.off+1,none⟩) m).trans s1) (show d.block<_ from Nat.lt_of_lt_of_le m Hb0.out.size));have K:(0:Int)<(l.length:Int):=x37_;have J:(0:Int)<(i.length:Int):=x37_;have L:(r.length:Int)≤1000:=x37_;obtain ⟨W0,hW0⟩:∃ W0,W0=w.alloc (.cells #[.int .i64 5,.int .i64 n,.int .i64 a,.int .i64 b,.slice (some g) l.length cl,.slice (some d) i.length h] 25):=⟨_,rfl⟩;have hsz:W0.heap.size=w.heap.size+1:=x39_;have HW0:=hid hW0;have u:=(Blk.new w 25 #[.int .i64 5,.int .i64 n,.int .i64 a,.int .i64 b,.slice (some g) l.length cl,.slice (some d) i.length h]).cell 0;rw [← hW0] at Hb0 Hbox Hv Hc0 Hc1 u;rw [← hsz] at Hbox;have Hp:Hid (∀ W,Below W0.heap.size W0 W→Calls Tryz.prog 125 #[.agg #[.int .i64 5,.int .i64 n,.int .i64 a,.int .i64 b,.slice (some g) l.length cl,.slice (some d) i.length h]] W fun e w'=>e=.returned (.bool true)∧Below W0.heap.size W0 w'):=fun W hW =>
  (U3_ (.mk 5 n a b l i) _ W (Hv.out.up hW) hs j o).mono fun _ _ ⟨y,h3⟩=>⟨by rw [y,hp],Z0_ hW (le_refl _) h3⟩
 exact x29_
theorem Vl9 (n a b:Int) (l:List (List Int)) (i:List Mat) (v:Value) (w:World) (hv:MatV w w.heap.size v (.mk 5 n a b l i)) (hs:Sml (.mk 5 n a b l i)) (j:0<l.length) (o:0<i.length) (hp:partB (.mk 5 n a b l i)=false):Calls Tryz.prog 105 #[v] w (Says w (fitsB (.mk 5 n a b l i))):=by
 have hrow:(l.getD 0 []).length≤1000:=sml_r hs (Y6_ l 0 [] j);obtain ⟨E,D,C,B,z⟩:=hv.open;rw [show fitsB (.mk 5 n a b l i)=false from by show (partB (.mk 5 n a b l i) && decide (n=((l.getD 0 []).length:Int)))=_;rw [hp];rfl];have Hb0:Hid (Below w.heap.size w (w.alloc (.cells #[.int .i64 5,.int .i64 n,.int .i64 a,.int .i64 b,E,D] 25))):=(Below.refl _ w).alloc (le_refl _) _;have Hv:=hid (hv.up Hb0.out);obtain ⟨G,cl,rfl,_,hlk⟩:=B;obtain ⟨F,h,rfl,_,hik⟩:=z;obtain rfl:=C;simp only [Mat.t,Mat.n,Mat.a,Mat.b,Mat.l,Mat.i] at *
 obtain ⟨g,O,hA,k,hc0,hr0⟩:=hlk 0 j;subst hA;obtain ⟨d,P,hA,m,s,hmv⟩:=hik 0 o;subst hA;rw [add_zero] at hc0;rw [show (0:Nat) * 6=0 from rfl,add_zero] at s;obtain ⟨N,M,hui,_,_⟩:=hmv.open;obtain ⟨Q,R,S,T,U,V,c,s0,s1,_⟩:=s;rw [hui] at c;injection c with c;injection c with c;injection c with _ c;injection c with hx1 _;subst hx1;generalize l.getD 0 []=r at *
 generalize i.getD 0 default=x at *
 obtain ⟨H,I,hu0,_⟩:=id hr0;have Hbox:=hid (K6_ (w:=w) (t := 25) (cs:=#[.int .i64 5,.int .i64 n,.int .i64 a,.int .i64 b,.slice (some g) l.length cl,.slice (some d) i.length h]));have Hc0:=hid (V6_ ((Hb0.out.cell (p:=g) k).trans hc0) (Nat.lt_of_lt_of_le k Hb0.out.size));have Hc1:=hid (V6_ ((Hb0.out.cell (p:=⟨d.block,d.off+1,none⟩) m).trans s1) (show d.block<_ from Nat.lt_of_lt_of_le m Hb0.out.size));have K:(0:Int)<(l.length:Int):=x37_;have J:(0:Int)<(i.length:Int):=x37_;have L:(r.length:Int)≤1000:=x37_;obtain ⟨W0,hW0⟩:∃ W0,W0=w.alloc (.cells #[.int .i64 5,.int .i64 n,.int .i64 a,.int .i64 b,.slice (some g) l.length cl,.slice (some d) i.length h] 25):=⟨_,rfl⟩;have hsz:W0.heap.size=w.heap.size+1:=x39_;have HW0:=hid hW0;have u:=(Blk.new w 25 #[.int .i64 5,.int .i64 n,.int .i64 a,.int .i64 b,.slice (some g) l.length cl,.slice (some d) i.length h]).cell 0;rw [← hW0] at Hb0 Hbox Hv Hc0 Hc1 u;rw [← hsz] at Hbox;have Hp:Hid (∀ W,Below W0.heap.size W0 W→Calls Tryz.prog 125 #[.agg #[.int .i64 5,.int .i64 n,.int .i64 a,.int .i64 b,.slice (some g) l.length cl,.slice (some d) i.length h]] W fun e w'=>e=.returned (.bool false)∧Below W0.heap.size W0 w'):=fun W hW =>
  (U3_ (.mk 5 n a b l i) _ W (Hv.out.up hW) hs j o).mono fun _ _ ⟨y,h3⟩=>⟨by rw [y,hp],Z0_ hW (le_refl _) h3⟩
 exact x29_
theorem Jy0 (n a b:Int) (l:List (List Int)) (i:List Mat) (v:Value) (w:World) (e:MatV w w.heap.size v (.mk 5 n a b l i)) (hs:Sml (.mk 5 n a b l i)) (d:0<l.length) (c:0<i.length):Calls Tryz.prog 105 #[v] w (Says w (fitsB (.mk 5 n a b l i))):=by
 rcases h0:partB (.mk 5 n a b l i) with _ | _
 ·exact Vl9 n a b l i v w e hs d c h0
 ·exact Vl8 n a b l i v w e hs d c h0
theorem Vm0 (n a b:Int) (l:List (List Int)) (i:List Mat) (v:Value) (w:World) (B:MatV w w.heap.size v (.mk 6 n a b l i)) (hs:Sml (.mk 6 n a b l i)) (y:0<l.length) (G:0<i.length) (z:partB (.mk 6 n a b l i)=true):Calls Tryz.prog 105 #[v] w (Says w (fitsB (.mk 6 n a b l i))):=by
 have X:(l.getD 0 []).length≤1000:=sml_r hs (Y6_ l 0 [] y);obtain ⟨lv,iv,Z,V,U⟩:=B.open;rw [show fitsB (.mk 6 n a b l i)=decide (IntKind.i64.wrap (n+((l.getD 0 []).length:Int))=(i.getD 0 default).n) from by show (partB (.mk 6 n a b l i) && decide (IntKind.i64.wrap (n+((l.getD 0 []).length:Int))=(i.getD 0 default).n))=_;rw [z];rfl];have d:Hid (Below w.heap.size w (w.alloc (.cells #[.int .i64 6,.int .i64 n,.int .i64 a,.int .i64 b,lv,iv] 25))):=(Below.refl _ w).alloc (le_refl _) _;have s:=hid (B.up d.out);obtain ⟨Al,cl,rfl,_,I⟩:=V;obtain ⟨Ai,m,rfl,_,H⟩:=U;obtain rfl:=Z;simp only [Mat.t,Mat.n,Mat.a,Mat.b,Mat.l,Mat.i] at *
 obtain ⟨k,u0,hA,E,u,K⟩:=I 0 y;subst hA;obtain ⟨h,ui,hA,F,L,J⟩:=H 0 G;subst hA;rw [add_zero] at u;rw [show (0:Nat) * 6=0 from rfl,add_zero] at L;obtain ⟨xa,x9,N,_,_⟩:=J.open;obtain ⟨x0,x1,x2,x3,x4,x5,g,s0,O,_⟩:=L;rw [N] at g;injection g with g;injection g with g;injection g with _ g;injection g with hx1 _;subst hx1;generalize l.getD 0 []=r at *
 generalize i.getD 0 default=x at *
 obtain ⟨Ar,cr,Y,_⟩:=id K;have o:=hid (K6_ (w:=w) (t := 25) (cs:=#[.int .i64 6,.int .i64 n,.int .i64 a,.int .i64 b,.slice (some k) l.length cl,.slice (some h) i.length m]));have C:=hid (V6_ ((d.out.cell (p:=k) E).trans u) (Nat.lt_of_lt_of_le E d.out.size));have D:=hid (V6_ ((d.out.cell (p:=⟨h.block,h.off+1,none⟩) F).trans O) (show h.block<_ from Nat.lt_of_lt_of_le F d.out.size));have x7:(0:Int)<(l.length:Int):=x37_;have x6:(0:Int)<(i.length:Int):=x37_;have x8:(r.length:Int)≤1000:=x37_;obtain ⟨c,hW0⟩:∃ c,c=w.alloc (.cells #[.int .i64 6,.int .i64 n,.int .i64 a,.int .i64 b,.slice (some k) l.length cl,.slice (some h) i.length m] 25):=⟨_,rfl⟩;have M:c.heap.size=w.heap.size+1:=x39_;have P:=hid hW0;have R:=(Blk.new w 25 #[.int .i64 6,.int .i64 n,.int .i64 a,.int .i64 b,.slice (some k) l.length cl,.slice (some h) i.length m]).cell 0;rw [← hW0] at d o s C D R;rw [← M] at o;have Q:Hid (∀ W,Below c.heap.size c W→Calls Tryz.prog 125 #[.agg #[.int .i64 6,.int .i64 n,.int .i64 a,.int .i64 b,.slice (some k) l.length cl,.slice (some h) i.length m]] W fun e w'=>e=.returned (.bool true)∧Below c.heap.size c w'):=fun W j =>
  (U3_ (.mk 6 n a b l i) _ W (s.out.up j) hs y G).mono fun _ _ ⟨S,h3⟩=>⟨by rw [S,z],Z0_ j (le_refl _) h3⟩
 subst Y;clear B I H K u z M s s0 O J N X
 go_enter Tryz.func105,Tryz.ntmps105
 go_wp2;rw [← P.out];clear hW0;refine Z6_ c.heap.size c y37_ y37_ (Below.refl _ _) ?_
 iterate 19 (first
   | go_big_quiet_step (with_reducible exact Q.out _)
   | (go_big_quiet_want;apply Exists.intro;refine ⟨fun W j=>?_,?_⟩;(· have q:=o.out W j;have q0:=q 0;have q1:=q 1;have q2:=q 2;have q3:=q 3;have q4:=q 4;have q5:=q 5;clear q;have r0:=C.out W j;have r1:=D.out W j;go_simp;first | exact rfl | exact ⟨rfl,rfl⟩);go_simp;go_big_quiet_on))
 refine wpQuiet_nil ?_;intro w5 T;go_wp2;go_ret;exact ⟨by rw [Ym3];rfl,d.out.trans (T.mono d.out.size)⟩
theorem Vm1 (n a b:Int) (l:List (List Int)) (i:List Mat) (v:Value) (w:World) (z:MatV w w.heap.size v (.mk 6 n a b l i)) (hs:Sml (.mk 6 n a b l i)) (u:0<l.length) (F:0<i.length) (y:partB (.mk 6 n a b l i)=false):Calls Tryz.prog 105 #[v] w (Says w (fitsB (.mk 6 n a b l i))):=by
 have U:(l.getD 0 []).length≤1000:=sml_r hs (Y6_ l 0 [] u);obtain ⟨Z,Y,X,T,S⟩:=z.open;rw [show fitsB (.mk 6 n a b l i)=false from by show (partB (.mk 6 n a b l i) && decide (IntKind.i64.wrap (n+((l.getD 0 []).length:Int))=(i.getD 0 default).n))=_;rw [y];rfl];have Hb0:Hid (Below w.heap.size w (w.alloc (.cells #[.int .i64 6,.int .i64 n,.int .i64 a,.int .i64 b,Z,Y] 25))):=(Below.refl _ w).alloc (le_refl _) _;have o:=hid (z.up Hb0.out);obtain ⟨Al,cl,rfl,_,H⟩:=T;obtain ⟨Ai,k,rfl,_,G⟩:=S;obtain rfl:=X;simp only [Mat.t,Mat.n,Mat.a,Mat.b,Mat.l,Mat.i] at *
 obtain ⟨j,u0,hA,D,s,J⟩:=H 0 u;subst hA;obtain ⟨g,ui,hA,E,K,I⟩:=G 0 F;subst hA;rw [add_zero] at s;rw [show (0:Nat) * 6=0 from rfl,add_zero] at K;obtain ⟨xa,x9,M,_,_⟩:=I.open;obtain ⟨x0,x1,x2,x3,x4,x5,d,s0,N,_⟩:=K;rw [M] at d;injection d with d;injection d with d;injection d with _ d;injection d with hx1 _;subst hx1;generalize l.getD 0 []=r at *
 generalize i.getD 0 default=x at *
 obtain ⟨Ar,cr,V,_⟩:=id J;have m:=hid (K6_ (w:=w) (t := 25) (cs:=#[.int .i64 6,.int .i64 n,.int .i64 a,.int .i64 b,.slice (some j) l.length cl,.slice (some g) i.length k]));have B:=hid (V6_ ((Hb0.out.cell (p:=j) D).trans s) (Nat.lt_of_lt_of_le D Hb0.out.size));have C:=hid (V6_ ((Hb0.out.cell (p:=⟨g.block,g.off+1,none⟩) E).trans N) (show g.block<_ from Nat.lt_of_lt_of_le E Hb0.out.size));have x7:(0:Int)<(l.length:Int):=x37_;have x6:(0:Int)<(i.length:Int):=x37_;have x8:(r.length:Int)≤1000:=x37_;obtain ⟨c,hW0⟩:∃ c,c=w.alloc (.cells #[.int .i64 6,.int .i64 n,.int .i64 a,.int .i64 b,.slice (some j) l.length cl,.slice (some g) i.length k] 25):=⟨_,rfl⟩;have L:c.heap.size=w.heap.size+1:=x39_;have O:=hid hW0;have Q:=(Blk.new w 25 #[.int .i64 6,.int .i64 n,.int .i64 a,.int .i64 b,.slice (some j) l.length cl,.slice (some g) i.length k]).cell 0;rw [← hW0] at Hb0 m o B C Q;rw [← L] at m;have P:Hid (∀ W,Below c.heap.size c W→Calls Tryz.prog 125 #[.agg #[.int .i64 6,.int .i64 n,.int .i64 a,.int .i64 b,.slice (some j) l.length cl,.slice (some g) i.length k]] W fun e w'=>e=.returned (.bool false)∧Below c.heap.size c w'):=fun W h =>
  (U3_ (.mk 6 n a b l i) _ W (o.out.up h) hs u F).mono fun _ _ ⟨R,h3⟩=>⟨by rw [R,y],Z0_ h (le_refl _) h3⟩
 subst V;clear z H G J s y L o s0 N I M U
 go_enter Tryz.func105,Tryz.ntmps105
 go_wp2;rw [← O.out];clear hW0;refine Z6_ c.heap.size c y37_ y37_ (Below.refl _ _) ?_
 iterate 19 (first
   | go_big_quiet_step (with_reducible exact P.out _)
   | (go_big_quiet_want;apply Exists.intro;refine ⟨fun W h=>?_,?_⟩;(· have q:=m.out W h;have q0:=q 0;have q1:=q 1;have q2:=q 2;have q3:=q 3;have q4:=q 4;have q5:=q 5;clear q;have r0:=B.out W h;have r1:=C.out W h;go_simp;first | exact rfl | exact ⟨rfl,rfl⟩);go_simp;go_big_quiet_on))
 exact z2_
theorem Jy1 (n a b:Int) (l:List (List Int)) (i:List Mat) (v:Value) (w:World) (e:MatV w w.heap.size v (.mk 6 n a b l i)) (hs:Sml (.mk 6 n a b l i)) (d:0<l.length) (c:0<i.length):Calls Tryz.prog 105 #[v] w (Says w (fitsB (.mk 6 n a b l i))):=by
 rcases h0:partB (.mk 6 n a b l i) with _ | _
 ·exact Vm1 n a b l i v w e hs d c h0
 ·exact Vm0 n a b l i v w e hs d c h0
open Go.RowKit
theorem Xf0 (m:Mat) (v:Value) (w:World) (c:MatV w w.heap.size v m) (hs:Sml m) (q:Met w) (p:0≤m.t∧m.t<10) (e:0≤m.n∧m.n≤64∧0≤m.a∧m.a≤64) (h3:Z7_ (form m.t) m=true) :
  Calls Tryz.prog 105 #[v] w (Says w (fitsB m)):=by
 obtain ⟨_,_,d,g,_⟩:=takes_iff.1 h3;have j:=sml_l hs;obtain ⟨t,n,a,b,l,i⟩:=m;simp only [Mat.t,Mat.n,Mat.a,Mat.l,Mat.i] at p e d g j;rcases (by omega:t=0∨t=1∨t=2∨t=3∨t=4∨t=5∨t=6∨7≤t) with rfl | rfl | rfl | rfl | rfl | rfl | rfl | h
 ·exact Jz5 n a b l i v w c
 ·exact Jz6 n a b l i v w c j
 ·have:(l.length:Int)=2:=d
  exact Jz9 n a b l i v w c x37_ e.2.1 e.2.2.2
 ·exact Jz7 n a b l i v w c
 ·exact Jz8 n a b l i v w c q
 ·have k:(l.length:Int)=1:=d
  have o:(1:Int)≤(i.length:Int):=g;exact Jy0 n a b l i v w c hs x37_ x37_
 ·have k:(l.length:Int)=1:=d
  have o:(1:Int)≤(i.length:Int):=g;exact Jy1 n a b l i v w c hs x37_ x37_
 ·exact Zg6 _ v w c hs h
def badV (E:Nat→Addr):Nat→Value
 | 0=>.nilIface
 | k+1=>eS (E (k+1))
theorem Xf1 {m:Mat} (h:m.t<0∨10≤m.t):bad m=1:=if_pos h
theorem Vm2 {m:Mat} (h:¬ (m.t<0∨10≤m.t)) (c:m.n<0∨64<m.n∨m.a<0∨64<m.a):bad m=2:=by
 unfold bad;rw [if_neg h,if_pos c]
theorem Xf2 {m:Mat} (h:¬ (m.t<0∨10≤m.t)) (c:¬ (m.n<0∨64<m.n∨m.a<0∨64<m.a)) (h3:Z7_ (form m.t) m=false):bad m=3:=by
 unfold bad;rw [if_neg h,if_neg c,if_pos h3]
theorem Vz7 {m:Mat} (h:¬ (m.t<0∨10≤m.t)) (c:¬ (m.n<0∨64<m.n∨m.a<0∨64<m.a)) (h3:Z7_ (form m.t) m=true):bad m=if fitsB m=false then 4 else 0:=by
 unfold bad;rw [if_neg h,if_neg c,if_neg (by rw [h3];decide)]
theorem Zi6 (E:Nat→Addr) (m:Mat) (v:Value) (w:World) (g:MatV w w.heap.size v m) (d:Env E w) (h:(m.t<0∨10≤m.t)∨(m.n<0∨64<m.n∨m.a<0∨64<m.a)) :
  Calls Tryz.prog 77 #[v] w (fun e w'=>e=.returned (badV E (bad m))∧Below w.heap.size w w'):=by
 obtain ⟨p,o,rfl,_,_⟩:=g.open;have Hb0:=hid (Z1_ w m p o);have c:=d.up Hb0.out;have x:=c.g1;have y:=c.g2;unfold boxed eS at *
 clear d c g;by_cases j:m.t<0
 ·rw [Xf1 (.inl j)]
  exact x30_
 by_cases k:10≤m.t
 ·rw [Xf1 (.inr k)]
  exact x30_
 rw [Vm2 x37_ x37_];by_cases q:m.n<0
 ·exact x30_
 by_cases r:64<m.n
 ·exact x30_
 by_cases s:m.a<0
 ·exact x30_
 have u:64<m.a:=x37_;clear h
 go_enter Tryz.func77,Tryz.ntmps77
 go_wp2;go_ret;exact ⟨rfl,Hb0.out⟩
open Go.RowKit
def Bad (E:Nat→Addr) (k:Nat) (w:World) (e:Ending) (w':World):Prop:=e=.returned (badV E k)∧Below w.heap.size w w'
theorem Xf3 (E:Nat→Addr) (m:Mat) (v:Value) (w:World) (d:MatV w w.heap.size v m) (hs:Sml m) (r:Env E w) (o:¬ (m.t<0∨10≤m.t)) (h2:¬ (m.n<0∨64<m.n∨m.a<0∨64<m.a)) :
  Calls Tryz.prog 77 #[v] w (Bad E (bad m) w):=by
 have y:=hid (fun (v:Value) (W:World) (d:MatV W W.heap.size v m) (r:Env E W) (h3:Z7_ (form m.t) m=true)=>Xf0 m v W d hs r.tab x37_ x37_ h3);have Htakes:=hid (fun (v:Value) (W:World) (d:MatV W W.heap.size v m)=>Xd9 (form m.t) m v W d hs);have B:=hid d;have u:∀ b,Z7_ (form m.t) m=b→bad m=if b=false then 3 else if fitsB m=false then 4 else 0:=by
  intro b hb;cases b
  ·exact Xf2 o h2 hb
  ·exact Vz7 o h2 hb
 have s:=hid u;clear hs u;obtain ⟨lv,iv,z,_,_⟩:=d.open;have Hb0:=hid (Z1_ w m lv iv);have HE:=hid (r.up Hb0.out);have Hv:=hid (d.up Hb0.out);have Hbox:=hid (K6_ (w:=w) (t := 25) (cs:=#[.int .i64 m.t,.int .i64 m.n,.int .i64 m.a,.int .i64 m.b,lv,iv]));have k:=(Blk.new w 25 #[.int .i64 m.t,.int .i64 m.n,.int .i64 m.a,.int .i64 m.b,lv,iv]).cell;unfold boxed at *
 obtain ⟨W0,hW0⟩:∃ W0,W0=w.alloc (.cells #[.int .i64 m.t,.int .i64 m.n,.int .i64 m.a,.int .i64 m.b,lv,iv] 25):=⟨_,rfl⟩;have x:W0.heap.size=w.heap.size+1:=x39_;have HW0:=hid hW0;rw [← hW0] at Hb0 Hbox HE Hv k;rw [← x] at Hbox;have g0:=k 0;have g1:=k 1;have g2:=k 2;obtain ⟨T,j⟩:∃ T:Nat,m.t=(T:Int):=⟨m.t.toNat,x37_⟩;have p:T<10:=x37_;have C:(T:Int)<10:=x37_;have a1:¬ m.t<0:=x37_;have a2:¬ 10≤m.t:=x37_;have a3:¬ m.n<0:=x37_;have a4:¬ 64<m.n:=x37_;have a5:¬ m.a<0:=x37_;have a6:¬ 64<m.a:=x37_;have Hf:Hid (∀ W,Below W0.heap.size W0 W→(W.cell? ⟨4,T * 5,none⟩=some (.bool (form m.t).fa)∧W.cell? ⟨4,T * 5+1,none⟩=some (.bool (form m.t).fb)∧W.cell? ⟨4,T * 5+2,none⟩=some (.int .i64 (form m.t).lists)∧W.cell? ⟨4,T * 5+3,none⟩=some (.int .i64 (form m.t).least)∧W.cell? ⟨4,T * 5+4,none⟩=some (.int .i64 (form m.t).most))):=fun W hW=>by
  have h:=HE.out.up hW;rw [j];exact ⟨h.f0 T p,h.f1 T p,h.f2 T p,h.f3 T p,h.f4 T p⟩
 have Hmt:=hid j;clear r d k x o h2;generalize form m.t=f at *
 rw [j] at g0 a1 a2 Hbox;subst z;rw [j] at Hv;rw [j];have D:IntKind.i64.wrap ((T:Int) * 5)=(T:Int) * 5:=x38_;clear j;rcases hb:Z7_ f m with _ | _
 ·rw [s.out false hb,if_pos rfl]
  have Hb:=hid hb;have Hc:Hid (∀ W,Below W0.heap.size W0 W→Calls Tryz.prog 104 #[.agg #[.bool f.fa,.bool f.fb,.int .i64 f.lists,.int .i64 f.least,.int .i64 f.most],.agg #[.int .i64 (T:Int),.int .i64 m.n,.int .i64 m.a,.int .i64 m.b,lv,iv]] W fun e w'=>e=.returned (.bool false)∧Below W0.heap.size W0 w'):=fun W hW =>
   (show Calls _ _ #[formV f,_] W _ from (Htakes.out _ W (Hv.out.up hW)).mono fun _ _ ⟨h2,h3⟩=>⟨by rw [h2,Hb.out],Z0_ hW (le_refl _) h3⟩)
  clear hb
  go_enter Tryz.func77,Tryz.ntmps77
  go_wp2;rw [← Hmt.out,← HW0.out,Hmt.out];clear hW0 g0 g1 g2 a1 a2 a3 a4 a5 a6;refine Z6_ W0.heap.size W0 y37_ y37_ (Below.refl _ _) ?_
  iterate 8 (first
   | go_big_quiet_step (with_reducible exact Hc.out _)
   | (go_big_quiet_want;apply Exists.intro;refine ⟨fun W hW=>?_,?_⟩;(· have q:=Hbox.out W hW;have q0:=q 0;have q1:=q 1;have q2:=q 2;have q3:=q 3;have q4:=q 4;have q5:=q 5;clear q;obtain ⟨f0,f1,f2,f3,f4⟩:=Hf.out W hW;go_simp;first | exact rfl | exact ⟨rfl,rfl⟩);go_simp;go_big_quiet_on))
  refine wpQuiet_nil ?_;intro w5 hB5;have gE:=(HE.out.up hB5).g3;have Hb5:=hid (Hb0.out.trans (hB5.mono Hb0.out.size));unfold eS at gE;clear hB5;go_wp2;go_ret;exact ⟨rfl,Hb5.out⟩
 ·rw [s.out true hb,if_neg q38_]
  have Hfits':Hid (∀ W,MatV W W.heap.size (.agg #[.int .i64 (T:Int),.int .i64 m.n,.int .i64 m.a,.int .i64 m.b,lv,iv]) m→Env E W→Calls Tryz.prog 105 #[.agg #[.int .i64 (T:Int),.int .i64 m.n,.int .i64 m.a,.int .i64 m.b,lv,iv]] W (Says W (fitsB m))):=fun W o h2=>y.out _ W o h2 hb;generalize fitsB m=c at *
  cases c
  ·rw [if_pos rfl]
   exact z1_
  ·rw [if_neg q38_]
   exact z1_
theorem Zi7 (E:Nat→Addr) (m:Mat) (v:Value) (w:World) (d:MatV w w.heap.size v m) (hs:Sml m) (c:Env E w):Calls Tryz.prog 77 #[v] w (Bad E (bad m) w):=by
 by_cases e:m.t<0∨10≤m.t
 ·exact Zi6 E m v w d c (.inl e)
 ·by_cases g:m.n<0∨64<m.n∨m.a<0∨64<m.a
  ·exact Zi6 E m v w d c (.inr g)
  ·exact Xf3 E m v w d hs c e g
open Go.RowKit
def Ym7 (E:Nat→Addr) (w:World) (b:Bool) (e:Ending) (w':World):Prop :=
 (b=true∧e=.returned .nilIface∨b=false∧∃ t ts j,1≤j∧j≤4∧e=.returned (chain (t :: ts) (eS (E j))))∧Below w.heap.size w w'
theorem Yu9 {E:Nat→Addr} {w w':World} {b:Bool} (h:b=true) (hb:Below w.heap.size w w'):Ym7 E w b (.returned .nilIface) w':=⟨.inl ⟨h,rfl⟩,hb⟩
theorem U4_ {E:Nat→Addr} {w w':World} {b:Bool} {t:Int} {ts:List Int} {j:Nat} {v:Value} (h:b=false) (c:1≤j∧j≤4) (d:v=chain (t :: ts) (eS (E j))) (hb:Below w.heap.size w w'):Ym7 E w b (.returned v) w':=⟨.inr ⟨h,t,ts,j,c.1,c.2,by rw [d]⟩,hb⟩
def Mid (E:Nat→Addr) (k:Nat) (i:List Mat) (n:Nat) (ve:Value):Prop :=
 (ve=.nilIface∧∀ j,j<n→ok k (i.getD j default)=true)∨∃ t ts j,1≤j∧j≤4∧ve=chain (t :: ts) (eS (E j))∧i.all (ok k)=false
theorem Jy2 {k j:Nat} {i:List Mat} (c:j<i.length) (h:ok k (i.getD j default)=false):i.all (ok k)=false:=by
 rw [← Bool.not_eq_true,List.all_eq_true];intro e;rw [e _ (Y6_ i j default c)] at h;cases h
theorem Vm3 {k:Nat} {i:List Mat} (h:∀ j,j<i.length→ok k (i.getD j default)=true):i.all (ok k)=true:=by
 rw [List.all_eq_true];intro x d;obtain ⟨j,c,rfl⟩:=List.mem_iff_getElem.1 d;have:=h j c
 rwa [show i.getD j default=i[j] by simp [List.getD,c]] at this
theorem ok_is {k:Nat} {m:Mat}:ok (k+1) m=(decide (bad m=0) && m.i.all (ok k)):=rfl
theorem Jy3 (m:Mat):bad m≤4:=by
 unfold bad;split
 ·omega
 split
 ·omega
 split
 ·omega
 split<;>omega
theorem Vz8 (E:Nat→Addr):∀ (k:Nat) (m:Mat) (v:Value) (w:World),MatV w w.heap.size v m→Sml m→Env E w→dp k m≤k→Calls Tryz.prog 45 #[v] w (Ym7 E w (ok k m)):=by
 intro k
 induction k with
 | zero=>intro m v w _ _ _ h;exact absurd h (by have:=Zb7 0 m;omega)
 | succ k ih =>
  intro m v w K hs hE hd;have I:=hid hs;have Ih:=hid ih;have xi:Hid (bad m=0→∀ j,j<m.i.length→dp k (m.i.getD j default)≤k):=fun hb j C=>by
   have hx:=Y6_ m.i j default C;have hn:nest m.t:=q28_;have:=Zj6 (k:=k) hn hx;omega
  have xp:=Zv0 hs;have xw:(m.i.length:Int)≤1000:=x37_;obtain ⟨L,iv,xu,_,hi⟩:=K.open;obtain ⟨D,J,xr,_,x9⟩:=hi;subst xr;have xj:=hid x9;have s:=hid (Z1_ w m L (.slice D m.i.length J));have F:=hid (hE.up s.out);have T:=hid (K.up s.out);have G:=hid (Z3_ w m L (.slice D m.i.length J));have x7:=Jy3 m;clear ih hs hE hd xp x9 K;subst xu;have c:=G.out.cell;have U:=c 0;have V:=c 1;have W:=c 2;have X:=c 3;have Y:=c 4;have Z:=c 5;unfold boxed at *
  rcases hb:bad m with _ | q
  ·have r:=hid hb
   have S:Hid (ok (k+1) m=m.i.all (ok k)):=by
    show _=_;rw [ok_is,hb];rfl
   clear hb x7 c
   go_enter Tryz.func45,Tryz.ntmps45
   go_wp2_with fail
   refine (Zi7 E m _ _ T.out I.out F.out).mono ?_;rintro e w1 ⟨rfl,d⟩;rw [r.out];have Hb1:=hid (Z0_ s.out (le_refl _) d);have o:=hid (G.out.below d j37_);have xf:=hid (F.out.up d);clear d U V W X Y Z;simp only [badV];go_wp2
   go_loopw [3,4] (fun ve M wr=>∃ n:Nat,M=.int .i64 n∧n≤m.i.length∧Mid E k m.i n ve∧Blk wr w.heap.size 25 #[.int .i64 m.t,.int .i64 m.n,.int .i64 m.a,.int .i64 m.b,L,.slice D m.i.length J]∧Env E wr∧Below w.heap.size w wr) (fun _ M _=>m.i.length - (intOf M).toNat)
   case atStart=>exact ⟨0,rfl,Nat.zero_le _,.inl ⟨rfl,fun j C=>absurd C (Nat.not_lt_zero _)⟩,o.out,xf.out,Hb1.out⟩
   case round =>
    obtain ⟨n,rfl,hn,xs,B,x6,x8⟩:=hrel;have R:=hid B;have O:=hid x6;have Hbr:=hid x8;have c0:=B.cell 0;have c5:=B.cell 5;clear B x6 x8;rcases xs with ⟨rfl,y⟩ | ⟨t,ts,q,hq1,hq4,rfl,xd⟩
    ·by_cases g:n<m.i.length
     ·have xa:(n:Int)<(m.i.length:Int):=by omega
      obtain ⟨ad,u,hA,hab,xe,xb⟩:=xj.out n g;subst hA;have xt:=xe.below Hbr.out j38_;have xc:=(xb.bel Hbr.out).mono Hbr.out.size;have xh:=hid (Ih.out (m.i.getD n default) u wr xc (sml_i I.out (Y6_ _ _ _ g)) O.out (xi.out r.out n g));have xg:=hid y;have Hno:=hid (fun h=>Jy2 (k:=k) g h);obtain ⟨x0,x1,x2,x3,x4,x5,rfl,s0,s1,s2,s3,s4,s5⟩:=xt;have xl:Hid (ok k (m.i.getD n default)=true→∀ j,j<n+1→ok k (m.i.getD j default)=true):=fun h j C=>by
       by_cases e:j=n
       ·rw [e];exact h
       ·exact xg.out j x37_
      clear xe xb xc y
      go_wp2_with fail
      refine (xh.out).mono ?_;rintro e w2 ⟨hh,z⟩;have P:=hid (Z0_ Hbr.out (le_refl _) z);have Q:=hid (R.out.below z (by have:=R.out.lt;exact this));have N:=hid (O.out.up z);clear z;rcases hh with ⟨p,rfl⟩ | ⟨p,t,ts,q,hq1,hq4,rfl⟩
      ·have H:=hid p
       clear p;go_wp2
       go_roundw
       case rel=>exact ⟨n+1,y38_,x37_,.inl ⟨rfl,xl.out H.out⟩,Q.out,N.out,P.out⟩
       exact mz_
      ·have H:=hid p
       clear p;have xk:Hid (Mid E k m.i (n+1) (chain (t :: ts) (eS (E q)))):=.inr ⟨t,ts,q,hq1,hq4,rfl,Hno.out H.out⟩;generalize chain (t :: ts) (eS (E q))=vv at *
       go_wp2
       go_roundw
       case rel=>exact ⟨n+1,y38_,x37_,xk.out,Q.out,N.out,P.out⟩
       exact mz_
     ·have xq:n=m.i.length:=by omega
      subst xq;have xm:=hid (S.out.trans (Vm3 y));clear y;go_wp2;go_ret;exact Yu9 xm.out Hbr.out
    ·have Hno:=hid (S.out.trans xd)
     have xv:Hid (∀ x,Value.iface 71 (.agg #[chain (t :: ts) (eS (E q)),x])=Value.iface 71 (.agg #[.iface 71 (.agg #[chain ts (eS (E q)),.int .i64 t]),x])):=fun _=>rfl;rw [show chain (t :: ts) (eS (E q))=.iface 71 (.agg #[chain ts (eS (E q)),.int .i64 t]) from rfl];clear xd;have Hend:Hid (Value.iface 71 (.agg #[.iface 71 (.agg #[chain ts (eS (E q)),.int .i64 t]),.int .i64 m.t])=chain (m.t :: t :: ts) (eS (E q))):=rfl;generalize xn:chain ts (eS (E q))=cc at *
     clear xn;by_cases g:n<m.i.length
     ·have xa:(n:Int)<(m.i.length:Int):=by omega
      exact y25_
     ·have xo:(m.i.length:Int)≤(n:Int):=by omega
      exact y25_
  ·have r:=hid hb
   have Hno:Hid (ok (k+1) m=false):=by
    show _=_;rw [ok_is,hb];rfl
   have Hq:Hid (1≤q+1∧q+1≤4):=⟨x37_,x37_⟩;clear hb x7 c
   go_enter Tryz.func45,Tryz.ntmps45
   go_wp2_with fail
   refine (Zi7 E m _ _ T.out I.out F.out).mono ?_;rintro e w1 ⟨rfl,d⟩;rw [r.out];have Hb1:=hid (Z0_ s.out (le_refl _) d);have o:=G.out.below d j37_;have c0:=o.cell 0;have c5:=o.cell 5;have Hend:Hid (Value.iface 71 (.agg #[eS (E (q+1)),.int .i64 m.t])=chain (m.t :: []) (eS (E (q+1)))):=rfl;simp only [badV];unfold eS at *
   clear d U V W X Y Z o;by_cases g:0<m.i.length
   ·have xa:(0:Int)<(m.i.length:Int):=by omega
    exact x17_
   ·have xo:(m.i.length:Int)≤0:=by omega
    exact x17_
theorem Zd1 (m:Mat) (v:Value) (w:World) (d:MatV w w.heap.size v m) (hs:Sml m):Calls Tryz.prog 43 #[v] w (Tells w (deepI m)):=by
 obtain ⟨h,g,k,_,_⟩:=d.open;have Hb0:=hid (Z1_ w m h g);have j:=hid (d.up Hb0.out);have c:=(Z3_ w m h g).cell;have o:=c 0;have p:=c 1;have q:=c 2;have r:=c 3;have s:=c 4;have u:=c 5;subst k;clear d c;unfold boxed at *
 unfold deepI
 go_enter Tryz.func43,Tryz.ntmps43
 go_wp2_with fail
 refine (Xw1 4 m _ _ 5 rfl x37_ j.out hs).mono ?_;exact k36_
theorem B3_ (E:Nat→Addr) (m:Mat) (v:Value) (w:World) (N:MatV w w.heap.size v m) (hs:Sml m) (T:Env E w):Calls Tryz.prog 25 #[v] w (Tells w (chk m)):=by
 obtain ⟨z,y,x2,_,_⟩:=N.open;have q:=hid (Z1_ w m z y);have s:=hid (N.up q.out);have B:=hid (T.up q.out);have u:=hid (Z3_ w m z y);have o:=u.out.cell;have H:=o 0;have I:=o 1;have J:=o 2;have K:=o 3;have L:=o 4;have M:=o 5;subst x2;clear N T o;unfold boxed at *
 have Z:=dp_le 4 m;by_cases x:dp 4 m=5
 ·rw [show chk m=91 from if_pos x]
  have hd:deepI m=5:=by unfold deepI;omega
  have Hd:=hid hd;clear x Z hd
  go_enter Tryz.func25,Tryz.ntmps25
  go_wp2_with fail
  refine (Zd1 m _ _ s.out hs).mono ?_;rintro e w1 ⟨rfl,d⟩;rw [Hd.out];have r:=hid (Z0_ q.out (le_refl _) d);have k:=hid (B.out.up d);have c:=u.out.below d j37_;have R:=c.cell 0;have e0:=k.out.g0;unfold eS at e0;clear d H I J K L M c
  go_wp2_with fail
  refine (Xd3 E m.t _ k.out).mono ?_;rintro e O ⟨rfl,g⟩;have Hb2:=hid (Z0_ r.out (le_refl _) g);clear g;exact y2_
 ·have hd:deepI m≤4:=by unfold deepI;omega
  have V:dp 4 m≤4:=x37_;have x0:=hid V;have U:chk m=if ok 4 m then 0 else 90:=by unfold chk;rw [if_neg x]
  clear x Z V;rw [U];clear U;have Q:Hid (∀ (W:World) (b:Bool),ok 4 m=b→MatV W W.heap.size (.agg #[.int .i64 m.t,.int .i64 m.n,.int .i64 m.a,.int .i64 m.b,z,y]) m→Env E W→Calls Tryz.prog 45 #[.agg #[.int .i64 m.t,.int .i64 m.n,.int .i64 m.a,.int .i64 m.b,z,y]] W (Ym7 E W b)):=fun W b h h1 h2=>by
   subst h;exact Vz8 E 4 m _ W h1 hs h2 x0.out
  generalize S:deepI m=D at *
  have P:=hid S;clear S;rcases hok:ok 4 m with _ | _
  ·have F:=hid hok
   clear hok;rw [if_neg q38_]
   go_enter Tryz.func25,Tryz.ntmps25
   go_wp2_with fail
   refine (Zd1 m _ _ s.out hs).mono ?_;rintro e w1 ⟨rfl,d⟩;rw [P.out];have r:=hid (Z0_ q.out (le_refl _) d);have k:=hid (B.out.up d);have G:=hid (s.out.up d);have c:=u.out.below d j37_;have R:=c.cell 0;have c1:=c.cell 1;have c2:=c.cell 2;have c3:=c.cell 3;have c4:=c.cell 4;have c5:=c.cell 5;clear d H I J K L M c
   go_wp2_with fail
   refine (Q.out _ false F.out G.out k.out).mono ?_;rintro e O ⟨p,g⟩;rcases p with ⟨p,_⟩ | ⟨_,t,ts,j,X,Y,rfl⟩
   ·cases p
   have Hb2:=hid (Z0_ r.out (le_refl _) g);have C:=hid (k.out.up g);have Hj:=hid (⟨X,Y⟩:1≤j∧j≤4);have x1:=hid (Xu9 E t ts j Hj.out O C.out);clear g X Y;generalize chain (t :: ts) (eS (E j))=vv at *
   go_wp2_with fail
   refine (x1.out).mono ?_;exact z4_
  ·have F:=hid hok
   clear hok;rw [if_pos rfl]
   go_enter Tryz.func25,Tryz.ntmps25
   go_wp2_with fail
   refine (Zd1 m _ _ s.out hs).mono ?_;rintro e w1 ⟨rfl,d⟩;rw [P.out];have r:=hid (Z0_ q.out (le_refl _) d);have k:=hid (B.out.up d);have G:=hid (s.out.up d);have c:=u.out.below d j37_;have R:=c.cell 0;have c1:=c.cell 1;have c2:=c.cell 2;have c3:=c.cell 3;have c4:=c.cell 4;have c5:=c.cell 5;clear d H I J K L M c
   go_wp2_with fail
   refine (Q.out _ true F.out G.out k.out).mono ?_;rintro e O ⟨p,g⟩;rcases p with ⟨_,rfl⟩ | ⟨p,_⟩;rotate_left
   ·cases p
   have Hb2:=hid (Z0_ r.out (le_refl _) g);have C:=hid (k.out.up g);clear g
   go_wp2_with fail
   refine (Xu8 E _ C.out).mono ?_;exact z4_
open Go.RowKit
def G1_ (m:Mat):Bool :=
 if 0<m.i.length∨(m.t≠4∧m.b≠0) then false
 else if m.t=0 then decide (m.a≤m.n) && decide (m.l.length=0)
 else if m.t=1 then !m.l.any (edgeB m.a) && decide (1≤m.a) && decide ((m.l.length:Int)=m.n)
 else if m.t=2 then decide (m.l.length=2) && numsB (row m 0) m.n m.a && numsB (row m 1) m.a 65
 else if m.t=3 then decide ((m.l.length:Int)=m.n) && mayM m.a m.l
 else if m.t=4 then decide ((m.l.length:Int)=m.n) && elimB m.b m.a m.l else false
theorem Xf4 {m:Mat} (o:0≤m.n∧m.n≤64∧0≤m.a∧m.a≤64) (q:¬ nest m.t):G1_ m=decide (bad m=0):=by
 have e:(bad m=0)↔(0≤m.t∧m.t<10)∧Z7_ (form m.t) m=true∧fitsB m=true:=by
  constructor
  ·intro h;have:=V2_ h;exact ⟨this.1,this.2.2⟩
  ·rintro ⟨k,h3,p⟩;exact Ve1 k o h3 p
 rw [Bool.eq_iff_iff,decide_eq_true_iff,e,takes_iff];obtain ⟨t,n,a,b,l,i⟩:=m;unfold nest at q;unfold G1_;simp only [Mat.t,Mat.n,Mat.a,Mat.b,Mat.l,Mat.i] at *
 by_cases c:t=0
 ·subst c;simp [form,fitsB,Mat.t,Mat.n,Mat.a];grind
 by_cases d:t=1
 ·subst d;simp [form,fitsB,Mat.t,Mat.a,Mat.l];grind
 by_cases f:t=2
 ·subst f;simp [form,fitsB,Mat.t,Mat.n,Mat.a];grind
 by_cases g:t=3
 ·subst g;simp [form,fitsB,Mat.t,Mat.a,Mat.l];grind
 by_cases j:t=4
 ·subst j;simp [form,fitsB,Mat.t,Mat.a,Mat.b,Mat.l];grind
 ·simp [c,d,f,g,j];omega
theorem Yy4 (m:Mat) (v:Value) (w:World) (d:MatV w w.heap.size v m) (h:0<m.i.length):Calls Tryz.prog 78 #[v] w (Says w false):=by
 obtain ⟨e,q,rfl,_,⟨A,c,rfl,_⟩⟩:=d.open;have Hb0:=hid (Z1_ w m e (.slice A m.i.length c));have g:=(Z3_ w m e (.slice A m.i.length c)).cell;have j:=g 0;have k:=g 3;have o:=g 5;have p:(0:Int)<(m.i.length:Int):=x37_;clear d g;unfold boxed at *
 exact z29_
theorem Vz9 (m:Mat) (v:Value) (w:World) (d:MatV w w.heap.size v m) (h:m.i.length=0) (j:m.t≠4) (hb:m.b≠0):Calls Tryz.prog 78 #[v] w (Says w false):=by
 obtain ⟨e,s,rfl,_,⟨A,c,rfl,_⟩⟩:=d.open;rw [h];have Hb0:=hid (Z1_ w m e (.slice A 0 c));have g:=(Z3_ w m e (.slice A 0 c)).cell;have p:=g 0;have q:=g 3;have r:=g 5;have k:(m.t != 4)=true:=by simpa using j
 have o:(m.b != 0)=true:=by simpa using hb
 clear d g;unfold boxed at *
 exact z29_
theorem Vy0 (n a:Int) (l:List (List Int)) (v:Value) (w:World) (e:MatV w w.heap.size v (.mk 0 n a 0 l [])):Calls Tryz.prog 78 #[v] w (Says w (decide (a≤n) && decide (l.length=0))):=by
 obtain ⟨m,k,rfl,⟨g,cl,rfl,_⟩,⟨A,c,rfl,_⟩⟩:=e.open;simp only [Mat.t,Mat.n,Mat.a,Mat.b,Mat.l,Mat.i,List.length_nil];have Hb0:Hid (Below w.heap.size w (w.alloc (.cells #[.int .i64 0,.int .i64 n,.int .i64 a,.int .i64 0,.slice g l.length cl,.slice A 0 c] 25))):=(Below.refl _ w).alloc (le_refl _) _;clear e;by_cases d:a≤n
 ·rw [decide_eq_true d,Bool.true_and]
  go_enter Tryz.func78,Tryz.ntmps78
  go_wp2;go_ret;refine ⟨?_,Hb0.out⟩;by_cases h:l.length=0<;>simp [h]
 ·rw [decide_eq_false d,Bool.false_and]
  have j:n<a:=x37_;exact z29_
theorem Vy1 (n a:Int) (l:List (List Int)) (v:Value) (w:World) (d:MatV w w.heap.size v (.mk 3 n a 0 l [])):Calls Tryz.prog 78 #[v] w (Says w (decide ((l.length:Int)=n) && mayM a l)):=by
 obtain ⟨h,k,rfl,hl,⟨A,c,rfl,_⟩⟩:=d.open;simp only [Mat.t,Mat.n,Mat.a,Mat.b,Mat.l,Mat.i,List.length_nil] at *
 have Hb0:Hid (Below w.heap.size w (w.alloc (.cells #[.int .i64 3,.int .i64 n,.int .i64 a,.int .i64 0,h,.slice A 0 c] 25))):=(Below.refl _ w).alloc (le_refl _) _;have g:=hid (hl.up Hb0.out);generalize hc:mayM a l=r;have Hcc:Hid (mayM a l=r):=hc;obtain ⟨j,cl,rfl,_⟩:=hl;clear d hc;by_cases h1:(l.length:Int)=n
 ·rw [decide_eq_true h1,Bool.true_and]
  have h1':((l.length:Int)==n)=true:=by simp [h1]
  go_enter Tryz.func78,Tryz.ntmps78
  go_wp2_with fail
  refine (Xe9 a _ l _ g.out).mono ?_;exact k35_
 ·exact q36_
theorem Vy2 (n a b:Int) (l:List (List Int)) (v:Value) (w:World) (d:MatV w w.heap.size v (.mk 4 n a b l [])):Calls Tryz.prog 78 #[v] w (Says w (decide ((l.length:Int)=n) && elimB b a l)):=by
 obtain ⟨h,k,rfl,hl,⟨A,c,rfl,_⟩⟩:=d.open;simp only [Mat.t,Mat.n,Mat.a,Mat.b,Mat.l,Mat.i,List.length_nil] at *
 have Hb0:Hid (Below w.heap.size w (w.alloc (.cells #[.int .i64 4,.int .i64 n,.int .i64 a,.int .i64 b,h,.slice A 0 c] 25))):=(Below.refl _ w).alloc (le_refl _) _;have g:=hid (hl.up Hb0.out);generalize hc:elimB b a l=r;have Hcc:Hid (elimB b a l=r):=hc;obtain ⟨j,cl,rfl,_⟩:=hl;clear d hc;by_cases h1:(l.length:Int)=n
 ·rw [decide_eq_true h1,Bool.true_and]
  have h1':((l.length:Int)==n)=true:=by simp [h1]
  go_enter Tryz.func78,Tryz.ntmps78
  go_wp2_with fail
  refine (Zd0 b a _ l _ g.out).mono ?_;exact k35_
 ·exact q36_
theorem Yw0 (t n a:Int) (l:List (List Int)) (v:Value) (w:World) (h:t<0∨4<t) (d:MatV w w.heap.size v (.mk t n a 0 l [])):Calls Tryz.prog 78 #[v] w (Says w false):=by
 obtain ⟨e,p,rfl,_,⟨A,c,rfl,_⟩⟩:=d.open;simp only [Mat.t,Mat.n,Mat.a,Mat.b,Mat.l,Mat.i,List.length_nil] at *
 have Hb0:Hid (Below w.heap.size w (w.alloc (.cells #[.int .i64 t,.int .i64 n,.int .i64 a,.int .i64 0,e,.slice A 0 c] 25))):=(Below.refl _ w).alloc (le_refl _) _;have g:(t==0)=false:=k37_;have j:(t==1)=false:=k37_;have k:(t==2)=false:=k37_;have m:(t==3)=false:=k37_;have o:(t==4)=false:=k37_;have q:(t != 4)=true:=k37_;clear d h;exact z29_
open Go.RowKit
theorem Yw1 (n a:Int) (l:List (List Int)) (v:Value) (w:World) (hv:MatV w w.heap.size v (.mk 2 n a 0 l [])) (hl2:l.length=2) (C:0≤a∧a≤64) (h0:numsB (l.getD 0 []) n a=true) (h1:numsB (l.getD 1 []) a 65=true):Calls Tryz.prog 78 #[v] w (Says w true):=by
 obtain ⟨K,J,rfl,⟨s,cl,rfl,_,hlk⟩,⟨d,g,rfl,_⟩⟩:=hv.open;simp only [Mat.t,Mat.n,Mat.a,Mat.b,Mat.l,Mat.i,List.length_nil] at *
 obtain ⟨c,k,hA,h,hc0,hr0⟩:=hlk 0 x37_;subst hA;obtain ⟨y,m,r,_,hc1,hr1⟩:=hlk 1 x37_;obtain rfl:=Option.some.inj r;rw [add_zero] at hc0;generalize l.getD 0 []=r0 at *
 generalize l.getD 1 []=r1 at *
 obtain ⟨u,z,hu0,_⟩:=id hr0;obtain ⟨x,B,hu1,_⟩:=id hr1;have Hb0:Hid (Below w.heap.size w (w.alloc (.cells #[.int .i64 2,.int .i64 n,.int .i64 a,.int .i64 0,.slice (some c) l.length cl,.slice d 0 g] 25))):=(Below.refl _ w).alloc (le_refl _) _;have Hbox:=hid (K6_ (w:=w) (t := 25) (cs:=#[.int .i64 2,.int .i64 n,.int .i64 a,.int .i64 0,.slice (some c) l.length cl,.slice d 0 g]));have Hr0:=hid (hr0.up Hb0.out);have Hr1:=hid (hr1.up Hb0.out);have Hc0:=hid (V6_ ((Hb0.out.cell (p:=c) h).trans hc0) (Nat.lt_of_lt_of_le h Hb0.out.size));rw [show c.add 1=(⟨c.block,c.off+1,none⟩:Addr) by simp [Addr.add]] at hc1;have Hc1:=hid (V6_ ((Hb0.out.cell (p:=⟨c.block,c.off+1,none⟩) h).trans hc1) (show c.block<_ from Nat.lt_of_lt_of_le h Hb0.out.size));have D:((l.length:Int)==2)=true:=by simp [hl2]
 have I:IntKind.i64.wrap (a - 1)=a - 1:=x38_;have E:(1:Int)<(l.length:Int):=x37_;have F:(0:Int)<(l.length:Int):=x37_;have G:0<l.length:=x37_;have H:1<l.length:=x37_;obtain ⟨W0,hW0⟩:∃ W0,W0=w.alloc (.cells #[.int .i64 2,.int .i64 n,.int .i64 a,.int .i64 0,.slice (some c) l.length cl,.slice d 0 g] 25):=⟨_,rfl⟩;have hsz:W0.heap.size=w.heap.size+1:=x39_;have HW0:=hid hW0;have o:=(Blk.new w 25 #[.int .i64 2,.int .i64 n,.int .i64 a,.int .i64 0,.slice (some c) l.length cl,.slice d 0 g]).cell 0;rw [← hW0] at Hb0 Hbox Hr0 Hr1 Hc0 Hc1 o;rw [← hsz] at Hbox;have Hn0:Hid (∀ W,Below W0.heap.size W0 W→Calls Tryz.prog 106 #[k,.int .i64 n,.int .i64 (a - 1)] W fun e w'=>e=.returned (.bool true)∧Below W0.heap.size W0 w'):=fun W hW =>
  (B9_ n (a - 1) k r0 W (Hr0.out.up hW)).mono fun _ _ ⟨j,h3⟩=>⟨by rw [j,Int.sub_add_cancel,h0],Z0_ hW (le_refl _) h3⟩
 have Hn1:Hid (∀ W,Below W0.heap.size W0 W→Calls Tryz.prog 106 #[m,.int .i64 a,.int .i64 64] W fun e w'=>e=.returned (.bool true)∧Below W0.heap.size W0 w'):=fun W hW =>
  (B9_ a 64 m r1 W (Hr1.out.up hW)).mono fun _ _ ⟨j,h3⟩=>⟨by rw [j,show (64:Int)+1=65 from rfl,h1],Z0_ hW (le_refl _) h3⟩
 exact k28_
theorem Yw2 (n a:Int) (l:List (List Int)) (v:Value) (w:World) (hv:MatV w w.heap.size v (.mk 2 n a 0 l [])) (hl2:l.length=2) (C:0≤a∧a≤64) (h0:numsB (l.getD 0 []) n a=true) (h1:numsB (l.getD 1 []) a 65=false):Calls Tryz.prog 78 #[v] w (Says w false):=by
 obtain ⟨K,J,rfl,⟨s,cl,rfl,_,hlk⟩,⟨d,g,rfl,_⟩⟩:=hv.open;simp only [Mat.t,Mat.n,Mat.a,Mat.b,Mat.l,Mat.i,List.length_nil] at *
 obtain ⟨c,k,hA,h,hc0,hr0⟩:=hlk 0 x37_;subst hA;obtain ⟨y,m,r,_,hc1,hr1⟩:=hlk 1 x37_;obtain rfl:=Option.some.inj r;rw [add_zero] at hc0;generalize l.getD 0 []=r0 at *
 generalize l.getD 1 []=r1 at *
 obtain ⟨u,z,hu0,_⟩:=id hr0;obtain ⟨x,B,hu1,_⟩:=id hr1;have Hb0:Hid (Below w.heap.size w (w.alloc (.cells #[.int .i64 2,.int .i64 n,.int .i64 a,.int .i64 0,.slice (some c) l.length cl,.slice d 0 g] 25))):=(Below.refl _ w).alloc (le_refl _) _;have Hbox:=hid (K6_ (w:=w) (t := 25) (cs:=#[.int .i64 2,.int .i64 n,.int .i64 a,.int .i64 0,.slice (some c) l.length cl,.slice d 0 g]));have Hr0:=hid (hr0.up Hb0.out);have Hr1:=hid (hr1.up Hb0.out);have Hc0:=hid (V6_ ((Hb0.out.cell (p:=c) h).trans hc0) (Nat.lt_of_lt_of_le h Hb0.out.size));rw [show c.add 1=(⟨c.block,c.off+1,none⟩:Addr) by simp [Addr.add]] at hc1;have Hc1:=hid (V6_ ((Hb0.out.cell (p:=⟨c.block,c.off+1,none⟩) h).trans hc1) (show c.block<_ from Nat.lt_of_lt_of_le h Hb0.out.size));have D:((l.length:Int)==2)=true:=by simp [hl2]
 have I:IntKind.i64.wrap (a - 1)=a - 1:=x38_;have E:(1:Int)<(l.length:Int):=x37_;have F:(0:Int)<(l.length:Int):=x37_;have G:0<l.length:=x37_;have H:1<l.length:=x37_;obtain ⟨W0,hW0⟩:∃ W0,W0=w.alloc (.cells #[.int .i64 2,.int .i64 n,.int .i64 a,.int .i64 0,.slice (some c) l.length cl,.slice d 0 g] 25):=⟨_,rfl⟩;have hsz:W0.heap.size=w.heap.size+1:=x39_;have HW0:=hid hW0;have o:=(Blk.new w 25 #[.int .i64 2,.int .i64 n,.int .i64 a,.int .i64 0,.slice (some c) l.length cl,.slice d 0 g]).cell 0;rw [← hW0] at Hb0 Hbox Hr0 Hr1 Hc0 Hc1 o;rw [← hsz] at Hbox;have Hn0:Hid (∀ W,Below W0.heap.size W0 W→Calls Tryz.prog 106 #[k,.int .i64 n,.int .i64 (a - 1)] W fun e w'=>e=.returned (.bool true)∧Below W0.heap.size W0 w'):=fun W hW =>
  (B9_ n (a - 1) k r0 W (Hr0.out.up hW)).mono fun _ _ ⟨j,h3⟩=>⟨by rw [j,Int.sub_add_cancel,h0],Z0_ hW (le_refl _) h3⟩
 have Hn1:Hid (∀ W,Below W0.heap.size W0 W→Calls Tryz.prog 106 #[m,.int .i64 a,.int .i64 64] W fun e w'=>e=.returned (.bool false)∧Below W0.heap.size W0 w'):=fun W hW =>
  (B9_ a 64 m r1 W (Hr1.out.up hW)).mono fun _ _ ⟨j,h3⟩=>⟨by rw [j,show (64:Int)+1=65 from rfl,h1],Z0_ hW (le_refl _) h3⟩
 exact k28_
theorem Xf5 (n a:Int) (l:List (List Int)) (v:Value) (w:World) (G:MatV w w.heap.size v (.mk 2 n a 0 l [])) (E:l.length=2) (Y:0≤a∧a≤64) (D:numsB (l.getD 0 []) n a=false):Calls Tryz.prog 78 #[v] w (Says w false):=by
 obtain ⟨lv,iv,rfl,⟨R,cl,rfl,_,u⟩,⟨h,j,rfl,_⟩⟩:=G.open;simp only [Mat.t,Mat.n,Mat.a,Mat.b,Mat.l,Mat.i,List.length_nil] at *
 obtain ⟨c,I,hA,k,r,x⟩:=u 0 x37_;subst hA;obtain ⟨U,u1,N,_,s,y⟩:=u 1 x37_;obtain rfl:=Option.some.inj N;rw [add_zero] at r;generalize l.getD 0 []=H at *
 generalize l.getD 1 []=Q at *
 obtain ⟨S,V,O,_⟩:=id x;obtain ⟨T,X,P,_⟩:=id y;have Hb0:Hid (Below w.heap.size w (w.alloc (.cells #[.int .i64 2,.int .i64 n,.int .i64 a,.int .i64 0,.slice (some c) l.length cl,.slice h 0 j] 25))):=(Below.refl _ w).alloc (le_refl _) _;have m:=hid (K6_ (w:=w) (t := 25) (cs:=#[.int .i64 2,.int .i64 n,.int .i64 a,.int .i64 0,.slice (some c) l.length cl,.slice h 0 j]));have o:=hid (x.up Hb0.out);have C:=hid (y.up Hb0.out);have z:=hid (V6_ ((Hb0.out.cell (p:=c) k).trans r) (Nat.lt_of_lt_of_le k Hb0.out.size));rw [show c.add 1=(⟨c.block,c.off+1,none⟩:Addr) by simp [Addr.add]] at s;have B:=hid (V6_ ((Hb0.out.cell (p:=⟨c.block,c.off+1,none⟩) k).trans s) (show c.block<_ from Nat.lt_of_lt_of_le k Hb0.out.size));have Z:((l.length:Int)==2)=true:=by simp [E]
 have x4:IntKind.i64.wrap (a - 1)=a - 1:=x38_;have x0:(1:Int)<(l.length:Int):=x37_;have x1:(0:Int)<(l.length:Int):=x37_;have x2:0<l.length:=x37_;have x3:1<l.length:=x37_;obtain ⟨d,hW0⟩:∃ d,d=w.alloc (.cells #[.int .i64 2,.int .i64 n,.int .i64 a,.int .i64 0,.slice (some c) l.length cl,.slice h 0 j] 25):=⟨_,rfl⟩;have F:d.heap.size=w.heap.size+1:=x39_;have J:=hid hW0;have L:=(Blk.new w 25 #[.int .i64 2,.int .i64 n,.int .i64 a,.int .i64 0,.slice (some c) l.length cl,.slice h 0 j]).cell 0;rw [← hW0] at Hb0 m o C z B L;rw [← F] at m;have K:Hid (∀ W,Below d.heap.size d W→Calls Tryz.prog 106 #[I,.int .i64 n,.int .i64 (a - 1)] W fun e w'=>e=.returned (.bool false)∧Below d.heap.size d w'):=fun W g =>
  (B9_ n (a - 1) I H W (o.out.up g)).mono fun _ _ ⟨M,h3⟩=>⟨by rw [M,Int.sub_add_cancel,D],Z0_ g (le_refl _) h3⟩
 subst O P;clear G u x y r s D E F o C
 go_enter Tryz.func78,Tryz.ntmps78
 go_wp2;rw [← J.out];clear hW0;refine Z6_ d.heap.size d y37_ y37_ (Below.refl _ _) ?_
 repeat (first
   | go_big_quiet_step (with_reducible exact K.out _)
   | (go_big_quiet_want;apply Exists.intro;refine ⟨fun W g=>?_,?_⟩;(· have q:=m.out W g;have q1:=q 1;have q2:=q 2;have q4:=q 4;have q0:=q 0;clear q;have H:=z.out W g;have Q:=B.out W g;go_simp;first | exact rfl | exact ⟨rfl,rfl⟩);go_simp;go_big_quiet_on))
 exact z2_
open Go.RowKit
theorem Vy3 {l:List (List Int)} {a:Int} {i:Nat} (hi:i<l.length) (h:edgeB a (l.getD i [])=true):l.any (edgeB a)=true :=
 List.any_eq_true.2 ⟨l[i],List.getElem_mem hi,by simpa [List.getD,hi] using h⟩
theorem Xf6 {l:List (List Int)} {a:Int} (h:∀ i,i<l.length→edgeB a (l.getD i [])=false):l.any (edgeB a)=false:=y9_
theorem Vy4 (n a:Int) (l:List (List Int)) (v:Value) (w:World) (S:MatV w w.heap.size v (.mk 1 n a 0 l [])) (x4:l.length≤1000) (ha:0≤a∧a≤64):Calls Tryz.prog 78 #[v] w (Says w (!l.any (edgeB a) && decide (1≤a) && decide ((l.length:Int)=n))):=by
 obtain ⟨lv,iv,rfl,hl,⟨q,B,rfl,_⟩⟩:=S.open;simp only [Mat.t,Mat.n,Mat.a,Mat.b,Mat.l,Mat.i,List.length_nil] at *
 obtain ⟨A,c,rfl,_,P⟩:=hl;have X:=hid P;have U:Hid (Below w.heap.size w (w.alloc (.cells #[.int .i64 1,.int .i64 n,.int .i64 a,.int .i64 0,.slice A l.length c,.slice q 0 B] 25))):=(Below.refl _ w).alloc (le_refl _) _;have G:=hid (Blk.new w 25 #[.int .i64 1,.int .i64 n,.int .i64 a,.int .i64 0,.slice A l.length c,.slice q 0 B]);have x5:(l.length:Int)≤1000:=x37_;have x7:IntKind.i64.wrap (a - 1)=a - 1:=x38_;have g0:=G.out.cell 0;clear S P;obtain ⟨r,D⟩:∃ r,r=l.any (edgeB a):=⟨_,rfl⟩;rw [← D];have H:=hid D;clear D
 go_enter Tryz.func78,Tryz.ntmps78
 go_wp2;clear g0
 go_loopw [3] (fun F wr=>∃ i:Nat,F=.int .i64 i∧i≤l.length∧(∀ j,j<i→edgeB a (l.getD j [])=false)∧Blk wr w.heap.size 25 #[.int .i64 1,.int .i64 n,.int .i64 a,.int .i64 0,.slice A l.length c,.slice q 0 B]∧Below w.heap.size w wr) (fun F _=>l.length - (intOf F).toNat)
 case atStart=>exact ⟨0,rfl,Nat.zero_le _,fun j O=>absurd O (Nat.not_lt_zero _),G.out,U.out⟩
 case round =>
  obtain ⟨i,rfl,hi,R,k,L⟩:=hrel;have Hok:=hid R;have g:=hid L;have m:=hid k;have g1:=k.cell 1;have g2:=k.cell 2;have g4:=k.cell 4;clear R k L;by_cases Q:i<l.length
  ·obtain ⟨ad,u,hA,hab,M,E⟩:=X.out i Q
   subst hA;have x1:=(g.out.cell (p:=ad.add i) j38_).trans M;have x0:=hid ((E.below g.out).mono g.out.size);have Y:=hid (Vy3 (a:=a) Q);have Z:Hid (edgeB a (l.getD i [])=false→∀ j,j<i+1→edgeB a (l.getD j [])=false):=by
    intro hb j O;exact q9_
   generalize l.getD i []=z at *
   obtain ⟨T,cz,rfl,_⟩:=id E;have x6:(i:Int)<(l.length:Int):=x37_;have o:∀ b,numsB z 2 a=b→∀ W,Below wr.heap.size wr W→Calls Tryz.prog 106 #[.slice T z.length cz,.int .i64 2,.int .i64 (a - 1)] W fun e w'=>e=.returned (.bool b)∧Below wr.heap.size wr w':=fun b hb W d =>
    (B9_ 2 (a - 1) _ z W (x0.out.up d)).mono fun _ _ ⟨h2,h3⟩=>⟨by rw [h2,Int.sub_add_cancel,hb],Z0_ d (le_refl _) h3⟩
   have I:=hid (V6_ g2 m.out.lt);have J:=hid (V6_ g4 m.out.lt);have K:=hid (V6_ x1 (by rw [Z2_];exact Nat.lt_of_lt_of_le hab g.out.size));clear E M hab;rcases hz:numsB z 2 a with _ | _
   ·have x:=hid (o false hz)
    clear o;have y:Hid (r=true):=H.out.trans (Y.out (by unfold edgeB;rw [hz];rfl));obtain rfl:=y.out;clear hz;go_wp2;refine Z6_ wr.heap.size wr y37_ y37_ (Below.refl _ _) ?_
    iterate 10 (first
     | go_big_quiet_step (with_reducible exact x.out _)
     | (go_big_quiet_want;apply Exists.intro;refine ⟨fun W d=>?_,?_⟩;(· have q2:=I.out W d;have q4:=J.out W d;have r0:=K.out W d;go_simp;first | exact rfl | exact ⟨rfl,rfl⟩);go_simp;go_big_quiet_on))
    refine wpQuiet_nil ?_;intro w1 h;have s:=hid (Z0_ g.out (le_refl _) h);clear h;go_wp2;go_ret;exact ⟨j37_,s.out⟩
   ·have x:=hid (o true hz)
    clear o;have Hw:Hid (edgeB a z=false):=by show edgeB a z=false;unfold edgeB;rw [hz];rfl
    clear hz;go_wp2;refine Z6_ wr.heap.size wr y37_ y37_ (Below.refl _ _) ?_
    iterate 10 (first
     | go_big_quiet_step (with_reducible exact x.out _)
     | (go_big_quiet_want;apply Exists.intro;refine ⟨fun W d=>?_,?_⟩;(· have q2:=I.out W d;have q4:=J.out W d;have r0:=K.out W d;go_simp;first | exact rfl | exact ⟨rfl,rfl⟩);go_simp;go_big_quiet_on))
    refine wpQuiet_nil ?_;intro w1 h;have s:=hid (Z0_ g.out (le_refl _) h);have V:=hid (m.out.below h m.out.lt);clear h;go_wp2
    go_roundw
    case rel=>exact ⟨i+1,y38_,x37_,Z.out Hw.out,V.out,s.out⟩
    exact mz_
  ·have N:i=l.length:=by omega
   have Hie:=hid N;have y:Hid (r=false):=H.out.trans (Xf6 z45_);obtain rfl:=y.out;obtain rfl:=N;by_cases C:1≤a
   ·rw [decide_eq_true C]
    go_wp2;go_ret;refine ⟨?_,g.out⟩;by_cases hl:(l.length:Int)=n<;>simp [hl]
   ·have x2:a<1:=by omega
    rw [decide_eq_false C];clear C;go_wp2;go_ret;refine ⟨?_,g.out⟩;simp;intro x3;omega
theorem Vy5 (n a:Int) (l:List (List Int)) (v:Value) (w:World) (d:MatV w w.heap.size v (.mk 2 n a 0 l [])) (c:l.length=2) (ha:0≤a∧a≤64):Calls Tryz.prog 78 #[v] w (Says w (numsB (l.getD 0 []) n a && numsB (l.getD 1 []) a 65)):=by
 rcases h0:numsB (l.getD 0 []) n a with _ | _
 ·exact Xf5 n a l v w d c ha h0
 ·rcases h1:numsB (l.getD 1 []) a 65 with _ | _
  ·exact Yw2 n a l v w d c ha h0 h1
  ·exact Yw1 n a l v w d c ha h0 h1
theorem Xf7 (n a:Int) (l:List (List Int)) (v:Value) (w:World) (m:MatV w w.heap.size v (.mk 2 n a 0 l [])) (s:l.length≠2):Calls Tryz.prog 78 #[v] w (Says w false):=by
 obtain ⟨z,y,rfl,⟨e,cl,rfl,_⟩,⟨d,g,rfl,_⟩⟩:=m.open;simp only [Mat.t,Mat.n,Mat.a,Mat.b,Mat.l,Mat.i,List.length_nil] at *
 have Hb0:Hid (Below w.heap.size w (w.alloc (.cells #[.int .i64 2,.int .i64 n,.int .i64 a,.int .i64 0,.slice e l.length cl,.slice d 0 g] 25))):=(Below.refl _ w).alloc (le_refl _) _;have h:=hid (K6_ (w:=w) (t := 25) (cs:=#[.int .i64 2,.int .i64 n,.int .i64 a,.int .i64 0,.slice e l.length cl,.slice d 0 g]));obtain ⟨L,j⟩:∃ L:Int,L=(l.length:Int):=⟨_,rfl⟩;have x:(L==2)=false:=k37_;obtain ⟨c,hW0⟩:∃ c,c=w.alloc (.cells #[.int .i64 2,.int .i64 n,.int .i64 a,.int .i64 0,.slice e l.length cl,.slice d 0 g] 25):=⟨_,rfl⟩;have k:c.heap.size=w.heap.size+1:=x39_;have o:=hid hW0;have p:=(Blk.new w 25 #[.int .i64 2,.int .i64 n,.int .i64 a,.int .i64 0,.slice e l.length cl,.slice d 0 g]).cell 0;rw [← hW0] at Hb0 h p;rw [← k] at h;have u:((l.length:Nat):Int)=L:=j.symm;clear m s k j
 go_enter Tryz.func78,Tryz.ntmps78
 go_wp2;rw [← o.out];clear hW0;refine Z6_ c.heap.size c y37_ y37_ (Below.refl _ _) ?_
 iterate 26 (first
   | go_big_quiet_skip
   | (go_big_quiet_want;apply Exists.intro;refine ⟨fun W r=>?_,?_⟩;(· have q:=h.out W r;have q1:=q 1;have q2:=q 2;have q4:=q 4;have q0:=q 0;clear q;go_simp;first | exact rfl | exact ⟨rfl,rfl⟩);go_simp;go_big_quiet_on))
 exact z2_
theorem Vy6 (n a b:Int) (l:List (List Int)):G1_ (.mk 4 n a b l [])=(decide ((l.length:Int)=n) && elimB b a l):=y40_
theorem Vy7 (n a:Int) (l:List (List Int)):G1_ (.mk 0 n a 0 l [])=(decide (a≤n) && decide (l.length=0)):=y40_
theorem Vy8 (n a:Int) (l:List (List Int)):G1_ (.mk 1 n a 0 l [])=(!l.any (edgeB a) && decide (1≤a) && decide ((l.length:Int)=n)):=by rw [Bool.eq_iff_iff];simp [G1_,Mat.t,Mat.n,Mat.a,Mat.b,Mat.l,Mat.i];exact ⟨fun ⟨⟨c,d⟩,h3⟩=>⟨⟨c,of_decide_eq_true d⟩,of_decide_eq_true h3⟩,fun ⟨⟨c,d⟩,h3⟩=>⟨⟨c,decide_eq_true d⟩,decide_eq_true h3⟩⟩
theorem Vy9 (n a:Int) (l:List (List Int)):G1_ (.mk 2 n a 0 l [])=(decide (l.length=2) && numsB (l.getD 0 []) n a && numsB (l.getD 1 []) a 65):=by rw [Bool.eq_iff_iff];simp [G1_,row,Mat.t,Mat.n,Mat.a,Mat.b,Mat.l,Mat.i];exact fun _ _=>decide_eq_true_iff
theorem Vx0 (n a:Int) (l:List (List Int)):G1_ (.mk 3 n a 0 l [])=(decide ((l.length:Int)=n) && mayM a l):=y40_
theorem Yw3 (t n a:Int) (l:List (List Int)) (h:t<0∨4<t):G1_ (.mk t n a 0 l [])=false:=by
 have c:t≠0:=x37_;have d:t≠1:=x37_;have e:t≠2:=x37_;have h3:t≠3:=x37_;have f:t≠4:=x37_;simp [G1_,Mat.t,Mat.b,Mat.i,c,d,e,h3,f]
theorem Yw4 (m:Mat) (v:Value) (w:World) (c:MatV w w.heap.size v m) (hs:Sml m) (d:0≤m.n∧m.n≤64∧0≤m.a∧m.a≤64) (j:¬ nest m.t):Calls Tryz.prog 78 #[v] w (Says w (decide (bad m=0))):=by
 rw [← Xf4 d j];by_cases hi:0<m.i.length
 ·rw [show G1_ m=false from if_pos (.inl hi)]
  exact Yy4 m v w c hi
 by_cases hb:m.t≠4∧m.b≠0
 ·rw [show G1_ m=false from if_pos (.inr hb)]
  exact Vz9 m v w c x37_ hb.1 hb.2
 have h:=sml_l hs;obtain ⟨t,n,a,b,l,i⟩:=m;change 0≤n∧n≤64∧0≤a∧a≤64 at d;change ¬ 0<i.length at hi;change ¬ (t≠4∧b≠0) at hb;change ¬ (5≤t∧t≤9) at j;change l.length≤1000 at h;obtain rfl:i=[]:=List.length_eq_zero_iff.1 x37_;by_cases k:t=4
 ·subst k
  rw [Vy6];exact Vy2 n a b l v w c
 have o:b=0:=by
  by_cases e:b=0
  ·exact e
  ·exact absurd ⟨k,e⟩ hb
 subst o;by_cases p:t=0
 ·subst p;rw [Vy7];exact Vy0 n a l v w c
 by_cases q:t=1
 ·subst q;rw [Vy8];exact Vy4 n a l v w c h ⟨d.2.2.1,d.2.2.2⟩
 by_cases r:t=2
 ·subst r
  rw [Vy9];by_cases g:l.length=2
  ·rw [decide_eq_true g,Bool.true_and];exact Vy5 n a l v w c g ⟨d.2.2.1,d.2.2.2⟩
  ·rw [decide_eq_false g,Bool.false_and,Bool.false_and];exact Xf7 n a l v w c g
 by_cases s:t=3
 ·subst s;rw [Vx0];exact Vy1 n a l v w c
 ·rw [Yw3 t n a l x37_]
  exact Yw0 t n a l v w x37_ c
end Go.Proofs.YtnaebbjodfnooaaGreatDoor.Wp
