/- The program's fits, walked, kind by kind. -/
import Derived.Test.YtgpljiijjnaofaaGreatDoorQWalkA
import Derived.Test.YtgpljiijjnaofaaGreatDoorZE
import Derived.Test.YtgpljiijjnaofaaGreatDoorZU
import Derived.Test.YtgpljiijjnaofaaGreatDoorQTA
import Derived.Test.YtgpljiijjnaofaaGreatDoorX0A
import Derived.Test.YtgpljiijjnaofaaGreatDoorX0C
set_option maxHeartbeats 8000000
set_option maxRecDepth 100000
open Go.Lib (hid)
open Nat (le_refl)
namespace Go.Proofs.YtgpljiijjnaofaaGreatDoor.Wp
private theorem z1_ {P:Prop} (h:P:=by
 have Hb:=hid hb
 have Hc:Hid (∀ W,Below W0.heap.size W0 W→Calls Tryz.prog 110 #[.agg #[.bool f.fa,.bool f.fb,.int .i64 f.lists,.int .i64 f.least,.int .i64 f.most],.agg #[.int .i64 (T:Int),.int .i64 m.n,.int .i64 m.a,.int .i64 m.b,lv,iv]] W fun e w'=>e=.returned (.bool true)∧Below W0.heap.size W0 w'):=fun W hW =>
  (show Calls _ _ #[formV f,_] W _ from (Htakes.out _ W (Hv.out.up hW)).mono fun _ _ ⟨h2,h3⟩=>⟨by rw [h2,Hb.out],Z0_ hW (le_refl _) h3⟩)
 clear hb
 go_enter Tryz.func82,Tryz.ntmps82
 go_wp2
 rw [← Hmt.out,← HW0.out,Hmt.out]
 clear hW0 g0 g1 g2 a1 a2 a3 a4 a5 a6
 refine Z6_ W0.heap.size W0 (by kernel_rfl) (by kernel_rfl) (Below.refl _ _) ?_
 iterate 8 (first
  | go_big_quiet_step (with_reducible exact Hc.out _)
  | (go_big_quiet_want;apply Exists.intro;refine ⟨fun W hW=>?_,?_⟩;(· have q:=Hbox.out W hW;have q0:=q 0;have q1:=q 1;have q2:=q 2;have q3:=q 3;have q4:=q 4;have q5:=q 5;clear q;obtain ⟨f0,f1,f2,f3,f4⟩:=Hf.out W hW;go_simp;first | exact rfl | exact ⟨rfl,rfl⟩);go_simp;go_big_quiet_on))
 refine wpQuiet_nil ?_
 intro w5 hB5
 have q:=Hbox.out w5 hB5
 have q0:=q 0
 have q1:=q 1
 have q2:=q 2
 have q3:=q 3
 have q4:=q 4
 have q5:=q 5
 have HE5:=hid (HE.out.up hB5)
 have Hv5:=hid (Hv.out.up hB5)
 have Hb5:=hid (Hb0.out.trans (hB5.mono Hb0.out.size))
 clear hB5 q
 go_wp2_with fail
 refine (Hfits'.out w5 Hv5.out HE5.out).mono ?_
 rintro e w6 ⟨rfl,hb6⟩
 have HE6:=HE5.out.up hb6
 have gE:=HE6.g4
 have Hb6:=hid (Z0_ Hb5.out (le_refl _) hb6)
 unfold eS at gE
 clear hb6 HE6
 go_wp2
 go_ret
 exact ⟨rfl,Hb6.out⟩):P:=h
private theorem k1_ {P:Prop} (h:P:=by
 rw [show n=m.n by rw [hm];rfl] at hsub
 clear hm
 have Hc:=hid hc
 have Hsub:=hid hsub
 obtain ⟨lv,iv,hve,hl2,hi2⟩:=hv.open
 have Hb0:=hid (Z1_ w m lv iv)
 have Hv:=hid (hv.up Hb0.out)
 have HE:=hid (hE.up Hb0.out)
 have Hblk:=hid (Z3_ w m lv iv)
 have gb:=Hblk.out.cell
 have g0:=gb 0
 have g1:=gb 1
 have g2:=gb 2
 have g3:=gb 3
 have g4:=gb 4
 have g5:=gb 5
 subst hve
 unfold boxed at *
 rw [hmt] at g0
 have Hsv:=hid (hr.up Hb0.out)
 have hal:=G1_ m.n
 clear hv hE gb hl2 hi2 hc hsub hr
 go_enter Tryz.func175,Tryz.ntmps175
 rw [hmt] at Hv Hblk Hb0 HE Hsv
 rw [hmt]
 go_wp2_with fail
 refine (Q1_ E m _ _ Hv.out hs HE.out).mono ?_
 rintro e w1 ⟨rfl,hb1⟩
 rw [Hc.out]
 have Hb1:=hid (Z0_ Hb0.out (le_refl _) hb1)
 have Hblk1:=hid (Hblk.out.below hb1 (by simp))
 have Hsv1:=hid (Hsv.out.up hb1)
 have c1:=Hblk1.out.cell 1
 clear hb1 g0 g1 g2 g3 g4 g5
 go_wp2_with fail
 refine (I4_ _ _).mono ?_
 rintro e w2 ⟨v2,rfl,hr2,hb2⟩
 have Hb2:=hid (Z0_ Hb1.out (le_refl _) hb2)
 have Hblk2:=hid (Hblk1.out.below hb2 Hblk1.out.lt)
 have Hsv2:=hid (Hsv1.out.up hb2)
 have Hr2:=hid hr2
 clear hb2 hr2 c1
 go_wp2_with fail
 refine (S6_ _ _ s (allL m.n) _ Hsv2.out Hr2.out hsl hal).mono ?_
 rintro e w3 ⟨rfl,hb3⟩
 rw [Hsub.out]
 have Hb3:=hid (Z0_ Hb2.out (le_refl _) hb3)
 clear hb3
 go_wp2
 go_ret2
 exact L0_ w _ Hb3.out):P:=h
private theorem k2_ {P:Prop} (h:P:=by
 clear hD hm hc
 obtain ⟨lv,iv,hve,hl2,hi2⟩:=hv.open
 have Hb0:=hid (Z1_ w m lv iv)
 have Hv:=hid (hv.up Hb0.out)
 have HE:=hid (hE.up Hb0.out)
 have Hblk:=hid (Z3_ w m lv iv)
 have gb:=Hblk.out.cell
 have g0:=gb 0
 have g1:=gb 1
 have g2:=gb 2
 have g3:=gb 3
 have g4:=gb 4
 have g5:=gb 5
 subst hve
 unfold boxed at *
 rw [hmt] at g0
 clear hv hE gb hl2 hi2
 go_enter Tryz.func175,Tryz.ntmps175
 rw [hmt] at Hv Hblk Hb0 HE
 rw [hmt]
 go_wp2_with fail
 refine (Q1_ E m _ _ Hv.out hs HE.out).mono ?_
 rintro e w1 ⟨rfl,hb1⟩
 rw [Hc.out]
 have Hb1:=hid (Z0_ Hb0.out (le_refl _) hb1)
 clear hb1 g0 g1 g2 g3 g4 g5
 go_wp2
 go_ret2
 exact L0_ w _ Hb1.out):P:=h
private theorem k23_ {P:Prop} (h:P:=by
 subst hu0 hu1
 clear hv hlk hr0 hr1 hc0 hc1 h0 h1 hl2 hsz Hr0 Hr1
 go_enter Tryz.func77,Tryz.ntmps77
 go_wp2
 rw [← HW0.out]
 clear hW0
 refine Z6_ W0.heap.size W0 (by kernel_rfl) (by kernel_rfl) (Below.refl _ _) ?_
 repeat (first
   | go_big_quiet_step (with_reducible exact Hn0.out _)
   | go_big_quiet_step (with_reducible exact Hn1.out _)
   | (go_big_quiet_want;apply Exists.intro;refine ⟨fun W hW=>?_,?_⟩;(· have q:=Hbox.out W hW;have q1:=q 1;have q2:=q 2;have q4:=q 4;have q0:=q 0;clear q;have r0:=Hc0.out W hW;have r1:=Hc1.out W hW;go_simp;first | exact rfl | exact ⟨rfl,rfl⟩);go_simp;go_big_quiet_on))
 exact x2_):P:=h
private theorem q24_ {P:Prop} (h:P:=by
 subst hu0 hu1
 clear hv hlk hr0 hr1 hc0 hc1 h0 h1 hl2 hsz Hr0 Hr1
 go_enter Tryz.func111,Tryz.ntmps111
 go_wp2
 rw [← HW0.out]
 clear hW0
 refine Z6_ W0.heap.size W0 (by kernel_rfl) (by kernel_rfl) (Below.refl _ _) ?_
 iterate 19 (first
   | go_big_quiet_step (with_reducible exact Hn0.out _)
   | go_big_quiet_step (with_reducible exact Hn1.out _)
   | (go_big_quiet_want;apply Exists.intro;refine ⟨fun W hW=>?_,?_⟩;(· have q:=Hbox.out W hW;have q1:=q 1;have q2:=q 2;have q4:=q 4;clear q;have r0:=Hc0.out W hW;have r1:=Hc1.out W hW;go_simp;first | exact rfl | exact ⟨rfl,rfl⟩);go_simp;go_big_quiet_on))
 exact x2_):P:=h
private theorem x24_ {P:Prop} (h:P:=by
 subst hu0
 clear hv hlk hik hr0 hc0 hp hsz Hv s0 s1 hmv hui hrow
 go_enter Tryz.func111,Tryz.ntmps111
 go_wp2
 rw [← HW0.out]
 clear hW0
 refine Z6_ W0.heap.size W0 (by kernel_rfl) (by kernel_rfl) (Below.refl _ _) ?_
 iterate 13 (first
   | go_big_quiet_step (with_reducible exact Hp.out _)
   | (go_big_quiet_want;apply Exists.intro;refine ⟨fun W hW=>?_,?_⟩;(· have q:=Hbox.out W hW;have q0:=q 0;have q1:=q 1;have q2:=q 2;have q3:=q 3;have q4:=q 4;have q5:=q 5;clear q;have r0:=Hc0.out W hW;have r1:=Hc1.out W hW;go_simp;first | exact rfl | exact ⟨rfl,rfl⟩);go_simp;go_big_quiet_on))
 exact x2_):P:=h
end Go.Proofs.YtgpljiijjnaofaaGreatDoor.Wp
namespace Go.Proofs.YtgpljiijjnaofaaGreatDoor
open Go.RowKit
namespace Wp
theorem Vf1 (n a b:Int) (l:List (List Int)) (i:List Mat) (v:Value) (w:World) (c:MatV w w.heap.size v (.mk 0 n a b l i)):Calls Tryz.prog 111 #[v] w (Says w (fitsB (.mk 0 n a b l i))):=by
 obtain ⟨e,d,rfl,_,_⟩:=c.open;rw [show fitsB (.mk 0 n a b l i)=decide (a≤n) from rfl];simp only [Mat.t,Mat.n,Mat.a,Mat.b];have Hb0:Hid (Below w.heap.size w (w.alloc (.cells #[.int .i64 0,.int .i64 n,.int .i64 a,.int .i64 b,e,d] 25))):=(Below.refl _ w).alloc (le_refl _) _;clear c;exact k28_
theorem Xi3 (A:Int) (B:Nat) (w:World) (hB:B<w.heap.size) (hc:w.cell? ⟨B,2,none⟩=some (.int .i64 A)):Zm0 w 124 #[.pointer (some ⟨B,0,none⟩)] (edgeB A) :=
 fun u zs W c d=>Xe1 A B u zs W ((c.cell (p:=⟨B,2,none⟩) hB).trans hc) d
theorem Vf2 (n a b:Int) (l:List (List Int)) (i:List Mat) (v:Value) (w:World) (j:MatV w w.heap.size v (.mk 1 n a b l i)) (r:l.length≤1000):Calls Tryz.prog 111 #[v] w (Says w (fitsB (.mk 1 n a b l i))):=by
 obtain ⟨d,k,rfl,hl,_⟩:=j.open;rw [show fitsB (.mk 1 n a b l i)=(decide (1≤a) && !l.any (edgeB a)) from rfl];simp only [Mat.t,Mat.n,Mat.a,Mat.b];have Hb0:Hid (Below w.heap.size w (w.alloc (.cells #[.int .i64 1,.int .i64 n,.int .i64 a,.int .i64 b,d,k] 25))):=(Below.refl _ w).alloc (le_refl _) _;have m:=hid (hl.up Hb0.out);have g:=hid (H7_ 124 #[.pointer (some ⟨w.heap.size,0,none⟩)] (edgeB a) d l (w.alloc (.cells #[.int .i64 1,.int .i64 n,.int .i64 a,.int .i64 b,d,k] 25)) (enters_of Tryz.func124 q31_ rfl) m.out k30_ (Xi3 a w.heap.size _ y31_ ((Blk.new w _ _).cell 2)));obtain ⟨o,p,rfl,_⟩:=hl;clear j;by_cases h:1≤a
 ·rw [decide_eq_true h,Bool.true_and]
  generalize l.any (edgeB a)=c at *
  go_enter Tryz.func111,Tryz.ntmps111
  go_wp2_with fail
  refine (g.out).mono ?_;exact z30_
 ·rw [decide_eq_false h,Bool.false_and]
  have q:a<1:=k30_;clear g;exact k28_
theorem Vf3 (n a b:Int) (l:List (List Int)) (i:List Mat) (v:Value) (w:World) (d:MatV w w.heap.size v (.mk 3 n a b l i)):Calls Tryz.prog 111 #[v] w (Says w (fitsB (.mk 3 n a b l i))):=by
 obtain ⟨j,h,rfl,hl,_⟩:=d.open;rw [show fitsB (.mk 3 n a b l i)=mayM a l from rfl];simp only [Mat.t,Mat.n,Mat.a,Mat.b];have Hb0:Hid (Below w.heap.size w (w.alloc (.cells #[.int .i64 3,.int .i64 n,.int .i64 a,.int .i64 b,j,h] 25))):=(Below.refl _ w).alloc (le_refl _) _;have g:=hid (hl.up Hb0.out);generalize hc:mayM a l=c;have Hcc:Hid (mayM a l=c):=hc;obtain ⟨k,m,rfl,_⟩:=hl;clear d hc
 go_enter Tryz.func111,Tryz.ntmps111
 go_wp2_with fail
 refine (kmay_any a _ l _ g.out).mono ?_;exact j29_
theorem Vf4 (n a b:Int) (l:List (List Int)) (i:List Mat) (v:Value) (w:World) (g:MatV w w.heap.size v (.mk 4 n a b l i)) (d:Met w):Calls Tryz.prog 111 #[v] w (Says w (fitsB (.mk 4 n a b l i))):=by
 obtain ⟨m,k,rfl,hl,_⟩:=g.open;rw [show fitsB (.mk 4 n a b l i)=elimB b a l from rfl];simp only [Mat.t,Mat.n,Mat.a,Mat.b];have Hb0:Hid (Below w.heap.size w (w.alloc (.cells #[.int .i64 4,.int .i64 n,.int .i64 a,.int .i64 b,m,k] 25))):=(Below.refl _ w).alloc (le_refl _) _;have j:=hid (hl.up Hb0.out);have h:=hid (d.up Hb0.out);clear d;generalize hc:elimB b a l=c;have Hcc:Hid (elimB b a l=c):=hc;obtain ⟨o,p,rfl,_⟩:=hl;clear g hc
 go_enter Tryz.func111,Tryz.ntmps111
 go_wp2_with fail
 refine (Xe2 b a _ l _ h.out j.out).mono ?_;exact j29_
open Go.RowKit
theorem Xi4 (n a b:Int) (l:List (List Int)) (i:List Mat) (v:Value) (w:World) (hv:MatV w w.heap.size v (.mk 2 n a b l i)) (hl2:l.length=2) (G:n≤64) (ha:a≤64) (h0:numsB (l.getD 0 []) n a=true) (h1:numsB (l.getD 1 []) a 65=true):Calls Tryz.prog 111 #[v] w (Says w (fitsB (.mk 2 n a b l i))):=by
 obtain ⟨H,h,rfl,⟨s,d,rfl,_,hlk⟩,_⟩:=hv.open;simp only [Mat.t,Mat.n,Mat.a,Mat.b,Mat.l] at *
 rw [show fitsB (.mk 2 n a b l i)=true from by show (numsB (l.getD 0 []) n a && numsB (l.getD 1 []) a 65)=true;rw [h0,h1];rfl];obtain ⟨c,k,hA,g,hc0,hr0⟩:=hlk 0 k30_;subst hA;obtain ⟨y,m,r,_,hc1,hr1⟩:=hlk 1 k30_;obtain rfl:=Option.some.inj r;rw [add_zero] at hc0;generalize l.getD 0 []=r0 at *
 generalize l.getD 1 []=r1 at *
 obtain ⟨u,z,hu0,_⟩:=id hr0;obtain ⟨x,B,hu1,_⟩:=id hr1;have Hb0:Hid (Below w.heap.size w (w.alloc (.cells #[.int .i64 2,.int .i64 n,.int .i64 a,.int .i64 b,.slice (some c) l.length d,h] 25))):=(Below.refl _ w).alloc (le_refl _) _;have Hbox:=hid (H0_ (w:=w) (t := 25) (cs:=#[.int .i64 2,.int .i64 n,.int .i64 a,.int .i64 b,.slice (some c) l.length d,h]));have Hr0:=hid (hr0.up Hb0.out);have Hr1:=hid (hr1.up Hb0.out);have Hc0:=hid (V0_ ((Hb0.out.cell (p:=c) g).trans hc0) (Nat.lt_of_lt_of_le g Hb0.out.size));rw [show c.add 1=(⟨c.block,c.off+1,none⟩:Addr) by simp [Addr.add]] at hc1;have Hc1:=hid (V0_ ((Hb0.out.cell (p:=⟨c.block,c.off+1,none⟩) g).trans hc1) (show c.block<_ from Nat.lt_of_lt_of_le g Hb0.out.size));have C:(1:Int)<(l.length:Int):=k30_;have D:(0:Int)<(l.length:Int):=k30_;have E:0<l.length:=k30_;have F:1<l.length:=k30_;obtain ⟨W0,hW0⟩:∃ W0,W0=w.alloc (.cells #[.int .i64 2,.int .i64 n,.int .i64 a,.int .i64 b,.slice (some c) l.length d,h] 25):=⟨_,rfl⟩;have hsz:W0.heap.size=w.heap.size+1:=q33_;have HW0:=hid hW0;have o:=(Blk.new w 25 #[.int .i64 2,.int .i64 n,.int .i64 a,.int .i64 b,.slice (some c) l.length d,h]).cell 0;rw [← hW0] at Hb0 Hbox Hr0 Hr1 Hc0 Hc1 o;rw [← hsz] at Hbox;have Hn0:Hid (∀ W,Below W0.heap.size W0 W→Calls Tryz.prog 125 #[k,.int .i64 n,.int .i64 a] W fun e w'=>e=.returned (.bool true)∧Below W0.heap.size W0 w'):=fun W hW =>
  (A8_ n a k r0 W (Hr0.out.up hW) k30_).mono fun _ _ ⟨j,h3⟩=>⟨by rw [j,h0],Z0_ hW (le_refl _) h3⟩
 have Hn1:Hid (∀ W,Below W0.heap.size W0 W→Calls Tryz.prog 125 #[m,.int .i64 a,.int .i64 65] W fun e w'=>e=.returned (.bool true)∧Below W0.heap.size W0 w'):=fun W hW =>
  (A8_ a 65 m r1 W (Hr1.out.up hW) k30_).mono fun _ _ ⟨j,h3⟩=>⟨by rw [j,h1],Z0_ hW (le_refl _) h3⟩
 exact q24_
theorem Xi5 (n a b:Int) (l:List (List Int)) (i:List Mat) (v:Value) (w:World) (hv:MatV w w.heap.size v (.mk 2 n a b l i)) (hl2:l.length=2) (G:n≤64) (ha:a≤64) (h0:numsB (l.getD 0 []) n a=true) (h1:numsB (l.getD 1 []) a 65=false):Calls Tryz.prog 111 #[v] w (Says w (fitsB (.mk 2 n a b l i))):=by
 obtain ⟨H,h,rfl,⟨s,d,rfl,_,hlk⟩,_⟩:=hv.open;simp only [Mat.t,Mat.n,Mat.a,Mat.b,Mat.l] at *
 rw [show fitsB (.mk 2 n a b l i)=false from by show (numsB (l.getD 0 []) n a && numsB (l.getD 1 []) a 65)=false;rw [h0,h1];rfl];obtain ⟨c,k,hA,g,hc0,hr0⟩:=hlk 0 k30_;subst hA;obtain ⟨y,m,r,_,hc1,hr1⟩:=hlk 1 k30_;obtain rfl:=Option.some.inj r;rw [add_zero] at hc0;generalize l.getD 0 []=r0 at *
 generalize l.getD 1 []=r1 at *
 obtain ⟨u,z,hu0,_⟩:=id hr0;obtain ⟨x,B,hu1,_⟩:=id hr1;have Hb0:Hid (Below w.heap.size w (w.alloc (.cells #[.int .i64 2,.int .i64 n,.int .i64 a,.int .i64 b,.slice (some c) l.length d,h] 25))):=(Below.refl _ w).alloc (le_refl _) _;have Hbox:=hid (H0_ (w:=w) (t := 25) (cs:=#[.int .i64 2,.int .i64 n,.int .i64 a,.int .i64 b,.slice (some c) l.length d,h]));have Hr0:=hid (hr0.up Hb0.out);have Hr1:=hid (hr1.up Hb0.out);have Hc0:=hid (V0_ ((Hb0.out.cell (p:=c) g).trans hc0) (Nat.lt_of_lt_of_le g Hb0.out.size));rw [show c.add 1=(⟨c.block,c.off+1,none⟩:Addr) by simp [Addr.add]] at hc1;have Hc1:=hid (V0_ ((Hb0.out.cell (p:=⟨c.block,c.off+1,none⟩) g).trans hc1) (show c.block<_ from Nat.lt_of_lt_of_le g Hb0.out.size));have C:(1:Int)<(l.length:Int):=k30_;have D:(0:Int)<(l.length:Int):=k30_;have E:0<l.length:=k30_;have F:1<l.length:=k30_;obtain ⟨W0,hW0⟩:∃ W0,W0=w.alloc (.cells #[.int .i64 2,.int .i64 n,.int .i64 a,.int .i64 b,.slice (some c) l.length d,h] 25):=⟨_,rfl⟩;have hsz:W0.heap.size=w.heap.size+1:=q33_;have HW0:=hid hW0;have o:=(Blk.new w 25 #[.int .i64 2,.int .i64 n,.int .i64 a,.int .i64 b,.slice (some c) l.length d,h]).cell 0;rw [← hW0] at Hb0 Hbox Hr0 Hr1 Hc0 Hc1 o;rw [← hsz] at Hbox;have Hn0:Hid (∀ W,Below W0.heap.size W0 W→Calls Tryz.prog 125 #[k,.int .i64 n,.int .i64 a] W fun e w'=>e=.returned (.bool true)∧Below W0.heap.size W0 w'):=fun W hW =>
  (A8_ n a k r0 W (Hr0.out.up hW) k30_).mono fun _ _ ⟨j,h3⟩=>⟨by rw [j,h0],Z0_ hW (le_refl _) h3⟩
 have Hn1:Hid (∀ W,Below W0.heap.size W0 W→Calls Tryz.prog 125 #[m,.int .i64 a,.int .i64 65] W fun e w'=>e=.returned (.bool false)∧Below W0.heap.size W0 w'):=fun W hW =>
  (A8_ a 65 m r1 W (Hr1.out.up hW) k30_).mono fun _ _ ⟨j,h3⟩=>⟨by rw [j,h1],Z0_ hW (le_refl _) h3⟩
 exact q24_
theorem Vx5 (n a b:Int) (l:List (List Int)) (i:List Mat) (v:Value) (w:World) (F:MatV w w.heap.size v (.mk 2 n a b l i)) (N:l.length=2) (hn:n≤64) (r:numsB (l.getD 0 []) n a=false):Calls Tryz.prog 111 #[v] w (Says w (fitsB (.mk 2 n a b l i))):=by
 obtain ⟨lv,k,rfl,⟨R,h,rfl,_,x⟩,_⟩:=F.open;simp only [Mat.t,Mat.n,Mat.a,Mat.b,Mat.l] at *
 rw [show fitsB (.mk 2 n a b l i)=false from by show (numsB (l.getD 0 []) n a && numsB (l.getD 1 []) a 65)=false;rw [r];rfl];obtain ⟨c,H,hA,j,s,y⟩:=x 0 k30_;subst hA;obtain ⟨U,u1,M,_,u,z⟩:=x 1 k30_;obtain rfl:=Option.some.inj M;rw [add_zero] at s;generalize l.getD 0 []=G at *
 generalize l.getD 1 []=Q at *
 obtain ⟨S,V,O,_⟩:=id y;obtain ⟨T,X,P,_⟩:=id z;have Hb0:Hid (Below w.heap.size w (w.alloc (.cells #[.int .i64 2,.int .i64 n,.int .i64 a,.int .i64 b,.slice (some c) l.length h,k] 25))):=(Below.refl _ w).alloc (le_refl _) _;have m:=hid (H0_ (w:=w) (t := 25) (cs:=#[.int .i64 2,.int .i64 n,.int .i64 a,.int .i64 b,.slice (some c) l.length h,k]));have o:=hid (y.up Hb0.out);have D:=hid (z.up Hb0.out);have B:=hid (V0_ ((Hb0.out.cell (p:=c) j).trans s) (Nat.lt_of_lt_of_le j Hb0.out.size));rw [show c.add 1=(⟨c.block,c.off+1,none⟩:Addr) by simp [Addr.add]] at u;have C:=hid (V0_ ((Hb0.out.cell (p:=⟨c.block,c.off+1,none⟩) j).trans u) (show c.block<_ from Nat.lt_of_lt_of_le j Hb0.out.size));have Y:(1:Int)<(l.length:Int):=k30_;have Z:(0:Int)<(l.length:Int):=k30_;have x0:0<l.length:=k30_;have x1:1<l.length:=k30_;obtain ⟨d,hW0⟩:∃ d,d=w.alloc (.cells #[.int .i64 2,.int .i64 n,.int .i64 a,.int .i64 b,.slice (some c) l.length h,k] 25):=⟨_,rfl⟩;have E:d.heap.size=w.heap.size+1:=q33_;have I:=hid hW0;have K:=(Blk.new w 25 #[.int .i64 2,.int .i64 n,.int .i64 a,.int .i64 b,.slice (some c) l.length h,k]).cell 0;rw [← hW0] at Hb0 m o D B C K;rw [← E] at m;have J:Hid (∀ W,Below d.heap.size d W→Calls Tryz.prog 125 #[H,.int .i64 n,.int .i64 a] W fun e w'=>e=.returned (.bool false)∧Below d.heap.size d w'):=fun W g =>
  (A8_ n a H G W (o.out.up g) k30_).mono fun _ _ ⟨L,h3⟩=>⟨by rw [L,r],Z0_ g (le_refl _) h3⟩
 subst O P;clear F x y z s u r N E o D
 go_enter Tryz.func111,Tryz.ntmps111
 go_wp2;rw [← I.out];clear hW0;refine Z6_ d.heap.size d q31_ q31_ (Below.refl _ _) ?_
 iterate 19 (first
   | go_big_quiet_step (with_reducible exact J.out _)
   | (go_big_quiet_want;apply Exists.intro;refine ⟨fun W g=>?_,?_⟩;(· have q:=m.out W g;have q1:=q 1;have q2:=q 2;have q4:=q 4;clear q;have G:=B.out W g;have Q:=C.out W g;go_simp;first | exact rfl | exact ⟨rfl,rfl⟩);go_simp;go_big_quiet_on))
 exact x2_
theorem Vf5 (n a b:Int) (l:List (List Int)) (i:List Mat) (v:Value) (w:World) (e:MatV w w.heap.size v (.mk 2 n a b l i)) (c:l.length=2) (d:n≤64) (ha:a≤64):Calls Tryz.prog 111 #[v] w (Says w (fitsB (.mk 2 n a b l i))):=by
 rcases h0:numsB (l.getD 0 []) n a with _ | _
 ·exact Vx5 n a b l i v w e c d h0
 ·rcases h1:numsB (l.getD 1 []) a 65 with _ | _
  ·exact Xi5 n a b l i v w e c d ha h0 h1
  ·exact Xi4 n a b l i v w e c d ha h0 h1
open Go.RowKit
theorem Vx6 (n a b:Int) (l:List (List Int)) (i:List Mat) (v:Value) (w:World) (hv:MatV w w.heap.size v (.mk 5 n a b l i)) (hs:Sml (.mk 5 n a b l i)) (k:0<l.length) (s:0<i.length) (hp:partB (.mk 5 n a b l i)=true):Calls Tryz.prog 111 #[v] w (Says w (fitsB (.mk 5 n a b l i))):=by
 have hrow:(l.getD 0 []).length≤1000:=sml_r hs (X0_ l 0 [] k);obtain ⟨F,E,D,C,B⟩:=hv.open;rw [show fitsB (.mk 5 n a b l i)=decide (n=((l.getD 0 []).length:Int)) from by show (partB (.mk 5 n a b l i) && decide (n=((l.getD 0 []).length:Int)))=_;rw [hp];rfl];have Hb0:Hid (Below w.heap.size w (w.alloc (.cells #[.int .i64 5,.int .i64 n,.int .i64 a,.int .i64 b,F,E] 25))):=(Below.refl _ w).alloc (le_refl _) _;have Hv:=hid (hv.up Hb0.out);obtain ⟨H,j,rfl,_,hlk⟩:=C;obtain ⟨G,h,rfl,_,hik⟩:=B;obtain rfl:=D;simp only [Mat.t,Mat.n,Mat.a,Mat.b,Mat.l,Mat.i] at *
 obtain ⟨g,P,hA,m,hc0,hr0⟩:=hlk 0 k;subst hA;obtain ⟨d,Q,hA,o,u,hmv⟩:=hik 0 s;subst hA;rw [add_zero] at hc0;rw [show (0:Nat) * 6=0 from rfl,add_zero] at u;obtain ⟨O,N,hui,_,_⟩:=hmv.open;obtain ⟨R,S,T,U,V,X,c,s0,s1,_⟩:=u;rw [hui] at c;injection c with c;injection c with c;injection c with _ c;injection c with hx1 _;subst hx1;generalize l.getD 0 []=r at *
 generalize i.getD 0 default=x at *
 obtain ⟨I,J,hu0,_⟩:=id hr0;have Hbox:=hid (H0_ (w:=w) (t := 25) (cs:=#[.int .i64 5,.int .i64 n,.int .i64 a,.int .i64 b,.slice (some g) l.length j,.slice (some d) i.length h]));have Hc0:=hid (V0_ ((Hb0.out.cell (p:=g) m).trans hc0) (Nat.lt_of_lt_of_le m Hb0.out.size));have Hc1:=hid (V0_ ((Hb0.out.cell (p:=⟨d.block,d.off+1,none⟩) o).trans s1) (show d.block<_ from Nat.lt_of_lt_of_le o Hb0.out.size));have L:(0:Int)<(l.length:Int):=k30_;have K:(0:Int)<(i.length:Int):=k30_;have M:(r.length:Int)≤1000:=k30_;obtain ⟨W0,hW0⟩:∃ W0,W0=w.alloc (.cells #[.int .i64 5,.int .i64 n,.int .i64 a,.int .i64 b,.slice (some g) l.length j,.slice (some d) i.length h] 25):=⟨_,rfl⟩;have hsz:W0.heap.size=w.heap.size+1:=q33_;have HW0:=hid hW0;have y:=(Blk.new w 25 #[.int .i64 5,.int .i64 n,.int .i64 a,.int .i64 b,.slice (some g) l.length j,.slice (some d) i.length h]).cell 0;rw [← hW0] at Hb0 Hbox Hv Hc0 Hc1 y;rw [← hsz] at Hbox;have Hp:Hid (∀ W,Below W0.heap.size W0 W→Calls Tryz.prog 129 #[.agg #[.int .i64 5,.int .i64 n,.int .i64 a,.int .i64 b,.slice (some g) l.length j,.slice (some d) i.length h]] W fun e w'=>e=.returned (.bool true)∧Below W0.heap.size W0 w'):=fun W hW =>
  (P2_ (.mk 5 n a b l i) _ W (Hv.out.up hW) hs k s).mono fun _ _ ⟨z,h3⟩=>⟨by rw [z,hp],Z0_ hW (le_refl _) h3⟩
 exact x24_
theorem Vx7 (n a b:Int) (l:List (List Int)) (i:List Mat) (v:Value) (w:World) (hv:MatV w w.heap.size v (.mk 5 n a b l i)) (hs:Sml (.mk 5 n a b l i)) (k:0<l.length) (s:0<i.length) (hp:partB (.mk 5 n a b l i)=false):Calls Tryz.prog 111 #[v] w (Says w (fitsB (.mk 5 n a b l i))):=by
 have hrow:(l.getD 0 []).length≤1000:=sml_r hs (X0_ l 0 [] k);obtain ⟨F,E,D,C,B⟩:=hv.open;rw [show fitsB (.mk 5 n a b l i)=false from by show (partB (.mk 5 n a b l i) && decide (n=((l.getD 0 []).length:Int)))=_;rw [hp];rfl];have Hb0:Hid (Below w.heap.size w (w.alloc (.cells #[.int .i64 5,.int .i64 n,.int .i64 a,.int .i64 b,F,E] 25))):=(Below.refl _ w).alloc (le_refl _) _;have Hv:=hid (hv.up Hb0.out);obtain ⟨H,j,rfl,_,hlk⟩:=C;obtain ⟨G,h,rfl,_,hik⟩:=B;obtain rfl:=D;simp only [Mat.t,Mat.n,Mat.a,Mat.b,Mat.l,Mat.i] at *
 obtain ⟨g,P,hA,m,hc0,hr0⟩:=hlk 0 k;subst hA;obtain ⟨d,Q,hA,o,u,hmv⟩:=hik 0 s;subst hA;rw [add_zero] at hc0;rw [show (0:Nat) * 6=0 from rfl,add_zero] at u;obtain ⟨O,N,hui,_,_⟩:=hmv.open;obtain ⟨R,S,T,U,V,X,c,s0,s1,_⟩:=u;rw [hui] at c;injection c with c;injection c with c;injection c with _ c;injection c with hx1 _;subst hx1;generalize l.getD 0 []=r at *
 generalize i.getD 0 default=x at *
 obtain ⟨I,J,hu0,_⟩:=id hr0;have Hbox:=hid (H0_ (w:=w) (t := 25) (cs:=#[.int .i64 5,.int .i64 n,.int .i64 a,.int .i64 b,.slice (some g) l.length j,.slice (some d) i.length h]));have Hc0:=hid (V0_ ((Hb0.out.cell (p:=g) m).trans hc0) (Nat.lt_of_lt_of_le m Hb0.out.size));have Hc1:=hid (V0_ ((Hb0.out.cell (p:=⟨d.block,d.off+1,none⟩) o).trans s1) (show d.block<_ from Nat.lt_of_lt_of_le o Hb0.out.size));have L:(0:Int)<(l.length:Int):=k30_;have K:(0:Int)<(i.length:Int):=k30_;have M:(r.length:Int)≤1000:=k30_;obtain ⟨W0,hW0⟩:∃ W0,W0=w.alloc (.cells #[.int .i64 5,.int .i64 n,.int .i64 a,.int .i64 b,.slice (some g) l.length j,.slice (some d) i.length h] 25):=⟨_,rfl⟩;have hsz:W0.heap.size=w.heap.size+1:=q33_;have HW0:=hid hW0;have y:=(Blk.new w 25 #[.int .i64 5,.int .i64 n,.int .i64 a,.int .i64 b,.slice (some g) l.length j,.slice (some d) i.length h]).cell 0;rw [← hW0] at Hb0 Hbox Hv Hc0 Hc1 y;rw [← hsz] at Hbox;have Hp:Hid (∀ W,Below W0.heap.size W0 W→Calls Tryz.prog 129 #[.agg #[.int .i64 5,.int .i64 n,.int .i64 a,.int .i64 b,.slice (some g) l.length j,.slice (some d) i.length h]] W fun e w'=>e=.returned (.bool false)∧Below W0.heap.size W0 w'):=fun W hW =>
  (P2_ (.mk 5 n a b l i) _ W (Hv.out.up hW) hs k s).mono fun _ _ ⟨z,h3⟩=>⟨by rw [z,hp],Z0_ hW (le_refl _) h3⟩
 exact x24_
theorem Vf6 (n a b:Int) (l:List (List Int)) (i:List Mat) (v:Value) (w:World) (e:MatV w w.heap.size v (.mk 5 n a b l i)) (hs:Sml (.mk 5 n a b l i)) (d:0<l.length) (c:0<i.length):Calls Tryz.prog 111 #[v] w (Says w (fitsB (.mk 5 n a b l i))):=by
 rcases h0:partB (.mk 5 n a b l i) with _ | _
 ·exact Vx7 n a b l i v w e hs d c h0
 ·exact Vx6 n a b l i v w e hs d c h0
theorem Vx8 (n a b:Int) (l:List (List Int)) (i:List Mat) (v:Value) (w:World) (C:MatV w w.heap.size v (.mk 6 n a b l i)) (hs:Sml (.mk 6 n a b l i)) (z:0<l.length) (H:0<i.length) (B:partB (.mk 6 n a b l i)=true):Calls Tryz.prog 111 #[v] w (Says w (fitsB (.mk 6 n a b l i))):=by
 have Y:(l.getD 0 []).length≤1000:=sml_r hs (X0_ l 0 [] z);obtain ⟨lv,iv,x6,X,V⟩:=C.open;rw [show fitsB (.mk 6 n a b l i)=decide (IntKind.i64.wrap (n+((l.getD 0 []).length:Int))=(i.getD 0 default).n) from by show (partB (.mk 6 n a b l i) && decide (IntKind.i64.wrap (n+((l.getD 0 []).length:Int))=(i.getD 0 default).n))=_;rw [B];rfl];have d:Hid (Below w.heap.size w (w.alloc (.cells #[.int .i64 6,.int .i64 n,.int .i64 a,.int .i64 b,lv,iv] 25))):=(Below.refl _ w).alloc (le_refl _) _;have u:=hid (C.up d.out);obtain ⟨Al,o,rfl,_,J⟩:=X;obtain ⟨Ai,m,rfl,_,I⟩:=V;obtain rfl:=x6;simp only [Mat.t,Mat.n,Mat.a,Mat.b,Mat.l,Mat.i] at *
 obtain ⟨k,u0,hA,F,y,L⟩:=J 0 z;subst hA;obtain ⟨h,ui,hA,G,M,K⟩:=I 0 H;subst hA;rw [add_zero] at y;rw [show (0:Nat) * 6=0 from rfl,add_zero] at M;obtain ⟨xb,xa,O,_,_⟩:=K.open;obtain ⟨x0,x1,x2,x3,x4,x5,g,s0,P,_⟩:=M;rw [O] at g;injection g with g;injection g with g;injection g with _ g;injection g with hx1 _;subst hx1;generalize l.getD 0 []=r at *
 generalize i.getD 0 default=x at *
 obtain ⟨Ar,cr,Z,_⟩:=id L;have s:=hid (H0_ (w:=w) (t := 25) (cs:=#[.int .i64 6,.int .i64 n,.int .i64 a,.int .i64 b,.slice (some k) l.length o,.slice (some h) i.length m]));have D:=hid (V0_ ((d.out.cell (p:=k) F).trans y) (Nat.lt_of_lt_of_le F d.out.size));have E:=hid (V0_ ((d.out.cell (p:=⟨h.block,h.off+1,none⟩) G).trans P) (show h.block<_ from Nat.lt_of_lt_of_le G d.out.size));have x8:(0:Int)<(l.length:Int):=k30_;have x7:(0:Int)<(i.length:Int):=k30_;have x9:(r.length:Int)≤1000:=k30_;obtain ⟨c,hW0⟩:∃ c,c=w.alloc (.cells #[.int .i64 6,.int .i64 n,.int .i64 a,.int .i64 b,.slice (some k) l.length o,.slice (some h) i.length m] 25):=⟨_,rfl⟩;have N:c.heap.size=w.heap.size+1:=q33_;have Q:=hid hW0;have S:=(Blk.new w 25 #[.int .i64 6,.int .i64 n,.int .i64 a,.int .i64 b,.slice (some k) l.length o,.slice (some h) i.length m]).cell 0;rw [← hW0] at d s u D E S;rw [← N] at s;have R:Hid (∀ W,Below c.heap.size c W→Calls Tryz.prog 129 #[.agg #[.int .i64 6,.int .i64 n,.int .i64 a,.int .i64 b,.slice (some k) l.length o,.slice (some h) i.length m]] W fun e w'=>e=.returned (.bool true)∧Below c.heap.size c w'):=fun W j =>
  (P2_ (.mk 6 n a b l i) _ W (u.out.up j) hs z H).mono fun _ _ ⟨T,h3⟩=>⟨by rw [T,B],Z0_ j (le_refl _) h3⟩
 subst Z;clear C J I L y B N u s0 P K O Y
 go_enter Tryz.func111,Tryz.ntmps111
 go_wp2;rw [← Q.out];clear hW0;refine Z6_ c.heap.size c q31_ q31_ (Below.refl _ _) ?_
 iterate 19 (first
   | go_big_quiet_step (with_reducible exact R.out _)
   | (go_big_quiet_want;apply Exists.intro;refine ⟨fun W j=>?_,?_⟩;(· have q:=s.out W j;have q0:=q 0;have q1:=q 1;have q2:=q 2;have q3:=q 3;have q4:=q 4;have q5:=q 5;clear q;have r0:=D.out W j;have r1:=E.out W j;go_simp;first | exact rfl | exact ⟨rfl,rfl⟩);go_simp;go_big_quiet_on))
 refine wpQuiet_nil ?_;intro w5 U;go_wp2;go_ret;exact ⟨by rw [Zn5];rfl,d.out.trans (U.mono d.out.size)⟩
theorem Vx9 (n a b:Int) (l:List (List Int)) (i:List Mat) (v:Value) (w:World) (B:MatV w w.heap.size v (.mk 6 n a b l i)) (hs:Sml (.mk 6 n a b l i)) (y:0<l.length) (G:0<i.length) (z:partB (.mk 6 n a b l i)=false):Calls Tryz.prog 111 #[v] w (Says w (fitsB (.mk 6 n a b l i))):=by
 have V:(l.getD 0 []).length≤1000:=sml_r hs (X0_ l 0 [] y);obtain ⟨lv,Z,Y,U,T⟩:=B.open;rw [show fitsB (.mk 6 n a b l i)=false from by show (partB (.mk 6 n a b l i) && decide (IntKind.i64.wrap (n+((l.getD 0 []).length:Int))=(i.getD 0 default).n))=_;rw [z];rfl];have Hb0:Hid (Below w.heap.size w (w.alloc (.cells #[.int .i64 6,.int .i64 n,.int .i64 a,.int .i64 b,lv,Z] 25))):=(Below.refl _ w).alloc (le_refl _) _;have s:=hid (B.up Hb0.out);obtain ⟨Al,m,rfl,_,I⟩:=U;obtain ⟨Ai,k,rfl,_,H⟩:=T;obtain rfl:=Y;simp only [Mat.t,Mat.n,Mat.a,Mat.b,Mat.l,Mat.i] at *
 obtain ⟨j,u0,hA,E,u,K⟩:=I 0 y;subst hA;obtain ⟨g,ui,hA,F,L,J⟩:=H 0 G;subst hA;rw [add_zero] at u;rw [show (0:Nat) * 6=0 from rfl,add_zero] at L;obtain ⟨xa,x9,N,_,_⟩:=J.open;obtain ⟨x0,x1,x2,x3,x4,x5,d,s0,O,_⟩:=L;rw [N] at d;injection d with d;injection d with d;injection d with _ d;injection d with hx1 _;subst hx1;generalize l.getD 0 []=r at *
 generalize i.getD 0 default=x at *
 obtain ⟨Ar,cr,X,_⟩:=id K;have o:=hid (H0_ (w:=w) (t := 25) (cs:=#[.int .i64 6,.int .i64 n,.int .i64 a,.int .i64 b,.slice (some j) l.length m,.slice (some g) i.length k]));have C:=hid (V0_ ((Hb0.out.cell (p:=j) E).trans u) (Nat.lt_of_lt_of_le E Hb0.out.size));have D:=hid (V0_ ((Hb0.out.cell (p:=⟨g.block,g.off+1,none⟩) F).trans O) (show g.block<_ from Nat.lt_of_lt_of_le F Hb0.out.size));have x7:(0:Int)<(l.length:Int):=k30_;have x6:(0:Int)<(i.length:Int):=k30_;have x8:(r.length:Int)≤1000:=k30_;obtain ⟨c,hW0⟩:∃ c,c=w.alloc (.cells #[.int .i64 6,.int .i64 n,.int .i64 a,.int .i64 b,.slice (some j) l.length m,.slice (some g) i.length k] 25):=⟨_,rfl⟩;have M:c.heap.size=w.heap.size+1:=q33_;have P:=hid hW0;have R:=(Blk.new w 25 #[.int .i64 6,.int .i64 n,.int .i64 a,.int .i64 b,.slice (some j) l.length m,.slice (some g) i.length k]).cell 0;rw [← hW0] at Hb0 o s C D R;rw [← M] at o;have Q:Hid (∀ W,Below c.heap.size c W→Calls Tryz.prog 129 #[.agg #[.int .i64 6,.int .i64 n,.int .i64 a,.int .i64 b,.slice (some j) l.length m,.slice (some g) i.length k]] W fun e w'=>e=.returned (.bool false)∧Below c.heap.size c w'):=fun W h =>
  (P2_ (.mk 6 n a b l i) _ W (s.out.up h) hs y G).mono fun _ _ ⟨S,h3⟩=>⟨by rw [S,z],Z0_ h (le_refl _) h3⟩
 subst X;clear B I H K u z M s s0 O J N V
 go_enter Tryz.func111,Tryz.ntmps111
 go_wp2;rw [← P.out];clear hW0;refine Z6_ c.heap.size c q31_ q31_ (Below.refl _ _) ?_
 iterate 19 (first
   | go_big_quiet_step (with_reducible exact Q.out _)
   | (go_big_quiet_want;apply Exists.intro;refine ⟨fun W h=>?_,?_⟩;(· have q:=o.out W h;have q0:=q 0;have q1:=q 1;have q2:=q 2;have q3:=q 3;have q4:=q 4;have q5:=q 5;clear q;have r0:=C.out W h;have r1:=D.out W h;go_simp;first | exact rfl | exact ⟨rfl,rfl⟩);go_simp;go_big_quiet_on))
 exact x2_
theorem Vf7 (n a b:Int) (l:List (List Int)) (i:List Mat) (v:Value) (w:World) (e:MatV w w.heap.size v (.mk 6 n a b l i)) (hs:Sml (.mk 6 n a b l i)) (d:0<l.length) (c:0<i.length):Calls Tryz.prog 111 #[v] w (Says w (fitsB (.mk 6 n a b l i))):=by
 rcases h0:partB (.mk 6 n a b l i) with _ | _
 ·exact Vx9 n a b l i v w e hs d c h0
 ·exact Vx8 n a b l i v w e hs d c h0
open Go.RowKit
theorem Xz0 (m:Mat) (v:Value) (w:World) (c:MatV w w.heap.size v m) (hs:Sml m) (q:Met w) (p:0≤m.t∧m.t<10) (e:0≤m.n∧m.n≤64∧0≤m.a∧m.a≤64) (h3:Z5_ (form m.t) m=true) :
  Calls Tryz.prog 111 #[v] w (Says w (fitsB m)):=by
 obtain ⟨_,_,d,g,_⟩:=takes_iff.1 h3;have j:=sml_l hs;obtain ⟨t,n,a,b,l,i⟩:=m;simp only [Mat.t,Mat.n,Mat.a,Mat.l,Mat.i] at p e d g j;rcases (by omega:t=0∨t=1∨t=2∨t=3∨t=4∨t=5∨t=6∨7≤t) with rfl | rfl | rfl | rfl | rfl | rfl | rfl | h
 ·exact Vf1 n a b l i v w c
 ·exact Vf2 n a b l i v w c j
 ·have:(l.length:Int)=2:=d
  exact Vf5 n a b l i v w c k30_ e.2.1 e.2.2.2
 ·exact Vf3 n a b l i v w c
 ·exact Vf4 n a b l i v w c q
 ·have k:(l.length:Int)=1:=d
  have o:(1:Int)≤(i.length:Int):=g;exact Vf6 n a b l i v w c hs k30_ k30_
 ·have k:(l.length:Int)=1:=d
  have o:(1:Int)≤(i.length:Int):=g;exact Vf7 n a b l i v w c hs k30_ k30_
 ·exact Zq9 _ v w c hs h
def badV (E:Nat→Addr):Nat→Value
 | 0=>.nilIface
 | k+1=>eS (E (k+1))
theorem Xz1 {m:Mat} (h:m.t<0∨10≤m.t):bad m=1:=if_pos h
theorem Vv0 {m:Mat} (h:¬ (m.t<0∨10≤m.t)) (c:m.n<0∨64<m.n∨m.a<0∨64<m.a):bad m=2:=by
 unfold bad;rw [if_neg h,if_pos c]
theorem Xz2 {m:Mat} (h:¬ (m.t<0∨10≤m.t)) (c:¬ (m.n<0∨64<m.n∨m.a<0∨64<m.a)) (h3:Z5_ (form m.t) m=false):bad m=3:=by
 unfold bad;rw [if_neg h,if_neg c,if_pos h3]
theorem Xi6 {m:Mat} (h:¬ (m.t<0∨10≤m.t)) (c:¬ (m.n<0∨64<m.n∨m.a<0∨64<m.a)) (h3:Z5_ (form m.t) m=true):bad m=if fitsB m=false then 4 else 0:=by
 unfold bad;rw [if_neg h,if_neg c,if_neg (by rw [h3];decide)]
theorem Zb7 (E:Nat→Addr) (m:Mat) (v:Value) (w:World) (g:MatV w w.heap.size v m) (d:Env E w) (h:(m.t<0∨10≤m.t)∨(m.n<0∨64<m.n∨m.a<0∨64<m.a)) :
  Calls Tryz.prog 82 #[v] w (fun e w'=>e=.returned (badV E (bad m))∧Below w.heap.size w w'):=by
 obtain ⟨p,o,rfl,_,_⟩:=g.open;have Hb0:=hid (Z1_ w m p o);have c:=d.up Hb0.out;have x:=c.g1;have y:=c.g2;unfold boxed eS at *
 clear d c g;by_cases j:m.t<0
 ·rw [Xz1 (.inl j)]
  exact q25_
 by_cases k:10≤m.t
 ·rw [Xz1 (.inr k)]
  exact q25_
 rw [Vv0 k30_ k30_];by_cases q:m.n<0
 ·exact q25_
 by_cases r:64<m.n
 ·exact q25_
 by_cases s:m.a<0
 ·exact q25_
 have u:64<m.a:=k30_;clear h
 go_enter Tryz.func82,Tryz.ntmps82
 go_wp2;go_ret;exact ⟨rfl,Hb0.out⟩
open Go.RowKit
def Bad (E:Nat→Addr) (k:Nat) (w:World) (e:Ending) (w':World):Prop:=e=.returned (badV E k)∧Below w.heap.size w w'
theorem Xz3 (E:Nat→Addr) (m:Mat) (v:Value) (w:World) (d:MatV w w.heap.size v m) (hs:Sml m) (r:Env E w) (o:¬ (m.t<0∨10≤m.t)) (h2:¬ (m.n<0∨64<m.n∨m.a<0∨64<m.a)) :
  Calls Tryz.prog 82 #[v] w (Bad E (bad m) w):=by
 have y:=hid (fun (v:Value) (W:World) (d:MatV W W.heap.size v m) (r:Env E W) (h3:Z5_ (form m.t) m=true)=>Xz0 m v W d hs r.tab k30_ k30_ h3);have Htakes:=hid (fun (v:Value) (W:World) (d:MatV W W.heap.size v m)=>Yu7 (form m.t) m v W d hs);have B:=hid d;have u:∀ b,Z5_ (form m.t) m=b→bad m=if b=false then 3 else if fitsB m=false then 4 else 0:=by
  intro b hb;cases b
  ·exact Xz2 o h2 hb
  ·exact Xi6 o h2 hb
 have s:=hid u;clear hs u;obtain ⟨lv,iv,z,_,_⟩:=d.open;have Hb0:=hid (Z1_ w m lv iv);have HE:=hid (r.up Hb0.out);have Hv:=hid (d.up Hb0.out);have Hbox:=hid (H0_ (w:=w) (t := 25) (cs:=#[.int .i64 m.t,.int .i64 m.n,.int .i64 m.a,.int .i64 m.b,lv,iv]));have k:=(Blk.new w 25 #[.int .i64 m.t,.int .i64 m.n,.int .i64 m.a,.int .i64 m.b,lv,iv]).cell;unfold boxed at *
 obtain ⟨W0,hW0⟩:∃ W0,W0=w.alloc (.cells #[.int .i64 m.t,.int .i64 m.n,.int .i64 m.a,.int .i64 m.b,lv,iv] 25):=⟨_,rfl⟩;have x:W0.heap.size=w.heap.size+1:=q33_;have HW0:=hid hW0;rw [← hW0] at Hb0 Hbox HE Hv k;rw [← x] at Hbox;have g0:=k 0;have g1:=k 1;have g2:=k 2;obtain ⟨T,j⟩:∃ T:Nat,m.t=(T:Int):=⟨m.t.toNat,k30_⟩;have p:T<10:=k30_;have C:(T:Int)<10:=k30_;have a1:¬ m.t<0:=k30_;have a2:¬ 10≤m.t:=k30_;have a3:¬ m.n<0:=k30_;have a4:¬ 64<m.n:=k30_;have a5:¬ m.a<0:=k30_;have a6:¬ 64<m.a:=k30_;have Hf:Hid (∀ W,Below W0.heap.size W0 W→(W.cell? ⟨4,T * 5,none⟩=some (.bool (form m.t).fa)∧W.cell? ⟨4,T * 5+1,none⟩=some (.bool (form m.t).fb)∧W.cell? ⟨4,T * 5+2,none⟩=some (.int .i64 (form m.t).lists)∧W.cell? ⟨4,T * 5+3,none⟩=some (.int .i64 (form m.t).least)∧W.cell? ⟨4,T * 5+4,none⟩=some (.int .i64 (form m.t).most))):=fun W hW=>by
  have h:=HE.out.up hW;rw [j];exact ⟨h.f0 T p,h.f1 T p,h.f2 T p,h.f3 T p,h.f4 T p⟩
 have Hmt:=hid j;clear r d k x o h2;generalize form m.t=f at *
 rw [j] at g0 a1 a2 Hbox;subst z;rw [j] at Hv;rw [j];have D:IntKind.i64.wrap ((T:Int) * 5)=(T:Int) * 5:=k31_;clear j;rcases hb:Z5_ f m with _ | _
 ·rw [s.out false hb,if_pos rfl]
  have Hb:=hid hb;have Hc:Hid (∀ W,Below W0.heap.size W0 W→Calls Tryz.prog 110 #[.agg #[.bool f.fa,.bool f.fb,.int .i64 f.lists,.int .i64 f.least,.int .i64 f.most],.agg #[.int .i64 (T:Int),.int .i64 m.n,.int .i64 m.a,.int .i64 m.b,lv,iv]] W fun e w'=>e=.returned (.bool false)∧Below W0.heap.size W0 w'):=fun W hW =>
   (show Calls _ _ #[formV f,_] W _ from (Htakes.out _ W (Hv.out.up hW)).mono fun _ _ ⟨h2,h3⟩=>⟨by rw [h2,Hb.out],Z0_ hW (le_refl _) h3⟩)
  clear hb
  go_enter Tryz.func82,Tryz.ntmps82
  go_wp2;rw [← Hmt.out,← HW0.out,Hmt.out];clear hW0 g0 g1 g2 a1 a2 a3 a4 a5 a6;refine Z6_ W0.heap.size W0 q31_ q31_ (Below.refl _ _) ?_
  iterate 8 (first
   | go_big_quiet_step (with_reducible exact Hc.out _)
   | (go_big_quiet_want;apply Exists.intro;refine ⟨fun W hW=>?_,?_⟩;(· have q:=Hbox.out W hW;have q0:=q 0;have q1:=q 1;have q2:=q 2;have q3:=q 3;have q4:=q 4;have q5:=q 5;clear q;obtain ⟨f0,f1,f2,f3,f4⟩:=Hf.out W hW;go_simp;first | exact rfl | exact ⟨rfl,rfl⟩);go_simp;go_big_quiet_on))
  refine wpQuiet_nil ?_;intro w5 hB5;have gE:=(HE.out.up hB5).g3;have Hb5:=hid (Hb0.out.trans (hB5.mono Hb0.out.size));unfold eS at gE;clear hB5;go_wp2;go_ret;exact ⟨rfl,Hb5.out⟩
 ·rw [s.out true hb,if_neg z31_]
  have Hfits':Hid (∀ W,MatV W W.heap.size (.agg #[.int .i64 (T:Int),.int .i64 m.n,.int .i64 m.a,.int .i64 m.b,lv,iv]) m→Env E W→Calls Tryz.prog 111 #[.agg #[.int .i64 (T:Int),.int .i64 m.n,.int .i64 m.a,.int .i64 m.b,lv,iv]] W (Says W (fitsB m))):=fun W o h2=>y.out _ W o h2 hb;generalize fitsB m=c at *
  cases c
  ·rw [if_pos rfl]
   exact z1_
  ·rw [if_neg z31_]
   exact z1_
theorem Zb8 (E:Nat→Addr) (m:Mat) (v:Value) (w:World) (d:MatV w w.heap.size v m) (hs:Sml m) (c:Env E w):Calls Tryz.prog 82 #[v] w (Bad E (bad m) w):=by
 by_cases e:m.t<0∨10≤m.t
 ·exact Zb7 E m v w d c (.inl e)
 ·by_cases g:m.n<0∨64<m.n∨m.a<0∨64<m.a
  ·exact Zb7 E m v w d c (.inr g)
  ·exact Xz3 E m v w d hs c e g
open Go.RowKit
def Ya8 (E:Nat→Addr) (w:World) (b:Bool) (e:Ending) (w':World):Prop :=
 (b=true∧e=.returned .nilIface∨b=false∧∃ t ts j,1≤j∧j≤4∧e=.returned (chain (t :: ts) (eS (E j))))∧Below w.heap.size w w'
theorem Yh6 {E:Nat→Addr} {w w':World} {b:Bool} (h:b=true) (hb:Below w.heap.size w w'):Ya8 E w b (.returned .nilIface) w':=⟨.inl ⟨h,rfl⟩,hb⟩
theorem P3_ {E:Nat→Addr} {w w':World} {b:Bool} {t:Int} {ts:List Int} {j:Nat} {v:Value} (h:b=false) (c:1≤j∧j≤4) (d:v=chain (t :: ts) (eS (E j))) (hb:Below w.heap.size w w'):Ya8 E w b (.returned v) w':=⟨.inr ⟨h,t,ts,j,c.1,c.2,by rw [d]⟩,hb⟩
def Mid (E:Nat→Addr) (k:Nat) (i:List Mat) (n:Nat) (ve:Value):Prop :=
 (ve=.nilIface∧∀ j,j<n→ok k (i.getD j default)=true)∨∃ t ts j,1≤j∧j≤4∧ve=chain (t :: ts) (eS (E j))∧i.all (ok k)=false
theorem Vf8 {k j:Nat} {i:List Mat} (c:j<i.length) (h:ok k (i.getD j default)=false):i.all (ok k)=false:=by
 rw [← Bool.not_eq_true,List.all_eq_true];intro e;rw [e _ (X0_ i j default c)] at h;cases h
theorem Vv1 {k:Nat} {i:List Mat} (h:∀ j,j<i.length→ok k (i.getD j default)=true):i.all (ok k)=true:=by
 rw [List.all_eq_true];intro x d;obtain ⟨j,c,rfl⟩:=List.mem_iff_getElem.1 d;have:=h j c
 rwa [show i.getD j default=i[j] by simp [List.getD,c]] at this
theorem ok_is {k:Nat} {m:Mat}:ok (k+1) m=(decide (bad m=0) && m.i.all (ok k)):=rfl
theorem Vf9 (m:Mat):bad m≤4:=by
 unfold bad;split
 ·omega
 split
 ·omega
 split
 ·omega
 split<;>omega
theorem Xi7 (E:Nat→Addr):∀ (k:Nat) (m:Mat) (v:Value) (w:World),MatV w w.heap.size v m→Sml m→Env E w→dp k m≤k→Calls Tryz.prog 49 #[v] w (Ya8 E w (ok k m)):=by
 intro k
 induction k with
 | zero=>intro m v w _ _ _ h;exact absurd h (by have:=Za6 0 m;omega)
 | succ k ih =>
  intro m v w K hs hE hd;have I:=hid hs;have Ih:=hid ih;have xi:Hid (bad m=0→∀ j,j<m.i.length→dp k (m.i.getD j default)≤k):=fun hb j C=>by
   have hx:=X0_ m.i j default C;have hn:nest m.t:=q23_;have:=W1_ (k:=k) hn hx;omega
  have xp:=U1_ hs;have xw:(m.i.length:Int)≤1000:=k30_;obtain ⟨L,iv,xu,_,hi⟩:=K.open;obtain ⟨D,J,xr,_,x9⟩:=hi;subst xr;have xj:=hid x9;have s:=hid (Z1_ w m L (.slice D m.i.length J));have F:=hid (hE.up s.out);have T:=hid (K.up s.out);have G:=hid (Z3_ w m L (.slice D m.i.length J));have x7:=Vf9 m;clear ih hs hE hd xp x9 K;subst xu;have c:=G.out.cell;have U:=c 0;have V:=c 1;have W:=c 2;have X:=c 3;have Y:=c 4;have Z:=c 5;unfold boxed at *
  rcases hb:bad m with _ | q
  ·have r:=hid hb
   have S:Hid (ok (k+1) m=m.i.all (ok k)):=by
    show _=_;rw [ok_is,hb];rfl
   clear hb x7 c
   go_enter Tryz.func49,Tryz.ntmps49
   go_wp2_with fail
   refine (Zb8 E m _ _ T.out I.out F.out).mono ?_;rintro e w1 ⟨rfl,d⟩;rw [r.out];have Hb1:=hid (Z0_ s.out (le_refl _) d);have o:=hid (G.out.below d y31_);have xf:=hid (F.out.up d);clear d U V W X Y Z;simp only [badV];go_wp2
   go_loopw [3,4] (fun ve M wr=>∃ n:Nat,M=.int .i64 n∧n≤m.i.length∧Mid E k m.i n ve∧Blk wr w.heap.size 25 #[.int .i64 m.t,.int .i64 m.n,.int .i64 m.a,.int .i64 m.b,L,.slice D m.i.length J]∧Env E wr∧Below w.heap.size w wr) (fun _ M _=>m.i.length - (intOf M).toNat)
   case atStart=>exact ⟨0,rfl,Nat.zero_le _,.inl ⟨rfl,fun j C=>absurd C (Nat.not_lt_zero _)⟩,o.out,xf.out,Hb1.out⟩
   case round =>
    obtain ⟨n,rfl,hn,xs,B,x6,x8⟩:=hrel;have R:=hid B;have O:=hid x6;have Hbr:=hid x8;have c0:=B.cell 0;have c5:=B.cell 5;clear B x6 x8;rcases xs with ⟨rfl,y⟩ | ⟨t,ts,q,hq1,hq4,rfl,xd⟩
    ·by_cases g:n<m.i.length
     ·have xa:(n:Int)<(m.i.length:Int):=by omega
      obtain ⟨ad,u,hA,hab,xe,xb⟩:=xj.out n g;subst hA;have xt:=xe.below Hbr.out y32_;have xc:=(xb.bel Hbr.out).mono Hbr.out.size;have xh:=hid (Ih.out (m.i.getD n default) u wr xc (sml_i I.out (X0_ _ _ _ g)) O.out (xi.out r.out n g));have xg:=hid y;have Hno:=hid (fun h=>Vf8 (k:=k) g h);obtain ⟨x0,x1,x2,x3,x4,x5,rfl,s0,s1,s2,s3,s4,s5⟩:=xt;have xl:Hid (ok k (m.i.getD n default)=true→∀ j,j<n+1→ok k (m.i.getD j default)=true):=fun h j C=>by
       by_cases e:j=n
       ·rw [e];exact h
       ·exact xg.out j k30_
      clear xe xb xc y
      go_wp2_with fail
      refine (xh.out).mono ?_;rintro e w2 ⟨hh,z⟩;have P:=hid (Z0_ Hbr.out (le_refl _) z);have Q:=hid (R.out.below z (by have:=R.out.lt;exact this));have N:=hid (O.out.up z);clear z;rcases hh with ⟨p,rfl⟩ | ⟨p,t,ts,q,hq1,hq4,rfl⟩
      ·have H:=hid p
       clear p;go_wp2
       go_roundw
       case rel=>exact ⟨n+1,z32_,k30_,.inl ⟨rfl,xl.out H.out⟩,Q.out,N.out,P.out⟩
       case measure=>simp [intOf];omega
      ·have H:=hid p
       clear p;have xk:Hid (Mid E k m.i (n+1) (chain (t :: ts) (eS (E q)))):=.inr ⟨t,ts,q,hq1,hq4,rfl,Hno.out H.out⟩;generalize chain (t :: ts) (eS (E q))=vv at *
       go_wp2
       go_roundw
       case rel=>exact ⟨n+1,z32_,k30_,xk.out,Q.out,N.out,P.out⟩
       case measure=>simp [intOf];omega
     ·have xq:n=m.i.length:=by omega
      subst xq;have xm:=hid (S.out.trans (Vv1 y));clear y;go_wp2;go_ret;exact Yh6 xm.out Hbr.out
    ·have Hno:=hid (S.out.trans xd)
     have xv:Hid (∀ x,Value.iface 75 (.agg #[chain (t :: ts) (eS (E q)),x])=Value.iface 75 (.agg #[.iface 75 (.agg #[chain ts (eS (E q)),.int .i64 t]),x])):=fun _=>rfl;rw [show chain (t :: ts) (eS (E q))=.iface 75 (.agg #[chain ts (eS (E q)),.int .i64 t]) from rfl];clear xd;have Hend:Hid (Value.iface 75 (.agg #[.iface 75 (.agg #[chain ts (eS (E q)),.int .i64 t]),.int .i64 m.t])=chain (m.t :: t :: ts) (eS (E q))):=rfl;generalize xn:chain ts (eS (E q))=cc at *
     clear xn;by_cases g:n<m.i.length
     ·have xa:(n:Int)<(m.i.length:Int):=by omega
      exact k20_
     ·have xo:(m.i.length:Int)≤(n:Int):=by omega
      exact k20_
  ·have r:=hid hb
   have Hno:Hid (ok (k+1) m=false):=by
    show _=_;rw [ok_is,hb];rfl
   have Hq:Hid (1≤q+1∧q+1≤4):=⟨k30_,k30_⟩;clear hb x7 c
   go_enter Tryz.func49,Tryz.ntmps49
   go_wp2_with fail
   refine (Zb8 E m _ _ T.out I.out F.out).mono ?_;rintro e w1 ⟨rfl,d⟩;rw [r.out];have Hb1:=hid (Z0_ s.out (le_refl _) d);have o:=G.out.below d y31_;have c0:=o.cell 0;have c5:=o.cell 5;have Hend:Hid (Value.iface 75 (.agg #[eS (E (q+1)),.int .i64 m.t])=chain (m.t :: []) (eS (E (q+1)))):=rfl;simp only [badV];unfold eS at *
   clear d U V W X Y Z o;by_cases g:0<m.i.length
   ·have xa:(0:Int)<(m.i.length:Int):=by omega
    exact z14_
   ·have xo:(m.i.length:Int)≤0:=by omega
    exact z14_
theorem Zv7 (m:Mat) (v:Value) (w:World) (d:MatV w w.heap.size v m) (hs:Sml m):Calls Tryz.prog 47 #[v] w (Tells w (deepI m)):=by
 obtain ⟨h,g,k,_,_⟩:=d.open;have Hb0:=hid (Z1_ w m h g);have j:=hid (d.up Hb0.out);have c:=(Z3_ w m h g).cell;have o:=c 0;have p:=c 1;have q:=c 2;have r:=c 3;have s:=c 4;have u:=c 5;subst k;clear d c;unfold boxed at *
 unfold deepI
 go_enter Tryz.func47,Tryz.ntmps47
 go_wp2_with fail
 refine (Xg9 4 m _ _ 5 rfl k30_ j.out hs).mono ?_;exact z30_
theorem Q1_ (E:Nat→Addr) (m:Mat) (v:Value) (w:World) (N:MatV w w.heap.size v m) (hs:Sml m) (T:Env E w):Calls Tryz.prog 29 #[v] w (Tells w (chk m)):=by
 obtain ⟨z,y,x2,_,_⟩:=N.open;have q:=hid (Z1_ w m z y);have s:=hid (N.up q.out);have B:=hid (T.up q.out);have u:=hid (Z3_ w m z y);have o:=u.out.cell;have H:=o 0;have I:=o 1;have J:=o 2;have K:=o 3;have L:=o 4;have M:=o 5;subst x2;clear N T o;unfold boxed at *
 have Z:=dp_le 4 m;by_cases x:dp 4 m=5
 ·rw [show chk m=91 from if_pos x]
  have hd:deepI m=5:=by unfold deepI;omega
  have Hd:=hid hd;clear x Z hd
  go_enter Tryz.func29,Tryz.ntmps29
  go_wp2_with fail
  refine (Zv7 m _ _ s.out hs).mono ?_;rintro e w1 ⟨rfl,d⟩;rw [Hd.out];have r:=hid (Z0_ q.out (le_refl _) d);have k:=hid (B.out.up d);have c:=u.out.below d y31_;have R:=c.cell 0;have e0:=k.out.g0;unfold eS at e0;clear d H I J K L M c
  go_wp2_with fail
  refine (Yu1 E m.t _ k.out).mono ?_;rintro e O ⟨rfl,g⟩;have Hb2:=hid (Z0_ r.out (le_refl _) g);clear g;exact j2_
 ·have hd:deepI m≤4:=by unfold deepI;omega
  have V:dp 4 m≤4:=k30_;have x0:=hid V;have U:chk m=if ok 4 m then 0 else 90:=by unfold chk;rw [if_neg x]
  clear x Z V;rw [U];clear U;have Q:Hid (∀ (W:World) (b:Bool),ok 4 m=b→MatV W W.heap.size (.agg #[.int .i64 m.t,.int .i64 m.n,.int .i64 m.a,.int .i64 m.b,z,y]) m→Env E W→Calls Tryz.prog 49 #[.agg #[.int .i64 m.t,.int .i64 m.n,.int .i64 m.a,.int .i64 m.b,z,y]] W (Ya8 E W b)):=fun W b h h1 h2=>by
   subst h;exact Xi7 E 4 m _ W h1 hs h2 x0.out
  generalize S:deepI m=D at *
  have P:=hid S;clear S;rcases hok:ok 4 m with _ | _
  ·have F:=hid hok
   clear hok;rw [if_neg z31_]
   go_enter Tryz.func29,Tryz.ntmps29
   go_wp2_with fail
   refine (Zv7 m _ _ s.out hs).mono ?_;rintro e w1 ⟨rfl,d⟩;rw [P.out];have r:=hid (Z0_ q.out (le_refl _) d);have k:=hid (B.out.up d);have G:=hid (s.out.up d);have c:=u.out.below d y31_;have R:=c.cell 0;have c1:=c.cell 1;have c2:=c.cell 2;have c3:=c.cell 3;have c4:=c.cell 4;have c5:=c.cell 5;clear d H I J K L M c
   go_wp2_with fail
   refine (Q.out _ false F.out G.out k.out).mono ?_;rintro e O ⟨p,g⟩;rcases p with ⟨p,_⟩ | ⟨_,t,ts,j,X,Y,rfl⟩
   ·cases p
   have Hb2:=hid (Z0_ r.out (le_refl _) g);have C:=hid (k.out.up g);have Hj:=hid (⟨X,Y⟩:1≤j∧j≤4);have x1:=hid (Xg7 E t ts j Hj.out O C.out);clear g X Y;generalize chain (t :: ts) (eS (E j))=vv at *
   go_wp2_with fail
   refine (x1.out).mono ?_;exact x7_
  ·have F:=hid hok
   clear hok;rw [if_pos rfl]
   go_enter Tryz.func29,Tryz.ntmps29
   go_wp2_with fail
   refine (Zv7 m _ _ s.out hs).mono ?_;rintro e w1 ⟨rfl,d⟩;rw [P.out];have r:=hid (Z0_ q.out (le_refl _) d);have k:=hid (B.out.up d);have G:=hid (s.out.up d);have c:=u.out.below d y31_;have R:=c.cell 0;have c1:=c.cell 1;have c2:=c.cell 2;have c3:=c.cell 3;have c4:=c.cell 4;have c5:=c.cell 5;clear d H I J K L M c
   go_wp2_with fail
   refine (Q.out _ true F.out G.out k.out).mono ?_;rintro e O ⟨p,g⟩;rcases p with ⟨_,rfl⟩ | ⟨p,_⟩;rotate_left
   ·cases p
   have Hb2:=hid (Z0_ r.out (le_refl _) g);have C:=hid (k.out.up g);clear g
   go_wp2_with fail
   refine (Xg6 E _ C.out).mono ?_;exact x7_
open Go.RowKit
def K9_ (w:World) (b:Bool) (l:List Int) (e:Ending) (w':World):Prop:=∃ v,e=.returned (.tuple #[v,.bool b])∧Row w' w'.heap.size v l∧Below w.heap.size w w'∧∀ (A:Addr) (n c:Nat),v=.slice (some A) n c→w.heap.size≤A.block
theorem L0_ (w w':World) (hb:Below w.heap.size w w'):K9_ w false [] (.returned (.tuple #[.slice none 0 0,.bool false])) w':=⟨_,rfl,Row.nil_ _ _,hb,fun _ _ _ h=>by cases h⟩
theorem Xz4 (m:Mat) (v p:Value) (w:World) (g:MatV w w.heap.size v m) (c:¬ m.t=5) (d:¬ m.t=6):Calls Tryz.prog 175 #[v,p] w (K9_ w false []):=by
 obtain ⟨j,h,o,_,_⟩:=g.open;have k:=hid (Z1_ w m j h);have e:=(Z3_ w m j h).cell;have x:=e 0;have q:(m.t != 5)=true:=by simpa using c
 have s:(m.t != 6)=true:=by simpa using d
 have r:(m.t==5)=false:=by simpa using c
 have u:(m.t==6)=false:=by simpa using d
 subst o;unfold boxed at *
 clear e g c d
 go_enter Tryz.func175,Tryz.ntmps175
 go_wp2
 go_ret2
 exact L0_ w _ k.out
theorem Yh7 (E:Nat→Addr) (n a b:Int) (l:List (List Int)) (i:List Mat) (v c:Value) (w:World) (hv:MatV w w.heap.size v (.mk 5 n a b l i)) (hs:Sml (.mk 5 n a b l i)) (hE:Env E w) (hc:chk (.mk 5 n a b l i)≠0):Calls Tryz.prog 175 #[v,c] w (K9_ w false []):=by
 have d:(chk (.mk 5 n a b l i) != 0)=true:=by simpa using hc
 generalize hD:chk (.mk 5 n a b l i)=D at *
 have Hc:=hid hD;obtain ⟨m,hm⟩:∃ m,m=Mat.mk 5 n a b l i:=⟨_,rfl⟩;rw [← hm] at hv hs Hc;have hmt:m.t=5:=q40_;exact k2_
theorem Yh8 (E:Nat→Addr) (n a b:Int) (l:List (List Int)) (i:List Mat) (v c:Value) (s:List Int) (w:World) (hv:MatV w w.heap.size v (.mk 5 n a b l i)) (hs:Sml (.mk 5 n a b l i)) (hE:Env E w) (hr:Row w w.heap.size c s) (hsl:s.length≤1048576) (hc:chk (.mk 5 n a b l i)=0) (hsub:subB s (allL n)=false):Calls Tryz.prog 175 #[v,c] w (K9_ w false []):=by
 obtain ⟨m,hm⟩:∃ m,m=Mat.mk 5 n a b l i:=⟨_,rfl⟩;rw [← hm] at hv hs hc;have hmt:m.t=5:=q40_;exact k1_
theorem Yh9 (E:Nat→Addr) (n a b:Int) (l:List (List Int)) (i:List Mat) (v sv:Value) (s:List Int) (w:World) (D:MatV w w.heap.size v (.mk 5 n a b l i)) (hs:Sml (.mk 5 n a b l i)) (hE:Env E w) (hr:Row w w.heap.size sv s) (yb:s.length≤1048576) (hc:chk (.mk 5 n a b l i)=0) (C:subB s (allL n)=true):Calls Tryz.prog 175 #[v,sv] w (K9_ w true (imgM (.mk 5 n a b l i) s)):=by
 obtain ⟨m,hm⟩:∃ m,m=Mat.mk 5 n a b l i:=⟨_,rfl⟩;rw [← hm] at D hs hc;rw [← hm];have K:m.t=5:=q40_;rw [show n=m.n by rw [hm];rfl] at C;clear hm;have Hc:=hid hc;have y0:=hid C;obtain ⟨lv,iv,yc,ya,y8⟩:=D.open;have o:=hid (Z1_ w m lv iv);have Z:=hid (D.up o.out);have P:=hid (hE.up o.out);have Hblk:=hid (Z3_ w m lv iv);have j:=Hblk.out.cell;have g0:=j 0;have g1:=j 1;have g2:=j 2;have g3:=j 3;have g4:=j 4;have g5:=j 5;subst yc;unfold boxed at *
 rw [K] at g0;have W:=hid (hr.up o.out);have y5:=G1_ m.n;have y7:=M2_ hc k30_;have M:=Zf1 hc k30_;have xc:=Xr7 hc C;have hn:=chk_n hc;have J:=Zf2 m s;have hfa:=Xr8 m s;have yq:=sml_r hs (X0_ m.l 0 [] k30_);obtain ⟨Al,cl,rfl,_,xd⟩:=ya;obtain ⟨Ai,ci,rfl,_,xb⟩:=y8;obtain ⟨ad,u0,hA,x7,I,xg⟩:=xd 0 k30_;subst hA;obtain ⟨ai,ui,hA,x8,xi,xe⟩:=xb 0 k30_;subst hA;rw [add_zero] at I;rw [show (0:Nat) * 6=0 from rfl,add_zero] at xi;obtain ⟨yu,yt,xl,_,_⟩:=xe.open;obtain ⟨x0,x1,x2,x3,x4,x5,g,s0,s1,_⟩:=xi;rw [xl] at g;injection g with g;injection g with g;injection g with _ g;injection g with hx1 _;subst hx1;have yn:(0:Int)<(m.l.length:Int):=k30_;have yo:0<m.l.length:=k30_;have yl:(0:Int)<(m.i.length:Int):=k30_;have ym:0<m.i.length:=k30_;obtain ⟨F,hF⟩:∃ F,F=imgM m s:=⟨_,rfl⟩;rw [← hF] at J hfa;rw [← hF];have L:stayL m=m.l.getD 0 []:=by
  unfold stayL;rw [if_neg k30_];rfl
 obtain ⟨ST,x6⟩:∃ ST,ST=stayL m:=⟨_,rfl⟩;rw [← x6] at hfa M L;have yk:=G1_ (m.i.getD 0 default).n;clear x6 hF;generalize m.l.getD 0 []=r at *
 generalize m.i.getD 0 default=x at *
 generalize m.n=N at *
 have xw:=hid L;have U:=hid xc;have xr:=hid hfa;have Hfn:=hid J;have xn:=hid x7;have yg:=hid x8;have xs:=hid xg;have xq:=hid I;have yh:=hid s1;have V:=hid K;have ys:(s.length:Int)≤1048576:=k30_;have yr:(ST.length:Int)≤64:=k30_;have xy:=hid M;obtain ⟨i0,hi,yd,ye,hz2⟩:=info_parts info3;clear D hE j hc C L xc hfa J xd xb xg I s0 s1 xe xl x7 x8 y7 M
 go_enter Tryz.func175,Tryz.ntmps175
 rw [V.out] at Z Hblk o P W;rw [V.out];clear K
 go_wp2_with fail
 refine (Q1_ E m _ _ Z.out hs P.out).mono ?_;rintro e w1 ⟨rfl,u⟩;rw [Hc.out];have xo:=hid (Z0_ o.out (le_refl _) u);have G:=hid (Hblk.out.below u y31_);have y1:=hid (W.out.up u);have c1:=G.out.cell 1;clear u g0 g1 g2 g3 g4 g5
 go_wp2_with fail
 refine (I4_ _ _).mono ?_;rintro e w2 ⟨v2,rfl,xh,z⟩;have xp:=hid (Z0_ xo.out (le_refl _) z);have R:=hid (G.out.below z G.out.lt);have Y:=hid (y1.out.up z);have xt:=hid xh;clear z xh c1
 go_wp2_with fail
 refine (S6_ _ _ s (allL N) _ Y.out xt.out yb y5).mono ?_;rintro e d ⟨rfl,B⟩;rw [y0.out];have q:=hid (Z0_ xp.out (le_refl _) B);have S:=hid (R.out.below B R.out.lt);have y2:=hid (Y.out.up B);have c0:=S.out.cell 0;have c4:=S.out.cell 4;have cr:=(q.out.cell (p:=ad) xn.out).trans xq.out;have xu:=hid ((xs.out.below q.out).mono q.out.size);clear B;have xz:Hid (Row d d.heap.size u0 ST):=by
  show Row _ _ _ _;rw [xw.out];exact xu.out
 obtain ⟨As,cs,rfl,_,xj⟩:=id y2.out;obtain ⟨yf,yi,rfl,_,xk⟩:=id xz.out;have xx:=hid xk;clear xk;have xv:=hid xj;clear xj
 go_wp2_with (at_make;refine wpList_make_full d rfl _ _ 26 rfl d.heap.size 3 i0 (.int .i64 0) 1 q31_ hi yd ye .i64 .i64 _ _ s.length rfl rfl k32_ k32_ x38_ j32_ (le_refl _) ?_)
 intro w6 xf xa;have H:=N7_ w6 d.heap.size s.length (by rw [Nat.mul_one];exact xf);rw [← Za8 F] at H;have x9:Below d.heap.size d w6:=(Below.refl _ d).grown xa (le_refl _) (fun i hi=>by cases hi);have Q:=hid x9;have T:=hid H;clear xf xa x9 H;go_wp2
 go_loopw [52] (fun O wr=>∃ k:Nat,O=.int .i64 k∧k≤s.length∧Blk wr d.heap.size 3 (fillM F s.length k)∧Below d.heap.size d wr) (fun O _=>s.length - (intOf O).toNat)
 case atStart=>exact ⟨0,rfl,Nat.zero_le _,T.out,Q.out⟩
 case round =>
  clear T Q;obtain ⟨k,rfl,hk,hblk,hbr⟩:=hrel;have Hblk:=hid hblk;have Hbr:=hid hbr;by_cases hlt:k<s.length
  ·have yp:(k:Int)<(s.length:Int):=by omega
   have hx0:=(U.out k hlt).1;have hx1:=(U.out k hlt).2;have hfa:=xr.out k hlt;obtain ⟨X,hX⟩:∃ X:Nat,s.getD k 0=(X:Int):=⟨(s.getD k 0).toNat,k30_⟩;rw [hX] at hx0 hx1 hfa;have y4:X<ST.length:=by have:=xy.out;omega
   have yj:(X:Int)<(ST.length:Int):=k30_;rw [show ((X:Int)).toNat=X from rfl] at hfa;obtain ⟨y3,hA,hasb,hcs⟩:=xv.out k hlt;subst hA;obtain ⟨at_,hA,y6,hct⟩:=xx.out X y4;subst hA;rw [hX] at hcs;have gs:=(hbr.cell (p:=y3.add k) z37_).trans hcs;have gt:=(hbr.cell (p:=at_.add X) (by rw [Z2_];exact y6)).trans hct;have gf:=hblk.frozen k;have hsz:=Za7 (n:=s.length) Hfn.out hk;obtain ⟨xm,gc⟩:∃ xm,wr.cell? ⟨d.heap.size,k,none⟩=some xm:=⟨(fillM F s.length k)[k]'k30_,by rw [hblk.cell];simp [hsz,hlt]⟩;exact k4_
  ·have y9:k=s.length:=by omega
   subst y9;clear hblk hbr;go_wp2
   go_ret2
   exact ⟨_,rfl,Zm5 Hfn.out Hblk.out j32_,Z0_ q.out (le_refl _) Hbr.out,fun A n c h=>by cases h;exact q.out.size⟩
theorem Yi0 (E:Nat→Addr) (n a b:Int) (l:List (List Int)) (i:List Mat) (v c:Value) (w:World) (hv:MatV w w.heap.size v (.mk 6 n a b l i)) (hs:Sml (.mk 6 n a b l i)) (hE:Env E w) (hc:chk (.mk 6 n a b l i)≠0):Calls Tryz.prog 175 #[v,c] w (K9_ w false []):=by
 have d:(chk (.mk 6 n a b l i) != 0)=true:=by simpa using hc
 generalize hD:chk (.mk 6 n a b l i)=D at *
 have Hc:=hid hD;obtain ⟨m,hm⟩:∃ m,m=Mat.mk 6 n a b l i:=⟨_,rfl⟩;rw [← hm] at hv hs Hc;have hmt:m.t=6:=q40_;exact k2_
theorem Yi1 (E:Nat→Addr) (n a b:Int) (l:List (List Int)) (i:List Mat) (v c:Value) (s:List Int) (w:World) (hv:MatV w w.heap.size v (.mk 6 n a b l i)) (hs:Sml (.mk 6 n a b l i)) (hE:Env E w) (hr:Row w w.heap.size c s) (hsl:s.length≤1048576) (hc:chk (.mk 6 n a b l i)=0) (hsub:subB s (allL n)=false):Calls Tryz.prog 175 #[v,c] w (K9_ w false []):=by
 obtain ⟨m,hm⟩:∃ m,m=Mat.mk 6 n a b l i:=⟨_,rfl⟩;rw [← hm] at hv hs hc;have hmt:m.t=6:=q40_;exact k1_
theorem Yi2 (E:Nat→Addr) (n a b:Int) (l:List (List Int)) (i:List Mat) (v Z:Value) (s:List Int) (w:World) (O:MatV w w.heap.size v (.mk 6 n a b l i)) (hs:Sml (.mk 6 n a b l i)) (hE:Env E w) (hr:Row w w.heap.size Z s) (ys:s.length≤1048576) (hc:chk (.mk 6 n a b l i)=0) (M:subB s (allL n)=true):Calls Tryz.prog 175 #[v,Z] w (K9_ w true (imgM (.mk 6 n a b l i) s)):=by
 obtain ⟨m,hm⟩:∃ m,m=Mat.mk 6 n a b l i:=⟨_,rfl⟩;rw [← hm] at O hs hc;rw [← hm];have L:m.t=6:=q40_;rw [show n=m.n by rw [hm];rfl] at M;clear hm;have Hc:=hid hc;have yf:=hid M;obtain ⟨lv,iv,yt,yr,yp⟩:=O.open;have C:=hid (Z1_ w m lv iv);have Hv:=hid (O.up C.out);have HE:=hid (hE.up C.out);have Hblk:=hid (Z3_ w m lv iv);have z:=Hblk.out.cell;have g0:=z 0;have g1:=z 1;have g2:=z 2;have g3:=z 3;have g4:=z 4;have g5:=z 5;subst yt;unfold boxed at *
 rw [L] at g0;have xe:=hid (hr.up C.out);have yl:=G1_ m.n;have yo:=M2_ hc k30_;have Y:=Zf1 hc k30_;have xo:=Xr7 hc M;have hn:=chk_n hc;have U:=Zf2 m s;have hfa:=Xr8 m s;have z4:=sml_r hs (X0_ m.l 0 [] k30_);obtain ⟨Al,cl,rfl,_,xp⟩:=yr;obtain ⟨Ai,ci,rfl,_,xn⟩:=yp;obtain ⟨u,P,hA,xh,T,xs⟩:=xp 0 k30_;subst hA;obtain ⟨g,ui,hA,xi,xx,xq⟩:=xn 0 k30_;subst hA;rw [add_zero] at T;rw [show (0:Nat) * 6=0 from rfl,add_zero] at xx;obtain ⟨z8,z7,y0,_,_⟩:=xq.open;obtain ⟨x0,x1,x2,x3,x4,x5,o,s0,s1,_⟩:=xx;rw [y0] at o;injection o with o;injection o with o;injection o with _ o;injection o with hx1 _;subst hx1;have z1:(0:Int)<(m.l.length:Int):=k30_;have z2:0<m.l.length:=k30_;have yz:(0:Int)<(m.i.length:Int):=k30_;have z0:0<m.i.length:=k30_;obtain ⟨F,hF⟩:∃ F,F=imgM m s:=⟨_,rfl⟩;rw [← hF] at U hfa;rw [← hF];have V:stayL m=Z4_ (allL (m.i.getD 0 default).n) (m.l.getD 0 []):=by
  unfold stayL;rw [if_pos L];rfl
 obtain ⟨ST,xg⟩:∃ ST,ST=stayL m:=⟨_,rfl⟩;rw [← xg] at hfa Y V;have ym:=G1_ (m.i.getD 0 default).n;clear xg hF;generalize m.l.getD 0 []=r at *
 generalize m.i.getD 0 default=x at *
 generalize m.n=N at *
 have yb:=hid V;have xc:=hid xo;have y5:=hid hfa;have Hfn:=hid U;have x6:=hid xh;have x7:=hid xi;have y6:=hid xs;have y4:=hid T;have y9:=hid s1;have xd:=hid L;have z6:(s.length:Int)≤1048576:=k30_;have z5:(ST.length:Int)≤64:=k30_;have yd:=hid Y;obtain ⟨i0,hi,yu,yv,hz2⟩:=info_parts info3;clear O hE z hc M V xo hfa U xp xn xs T s0 s1 xq y0 xh xi yo Y
 go_enter Tryz.func175,Tryz.ntmps175
 rw [xd.out] at Hv Hblk C HE xe;rw [xd.out];clear L
 go_wp2_with fail
 refine (Q1_ E m _ _ Hv.out hs HE.out).mono ?_;rintro e w1 ⟨rfl,H⟩;rw [Hc.out];have y2:=hid (Z0_ C.out (le_refl _) H);have Q:=hid (Hblk.out.below H y31_);have yg:=hid (xe.out.up H);have c1:=Q.out.cell 1;clear H g0 g1 g2 g3 g4 g5
 go_wp2_with fail
 refine (I4_ _ _).mono ?_;rintro e w2 ⟨v2,rfl,xt,I⟩;have y3:=hid (Z0_ y2.out (le_refl _) I);have xa:=hid (Q.out.below I Q.out.lt);have xf:=hid (yg.out.up I);have y7:=hid xt;clear I xt c1
 go_wp2_with fail
 refine (S6_ _ _ s (allL N) _ xf.out y7.out ys yl).mono ?_;rintro e j ⟨rfl,J⟩;rw [yf.out];have q:=hid (Z0_ y3.out (le_refl _) J);have D:=hid (xa.out.below J xa.out.lt);have yh:=hid (xf.out.up J);have c0:=D.out.cell 0;have c4:=D.out.cell 4;have cr:=(q.out.cell (p:=u) x6.out).trans y4.out;have y8:=hid ((y6.out.below q.out).mono q.out.size);clear J;go_wp2;have hlt:w.heap.size<j.heap.size:=D.out.lt;have xk:u.block<j.heap.size:=Nat.lt_of_lt_of_le x6.out q.out.size;have xj:g.block<j.heap.size:=Nat.lt_of_lt_of_le x7.out q.out.size;have R:Hid (∀ W,Below j.drew.heap.size j.drew W→W.cell? ⟨w.heap.size,4,none⟩=some (.slice (some u) m.l.length cl)∧W.cell? ⟨w.heap.size,5,none⟩=some (.slice (some g) m.i.length ci)∧W.cell? u=some P∧W.cell? ⟨g.block,g.off+1,none⟩=some (.int .i64 x.n)):=fun W G =>
  ⟨(G.cell (p:=⟨w.heap.size,4,none⟩) hlt).trans (D.out.cell 4),(G.cell (p:=⟨w.heap.size,5,none⟩) hlt).trans (D.out.cell 5),(G.cell (p:=u) xk).trans cr,
   (G.cell (p:=⟨g.block,g.off+1,none⟩) xj).trans ((q.out.cell (p:=⟨g.block,g.off+1,none⟩) x7.out).trans y9.out)⟩
 clear c0 c4 cr
 go_region_held3 (fun W=>W.cell? ⟨w.heap.size,4,none⟩=some (.slice (some u) m.l.length cl)∧W.cell? ⟨w.heap.size,5,none⟩=some (.slice (some g) m.i.length ci)∧W.cell? u=some P∧W.cell? ⟨g.block,g.off+1,none⟩=some (.int .i64 x.n))
  (first | exact R.out _ (Below.refl _ _) | exact R.out _ B | exact R.out _ (Z0_ B (le_refl _) K))
  (first
  | (go_at_call 85;refine (I4_ _ _).mono ?_;rintro e w4 ⟨v4,rfl,xu,B⟩;have xw:Row w4 w4.heap.size P r:=(show Row j.drew j.drew.heap.size P r from y8.out).up B)
  | (go_at_call 67;refine (E5_ _ _ (allL x.n) r _ xu xw ym k30_).mono ?_;rintro e d ⟨v5,rfl,xv,K⟩))
 have x8:=hid (Z0_ (Z0_ q.out.drew (le_refl _) B) (le_refl _) K);have ye:Hid (Row d d.heap.size v5 ST):=by
  show Row _ _ _ _;rw [yb.out];exact xv
 have yi:=hid ((show Row j.drew j.drew.heap.size Z s from yh.out).up (Z0_ B (le_refl _) K));clear B K xu xw xv hlt xk xj;generalize v5=vst at *
 obtain ⟨As,cs,rfl,_,xy⟩:=id yi.out;obtain ⟨yw,yx,rfl,_,xz⟩:=id ye.out;have yc:=hid xz;clear xz;go_simp;have ya:=hid xy;clear xy
 go_wp2_with (at_make;refine wpList_make_full d rfl _ _ 26 rfl d.heap.size 3 i0 (.int .i64 0) 1 q31_ hi yu yv .i64 .i64 _ _ s.length rfl rfl k32_ k32_ x38_ j32_ (le_refl _) ?_)
 intro w6 xr xm;have S:=N7_ w6 d.heap.size s.length (by rw [Nat.mul_one];exact xr);rw [← Za8 F] at S;have xl:Below d.heap.size d w6:=(Below.refl _ d).grown xm (le_refl _) (fun i hi=>by cases hi);have x9:=hid xl;have xb:=hid S;clear xr xm xl S;go_wp2
 go_loopw [52] (fun vk wr=>∃ k:Nat,vk=.int .i64 k∧k≤s.length∧Blk wr d.heap.size 3 (fillM F s.length k)∧Below d.heap.size d wr) (fun vk _=>s.length - (intOf vk).toNat)
 case atStart=>exact ⟨0,rfl,Nat.zero_le _,xb.out,x9.out⟩
 case round =>
  clear xb x9;obtain ⟨k,rfl,hk,hblk,hbr⟩:=hrel;have Hblk:=hid hblk;have Hbr:=hid hbr;by_cases hlt:k<s.length
  ·have z3:(k:Int)<(s.length:Int):=by omega
   have hx0:=(xc.out k hlt).1;have hx1:=(xc.out k hlt).2;have hfa:=y5.out k hlt;obtain ⟨X,hX⟩:∃ X:Nat,s.getD k 0=(X:Int):=⟨(s.getD k 0).toNat,k30_⟩;rw [hX] at hx0 hx1 hfa;have yk:X<ST.length:=by have:=yd.out;omega
   have yy:(X:Int)<(ST.length:Int):=k30_;rw [show ((X:Int)).toNat=X from rfl] at hfa;obtain ⟨yj,hA,hasb,hcs⟩:=ya.out k hlt;subst hA;obtain ⟨at_,hA,yn,hct⟩:=yc.out X yk;subst hA;rw [hX] at hcs;have gs:=(hbr.cell (p:=yj.add k) z37_).trans hcs;have gt:=(hbr.cell (p:=at_.add X) (by rw [Z2_];exact yn)).trans hct;have gf:=hblk.frozen k;have hsz:=Za7 (n:=s.length) Hfn.out hk;obtain ⟨y1,gc⟩:∃ y1,wr.cell? ⟨d.heap.size,k,none⟩=some y1:=⟨(fillM F s.length k)[k]'k30_,by rw [hblk.cell];simp [hsz,hlt]⟩;exact k4_
  ·have yq:k=s.length:=by omega
   subst yq;clear hblk hbr;go_wp2
   go_ret2
   exact ⟨_,rfl,Zm5 Hfn.out Hblk.out j32_,Z0_ x8.out (le_refl _) Hbr.out,fun A n c h=>by cases h;exact x8.out.size⟩
theorem Zo3 (E:Nat→Addr) (m:Mat) (v d:Value) (s:List Int) (w:World) (g:MatV w w.heap.size v m) (hs:Sml m) (h:Env E w) (j:Row w w.heap.size d s) (k:s.length≤1048576):Calls Tryz.prog 175 #[v,d] w (K9_ w (imgB m s) (imgL m s)):=by
 unfold imgL;by_cases c:m.t=5∨m.t=6
 ·by_cases hc:chk m=0
  ·rcases hsub:subB s (allL m.n) with _ | _
   ·rw [show imgB m s=false by unfold imgB;rw [hsub];simp,if_neg z31_]
    obtain ⟨t,n,a,b,l,i⟩:=m;rcases c with c | c<;>cases c
    ·exact Yh8 E n a b l i v d s w g hs h j k hc hsub
    ·exact Yi1 E n a b l i v d s w g hs h j k hc hsub
   ·rw [show imgB m s=true by unfold imgB;rw [hsub,decide_eq_true c,decide_eq_true hc];rfl,if_pos rfl]
    obtain ⟨t,n,a,b,l,i⟩:=m;rcases c with c | c<;>cases c
    ·exact Yh9 E n a b l i v d s w g hs h j k hc hsub
    ·exact Yi2 E n a b l i v d s w g hs h j k hc hsub
  ·rw [show imgB m s=false by unfold imgB;rw [decide_eq_false hc];simp,if_neg z31_]
   obtain ⟨t,n,a,b,l,i⟩:=m;rcases c with c | c<;>cases c
   ·exact Yh7 E n a b l i v d w g hs h hc
   ·exact Yi0 E n a b l i v d w g hs h hc
 ·rw [show imgB m s=false by unfold imgB;rw [decide_eq_false c];simp,if_neg z31_]
  exact Xz4 m v d w g (fun e=>c (.inl e)) (fun e=>c (.inr e))
open Go.RowKit
def C9_ (m:Mat):Bool :=
 if 0<m.i.length∨(m.t≠4∧m.b≠0) then false
 else if m.t=0 then decide (m.a≤m.n) && decide (m.l.length=0)
 else if m.t=1 then !m.l.any (edgeB m.a) && decide (1≤m.a) && decide ((m.l.length:Int)=m.n)
 else if m.t=2 then decide (m.l.length=2) && numsB (row m 0) m.n m.a && numsB (row m 1) m.a 65
 else if m.t=3 then decide ((m.l.length:Int)=m.n) && mayM m.a m.l
 else if m.t=4 then decide ((m.l.length:Int)=m.n) && elimB m.b m.a m.l else false
theorem Xz5 {m:Mat} (o:0≤m.n∧m.n≤64∧0≤m.a∧m.a≤64) (q:¬ nest m.t):C9_ m=decide (bad m=0):=by
 have e:(bad m=0)↔(0≤m.t∧m.t<10)∧Z5_ (form m.t) m=true∧fitsB m=true:=by
  constructor
  ·intro h;have:=X8_ h;exact ⟨this.1,this.2.2⟩
  ·rintro ⟨k,h3,p⟩;exact Xr5 k o h3 p
 rw [Bool.eq_iff_iff,decide_eq_true_iff,e,takes_iff];obtain ⟨t,n,a,b,l,i⟩:=m;unfold nest at q;unfold C9_;simp only [Mat.t,Mat.n,Mat.a,Mat.b,Mat.l,Mat.i] at *
 by_cases c:t=0
 ·subst c;simp [form,fitsB,Mat.t,Mat.n,Mat.a];grind
 by_cases d:t=1
 ·subst d;simp [form,fitsB,Mat.t,Mat.a,Mat.l];grind
 by_cases f:t=2
 ·subst f;simp [form,fitsB,Mat.t,Mat.n,Mat.a];grind
 by_cases g:t=3
 ·subst g;simp [form,fitsB,Mat.t,Mat.a,Mat.l];grind
 by_cases j:t=4
 ·subst j;simp [form,fitsB,Mat.t,Mat.a,Mat.b,Mat.l];grind
 ·simp [c,d,f,g,j];omega
theorem Zo4 (m:Mat) (v:Value) (w:World) (d:MatV w w.heap.size v m) (h:0<m.i.length):Calls Tryz.prog 77 #[v] w (Says w false):=by
 obtain ⟨e,q,rfl,_,⟨A,c,rfl,_⟩⟩:=d.open;have Hb0:=hid (Z1_ w m e (.slice A m.i.length c));have g:=(Z3_ w m e (.slice A m.i.length c)).cell;have j:=g 0;have k:=g 3;have o:=g 5;have p:(0:Int)<(m.i.length:Int):=k30_;clear d g;unfold boxed at *
 exact z24_
theorem Xi8 (m:Mat) (v:Value) (w:World) (d:MatV w w.heap.size v m) (h:m.i.length=0) (j:m.t≠4) (hb:m.b≠0):Calls Tryz.prog 77 #[v] w (Says w false):=by
 obtain ⟨e,s,rfl,_,⟨A,c,rfl,_⟩⟩:=d.open;rw [h];have Hb0:=hid (Z1_ w m e (.slice A 0 c));have g:=(Z3_ w m e (.slice A 0 c)).cell;have p:=g 0;have q:=g 3;have r:=g 5;have k:(m.t != 4)=true:=by simpa using j
 have o:(m.b != 0)=true:=by simpa using hb
 clear d g;unfold boxed at *
 exact z24_
theorem Xi9 (n a:Int) (l:List (List Int)) (v:Value) (w:World) (e:MatV w w.heap.size v (.mk 0 n a 0 l [])):Calls Tryz.prog 77 #[v] w (Says w (decide (a≤n) && decide (l.length=0))):=by
 obtain ⟨o,m,rfl,⟨g,h,rfl,_⟩,⟨A,c,rfl,_⟩⟩:=e.open;simp only [Mat.t,Mat.n,Mat.a,Mat.b,Mat.l,Mat.i,List.length_nil];have Hb0:Hid (Below w.heap.size w (w.alloc (.cells #[.int .i64 0,.int .i64 n,.int .i64 a,.int .i64 0,.slice g l.length h,.slice A 0 c] 25))):=(Below.refl _ w).alloc (le_refl _) _;clear e;by_cases d:a≤n
 ·rw [decide_eq_true d,Bool.true_and]
  go_enter Tryz.func77,Tryz.ntmps77
  go_wp2;go_ret;refine ⟨?_,Hb0.out⟩;by_cases j:l.length=0<;>simp [j]
 ·rw [decide_eq_false d,Bool.false_and]
  have k:n<a:=k30_;exact z24_
theorem Xk0 (n a:Int) (l:List (List Int)) (v:Value) (w:World) (d:MatV w w.heap.size v (.mk 3 n a 0 l [])):Calls Tryz.prog 77 #[v] w (Says w (decide ((l.length:Int)=n) && mayM a l)):=by
 obtain ⟨h,m,rfl,hl,⟨A,c,rfl,_⟩⟩:=d.open;simp only [Mat.t,Mat.n,Mat.a,Mat.b,Mat.l,Mat.i,List.length_nil] at *
 have Hb0:Hid (Below w.heap.size w (w.alloc (.cells #[.int .i64 3,.int .i64 n,.int .i64 a,.int .i64 0,h,.slice A 0 c] 25))):=(Below.refl _ w).alloc (le_refl _) _;have g:=hid (hl.up Hb0.out);generalize hc:mayM a l=r;have Hcc:Hid (mayM a l=r):=hc;obtain ⟨j,k,rfl,_⟩:=hl;clear d hc;by_cases h1:(l.length:Int)=n
 ·rw [decide_eq_true h1,Bool.true_and]
  have h1':((l.length:Int)==n)=true:=by simp [h1]
  go_enter Tryz.func77,Tryz.ntmps77
  go_wp2_with fail
  refine (Yw9 a _ l _ g.out).mono ?_;exact j29_
 ·exact k29_
theorem Xk1 (n a b:Int) (l:List (List Int)) (v:Value) (w:World) (d:MatV w w.heap.size v (.mk 4 n a b l [])):Calls Tryz.prog 77 #[v] w (Says w (decide ((l.length:Int)=n) && elimB b a l)):=by
 obtain ⟨h,m,rfl,hl,⟨A,c,rfl,_⟩⟩:=d.open;simp only [Mat.t,Mat.n,Mat.a,Mat.b,Mat.l,Mat.i,List.length_nil] at *
 have Hb0:Hid (Below w.heap.size w (w.alloc (.cells #[.int .i64 4,.int .i64 n,.int .i64 a,.int .i64 b,h,.slice A 0 c] 25))):=(Below.refl _ w).alloc (le_refl _) _;have g:=hid (hl.up Hb0.out);generalize hc:elimB b a l=r;have Hcc:Hid (elimB b a l=r):=hc;obtain ⟨j,k,rfl,_⟩:=hl;clear d hc;by_cases h1:(l.length:Int)=n
 ·rw [decide_eq_true h1,Bool.true_and]
  have h1':((l.length:Int)==n)=true:=by simp [h1]
  go_enter Tryz.func77,Tryz.ntmps77
  go_wp2_with fail
  refine (Yz9 b a _ l _ g.out).mono ?_;exact j29_
 ·exact k29_
theorem Yi3 (t n a:Int) (l:List (List Int)) (v:Value) (w:World) (h:t<0∨4<t) (d:MatV w w.heap.size v (.mk t n a 0 l [])):Calls Tryz.prog 77 #[v] w (Says w false):=by
 obtain ⟨e,p,rfl,_,⟨A,c,rfl,_⟩⟩:=d.open;simp only [Mat.t,Mat.n,Mat.a,Mat.b,Mat.l,Mat.i,List.length_nil] at *
 have Hb0:Hid (Below w.heap.size w (w.alloc (.cells #[.int .i64 t,.int .i64 n,.int .i64 a,.int .i64 0,e,.slice A 0 c] 25))):=(Below.refl _ w).alloc (le_refl _) _;have g:(t==0)=false:=j31_;have j:(t==1)=false:=j31_;have k:(t==2)=false:=j31_;have m:(t==3)=false:=j31_;have o:(t==4)=false:=j31_;have q:(t != 4)=true:=j31_;clear d h;exact z24_
open Go.RowKit
theorem Yi4 (n a:Int) (l:List (List Int)) (v:Value) (w:World) (hv:MatV w w.heap.size v (.mk 2 n a 0 l [])) (hl2:l.length=2) (D:0≤a∧a≤64) (h0:numsB (l.getD 0 []) n a=true) (h1:numsB (l.getD 1 []) a 65=true):Calls Tryz.prog 77 #[v] w (Says w true):=by
 obtain ⟨L,K,rfl,⟨u,h,rfl,_,hlk⟩,⟨d,g,rfl,_⟩⟩:=hv.open;simp only [Mat.t,Mat.n,Mat.a,Mat.b,Mat.l,Mat.i,List.length_nil] at *
 obtain ⟨c,m,hA,j,hc0,hr0⟩:=hlk 0 k30_;subst hA;obtain ⟨z,o,s,_,hc1,hr1⟩:=hlk 1 k30_;obtain rfl:=Option.some.inj s;rw [add_zero] at hc0;generalize l.getD 0 []=r0 at *
 generalize l.getD 1 []=r1 at *
 obtain ⟨x,B,hu0,_⟩:=id hr0;obtain ⟨y,C,hu1,_⟩:=id hr1;have Hb0:Hid (Below w.heap.size w (w.alloc (.cells #[.int .i64 2,.int .i64 n,.int .i64 a,.int .i64 0,.slice (some c) l.length h,.slice d 0 g] 25))):=(Below.refl _ w).alloc (le_refl _) _;have Hbox:=hid (H0_ (w:=w) (t := 25) (cs:=#[.int .i64 2,.int .i64 n,.int .i64 a,.int .i64 0,.slice (some c) l.length h,.slice d 0 g]));have Hr0:=hid (hr0.up Hb0.out);have Hr1:=hid (hr1.up Hb0.out);have Hc0:=hid (V0_ ((Hb0.out.cell (p:=c) j).trans hc0) (Nat.lt_of_lt_of_le j Hb0.out.size));rw [show c.add 1=(⟨c.block,c.off+1,none⟩:Addr) by simp [Addr.add]] at hc1;have Hc1:=hid (V0_ ((Hb0.out.cell (p:=⟨c.block,c.off+1,none⟩) j).trans hc1) (show c.block<_ from Nat.lt_of_lt_of_le j Hb0.out.size));have E:((l.length:Int)==2)=true:=by simp [hl2]
 have J:IntKind.i64.wrap (a - 1)=a - 1:=k31_;have F:(1:Int)<(l.length:Int):=k30_;have G:(0:Int)<(l.length:Int):=k30_;have H:0<l.length:=k30_;have I:1<l.length:=k30_;obtain ⟨W0,hW0⟩:∃ W0,W0=w.alloc (.cells #[.int .i64 2,.int .i64 n,.int .i64 a,.int .i64 0,.slice (some c) l.length h,.slice d 0 g] 25):=⟨_,rfl⟩;have hsz:W0.heap.size=w.heap.size+1:=q33_;have HW0:=hid hW0;have r:=(Blk.new w 25 #[.int .i64 2,.int .i64 n,.int .i64 a,.int .i64 0,.slice (some c) l.length h,.slice d 0 g]).cell 0;rw [← hW0] at Hb0 Hbox Hr0 Hr1 Hc0 Hc1 r;rw [← hsz] at Hbox;have Hn0:Hid (∀ W,Below W0.heap.size W0 W→Calls Tryz.prog 101 #[m,.int .i64 n,.int .i64 (a - 1)] W fun e w'=>e=.returned (.bool true)∧Below W0.heap.size W0 w'):=fun W hW =>
  (Q6_ n (a - 1) m r0 W (Hr0.out.up hW)).mono fun _ _ ⟨k,h3⟩=>⟨by rw [k,Int.sub_add_cancel,h0],Z0_ hW (le_refl _) h3⟩
 have Hn1:Hid (∀ W,Below W0.heap.size W0 W→Calls Tryz.prog 101 #[o,.int .i64 a,.int .i64 64] W fun e w'=>e=.returned (.bool true)∧Below W0.heap.size W0 w'):=fun W hW =>
  (Q6_ a 64 o r1 W (Hr1.out.up hW)).mono fun _ _ ⟨k,h3⟩=>⟨by rw [k,show (64:Int)+1=65 from rfl,h1],Z0_ hW (le_refl _) h3⟩
 exact k23_
theorem Yi5 (n a:Int) (l:List (List Int)) (v:Value) (w:World) (hv:MatV w w.heap.size v (.mk 2 n a 0 l [])) (hl2:l.length=2) (D:0≤a∧a≤64) (h0:numsB (l.getD 0 []) n a=true) (h1:numsB (l.getD 1 []) a 65=false):Calls Tryz.prog 77 #[v] w (Says w false):=by
 obtain ⟨L,K,rfl,⟨u,h,rfl,_,hlk⟩,⟨d,g,rfl,_⟩⟩:=hv.open;simp only [Mat.t,Mat.n,Mat.a,Mat.b,Mat.l,Mat.i,List.length_nil] at *
 obtain ⟨c,m,hA,j,hc0,hr0⟩:=hlk 0 k30_;subst hA;obtain ⟨z,o,s,_,hc1,hr1⟩:=hlk 1 k30_;obtain rfl:=Option.some.inj s;rw [add_zero] at hc0;generalize l.getD 0 []=r0 at *
 generalize l.getD 1 []=r1 at *
 obtain ⟨x,B,hu0,_⟩:=id hr0;obtain ⟨y,C,hu1,_⟩:=id hr1;have Hb0:Hid (Below w.heap.size w (w.alloc (.cells #[.int .i64 2,.int .i64 n,.int .i64 a,.int .i64 0,.slice (some c) l.length h,.slice d 0 g] 25))):=(Below.refl _ w).alloc (le_refl _) _;have Hbox:=hid (H0_ (w:=w) (t := 25) (cs:=#[.int .i64 2,.int .i64 n,.int .i64 a,.int .i64 0,.slice (some c) l.length h,.slice d 0 g]));have Hr0:=hid (hr0.up Hb0.out);have Hr1:=hid (hr1.up Hb0.out);have Hc0:=hid (V0_ ((Hb0.out.cell (p:=c) j).trans hc0) (Nat.lt_of_lt_of_le j Hb0.out.size));rw [show c.add 1=(⟨c.block,c.off+1,none⟩:Addr) by simp [Addr.add]] at hc1;have Hc1:=hid (V0_ ((Hb0.out.cell (p:=⟨c.block,c.off+1,none⟩) j).trans hc1) (show c.block<_ from Nat.lt_of_lt_of_le j Hb0.out.size));have E:((l.length:Int)==2)=true:=by simp [hl2]
 have J:IntKind.i64.wrap (a - 1)=a - 1:=k31_;have F:(1:Int)<(l.length:Int):=k30_;have G:(0:Int)<(l.length:Int):=k30_;have H:0<l.length:=k30_;have I:1<l.length:=k30_;obtain ⟨W0,hW0⟩:∃ W0,W0=w.alloc (.cells #[.int .i64 2,.int .i64 n,.int .i64 a,.int .i64 0,.slice (some c) l.length h,.slice d 0 g] 25):=⟨_,rfl⟩;have hsz:W0.heap.size=w.heap.size+1:=q33_;have HW0:=hid hW0;have r:=(Blk.new w 25 #[.int .i64 2,.int .i64 n,.int .i64 a,.int .i64 0,.slice (some c) l.length h,.slice d 0 g]).cell 0;rw [← hW0] at Hb0 Hbox Hr0 Hr1 Hc0 Hc1 r;rw [← hsz] at Hbox;have Hn0:Hid (∀ W,Below W0.heap.size W0 W→Calls Tryz.prog 101 #[m,.int .i64 n,.int .i64 (a - 1)] W fun e w'=>e=.returned (.bool true)∧Below W0.heap.size W0 w'):=fun W hW =>
  (Q6_ n (a - 1) m r0 W (Hr0.out.up hW)).mono fun _ _ ⟨k,h3⟩=>⟨by rw [k,Int.sub_add_cancel,h0],Z0_ hW (le_refl _) h3⟩
 have Hn1:Hid (∀ W,Below W0.heap.size W0 W→Calls Tryz.prog 101 #[o,.int .i64 a,.int .i64 64] W fun e w'=>e=.returned (.bool false)∧Below W0.heap.size W0 w'):=fun W hW =>
  (Q6_ a 64 o r1 W (Hr1.out.up hW)).mono fun _ _ ⟨k,h3⟩=>⟨by rw [k,show (64:Int)+1=65 from rfl,h1],Z0_ hW (le_refl _) h3⟩
 exact k23_
theorem Xz6 (n a:Int) (l:List (List Int)) (v:Value) (w:World) (H:MatV w w.heap.size v (.mk 2 n a 0 l [])) (F:l.length=2) (Z:0≤a∧a≤64) (E:numsB (l.getD 0 []) n a=false):Calls Tryz.prog 77 #[v] w (Says w false):=by
 obtain ⟨lv,iv,rfl,⟨S,k,rfl,_,x⟩,⟨h,j,rfl,_⟩⟩:=H.open;simp only [Mat.t,Mat.n,Mat.a,Mat.b,Mat.l,Mat.i,List.length_nil] at *
 obtain ⟨c,J,hA,m,s,y⟩:=x 0 k30_;subst hA;obtain ⟨V,u1,O,_,u,z⟩:=x 1 k30_;obtain rfl:=Option.some.inj O;rw [add_zero] at s;generalize l.getD 0 []=I at *
 generalize l.getD 1 []=R at *
 obtain ⟨T,X,P,_⟩:=id y;obtain ⟨U,Y,Q,_⟩:=id z;have Hb0:Hid (Below w.heap.size w (w.alloc (.cells #[.int .i64 2,.int .i64 n,.int .i64 a,.int .i64 0,.slice (some c) l.length k,.slice h 0 j] 25))):=(Below.refl _ w).alloc (le_refl _) _;have o:=hid (H0_ (w:=w) (t := 25) (cs:=#[.int .i64 2,.int .i64 n,.int .i64 a,.int .i64 0,.slice (some c) l.length k,.slice h 0 j]));have r:=hid (y.up Hb0.out);have D:=hid (z.up Hb0.out);have B:=hid (V0_ ((Hb0.out.cell (p:=c) m).trans s) (Nat.lt_of_lt_of_le m Hb0.out.size));rw [show c.add 1=(⟨c.block,c.off+1,none⟩:Addr) by simp [Addr.add]] at u;have C:=hid (V0_ ((Hb0.out.cell (p:=⟨c.block,c.off+1,none⟩) m).trans u) (show c.block<_ from Nat.lt_of_lt_of_le m Hb0.out.size));have x0:((l.length:Int)==2)=true:=by simp [F]
 have x5:IntKind.i64.wrap (a - 1)=a - 1:=k31_;have x1:(1:Int)<(l.length:Int):=k30_;have x2:(0:Int)<(l.length:Int):=k30_;have x3:0<l.length:=k30_;have x4:1<l.length:=k30_;obtain ⟨d,hW0⟩:∃ d,d=w.alloc (.cells #[.int .i64 2,.int .i64 n,.int .i64 a,.int .i64 0,.slice (some c) l.length k,.slice h 0 j] 25):=⟨_,rfl⟩;have G:d.heap.size=w.heap.size+1:=q33_;have K:=hid hW0;have M:=(Blk.new w 25 #[.int .i64 2,.int .i64 n,.int .i64 a,.int .i64 0,.slice (some c) l.length k,.slice h 0 j]).cell 0;rw [← hW0] at Hb0 o r D B C M;rw [← G] at o;have L:Hid (∀ W,Below d.heap.size d W→Calls Tryz.prog 101 #[J,.int .i64 n,.int .i64 (a - 1)] W fun e w'=>e=.returned (.bool false)∧Below d.heap.size d w'):=fun W g =>
  (Q6_ n (a - 1) J I W (r.out.up g)).mono fun _ _ ⟨N,h3⟩=>⟨by rw [N,Int.sub_add_cancel,E],Z0_ g (le_refl _) h3⟩
 subst P Q;clear H x y z s u E F G r D
 go_enter Tryz.func77,Tryz.ntmps77
 go_wp2;rw [← K.out];clear hW0;refine Z6_ d.heap.size d q31_ q31_ (Below.refl _ _) ?_
 repeat (first
   | go_big_quiet_step (with_reducible exact L.out _)
   | (go_big_quiet_want;apply Exists.intro;refine ⟨fun W g=>?_,?_⟩;(· have q:=o.out W g;have q1:=q 1;have q2:=q 2;have q4:=q 4;have q0:=q 0;clear q;have I:=B.out W g;have R:=C.out W g;go_simp;first | exact rfl | exact ⟨rfl,rfl⟩);go_simp;go_big_quiet_on))
 exact x2_
open Go.RowKit
theorem Xk2 {l:List (List Int)} {a:Int} {i:Nat} (hi:i<l.length) (h:edgeB a (l.getD i [])=true):l.any (edgeB a)=true :=
 List.any_eq_true.2 ⟨l[i],List.getElem_mem hi,by simpa [List.getD,hi] using h⟩
theorem Xz7 {l:List (List Int)} {a:Int} (h:∀ i,i<l.length→edgeB a (l.getD i [])=false):l.any (edgeB a)=false:=j7_
theorem Xk3 (n a:Int) (l:List (List Int)) (v:Value) (w:World) (S:MatV w w.heap.size v (.mk 1 n a 0 l [])) (x4:l.length≤1000) (ha:0≤a∧a≤64):Calls Tryz.prog 77 #[v] w (Says w (!l.any (edgeB a) && decide (1≤a) && decide ((l.length:Int)=n))):=by
 obtain ⟨lv,iv,rfl,hl,⟨q,B,rfl,_⟩⟩:=S.open;simp only [Mat.t,Mat.n,Mat.a,Mat.b,Mat.l,Mat.i,List.length_nil] at *
 obtain ⟨A,c,rfl,_,P⟩:=hl;have X:=hid P;have U:Hid (Below w.heap.size w (w.alloc (.cells #[.int .i64 1,.int .i64 n,.int .i64 a,.int .i64 0,.slice A l.length c,.slice q 0 B] 25))):=(Below.refl _ w).alloc (le_refl _) _;have G:=hid (Blk.new w 25 #[.int .i64 1,.int .i64 n,.int .i64 a,.int .i64 0,.slice A l.length c,.slice q 0 B]);have x5:(l.length:Int)≤1000:=k30_;have x7:IntKind.i64.wrap (a - 1)=a - 1:=k31_;have g0:=G.out.cell 0;clear S P;obtain ⟨r,D⟩:∃ r,r=l.any (edgeB a):=⟨_,rfl⟩;rw [← D];have H:=hid D;clear D
 go_enter Tryz.func77,Tryz.ntmps77
 go_wp2;clear g0
 go_loopw [3] (fun F wr=>∃ i:Nat,F=.int .i64 i∧i≤l.length∧(∀ j,j<i→edgeB a (l.getD j [])=false)∧Blk wr w.heap.size 25 #[.int .i64 1,.int .i64 n,.int .i64 a,.int .i64 0,.slice A l.length c,.slice q 0 B]∧Below w.heap.size w wr) (fun F _=>l.length - (intOf F).toNat)
 case atStart=>exact ⟨0,rfl,Nat.zero_le _,fun j O=>absurd O (Nat.not_lt_zero _),G.out,U.out⟩
 case round =>
  obtain ⟨i,rfl,hi,R,k,L⟩:=hrel;have Hok:=hid R;have g:=hid L;have m:=hid k;have g1:=k.cell 1;have g2:=k.cell 2;have g4:=k.cell 4;clear R k L;by_cases Q:i<l.length
  ·obtain ⟨ad,u,hA,hab,M,E⟩:=X.out i Q
   subst hA;have x1:=(g.out.cell (p:=ad.add i) y32_).trans M;have x0:=hid ((E.below g.out).mono g.out.size);have Y:=hid (Xk2 (a:=a) Q);have Z:Hid (edgeB a (l.getD i [])=false→∀ j,j<i+1→edgeB a (l.getD j [])=false):=by
    intro hb j O;exact y7_
   generalize l.getD i []=z at *
   obtain ⟨T,cz,rfl,_⟩:=id E;have x6:(i:Int)<(l.length:Int):=k30_;have o:∀ b,numsB z 2 a=b→∀ W,Below wr.heap.size wr W→Calls Tryz.prog 101 #[.slice T z.length cz,.int .i64 2,.int .i64 (a - 1)] W fun e w'=>e=.returned (.bool b)∧Below wr.heap.size wr w':=fun b hb W d =>
    (Q6_ 2 (a - 1) _ z W (x0.out.up d)).mono fun _ _ ⟨h2,h3⟩=>⟨by rw [h2,Int.sub_add_cancel,hb],Z0_ d (le_refl _) h3⟩
   have I:=hid (V0_ g2 m.out.lt);have J:=hid (V0_ g4 m.out.lt);have K:=hid (V0_ x1 (by rw [Z2_];exact Nat.lt_of_lt_of_le hab g.out.size));clear E M hab;rcases hz:numsB z 2 a with _ | _
   ·have x:=hid (o false hz)
    clear o;have y:Hid (r=true):=H.out.trans (Y.out (by unfold edgeB;rw [hz];rfl));obtain rfl:=y.out;clear hz;go_wp2;refine Z6_ wr.heap.size wr q31_ q31_ (Below.refl _ _) ?_
    iterate 10 (first
     | go_big_quiet_step (with_reducible exact x.out _)
     | (go_big_quiet_want;apply Exists.intro;refine ⟨fun W d=>?_,?_⟩;(· have q2:=I.out W d;have q4:=J.out W d;have r0:=K.out W d;go_simp;first | exact rfl | exact ⟨rfl,rfl⟩);go_simp;go_big_quiet_on))
    refine wpQuiet_nil ?_;intro w1 h;have s:=hid (Z0_ g.out (le_refl _) h);clear h;go_wp2;go_ret;exact ⟨y31_,s.out⟩
   ·have x:=hid (o true hz)
    clear o;have Hw:Hid (edgeB a z=false):=by show edgeB a z=false;unfold edgeB;rw [hz];rfl
    clear hz;go_wp2;refine Z6_ wr.heap.size wr q31_ q31_ (Below.refl _ _) ?_
    iterate 10 (first
     | go_big_quiet_step (with_reducible exact x.out _)
     | (go_big_quiet_want;apply Exists.intro;refine ⟨fun W d=>?_,?_⟩;(· have q2:=I.out W d;have q4:=J.out W d;have r0:=K.out W d;go_simp;first | exact rfl | exact ⟨rfl,rfl⟩);go_simp;go_big_quiet_on))
    refine wpQuiet_nil ?_;intro w1 h;have s:=hid (Z0_ g.out (le_refl _) h);have V:=hid (m.out.below h m.out.lt);clear h;go_wp2
    go_roundw
    case rel=>exact ⟨i+1,z32_,k30_,Z.out Hw.out,V.out,s.out⟩
    case measure=>simp [intOf];omega
  ·have N:i=l.length:=by omega
   have Hie:=hid N;have y:Hid (r=false):=H.out.trans (Xz7 y38_);obtain rfl:=y.out;obtain rfl:=N;by_cases C:1≤a
   ·rw [decide_eq_true C]
    go_wp2;go_ret;refine ⟨?_,g.out⟩;by_cases hl:(l.length:Int)=n<;>simp [hl]
   ·have x2:a<1:=by omega
    rw [decide_eq_false C];clear C;go_wp2;go_ret;refine ⟨?_,g.out⟩;simp;intro x3;omega
theorem Xk4 (n a:Int) (l:List (List Int)) (v:Value) (w:World) (d:MatV w w.heap.size v (.mk 2 n a 0 l [])) (c:l.length=2) (ha:0≤a∧a≤64):Calls Tryz.prog 77 #[v] w (Says w (numsB (l.getD 0 []) n a && numsB (l.getD 1 []) a 65)):=by
 rcases h0:numsB (l.getD 0 []) n a with _ | _
 ·exact Xz6 n a l v w d c ha h0
 ·rcases h1:numsB (l.getD 1 []) a 65 with _ | _
  ·exact Yi5 n a l v w d c ha h0 h1
  ·exact Yi4 n a l v w d c ha h0 h1
theorem Xz8 (n a:Int) (l:List (List Int)) (v:Value) (w:World) (o:MatV w w.heap.size v (.mk 2 n a 0 l [])) (u:l.length≠2):Calls Tryz.prog 77 #[v] w (Says w false):=by
 obtain ⟨B,z,rfl,⟨e,h,rfl,_⟩,⟨d,g,rfl,_⟩⟩:=o.open;simp only [Mat.t,Mat.n,Mat.a,Mat.b,Mat.l,Mat.i,List.length_nil] at *
 have Hb0:Hid (Below w.heap.size w (w.alloc (.cells #[.int .i64 2,.int .i64 n,.int .i64 a,.int .i64 0,.slice e l.length h,.slice d 0 g] 25))):=(Below.refl _ w).alloc (le_refl _) _;have j:=hid (H0_ (w:=w) (t := 25) (cs:=#[.int .i64 2,.int .i64 n,.int .i64 a,.int .i64 0,.slice e l.length h,.slice d 0 g]));obtain ⟨L,k⟩:∃ L:Int,L=(l.length:Int):=⟨_,rfl⟩;have y:(L==2)=false:=j31_;obtain ⟨c,hW0⟩:∃ c,c=w.alloc (.cells #[.int .i64 2,.int .i64 n,.int .i64 a,.int .i64 0,.slice e l.length h,.slice d 0 g] 25):=⟨_,rfl⟩;have m:c.heap.size=w.heap.size+1:=q33_;have p:=hid hW0;have r:=(Blk.new w 25 #[.int .i64 2,.int .i64 n,.int .i64 a,.int .i64 0,.slice e l.length h,.slice d 0 g]).cell 0;rw [← hW0] at Hb0 j r;rw [← m] at j;have x:((l.length:Nat):Int)=L:=k.symm;clear o u m k
 go_enter Tryz.func77,Tryz.ntmps77
 go_wp2;rw [← p.out];clear hW0;refine Z6_ c.heap.size c q31_ q31_ (Below.refl _ _) ?_
 iterate 26 (first
   | go_big_quiet_skip
   | (go_big_quiet_want;apply Exists.intro;refine ⟨fun W s=>?_,?_⟩;(· have q:=j.out W s;have q1:=q 1;have q2:=q 2;have q4:=q 4;have q0:=q 0;clear q;go_simp;first | exact rfl | exact ⟨rfl,rfl⟩);go_simp;go_big_quiet_on))
 exact x2_
theorem Xk5 (n a b:Int) (l:List (List Int)):C9_ (.mk 4 n a b l [])=(decide ((l.length:Int)=n) && elimB b a l):=z33_
theorem Xk6 (n a:Int) (l:List (List Int)):C9_ (.mk 0 n a 0 l [])=(decide (a≤n) && decide (l.length=0)):=z33_
theorem Xk7 (n a:Int) (l:List (List Int)):C9_ (.mk 1 n a 0 l [])=(!l.any (edgeB a) && decide (1≤a) && decide ((l.length:Int)=n)):=by rw [Bool.eq_iff_iff];simp [C9_,Mat.t,Mat.n,Mat.a,Mat.b,Mat.l,Mat.i];exact ⟨fun ⟨⟨c,d⟩,h3⟩=>⟨⟨c,of_decide_eq_true d⟩,of_decide_eq_true h3⟩,fun ⟨⟨c,d⟩,h3⟩=>⟨⟨c,decide_eq_true d⟩,decide_eq_true h3⟩⟩
theorem Xk8 (n a:Int) (l:List (List Int)):C9_ (.mk 2 n a 0 l [])=(decide (l.length=2) && numsB (l.getD 0 []) n a && numsB (l.getD 1 []) a 65):=by rw [Bool.eq_iff_iff];simp [C9_,row,Mat.t,Mat.n,Mat.a,Mat.b,Mat.l,Mat.i];exact fun _ _=>decide_eq_true_iff
theorem Xk9 (n a:Int) (l:List (List Int)):C9_ (.mk 3 n a 0 l [])=(decide ((l.length:Int)=n) && mayM a l):=z33_
theorem Yi6 (t n a:Int) (l:List (List Int)) (h:t<0∨4<t):C9_ (.mk t n a 0 l [])=false:=by
 have c:t≠0:=k30_;have d:t≠1:=k30_;have e:t≠2:=k30_;have h3:t≠3:=k30_;have f:t≠4:=k30_;simp [C9_,Mat.t,Mat.b,Mat.i,c,d,e,h3,f]
theorem Yi7 (m:Mat) (v:Value) (w:World) (c:MatV w w.heap.size v m) (hs:Sml m) (d:0≤m.n∧m.n≤64∧0≤m.a∧m.a≤64) (j:¬ nest m.t):Calls Tryz.prog 77 #[v] w (Says w (decide (bad m=0))):=by
 rw [← Xz5 d j];by_cases hi:0<m.i.length
 ·rw [show C9_ m=false from if_pos (.inl hi)]
  exact Zo4 m v w c hi
 by_cases hb:m.t≠4∧m.b≠0
 ·rw [show C9_ m=false from if_pos (.inr hb)]
  exact Xi8 m v w c k30_ hb.1 hb.2
 have h:=sml_l hs;obtain ⟨t,n,a,b,l,i⟩:=m;change 0≤n∧n≤64∧0≤a∧a≤64 at d;change ¬ 0<i.length at hi;change ¬ (t≠4∧b≠0) at hb;change ¬ (5≤t∧t≤9) at j;change l.length≤1000 at h;obtain rfl:i=[]:=List.length_eq_zero_iff.1 k30_;by_cases k:t=4
 ·subst k
  rw [Xk5];exact Xk1 n a b l v w c
 have o:b=0:=by
  by_cases e:b=0
  ·exact e
  ·exact absurd ⟨k,e⟩ hb
 subst o;by_cases p:t=0
 ·subst p;rw [Xk6];exact Xi9 n a l v w c
 by_cases q:t=1
 ·subst q;rw [Xk7];exact Xk3 n a l v w c h ⟨d.2.2.1,d.2.2.2⟩
 by_cases r:t=2
 ·subst r
  rw [Xk8];by_cases g:l.length=2
  ·rw [decide_eq_true g,Bool.true_and];exact Xk4 n a l v w c g ⟨d.2.2.1,d.2.2.2⟩
  ·rw [decide_eq_false g,Bool.false_and,Bool.false_and];exact Xz8 n a l v w c g
 by_cases s:t=3
 ·subst s;rw [Xk9];exact Xk0 n a l v w c
 ·rw [Yi6 t n a l k30_]
  exact Yi3 t n a l v w k30_ c
end Wp
end Go.Proofs.YtgpljiijjnaofaaGreatDoor
