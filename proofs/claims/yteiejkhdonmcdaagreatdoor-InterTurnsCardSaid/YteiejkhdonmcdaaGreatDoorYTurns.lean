/- InterTurns, walked: it answers true (written by gen_yturns.py). -/
import Derived.Test.YteiejkhdonmcdaaGreatDoorYTurnsR
import Derived.Test.YteiejkhdonmcdaaGreatDoorYD
import Derived.Test.YteiejkhdonmcdaaGreatDoorZS
import Derived.Test.YteiejkhdonmcdaaGreatDoorX0A
import Derived.Test.YteiejkhdonmcdaaGreatDoorX0B
set_option maxHeartbeats 16000000
set_option maxRecDepth 100000
open Go.Lib (hid)
open Nat (le_refl)
namespace Go.Proofs.YteiejkhdonmcdaaGreatDoor
open Go Go.RowKit
namespace Wp
theorem wt_1 (E:Nat→Addr) (a:Mat) (x:Value) (b:Mat) (y:Value) (w:World) (p:MatV w w.heap.size x a) (u:Lim a) (q:MatV w w.heap.size y b) (v:Lim b) (r:Env E w) (s:fewB 9 a 8=false):Calls Tryz.prog 11 #[x,y] w (Truly w):=by
 have Hfa:=hid s;clear s;have Hla:=hid u;have H:=hid v;obtain ⟨K,I,F,C,z⟩:=p.open;obtain ⟨L,J,G,D,B⟩:=q.open;obtain ⟨g,cl,rfl,_⟩:=C;obtain ⟨d,k,rfl,_⟩:=z;obtain ⟨j,o,rfl,_⟩:=D;obtain ⟨h,m,rfl,_⟩:=B;subst F G;obtain ⟨c,hW2⟩:∃ c,c=(w.alloc (.cells #[.int .i64 a.t,.int .i64 a.n,.int .i64 a.a,.int .i64 a.b,.slice g a.l.length cl,.slice d a.i.length k] 25)).alloc (.cells #[.int .i64 b.t,.int .i64 b.n,.int .i64 b.a,.int .i64 b.b,.slice j b.l.length o,.slice h b.i.length m] 25):=⟨_,rfl⟩;have HW2:=hid hW2;have hb2:Below w.heap.size w c:=by rw [hW2];exact ((Below.refl _ w).alloc (le_refl _) _).alloc z36_ _
 have Hka:Hid (Blk c w.heap.size 25 #[.int .i64 a.t,.int .i64 a.n,.int .i64 a.a,.int .i64 a.b,.slice g a.l.length cl,.slice d a.i.length k]):=hid z37_;have Hkb:Hid (Blk c (w.heap.size+1) 25 #[.int .i64 b.t,.int .i64 b.n,.int .i64 b.a,.int .i64 b.b,.slice j b.l.length o,.slice h b.i.length m]):=hid (by
  rw [hW2];have:=Blk.new (w.alloc (.cells #[.int .i64 a.t,.int .i64 a.n,.int .i64 a.a,.int .i64 a.b,.slice g a.l.length cl,.slice d a.i.length k] 25)) 25 #[.int .i64 b.t,.int .i64 b.n,.int .i64 b.a,.int .i64 b.b,.slice j b.l.length o,.slice h b.i.length m];simpa using this)
 have Hb0:=hid hb2;have HVa:=hid (p.up hb2);have HVb:=hid (q.up hb2);have HE:=hid (r.up hb2);clear p q u v r hW2 hb2
 go_enter Tryz.func11,Tryz.ntmps11
 exact z2_
theorem wt_2 (E:Nat→Addr) (a:Mat) (y:Value) (b:Mat) (z:Value) (w:World) (p:MatV w w.heap.size y a) (v:Lim a) (q:MatV w w.heap.size z b) (x:Lim b) (r:Env E w) (s:fewB 9 a 8=true) (u:fewB 9 b 8=false):Calls Tryz.prog 11 #[y,z] w (Truly w):=by
 have Hfa:=hid s;have Hfb:=hid u;clear s u;have Hla:=hid v;have Hlb:=hid x;obtain ⟨K,I,G,D,B⟩:=p.open;obtain ⟨L,J,H,F,C⟩:=q.open;obtain ⟨g,cl,rfl,_⟩:=D;obtain ⟨d,k,rfl,_⟩:=B;obtain ⟨j,o,rfl,_⟩:=F;obtain ⟨h,m,rfl,_⟩:=C;subst G H;obtain ⟨c,hW2⟩:∃ c,c=(w.alloc (.cells #[.int .i64 a.t,.int .i64 a.n,.int .i64 a.a,.int .i64 a.b,.slice g a.l.length cl,.slice d a.i.length k] 25)).alloc (.cells #[.int .i64 b.t,.int .i64 b.n,.int .i64 b.a,.int .i64 b.b,.slice j b.l.length o,.slice h b.i.length m] 25):=⟨_,rfl⟩;have HW2:=hid hW2;have hb2:Below w.heap.size w c:=by rw [hW2];exact ((Below.refl _ w).alloc (le_refl _) _).alloc z36_ _
 have Hka:Hid (Blk c w.heap.size 25 #[.int .i64 a.t,.int .i64 a.n,.int .i64 a.a,.int .i64 a.b,.slice g a.l.length cl,.slice d a.i.length k]):=hid z37_;have Hkb:Hid (Blk c (w.heap.size+1) 25 #[.int .i64 b.t,.int .i64 b.n,.int .i64 b.a,.int .i64 b.b,.slice j b.l.length o,.slice h b.i.length m]):=hid (by
  rw [hW2];have:=Blk.new (w.alloc (.cells #[.int .i64 a.t,.int .i64 a.n,.int .i64 a.a,.int .i64 a.b,.slice g a.l.length cl,.slice d a.i.length k] 25)) 25 #[.int .i64 b.t,.int .i64 b.n,.int .i64 b.a,.int .i64 b.b,.slice j b.l.length o,.slice h b.i.length m];simpa using this)
 have Hb0:=hid hb2;have HVa:=hid (p.up hb2);have HVb:=hid (q.up hb2);have HE:=hid (r.up hb2);clear p q v x r hW2 hb2
 go_enter Tryz.func11,Tryz.ntmps11
 exact k1_
theorem wt_3 (E:Nat→Addr) (a:Mat) (z:Value) (b:Mat) (B:Value) (w:World) (p:MatV w w.heap.size z a) (v:Lim a) (q:MatV w w.heap.size B b) (x:Lim b) (r:Env E w) (s:fewB 9 a 8=true) (u:fewB 9 b 8=true) (y:mayP a b=false):Calls Tryz.prog 11 #[z,B] w (Truly w):=by
 have Hfa:=hid s;have Hfb:=hid u;have Hm:=hid y;clear s u y;have Hla:=hid v;have Hlb:=hid x;obtain ⟨L,J,H,F,C⟩:=p.open;obtain ⟨M,K,I,G,D⟩:=q.open;obtain ⟨g,cl,rfl,_⟩:=F;obtain ⟨d,k,rfl,_⟩:=C;obtain ⟨j,o,rfl,_⟩:=G;obtain ⟨h,m,rfl,_⟩:=D;subst H I;obtain ⟨c,hW2⟩:∃ c,c=(w.alloc (.cells #[.int .i64 a.t,.int .i64 a.n,.int .i64 a.a,.int .i64 a.b,.slice g a.l.length cl,.slice d a.i.length k] 25)).alloc (.cells #[.int .i64 b.t,.int .i64 b.n,.int .i64 b.a,.int .i64 b.b,.slice j b.l.length o,.slice h b.i.length m] 25):=⟨_,rfl⟩;have HW2:=hid hW2;have hb2:Below w.heap.size w c:=by rw [hW2];exact ((Below.refl _ w).alloc (le_refl _) _).alloc z36_ _
 have Hka:Hid (Blk c w.heap.size 25 #[.int .i64 a.t,.int .i64 a.n,.int .i64 a.a,.int .i64 a.b,.slice g a.l.length cl,.slice d a.i.length k]):=hid z37_;have Hkb:Hid (Blk c (w.heap.size+1) 25 #[.int .i64 b.t,.int .i64 b.n,.int .i64 b.a,.int .i64 b.b,.slice j b.l.length o,.slice h b.i.length m]):=hid (by
  rw [hW2];have:=Blk.new (w.alloc (.cells #[.int .i64 a.t,.int .i64 a.n,.int .i64 a.a,.int .i64 a.b,.slice g a.l.length cl,.slice d a.i.length k] 25)) 25 #[.int .i64 b.t,.int .i64 b.n,.int .i64 b.a,.int .i64 b.b,.slice j b.l.length o,.slice h b.i.length m];simpa using this)
 have Hb0:=hid hb2;have HVa:=hid (p.up hb2);have HVb:=hid (q.up hb2);have HE:=hid (r.up hb2);clear p q v x r hW2 hb2
 go_enter Tryz.func11,Tryz.ntmps11
 exact q1_
theorem Vg4 (E:Nat→Addr) (a:Mat) (va:Value) (b:Mat) (vb:Value) (w:World) (x8:MatV w w.heap.size va a) (xh:Lim a) (x9:MatV w w.heap.size vb b) (xi:Lim b) (hE:Env E w) (x6:fewB 9 a 8=true) (x7:fewB 9 b 8=true) (hm:mayP a b=true):Calls Tryz.prog 11 #[va,vb] w (Truly w):=by
 have o:=hid (mayP_iff.1 hm);have V:=hid (F7_ x6);have xd:=hid (F7_ x7);have xb:=hid x6;have xc:=hid x7;have Hm:=hid hm;clear x6 x7 hm;have x5:=o.out.2.1;have HF:Hid (chk (unM a.n a.n)=0):=hid (Vo7 (chk_n x5).1 (chk_n x5).2);clear x5;have y2:=hid xh;have y3:=hid xi;obtain ⟨l1,i1,yd,yb,y9⟩:=x8.open;obtain ⟨l2,i2,ye,yc,ya⟩:=x9.open;obtain ⟨U,cl,rfl,_⟩:=yb;obtain ⟨T,Y,rfl,_⟩:=y9;obtain ⟨Bl,dl,rfl,_⟩:=yc;obtain ⟨Bi,di,rfl,_⟩:=ya;subst yd ye;obtain ⟨Z,hW2⟩:∃ Z,Z=(w.alloc (.cells #[.int .i64 a.t,.int .i64 a.n,.int .i64 a.a,.int .i64 a.b,.slice U a.l.length cl,.slice T a.i.length Y] 25)).alloc (.cells #[.int .i64 b.t,.int .i64 b.n,.int .i64 b.a,.int .i64 b.b,.slice Bl b.l.length dl,.slice Bi b.i.length di] 25):=⟨_,rfl⟩;have xa:=hid hW2;have q:Below w.heap.size w Z:=by rw [hW2];exact ((Below.refl _ w).alloc (le_refl _) _).alloc z36_ _
 have c:Hid (Blk Z w.heap.size 25 #[.int .i64 a.t,.int .i64 a.n,.int .i64 a.a,.int .i64 a.b,.slice U a.l.length cl,.slice T a.i.length Y]):=hid z37_;have d:Hid (Blk Z (w.heap.size+1) 25 #[.int .i64 b.t,.int .i64 b.n,.int .i64 b.a,.int .i64 b.b,.slice Bl b.l.length dl,.slice Bi b.i.length di]):=hid (by
  rw [hW2];have:=Blk.new (w.alloc (.cells #[.int .i64 a.t,.int .i64 a.n,.int .i64 a.a,.int .i64 a.b,.slice U a.l.length cl,.slice T a.i.length Y] 25)) 25 #[.int .i64 b.t,.int .i64 b.n,.int .i64 b.a,.int .i64 b.b,.slice Bl b.l.length dl,.slice Bi b.i.length di];simpa using this)
 have m:=hid q;have g:=hid (x8.up q);have k:=hid (x9.up q);have j:=hid (hE.up q);clear x8 x9 xh xi hE hW2 q
 go_enter Tryz.func11,Tryz.ntmps11
 go_wp2_with fail
 rw [← xa.out];refine (X6_ E _ j.out).mono ?_;rintro e w1 ⟨rfl,F⟩;clear xa;replace j:=hid (j.out.up F);replace g:=hid (g.out.up F);replace k:=hid (k.out.up F);replace c:=hid (c.out.below F c.out.lt);replace d:=hid (d.out.below F d.out.lt);replace m:=hid (Z0_ m.out (le_refl _) F);clear F;have r:=c.out.cell 0;have s:=c.out.cell 1;have y:=c.out.cell 2;have z:=c.out.cell 3;have B:=c.out.cell 4;have C:=c.out.cell 5
 go_wp2_with fail
 refine (D1_ a _ 8 _ g.out y2.out).mono ?_;rintro e w2 ⟨rfl,q⟩;rw [xb.out];clear r s y z B C;replace j:=hid (j.out.up q);replace g:=hid (g.out.up q);replace k:=hid (k.out.up q);replace c:=hid (c.out.below q c.out.lt);replace d:=hid (d.out.below q d.out.lt);replace m:=hid (Z0_ m.out (le_refl _) q);clear q;have M:=d.out.cell 0;have O:=d.out.cell 1;have P:=d.out.cell 2;have Q:=d.out.cell 3;have R:=d.out.cell 4;have S:=d.out.cell 5
 go_wp2_with fail
 refine (D1_ b _ 8 _ k.out y3.out).mono ?_;rintro e w3 ⟨rfl,G⟩;rw [xc.out];clear M O P Q R S;replace j:=hid (j.out.up G);replace g:=hid (g.out.up G);replace k:=hid (k.out.up G);replace c:=hid (c.out.below G c.out.lt);replace d:=hid (d.out.below G d.out.lt);replace m:=hid (Z0_ m.out (le_refl _) G);clear G;have r:=c.out.cell 0;have s:=c.out.cell 1;have y:=c.out.cell 2;have z:=c.out.cell 3;have B:=c.out.cell 4;have C:=c.out.cell 5;have M:=d.out.cell 0;have O:=d.out.cell 1;have P:=d.out.cell 2;have Q:=d.out.cell 3;have R:=d.out.cell 4;have S:=d.out.cell 5
 go_wp2_with fail
 refine (H4_ a b _ _ _ g.out k.out (F7_ xb.out) (F7_ xc.out)).mono ?_;rintro e w4 ⟨rfl,H⟩;rw [Hm.out];clear r s y z B C M O P Q R S;replace j:=hid (j.out.up H);replace g:=hid (g.out.up H);replace k:=hid (k.out.up H);replace c:=hid (c.out.below H c.out.lt);replace d:=hid (d.out.below H d.out.lt);replace m:=hid (Z0_ m.out (le_refl _) H);clear H;have r:=c.out.cell 0;have s:=c.out.cell 1;have y:=c.out.cell 2;have z:=c.out.cell 3;have B:=c.out.cell 4;have C:=c.out.cell 5;have M:=d.out.cell 0;have O:=d.out.cell 1;have P:=d.out.cell 2;have Q:=d.out.cell 3;have R:=d.out.cell 4;have S:=d.out.cell 5
 go_wp2_with fail
 refine (Zk5 E a b _ _ _ g.out k.out V.out xd.out j.out o.out.2.1 o.out.2.2 o.out.1).mono ?_;rintro e w5 ⟨s1,u1,xj,v1,x1,rfl,xo,xt,I⟩;have xx:=hid xj;have yk:=hid xo;have yo:=hid xt;obtain ⟨A1,c1,rfl,_⟩:=xo;clear xj xt;clear r s y z B C M O P Q R S;replace j:=hid (j.out.up I);replace g:=hid (g.out.up I);replace k:=hid (k.out.up I);replace c:=hid (c.out.below I c.out.lt);replace d:=hid (d.out.below I d.out.lt);replace m:=hid (Z0_ m.out (le_refl _) I);clear I;have r:=c.out.cell 0;have s:=c.out.cell 1;have y:=c.out.cell 2;have z:=c.out.cell 3;have B:=c.out.cell 4;have C:=c.out.cell 5;have M:=d.out.cell 0;have O:=d.out.cell 1;have P:=d.out.cell 2;have Q:=d.out.cell 3;have R:=d.out.cell 4;have S:=d.out.cell 5
 go_wp2_with fail
 refine (Zk5 E b a _ _ _ k.out g.out xd.out V.out j.out o.out.2.2 o.out.2.1 o.out.1.symm).mono ?_;rintro e w6 ⟨s2,u2,xk,v2,x2,rfl,xp,xu,J⟩;have xy:=hid xk;have yl:=hid xp;have yp:=hid xu;obtain ⟨A2,c2,rfl,_⟩:=xp;clear xk xu;clear r s y z B C M O P Q R S;replace j:=hid (j.out.up J);replace g:=hid (g.out.up J);replace k:=hid (k.out.up J);replace c:=hid (c.out.below J c.out.lt);replace d:=hid (d.out.below J d.out.lt);replace m:=hid (Z0_ m.out (le_refl _) J);clear J;have r:=c.out.cell 0;have s:=c.out.cell 1;have y:=c.out.cell 2;have z:=c.out.cell 3;have B:=c.out.cell 4;have C:=c.out.cell 5
 go_wp2_with fail
 refine (Zk5 E a a _ _ _ g.out g.out V.out V.out j.out o.out.2.1 o.out.2.1 rfl).mono ?_;rintro e w7 ⟨s3,u3,xl,v3,x3,rfl,xq,xv,K⟩;have xz:=hid xl;have ym:=hid xq;have yq:=hid xv;obtain ⟨A3,c3,rfl,_⟩:=xq;clear xl xv;clear r s y z B C;replace j:=hid (j.out.up K);replace g:=hid (g.out.up K);replace k:=hid (k.out.up K);replace c:=hid (c.out.below K c.out.lt);replace d:=hid (d.out.below K d.out.lt);replace m:=hid (Z0_ m.out (le_refl _) K);clear K;have r:=c.out.cell 0;have s:=c.out.cell 1;have y:=c.out.cell 2;have z:=c.out.cell 3;have B:=c.out.cell 4;have C:=c.out.cell 5
 go_wp2_with fail
 refine (Zk5 E a (unM a.n a.n) _ _ _ g.out (J7_ _ _ 0 a.n a.n 0) V.out (J8_ ..) j.out o.out.2.1 HF.out rfl).mono ?_;rintro e w8 ⟨s4,u4,xm,v4,x4,rfl,xr,xw,L⟩;have y0:=hid xm;have yn:=hid xr;have yr:=hid xw;obtain ⟨A4,c4,rfl,_⟩:=xr;clear xm xw;clear r s y z B C;replace j:=hid (j.out.up L);replace g:=hid (g.out.up L);replace k:=hid (k.out.up L);replace c:=hid (c.out.below L c.out.lt);replace d:=hid (d.out.below L d.out.lt);replace m:=hid (Z0_ m.out (le_refl _) L);clear L;have HK:Hid (∀ W,Below w8.drew.heap.size w8.drew W→Below w8.heap.size w8 W):=hid fun W D=>Z0_ (Below.refl _ w8).drew (le_refl _) D;go_wp2;refine E0_ (ops:=ytO) (ytK ⟨w.heap.size,.int .i64 a.t,.int .i64 a.n,.int .i64 a.a,.int .i64 a.b,.slice U a.l.length cl,.slice T a.i.length Y,allL a.n,a.n,rankT a (allL a.n)⟩) q36_ q36_ (Vk8 (x:=⟨w.heap.size,.int .i64 a.t,.int .i64 a.n,.int .i64 a.a,.int .i64 a.b,.slice U a.l.length cl,.slice T a.i.length Y,allL a.n,a.n,rankT a (allL a.n)⟩) ⟨rfl,?hK1,?hN,?hL,?hR⟩) ?_
 case hK1=>exact fun W D=>by have h:=c.out.below (HK.out W D) c.out.lt;exact ⟨h.cell 0,h.cell 1,h.cell 2,h.cell 3,h.cell 4,h.cell 5⟩
 case hN=>exact fun W D=>(c.out.below (HK.out W D) c.out.lt).cell 1
 case hL=>exact fun W D=>K5_ a.n W
 case hR=>exact fun W D u hu=>Zf2 a _ u _ W (g.out.up (HK.out W D)) V.out hu
 intro X W D xs xf xn xe;have y1:=hid (Z0_ m.out (le_refl _) (HK.out W D));obtain ⟨yf,y4⟩:∃ v,X.tmps.getD 69 undef=v:=⟨_,rfl⟩;obtain ⟨yg,y5⟩:∃ v,X.tmps.getD 70 undef=v:=⟨_,rfl⟩;obtain ⟨yh,y6⟩:∃ v,X.tmps.getD 71 undef=v:=⟨_,rfl⟩;obtain ⟨yi,y7⟩:∃ v,X.tmps.getD 72 undef=v:=⟨_,rfl⟩;obtain ⟨yj,y8⟩:∃ v,X.tmps.getD 73 undef=v:=⟨_,rfl⟩;have x0:=xe 5 17 (by rw [show ytO.size=6 by kernel_rfl];decide) q36_;rw [show ek ytO (ytK ⟨w.heap.size,.int .i64 a.t,.int .i64 a.n,.int .i64 a.a,.int .i64 a.b,.slice U a.l.length cl,.slice T a.i.length Y,allL a.n,a.n,rankT a (allL a.n)⟩) 5=.eq (.int .i64 (rankT a (allL a.n))) from by kernel_rfl] at x0;have x0:X.tmps.getD 17 undef=.int .i64 (rankT a (allL a.n)):=x0;have xg:=U0_ (ops:=ytO) (n:=6) (N:=91) [(69,yf),(70,yg),(71,yh),(72,yi),(73,yj),(17,.int .i64 (rankT a (allL a.n)))] rfl xs xf (fun t ht=>xn t (by unfold Zx5;rw [show ytO.size=6 by kernel_rfl];exact ht)) q36_ (by
  intro p hp;simp only [List.mem_cons,List.not_mem_nil,or_false] at hp;rcases hp with rfl | rfl | rfl | rfl | rfl | rfl<;>assumption)
 clear xn xe xs xf y4 y5 y6 y7 y8 x0;rw [xg];clear xg;simp only [show List.range 91=[0,1,2,3,4,5,6,7,8,9,10,11,12,13,14,15,16,17,18,19,20,21,22,23,24,25,26,27,28,29,30,31,32,33,34,35,36,37,38,39,40,41,42,43,44,45,46,47,48,49,50,51,52,53,54,55,56,57,58,59,60,61,62,63,64,65,66,67,68,69,70,71,72,73,74,75,76,77,78,79,80,81,82,83,84,85,86,87,88,89,90] from by decide,List.map_cons,List.map_nil,List.lookup_cons,List.lookup_nil];go_simp;have e1:((s1.length:Int)==(s2.length:Int))=true:=by rw [Xd1 o.out.2.1 o.out.2.2 o.out.1 xx.out xy.out];simp
 have e2:((s3.length:Int)==rankT a (allL a.n))=true:=by rw [Xs6 o.out.2.1 xz.out];simp
 have e3:((s4.length:Int)==rankT a (allL a.n))=true:=by rw [Xu8 o.out.2.1 HF.out y0.out];simp
 go_wp2;go_ret;exact ⟨rfl,y1.out⟩
theorem InterTurns_any (E:Nat→Addr) (a:Mat) (c:Value) (b:Mat) (d:Value) (w:World) (j:MatV w w.heap.size c a) (g:Lim a) (k:MatV w w.heap.size d b) (h:Lim b) (e:Env E w):Calls Tryz.prog 11 #[c,d] w (Truly w):=by
 cases hfa:fewB 9 a 8 with
 | false=>exact wt_1 E a c b d w j g k h e hfa
 | true =>
  cases hfb:fewB 9 b 8 with
  | false=>exact wt_2 E a c b d w j g k h e hfa hfb
  | true =>
   cases hm:mayP a b with
   | false=>exact wt_3 E a c b d w j g k h e hfa hfb hm
   | true=>exact Vg4 E a c b d w j g k h e hfa hfb hm
end Wp
end Go.Proofs.YteiejkhdonmcdaaGreatDoor
