/- InterGreatest, walked: it answers true (written by gen_ygreat.py). -/
import Derived.Test.YteiejkhdonmcdaaGreatDoorYD
import Derived.Test.YteiejkhdonmcdaaGreatDoorZS
import Derived.Test.YteiejkhdonmcdaaGreatDoorZH
import Derived.Test.YteiejkhdonmcdaaGreatDoorX0A
import Derived.Test.YteiejkhdonmcdaaGreatDoorX0B
set_option maxHeartbeats 16000000
set_option maxRecDepth 100000
open Go.Lib (hid)
open Nat (le_refl)
namespace Go.Proofs.YteiejkhdonmcdaaGreatDoor
open Go Go.RowKit
namespace Wp
theorem Vp2 {m:Mat} (h:fewB 9 m 8=true):m.n≤8:=by
 rw [fewB,Bool.and_eq_true] at h;unfold fewOk at h;rw [Bool.and_eq_true,Bool.and_eq_true,decide_eq_true_iff] at h;have c:=h.1.1.2;unfold mostI at c;split at c<;>omega
theorem wg_1 (E:Nat→Addr) (a:Mat) (x:Value) (b:Mat) (y:Value) (w:World) (p:MatV w w.heap.size x a) (u:Lim a) (q:MatV w w.heap.size y b) (v:Lim b) (r:Env E w) (s:fewB 9 a 8=false):Calls Tryz.prog 10 #[x,y] w (Truly w):=by
 have Hfa:=hid s;clear s;have Hla:=hid u;have H:=hid v;obtain ⟨K,I,F,C,z⟩:=p.open;obtain ⟨L,J,G,D,B⟩:=q.open;obtain ⟨g,cl,rfl,_⟩:=C;obtain ⟨d,k,rfl,_⟩:=z;obtain ⟨j,o,rfl,_⟩:=D;obtain ⟨h,m,rfl,_⟩:=B;subst F G;obtain ⟨c,hW2⟩:∃ c,c=(w.alloc (.cells #[.int .i64 a.t,.int .i64 a.n,.int .i64 a.a,.int .i64 a.b,.slice g a.l.length cl,.slice d a.i.length k] 25)).alloc (.cells #[.int .i64 b.t,.int .i64 b.n,.int .i64 b.a,.int .i64 b.b,.slice j b.l.length o,.slice h b.i.length m] 25):=⟨_,rfl⟩;have HW2:=hid hW2;have hb2:Below w.heap.size w c:=by rw [hW2];exact ((Below.refl _ w).alloc (le_refl _) _).alloc z36_ _
 have Hka:Hid (Blk c w.heap.size 25 #[.int .i64 a.t,.int .i64 a.n,.int .i64 a.a,.int .i64 a.b,.slice g a.l.length cl,.slice d a.i.length k]):=hid z37_;have Hkb:Hid (Blk c (w.heap.size+1) 25 #[.int .i64 b.t,.int .i64 b.n,.int .i64 b.a,.int .i64 b.b,.slice j b.l.length o,.slice h b.i.length m]):=hid (by
  rw [hW2];have:=Blk.new (w.alloc (.cells #[.int .i64 a.t,.int .i64 a.n,.int .i64 a.a,.int .i64 a.b,.slice g a.l.length cl,.slice d a.i.length k] 25)) 25 #[.int .i64 b.t,.int .i64 b.n,.int .i64 b.a,.int .i64 b.b,.slice j b.l.length o,.slice h b.i.length m];simpa using this)
 have Hb0:=hid hb2;have HVa:=hid (p.up hb2);have HVb:=hid (q.up hb2);have HE:=hid (r.up hb2);clear p q u v r hW2 hb2
 go_enter Tryz.func10,Tryz.ntmps10
 exact z2_
theorem wg_2 (E:Nat→Addr) (a:Mat) (y:Value) (b:Mat) (z:Value) (w:World) (p:MatV w w.heap.size y a) (v:Lim a) (q:MatV w w.heap.size z b) (x:Lim b) (r:Env E w) (s:fewB 9 a 8=true) (u:fewB 9 b 8=false):Calls Tryz.prog 10 #[y,z] w (Truly w):=by
 have Hfa:=hid s;have Hfb:=hid u;clear s u;have Hla:=hid v;have Hlb:=hid x;obtain ⟨K,I,G,D,B⟩:=p.open;obtain ⟨L,J,H,F,C⟩:=q.open;obtain ⟨g,cl,rfl,_⟩:=D;obtain ⟨d,k,rfl,_⟩:=B;obtain ⟨j,o,rfl,_⟩:=F;obtain ⟨h,m,rfl,_⟩:=C;subst G H;obtain ⟨c,hW2⟩:∃ c,c=(w.alloc (.cells #[.int .i64 a.t,.int .i64 a.n,.int .i64 a.a,.int .i64 a.b,.slice g a.l.length cl,.slice d a.i.length k] 25)).alloc (.cells #[.int .i64 b.t,.int .i64 b.n,.int .i64 b.a,.int .i64 b.b,.slice j b.l.length o,.slice h b.i.length m] 25):=⟨_,rfl⟩;have HW2:=hid hW2;have hb2:Below w.heap.size w c:=by rw [hW2];exact ((Below.refl _ w).alloc (le_refl _) _).alloc z36_ _
 have Hka:Hid (Blk c w.heap.size 25 #[.int .i64 a.t,.int .i64 a.n,.int .i64 a.a,.int .i64 a.b,.slice g a.l.length cl,.slice d a.i.length k]):=hid z37_;have Hkb:Hid (Blk c (w.heap.size+1) 25 #[.int .i64 b.t,.int .i64 b.n,.int .i64 b.a,.int .i64 b.b,.slice j b.l.length o,.slice h b.i.length m]):=hid (by
  rw [hW2];have:=Blk.new (w.alloc (.cells #[.int .i64 a.t,.int .i64 a.n,.int .i64 a.a,.int .i64 a.b,.slice g a.l.length cl,.slice d a.i.length k] 25)) 25 #[.int .i64 b.t,.int .i64 b.n,.int .i64 b.a,.int .i64 b.b,.slice j b.l.length o,.slice h b.i.length m];simpa using this)
 have Hb0:=hid hb2;have HVa:=hid (p.up hb2);have HVb:=hid (q.up hb2);have HE:=hid (r.up hb2);clear p q v x r hW2 hb2
 go_enter Tryz.func10,Tryz.ntmps10
 exact k1_
theorem wg_3 (E:Nat→Addr) (a:Mat) (z:Value) (b:Mat) (B:Value) (w:World) (p:MatV w w.heap.size z a) (v:Lim a) (q:MatV w w.heap.size B b) (x:Lim b) (r:Env E w) (s:fewB 9 a 8=true) (u:fewB 9 b 8=true) (y:mayP a b=false):Calls Tryz.prog 10 #[z,B] w (Truly w):=by
 have Hfa:=hid s;have Hfb:=hid u;have Hm:=hid y;clear s u y;have Hla:=hid v;have Hlb:=hid x;obtain ⟨L,J,H,F,C⟩:=p.open;obtain ⟨M,K,I,G,D⟩:=q.open;obtain ⟨g,cl,rfl,_⟩:=F;obtain ⟨d,k,rfl,_⟩:=C;obtain ⟨j,o,rfl,_⟩:=G;obtain ⟨h,m,rfl,_⟩:=D;subst H I;obtain ⟨c,hW2⟩:∃ c,c=(w.alloc (.cells #[.int .i64 a.t,.int .i64 a.n,.int .i64 a.a,.int .i64 a.b,.slice g a.l.length cl,.slice d a.i.length k] 25)).alloc (.cells #[.int .i64 b.t,.int .i64 b.n,.int .i64 b.a,.int .i64 b.b,.slice j b.l.length o,.slice h b.i.length m] 25):=⟨_,rfl⟩;have HW2:=hid hW2;have hb2:Below w.heap.size w c:=by rw [hW2];exact ((Below.refl _ w).alloc (le_refl _) _).alloc z36_ _
 have Hka:Hid (Blk c w.heap.size 25 #[.int .i64 a.t,.int .i64 a.n,.int .i64 a.a,.int .i64 a.b,.slice g a.l.length cl,.slice d a.i.length k]):=hid z37_;have Hkb:Hid (Blk c (w.heap.size+1) 25 #[.int .i64 b.t,.int .i64 b.n,.int .i64 b.a,.int .i64 b.b,.slice j b.l.length o,.slice h b.i.length m]):=hid (by
  rw [hW2];have:=Blk.new (w.alloc (.cells #[.int .i64 a.t,.int .i64 a.n,.int .i64 a.a,.int .i64 a.b,.slice g a.l.length cl,.slice d a.i.length k] 25)) 25 #[.int .i64 b.t,.int .i64 b.n,.int .i64 b.a,.int .i64 b.b,.slice j b.l.length o,.slice h b.i.length m];simpa using this)
 have Hb0:=hid hb2;have HVa:=hid (p.up hb2);have HVb:=hid (q.up hb2);have HE:=hid (r.up hb2);clear p q v x r hW2 hb2
 go_enter Tryz.func10,Tryz.ntmps10
 exact q1_
theorem Vg5 (E:Nat→Addr) (a:Mat) (va:Value) (b:Mat) (vb:Value) (w:World) (xa:MatV w w.heap.size va a) (xl:Lim a) (xb:MatV w w.heap.size vb b) (x9:Lim b) (hE:Env E w) (x2:fewB 9 a 8=true) (x8:fewB 9 b 8=true) (hm:mayP a b=true):Calls Tryz.prog 10 #[va,vb] w (Truly w):=by
 have y9:=Vp2 x2;have hp:=mayP_iff.1 hm;have y8:=chk_n hp.2.1;obtain ⟨n,hN⟩:∃ n:Nat,nN a=n:=⟨_,rfl⟩;have x4:(n:Int)=a.n:=by rw [← hN];exact (Z6_ hp.2.1).1
 have xn:n≤8:=k35_;have yd:=hid x4;have ye:=hid hN;have xw:Hid (∀ (B:Nat) (W:World),Calls Tryz.prog 42 #[.int .i64 a.n,.int .i64 (B:Int)] W (Xd8 n W)):=hid fun B W=>by
  rw [← x4];exact Yt0 n B W k35_
 obtain ⟨M,hM⟩:∃ M:Nat,2 ^ n=M:=⟨_,rfl⟩;have yg:M≤256:=by rw [← hM];exact Nat.pow_le_pow_right k35_ xn
 have ya:IntKind.i64.wrap (2 ^ a.n.toNat)=(M:Int):=by
  rw [← hM,← x4,Int.toNat_natCast,IntKind.wrap_i64];have:((2 ^ n:Nat):Int)=(2:Int) ^ n:=z36_;rw [← this,hM];omega
 have yj:IntKind.i64.wrap (1 * 2 ^ a.n.toNat)=(M:Int):=by rw [Int.one_mul];exact ya
 have yh:0≤a.n:=k35_;have yi:a.n≤64:=k35_;clear y9 hp y8 hN x4 xn hM;have o:=hid (mayP_iff.1 hm);have X:=hid (F7_ x2);have Y:=hid (F7_ x8);have xh:=hid x2;have xi:=hid x8;have Hm:=hid hm;clear x2 x8 hm;have y0:=hid xl;have y1:=hid x9;obtain ⟨l1,i1,yb,y5,y3⟩:=xa.open;obtain ⟨l2,i2,yc,y6,y4⟩:=xb.open;obtain ⟨Al,cl,rfl,_⟩:=y5;obtain ⟨Ai,ci,rfl,_⟩:=y3;obtain ⟨Bl,dl,rfl,_⟩:=y6;obtain ⟨Bi,di,rfl,_⟩:=y4;subst yb yc;obtain ⟨Z,hW2⟩:∃ Z,Z=(w.alloc (.cells #[.int .i64 a.t,.int .i64 a.n,.int .i64 a.a,.int .i64 a.b,.slice Al a.l.length cl,.slice Ai a.i.length ci] 25)).alloc (.cells #[.int .i64 b.t,.int .i64 b.n,.int .i64 b.a,.int .i64 b.b,.slice Bl b.l.length dl,.slice Bi b.i.length di] 25):=⟨_,rfl⟩;have xg:=hid hW2;have p:Below w.heap.size w Z:=by rw [hW2];exact ((Below.refl _ w).alloc (le_refl _) _).alloc z36_ _
 have c:Hid (Blk Z w.heap.size 25 #[.int .i64 a.t,.int .i64 a.n,.int .i64 a.a,.int .i64 a.b,.slice Al a.l.length cl,.slice Ai a.i.length ci]):=hid z37_;have d:Hid (Blk Z (w.heap.size+1) 25 #[.int .i64 b.t,.int .i64 b.n,.int .i64 b.a,.int .i64 b.b,.slice Bl b.l.length dl,.slice Bi b.i.length di]):=hid (by
  rw [hW2];have:=Blk.new (w.alloc (.cells #[.int .i64 a.t,.int .i64 a.n,.int .i64 a.a,.int .i64 a.b,.slice Al a.l.length cl,.slice Ai a.i.length ci] 25)) 25 #[.int .i64 b.t,.int .i64 b.n,.int .i64 b.a,.int .i64 b.b,.slice Bl b.l.length dl,.slice Bi b.i.length di];simpa using this)
 have m:=hid p;have g:=hid (xa.up p);have j:=hid (xb.up p);have k:=hid (hE.up p);clear xa xb xl x9 hE hW2 p
 go_enter Tryz.func10,Tryz.ntmps10
 go_wp2_with fail
 rw [← xg.out];refine (X6_ E _ k.out).mono ?_;rintro e w1 ⟨rfl,P⟩;clear xg;replace k:=hid (k.out.up P);replace g:=hid (g.out.up P);replace j:=hid (j.out.up P);replace c:=hid (c.out.below P c.out.lt);replace d:=hid (d.out.below P d.out.lt);replace m:=hid (Z0_ m.out (le_refl _) P);clear P;have q:=c.out.cell 0;have r:=c.out.cell 1;have s:=c.out.cell 2;have u:=c.out.cell 3;have v:=c.out.cell 4;have x:=c.out.cell 5
 go_wp2_with fail
 refine (D1_ a _ 8 _ g.out y0.out).mono ?_;rintro e w2 ⟨rfl,p⟩;rw [xh.out];clear q r s u v x;replace k:=hid (k.out.up p);replace g:=hid (g.out.up p);replace j:=hid (j.out.up p);replace c:=hid (c.out.below p c.out.lt);replace d:=hid (d.out.below p d.out.lt);replace m:=hid (Z0_ m.out (le_refl _) p);clear p;have y:=d.out.cell 0;have z:=d.out.cell 1;have C:=d.out.cell 2;have D:=d.out.cell 3;have F:=d.out.cell 4;have G:=d.out.cell 5
 go_wp2_with fail
 refine (D1_ b _ 8 _ j.out y1.out).mono ?_;rintro e w3 ⟨rfl,Q⟩;rw [xi.out];clear y z C D F G;replace k:=hid (k.out.up Q);replace g:=hid (g.out.up Q);replace j:=hid (j.out.up Q);replace c:=hid (c.out.below Q c.out.lt);replace d:=hid (d.out.below Q d.out.lt);replace m:=hid (Z0_ m.out (le_refl _) Q);clear Q;have q:=c.out.cell 0;have r:=c.out.cell 1;have s:=c.out.cell 2;have u:=c.out.cell 3;have v:=c.out.cell 4;have x:=c.out.cell 5;have y:=d.out.cell 0;have z:=d.out.cell 1;have C:=d.out.cell 2;have D:=d.out.cell 3;have F:=d.out.cell 4;have G:=d.out.cell 5
 go_wp2_with fail
 refine (H4_ a b _ _ _ g.out j.out (F7_ xh.out) (F7_ xi.out)).mono ?_;rintro e w4 ⟨rfl,R⟩;rw [Hm.out];clear q r s u v x y z C D F G;replace k:=hid (k.out.up R);replace g:=hid (g.out.up R);replace j:=hid (j.out.up R);replace c:=hid (c.out.below R c.out.lt);replace d:=hid (d.out.below R d.out.lt);replace m:=hid (Z0_ m.out (le_refl _) R);clear R;have q:=c.out.cell 0;have r:=c.out.cell 1;have s:=c.out.cell 2;have u:=c.out.cell 3;have v:=c.out.cell 4;have x:=c.out.cell 5;have y:=d.out.cell 0;have z:=d.out.cell 1;have C:=d.out.cell 2;have D:=d.out.cell 3;have F:=d.out.cell 4;have G:=d.out.cell 5
 go_wp2_with fail
 refine (Zk5 E a b _ _ _ g.out j.out X.out Y.out k.out o.out.2.1 o.out.2.2 o.out.1).mono ?_;rintro e w5 ⟨H,u1,xm,v1,x1,rfl,xp,xq,S⟩;have x6:=hid xm;have K:=hid xp;have O:=hid xq;obtain ⟨A1,c1,rfl,_⟩:=xp;clear xm xq;clear q r s u v x y z C D F G;have x3:=E9_ o.out.2.1 o.out.2.2 o.out.1 x6.out;have xd:Hid ((indT a H && indT b H)=true):=hid (by rw [x3.1.ia,x3.1.ib];rfl);have x5:Hid (A7_ a b u1=(H.length:Int)):=hid (Yy4 o.out.2.1 o.out.2.2 o.out.1 x6.out);have xr:u1.length≤1048576:=Nat.le_trans (Y4_ x3.2.1) (by have:=(Z6_ o.out.2.1).2;omega);have xt:Hid (∀ t:List Int,H.length<t.length→(indT a t && indT b t)=false):=hid fun t ht=>by
  cases h:(indT a t && indT b t)
  ·rfl
  ·rw [Bool.and_eq_true] at h
   have:=H9_ o.out.2.1 o.out.2.2 o.out.1 x6.out ⟨o.out.1,h.1,h.2⟩;omega
 have x9:((H.length:Int) != (H.length:Int))=false:=z36_;clear x3;replace k:=hid (k.out.up S);replace g:=hid (g.out.up S);replace j:=hid (j.out.up S);replace c:=hid (c.out.below S c.out.lt);replace d:=hid (d.out.below S d.out.lt);replace m:=hid (Z0_ m.out (le_refl _) S);clear S;have q:=c.out.cell 0;have r:=c.out.cell 1;have s:=c.out.cell 2;have u:=c.out.cell 3;have v:=c.out.cell 4;have x:=c.out.cell 5;have y:=d.out.cell 0;have z:=d.out.cell 1;have C:=d.out.cell 2;have D:=d.out.cell 3;have F:=d.out.cell 4;have G:=d.out.cell 5
 go_wp2_with fail
 refine (Zv6 a b _ _ _ g.out j.out X.out Y.out _ H K.out).mono ?_;rintro e w6 ⟨rfl,I⟩;rw [xd.out];clear q r s u v x y z C D F G;replace k:=hid (k.out.up I);replace g:=hid (g.out.up I);replace j:=hid (j.out.up I);replace K:=hid (K.out.up I);replace O:=hid (O.out.up I);replace c:=hid (c.out.below I c.out.lt);replace d:=hid (d.out.below I d.out.lt);replace m:=hid (Z0_ m.out (le_refl _) I);clear I;have q:=c.out.cell 0;have r:=c.out.cell 1;have s:=c.out.cell 2;have u:=c.out.cell 3;have v:=c.out.cell 4;have x:=c.out.cell 5;have y:=d.out.cell 0;have z:=d.out.cell 1;have C:=d.out.cell 2;have D:=d.out.cell 3;have F:=d.out.cell 4;have G:=d.out.cell 5
 go_wp2_with fail
 refine (Yd0 a b _ _ _ g.out j.out X.out Y.out _ u1 O.out xr).mono ?_;rintro e w7 ⟨rfl,J⟩;rw [x5.out];clear q r s u v x y z C D F G;replace k:=hid (k.out.up J);replace g:=hid (g.out.up J);replace j:=hid (j.out.up J);replace K:=hid (K.out.up J);replace O:=hid (O.out.up J);replace c:=hid (c.out.below J c.out.lt);replace d:=hid (d.out.below J d.out.lt);replace m:=hid (Z0_ m.out (le_refl _) J);clear J;have q:=c.out.cell 0;have r:=c.out.cell 1;have s:=c.out.cell 2;have u:=c.out.cell 3;have v:=c.out.cell 4;have x:=c.out.cell 5;have y:=d.out.cell 0;have z:=d.out.cell 1;have C:=d.out.cell 2;have D:=d.out.cell 3;have F:=d.out.cell 4;have G:=d.out.cell 5
 go_wp2_with fail
 refine (O4_ E a b _ _ _ g.out j.out X.out Y.out k.out _ u1 O.out xr).mono ?_;rintro e w8 ⟨rfl,L⟩;rw [x5.out];clear q r s u v x y z C D F G xd x5 O;replace k:=hid (k.out.up L);replace g:=hid (g.out.up L);replace j:=hid (j.out.up L);replace K:=hid (K.out.up L);replace c:=hid (c.out.below L c.out.lt);replace d:=hid (d.out.below L d.out.lt);replace m:=hid (Z0_ m.out (le_refl _) L);clear L;go_wp2
 go_loopw [8,9] (fun vB _ wr=>∃ B:Nat,vB=.int .i64 (B:Int)∧B≤M∧Hid (Below w8.heap.size w8 wr)) (fun vB _ _=>M - (intOf vB).toNat)
 case atStart=>exact ⟨0,rfl,Nat.zero_le _,hid (Below.refl _ _)⟩
 case round =>
  obtain ⟨B,rfl,hB,N⟩:=hrel;have x0:=hid (c.out.below N.out c.out.lt);have q1:=x0.out.cell 1;by_cases yf:B<M
  ·have y7:(B:Int)<(M:Int):=by omega
   have yk:IntKind.i64.wrap ((B:Int)+1)=(B:Int)+1:=q37_;have xv:=hid (K.out.up N.out);have xe:=hid (g.out.up N.out);have xf:=hid (j.out.up N.out);have x7:=hid (d.out.below N.out d.out.lt)
   go_wp2_with fail
   refine (xw.out B wr).mono ?_;rintro e yl ⟨t,vt,_,_,rfl,xo,V⟩;have HT:=hid xo;have xc:=hid (Z0_ N.out (le_refl _) V);have xx:=hid (xe.out.up V);have xy:=hid (xf.out.up V);have T:=hid (x0.out.below V x0.out.lt);have U:=hid (x7.out.below V x7.out.lt);obtain ⟨At,ct,rfl,_⟩:=xo;clear V q1 xv xe xf x7 x0;by_cases xk:H.length<t.length
   ·have y2:(H.length:Int)<(t.length:Int):=by omega
    have xu:=hid (xt.out t xk);clear xk;have q:=T.out.cell 0;have r:=T.out.cell 1;have s:=T.out.cell 2;have u:=T.out.cell 3;have v:=T.out.cell 4;have x:=T.out.cell 5;have y:=U.out.cell 0;have z:=U.out.cell 1;have C:=U.out.cell 2;have D:=U.out.cell 3;have F:=U.out.cell 4;have G:=U.out.cell 5
    go_wp2_with fail
    refine (Zv6 a b _ _ _ xx.out xy.out X.out Y.out _ t HT.out).mono ?_;rintro e ym ⟨rfl,xj⟩;rw [xu.out];have xs:=hid (Z0_ xc.out (le_refl _) xj);clear xj q r s u v x y z C D F G;go_wp2
    go_roundw
    case rel=>exact ⟨B+1,x37_,k35_,xs⟩
    case measure=>simp [intOf];omega
   ·have y2:¬ (H.length:Int)<(t.length:Int):=by omega
    go_wp2
    go_roundw
    case rel=>exact ⟨B+1,x37_,k35_,xc⟩
    case measure=>simp [intOf];omega
  ·have y7:¬ (B:Int)<(M:Int):=by omega
   have xz:=hid (Z0_ m.out (le_refl _) N.out);go_wp2;go_ret;exact ⟨rfl,xz.out⟩
theorem InterGreatest_any (E:Nat→Addr) (a:Mat) (c:Value) (b:Mat) (d:Value) (w:World) (j:MatV w w.heap.size c a) (g:Lim a) (k:MatV w w.heap.size d b) (h:Lim b) (e:Env E w):Calls Tryz.prog 10 #[c,d] w (Truly w):=by
 cases hfa:fewB 9 a 8 with
 | false=>exact wg_1 E a c b d w j g k h e hfa
 | true =>
  cases hfb:fewB 9 b 8 with
  | false=>exact wg_2 E a c b d w j g k h e hfa hfb
  | true =>
   cases hm:mayP a b with
   | false=>exact wg_3 E a c b d w j g k h e hfa hfb hm
   | true=>exact Vg5 E a c b d w j g k h e hfa hfb hm
end Wp
end Go.Proofs.YteiejkhdonmcdaaGreatDoor
