/- SplitConcave, walked: it answers true (written by gen_yconc.py). -/
import Derived.Test.YtgpljiijjnaofaaGreatDoorYFx15
import Derived.Test.YtgpljiijjnaofaaGreatDoorYMay15
import Derived.Test.YtgpljiijjnaofaaGreatDoorZS
import Derived.Test.YtgpljiijjnaofaaGreatDoorTMay
import Derived.Test.YtgpljiijjnaofaaGreatDoorX0A
import Derived.Test.YtgpljiijjnaofaaGreatDoorX0C
set_option maxHeartbeats 16000000
set_option maxRecDepth 100000
open Go.Lib (hid)
open Nat (le_refl)
namespace Go.Proofs.YtgpljiijjnaofaaGreatDoor
open Go Go.RowKit
namespace Wp
theorem yc_1 (E:Nat→Addr) (a:Mat) (K:Value) (b:Mat) (L:Value) (J:Value) (s:List Int) (w:World) (B:MatV w w.heap.size K a) (H:Lim a) (C:MatV w w.heap.size L b) (I:Lim b) (z:Row w w.heap.size J s) (F:Env E w) (G:fewB 9 a 7=false):Calls Tryz.prog 6 #[K,L,J] w (Truly w):=by
 have M:=hid G;clear G;have N:=hid H;have x0:=hid I;obtain ⟨l1,i1,U,R,P⟩:=B.open;obtain ⟨l2,i2,V,S,Q⟩:=C.open;obtain ⟨p,v,rfl,_⟩:=R;obtain ⟨o,u,rfl,_⟩:=P;obtain ⟨r,y,rfl,_⟩:=S;obtain ⟨q,x,rfl,_⟩:=Q;obtain ⟨Aw,cw,T,O,_⟩:=id z;subst U V T;obtain ⟨m,hW2⟩:∃ m,m=(w.alloc (.cells #[.int .i64 a.t,.int .i64 a.n,.int .i64 a.a,.int .i64 a.b,.slice p a.l.length v,.slice o a.i.length u] 25)).alloc (.cells #[.int .i64 b.t,.int .i64 b.n,.int .i64 b.a,.int .i64 b.b,.slice r b.l.length y,.slice q b.i.length x] 25):=⟨_,rfl⟩;have D:=hid hW2;have c:Below w.heap.size w m:=by rw [hW2];exact ((Below.refl _ w).alloc (le_refl _) _).alloc x32_ _
 have Hka:Hid (Blk m w.heap.size 25 #[.int .i64 a.t,.int .i64 a.n,.int .i64 a.a,.int .i64 a.b,.slice p a.l.length v,.slice o a.i.length u]):=hid k33_;have Hkb:Hid (Blk m (w.heap.size+1) 25 #[.int .i64 b.t,.int .i64 b.n,.int .i64 b.a,.int .i64 b.b,.slice r b.l.length y,.slice q b.i.length x]):=hid (by
  rw [hW2];have:=Blk.new (w.alloc (.cells #[.int .i64 a.t,.int .i64 a.n,.int .i64 a.a,.int .i64 a.b,.slice p a.l.length v,.slice o a.i.length u] 25)) 25 #[.int .i64 b.t,.int .i64 b.n,.int .i64 b.a,.int .i64 b.b,.slice r b.l.length y,.slice q b.i.length x];simpa using this)
 have Hb0:=hid c;have h:=hid (B.up c);have j:=hid (C.up c);have k:=hid (z.up c);have d:=hid (F.up c);clear B C H I F z O hW2 c
 go_enter Tryz.func6,Tryz.ntmps6
 go_wp2_with fail
 rw [← D.out];refine (Y1_ E _ d.out).mono ?_;rintro e w1 ⟨rfl,g⟩;clear D;replace d:=hid (d.out.up g);replace h:=hid (h.out.up g);replace j:=hid (j.out.up g);replace k:=hid (k.out.up g);replace Hka:=hid (Hka.out.below g Hka.out.lt);replace Hkb:=hid (Hkb.out.below g Hkb.out.lt);replace Hb0:=hid (Z0_ Hb0.out (le_refl _) g);clear g;have W:=Hka.out.cell 0;have X:=Hka.out.cell 1;have Y:=Hka.out.cell 2;have Z:=Hka.out.cell 3;have k4:=Hka.out.cell 4;have k5:=Hka.out.cell 5
 go_wp2_with fail
 refine (J1_ a _ 7 _ h.out N.out).mono ?_;rintro e w2 ⟨rfl,c⟩;rw [M.out];clear W X Y Z k4 k5;replace d:=hid (d.out.up c);replace h:=hid (h.out.up c);replace j:=hid (j.out.up c);replace k:=hid (k.out.up c);replace Hka:=hid (Hka.out.below c Hka.out.lt);replace Hkb:=hid (Hkb.out.below c Hkb.out.lt);replace Hb0:=hid (Z0_ Hb0.out (le_refl _) c);clear c
 go_wp2_with fail
 refine (Y1_ E _ d.out).mono ?_;rintro e w3 ⟨rfl,hb3⟩;replace d:=hid (d.out.up hb3);replace h:=hid (h.out.up hb3);replace j:=hid (j.out.up hb3);replace k:=hid (k.out.up hb3);exact y27_
theorem yc_2 (E:Nat→Addr) (a:Mat) (M:Value) (b:Mat) (N:Value) (L:Value) (s:List Int) (w:World) (C:MatV w w.heap.size M a) (J:Lim a) (D:MatV w w.heap.size N b) (K:Lim b) (B:Row w w.heap.size L s) (G:Env E w) (H:fewB 9 a 7=true) (I:fewB 9 b 7=false):Calls Tryz.prog 6 #[M,N,L] w (Truly w):=by
 have O:=hid H;have P:=hid I;clear H I;have Q:=hid J;have R:=hid K;obtain ⟨l1,i1,Y,V,T⟩:=C.open;obtain ⟨l2,i2,Z,W,U⟩:=D.open;obtain ⟨q,x,rfl,_⟩:=V;obtain ⟨p,v,rfl,_⟩:=T;obtain ⟨u,z,rfl,_⟩:=W;obtain ⟨r,y,rfl,_⟩:=U;obtain ⟨Aw,cw,X,S,_⟩:=id B;subst Y Z X;obtain ⟨o,hW2⟩:∃ o,o=(w.alloc (.cells #[.int .i64 a.t,.int .i64 a.n,.int .i64 a.a,.int .i64 a.b,.slice q a.l.length x,.slice p a.i.length v] 25)).alloc (.cells #[.int .i64 b.t,.int .i64 b.n,.int .i64 b.a,.int .i64 b.b,.slice u b.l.length z,.slice r b.i.length y] 25):=⟨_,rfl⟩;have F:=hid hW2;have c:Below w.heap.size w o:=by rw [hW2];exact ((Below.refl _ w).alloc (le_refl _) _).alloc x32_ _
 have Hka:Hid (Blk o w.heap.size 25 #[.int .i64 a.t,.int .i64 a.n,.int .i64 a.a,.int .i64 a.b,.slice q a.l.length x,.slice p a.i.length v]):=hid k33_;have Hkb:Hid (Blk o (w.heap.size+1) 25 #[.int .i64 b.t,.int .i64 b.n,.int .i64 b.a,.int .i64 b.b,.slice u b.l.length z,.slice r b.i.length y]):=hid (by
  rw [hW2];have:=Blk.new (w.alloc (.cells #[.int .i64 a.t,.int .i64 a.n,.int .i64 a.a,.int .i64 a.b,.slice q a.l.length x,.slice p a.i.length v] 25)) 25 #[.int .i64 b.t,.int .i64 b.n,.int .i64 b.a,.int .i64 b.b,.slice u b.l.length z,.slice r b.i.length y];simpa using this)
 have Hb0:=hid c;have g:=hid (C.up c);have h:=hid (D.up c);have j:=hid (B.up c);have d:=hid (G.up c);clear C D J K G B S hW2 c
 go_enter Tryz.func6,Tryz.ntmps6
 go_wp2_with fail
 rw [← F.out];refine (Y1_ E _ d.out).mono ?_;rintro e w1 ⟨rfl,k⟩;clear F;replace d:=hid (d.out.up k);replace g:=hid (g.out.up k);replace h:=hid (h.out.up k);replace j:=hid (j.out.up k);replace Hka:=hid (Hka.out.below k Hka.out.lt);replace Hkb:=hid (Hkb.out.below k Hkb.out.lt);replace Hb0:=hid (Z0_ Hb0.out (le_refl _) k);clear k;have k0:=Hka.out.cell 0;have k1:=Hka.out.cell 1;have k2:=Hka.out.cell 2;have k3:=Hka.out.cell 3;have k4:=Hka.out.cell 4;have k5:=Hka.out.cell 5
 go_wp2_with fail
 refine (J1_ a _ 7 _ g.out Q.out).mono ?_;rintro e w2 ⟨rfl,c⟩;rw [O.out];clear k0 k1 k2 k3 k4 k5;replace d:=hid (d.out.up c);replace g:=hid (g.out.up c);replace h:=hid (h.out.up c);replace j:=hid (j.out.up c);replace Hka:=hid (Hka.out.below c Hka.out.lt);replace Hkb:=hid (Hkb.out.below c Hkb.out.lt);replace Hb0:=hid (Z0_ Hb0.out (le_refl _) c);clear c;have n0:=Hkb.out.cell 0;have n1:=Hkb.out.cell 1;have n2:=Hkb.out.cell 2;have n3:=Hkb.out.cell 3;have n4:=Hkb.out.cell 4;have n5:=Hkb.out.cell 5
 go_wp2_with fail
 refine (J1_ b _ 7 _ h.out R.out).mono ?_;rintro e w3 ⟨rfl,m⟩;rw [P.out];clear n0 n1 n2 n3 n4 n5;replace d:=hid (d.out.up m);replace g:=hid (g.out.up m);replace h:=hid (h.out.up m);replace j:=hid (j.out.up m);replace Hka:=hid (Hka.out.below m Hka.out.lt);replace Hkb:=hid (Hkb.out.below m Hkb.out.lt);replace Hb0:=hid (Z0_ Hb0.out (le_refl _) m);clear m
 go_wp2_with fail
 refine (Y1_ E _ d.out).mono ?_;rintro e w4 ⟨rfl,hb4⟩;replace d:=hid (d.out.up hb4);replace g:=hid (g.out.up hb4);replace h:=hid (h.out.up hb4);replace j:=hid (j.out.up hb4);exact z27_
theorem yc_3 (E:Nat→Addr) (a:Mat) (va:Value) (b:Mat) (vb:Value) (sw:Value) (s:List Int) (w:World) (H:MatV w w.heap.size va a) (x1:Lim a) (I:MatV w w.heap.size vb b) (x2:Lim b) (G:Row w w.heap.size sw s) (Y:Env E w) (Z:fewB 9 a 7=true) (x0:fewB 9 b 7=true) (hm:may15 a b s=false):Calls Tryz.prog 6 #[va,vb,sw] w (Truly w):=by
 have W:=hid Z;have X:=hid x0;have Hm:=hid hm;clear Z x0 hm;have x3:=hid x1;have x4:=hid x2;obtain ⟨l1,i1,xb,x8,x6⟩:=H.open;obtain ⟨l2,i2,xc,x9,x7⟩:=I.open;obtain ⟨x,C,rfl,_⟩:=x8;obtain ⟨v,B,rfl,_⟩:=x6;obtain ⟨z,F,rfl,_⟩:=x9;obtain ⟨y,D,rfl,_⟩:=x7;obtain ⟨Aw,cw,xa,x5,_⟩:=id G;subst xb xc xa;obtain ⟨u,hW2⟩:∃ u,u=(w.alloc (.cells #[.int .i64 a.t,.int .i64 a.n,.int .i64 a.a,.int .i64 a.b,.slice x a.l.length C,.slice v a.i.length B] 25)).alloc (.cells #[.int .i64 b.t,.int .i64 b.n,.int .i64 b.a,.int .i64 b.b,.slice z b.l.length F,.slice y b.i.length D] 25):=⟨_,rfl⟩;have V:=hid hW2;have g:Below w.heap.size w u:=by rw [hW2];exact ((Below.refl _ w).alloc (le_refl _) _).alloc x32_ _
 have c:Hid (Blk u w.heap.size 25 #[.int .i64 a.t,.int .i64 a.n,.int .i64 a.a,.int .i64 a.b,.slice x a.l.length C,.slice v a.i.length B]):=hid k33_;have d:Hid (Blk u (w.heap.size+1) 25 #[.int .i64 b.t,.int .i64 b.n,.int .i64 b.a,.int .i64 b.b,.slice z b.l.length F,.slice y b.i.length D]):=hid (by
  rw [hW2];have:=Blk.new (w.alloc (.cells #[.int .i64 a.t,.int .i64 a.n,.int .i64 a.a,.int .i64 a.b,.slice x a.l.length C,.slice v a.i.length B] 25)) 25 #[.int .i64 b.t,.int .i64 b.n,.int .i64 b.a,.int .i64 b.b,.slice z b.l.length F,.slice y b.i.length D];simpa using this)
 have Hb0:=hid g;have j:=hid (H.up g);have k:=hid (I.up g);have m:=hid (G.up g);have h:=hid (Y.up g);clear H I x1 x2 Y G x5 hW2 g
 go_enter Tryz.func6,Tryz.ntmps6
 go_wp2_with fail
 rw [← V.out];refine (Y1_ E _ h.out).mono ?_;rintro e w1 ⟨rfl,o⟩;clear V;replace h:=hid (h.out.up o);replace j:=hid (j.out.up o);replace k:=hid (k.out.up o);replace m:=hid (m.out.up o);replace c:=hid (c.out.below o c.out.lt);replace d:=hid (d.out.below o d.out.lt);replace Hb0:=hid (Z0_ Hb0.out (le_refl _) o);clear o;have J:=c.out.cell 0;have K:=c.out.cell 1;have L:=c.out.cell 2;have M:=c.out.cell 3;have N:=c.out.cell 4;have O:=c.out.cell 5
 go_wp2_with fail
 refine (J1_ a _ 7 _ j.out x3.out).mono ?_;rintro e w2 ⟨rfl,g⟩;rw [W.out];clear J K L M N O;replace h:=hid (h.out.up g);replace j:=hid (j.out.up g);replace k:=hid (k.out.up g);replace m:=hid (m.out.up g);replace c:=hid (c.out.below g c.out.lt);replace d:=hid (d.out.below g d.out.lt);replace Hb0:=hid (Z0_ Hb0.out (le_refl _) g);clear g;have P:=d.out.cell 0;have Q:=d.out.cell 1;have R:=d.out.cell 2;have S:=d.out.cell 3;have T:=d.out.cell 4;have U:=d.out.cell 5
 go_wp2_with fail
 refine (J1_ b _ 7 _ k.out x4.out).mono ?_;rintro e w3 ⟨rfl,p⟩;rw [X.out];clear P Q R S T U;replace h:=hid (h.out.up p);replace j:=hid (j.out.up p);replace k:=hid (k.out.up p);replace m:=hid (m.out.up p);replace c:=hid (c.out.below p c.out.lt);replace d:=hid (d.out.below p d.out.lt);replace Hb0:=hid (Z0_ Hb0.out (le_refl _) p);clear p;have J:=c.out.cell 0;have K:=c.out.cell 1;have L:=c.out.cell 2;have M:=c.out.cell 3;have N:=c.out.cell 4;have O:=c.out.cell 5;have P:=d.out.cell 0;have Q:=d.out.cell 1;have R:=d.out.cell 2;have S:=d.out.cell 3;have T:=d.out.cell 4;have U:=d.out.cell 5
 go_wp2_with fail
 refine (Ze6 a b _ _ _ s _ j.out k.out (Q2_ W.out) (Q2_ X.out) m.out).mono ?_;rintro e w4 ⟨rfl,q⟩;rw [Hm.out];clear J K L M N O P Q R S T U;replace h:=hid (h.out.up q);replace j:=hid (j.out.up q);replace k:=hid (k.out.up q);replace m:=hid (m.out.up q);replace c:=hid (c.out.below q c.out.lt);replace d:=hid (d.out.below q d.out.lt);replace Hb0:=hid (Z0_ Hb0.out (le_refl _) q);clear q
 go_wp2_with fail
 refine (Y1_ E _ h.out).mono ?_;rintro e w5 ⟨rfl,r⟩;replace h:=hid (h.out.up r);replace j:=hid (j.out.up r);replace k:=hid (k.out.up r);replace m:=hid (m.out.up r);replace c:=hid (c.out.below r c.out.lt);replace d:=hid (d.out.below r d.out.lt);replace Hb0:=hid (Z0_ Hb0.out (le_refl _) r);clear r;exact q2_
theorem Vb1 (E:Nat→Addr) (a:Mat) (va:Value) (b:Mat) (vb:Value) (sw:Value) (s:List Int) (w:World) (xd:MatV w w.heap.size va a) (xk:Lim a) (xe:MatV w w.heap.size vb b) (xl:Lim b) (xc:Row w w.heap.size sw s) (hE:Env E w) (xa:fewB 9 a 7=true) (xb:fewB 9 b 7=true) (hm:may15 a b s=true):Calls Tryz.prog 6 #[va,vb,sw] w (Truly w):=by
 have xu:=hid (Q2_ xa);have xv:=hid (Q2_ xb);have xg:=hid xa;have xh:=hid xb;have B:=hid hm;clear xa xb hm;have xs:=hid xk;have xt:=hid xl;obtain ⟨l1,i1,y3,y0,xx⟩:=xd.open;obtain ⟨l2,i2,y4,y1,x3⟩:=xe.open;obtain ⟨Al,cl,rfl,_⟩:=y0;obtain ⟨Ai,ci,rfl,_⟩:=xx;obtain ⟨Bl,dl,rfl,_⟩:=y1;obtain ⟨Bi,di,rfl,_⟩:=x3;obtain ⟨Aw,cw,y2,xw,_⟩:=id xc;subst y3 y4 y2;obtain ⟨M,hW2⟩:∃ M,M=(w.alloc (.cells #[.int .i64 a.t,.int .i64 a.n,.int .i64 a.a,.int .i64 a.b,.slice Al a.l.length cl,.slice Ai a.i.length ci] 25)).alloc (.cells #[.int .i64 b.t,.int .i64 b.n,.int .i64 b.a,.int .i64 b.b,.slice Bl b.l.length dl,.slice Bi b.i.length di] 25):=⟨_,rfl⟩;have xf:=hid hW2;have o:Below w.heap.size w M:=by rw [hW2];exact ((Below.refl _ w).alloc (le_refl _) _).alloc x32_ _
 have g:Hid (Blk M w.heap.size 25 #[.int .i64 a.t,.int .i64 a.n,.int .i64 a.a,.int .i64 a.b,.slice Al a.l.length cl,.slice Ai a.i.length ci]):=hid k33_;have m:Hid (Blk M (w.heap.size+1) 25 #[.int .i64 b.t,.int .i64 b.n,.int .i64 b.a,.int .i64 b.b,.slice Bl b.l.length dl,.slice Bi b.i.length di]):=hid (by
  rw [hW2];have:=Blk.new (w.alloc (.cells #[.int .i64 a.t,.int .i64 a.n,.int .i64 a.a,.int .i64 a.b,.slice Al a.l.length cl,.slice Ai a.i.length ci] 25)) 25 #[.int .i64 b.t,.int .i64 b.n,.int .i64 b.a,.int .i64 b.b,.slice Bl b.l.length dl,.slice Bi b.i.length di];simpa using this)
 have y:=hid o;have p:=hid (xd.up o);have q:=hid (xe.up o);have r:=hid (xc.up o);have u:=hid (hE.up o);clear xd xe xk xl hE xc xw hW2 o
 go_enter Tryz.func6,Tryz.ntmps6
 go_wp2_with fail
 rw [← xf.out];refine (Y1_ E _ u.out).mono ?_;rintro e w1 ⟨rfl,C⟩;clear xf;replace u:=hid (u.out.up C);replace p:=hid (p.out.up C);replace q:=hid (q.out.up C);replace r:=hid (r.out.up C);replace g:=hid (g.out.below C g.out.lt);replace m:=hid (m.out.below C m.out.lt);replace y:=hid (Z0_ y.out (le_refl _) C);clear C;have N:=g.out.cell 0;have O:=g.out.cell 1;have P:=g.out.cell 2;have Q:=g.out.cell 3;have R:=g.out.cell 4;have S:=g.out.cell 5
 go_wp2_with fail
 refine (J1_ a _ 7 _ p.out xs.out).mono ?_;rintro e w2 ⟨rfl,o⟩;rw [xg.out];clear N O P Q R S;replace u:=hid (u.out.up o);replace p:=hid (p.out.up o);replace q:=hid (q.out.up o);replace r:=hid (r.out.up o);replace g:=hid (g.out.below o g.out.lt);replace m:=hid (m.out.below o m.out.lt);replace y:=hid (Z0_ y.out (le_refl _) o);clear o;have T:=m.out.cell 0;have U:=m.out.cell 1;have V:=m.out.cell 2;have n3:=m.out.cell 3;have n4:=m.out.cell 4;have n5:=m.out.cell 5
 go_wp2_with fail
 refine (J1_ b _ 7 _ q.out xt.out).mono ?_;rintro e w3 ⟨rfl,D⟩;rw [xh.out];clear T U V n3 n4 n5;replace u:=hid (u.out.up D);replace p:=hid (p.out.up D);replace q:=hid (q.out.up D);replace r:=hid (r.out.up D);replace g:=hid (g.out.below D g.out.lt);replace m:=hid (m.out.below D m.out.lt);replace y:=hid (Z0_ y.out (le_refl _) D);clear D;have N:=g.out.cell 0;have O:=g.out.cell 1;have P:=g.out.cell 2;have Q:=g.out.cell 3;have R:=g.out.cell 4;have S:=g.out.cell 5;have T:=m.out.cell 0;have U:=m.out.cell 1;have V:=m.out.cell 2;have n3:=m.out.cell 3;have n4:=m.out.cell 4;have n5:=m.out.cell 5
 go_wp2_with fail
 refine (Ze6 a b _ _ _ s _ p.out q.out (Q2_ xg.out) (Q2_ xh.out) r.out).mono ?_;rintro e w4 ⟨rfl,F⟩;rw [B.out];clear N O P Q R S T U V n3 n4 n5;replace u:=hid (u.out.up F);replace p:=hid (p.out.up F);replace q:=hid (q.out.up F);replace r:=hid (r.out.up F);replace g:=hid (g.out.below F g.out.lt);replace m:=hid (m.out.below F m.out.lt);replace y:=hid (Z0_ y.out (le_refl _) F);clear F;have N:=g.out.cell 0;have O:=g.out.cell 1;have P:=g.out.cell 2;have Q:=g.out.cell 3;have R:=g.out.cell 4;have S:=g.out.cell 5;have T:=m.out.cell 0;have U:=m.out.cell 1;have V:=m.out.cell 2;have n3:=m.out.cell 3;have n4:=m.out.cell 4;have n5:=m.out.cell 5
 go_wp2_with fail
 refine (Yx9 E a b _ _ _ s _ p.out q.out xu.out xv.out r.out u.out B.out).mono ?_;rintro e w5 ⟨A,c,L,rfl,hL,ht,hl,G⟩;obtain ⟨H,_,_,_,_,⟨d,e⟩,_,_⟩:=hL.nth ht.pos;obtain rfl:A=some H:=(Value.slice.inj e).1;have HL:=hid hL;have z:=hid ht;have Hl:=hid hl;clear hL ht hl e;clear N O P Q R S T U V n3 n4 n5;replace u:=hid (u.out.up G);replace p:=hid (p.out.up G);replace q:=hid (q.out.up G);replace r:=hid (r.out.up G);replace g:=hid (g.out.below G g.out.lt);replace m:=hid (m.out.below G m.out.lt);replace y:=hid (Z0_ y.out (le_refl _) G);clear G;obtain ⟨n,I⟩:∃ n,L.length=n:=⟨_,rfl⟩;have Hn:=hid I;have y7:0<n:=by rw [← I];exact z.out.pos
 have y8:n≤65:=by rw [← I];exact Hl.out
 have y9:(0:Int)<(n:Int):=j31_;rw [I];rw [I] at HL;clear I;go_wp2
 go_loopw [6,9,10,11,12] (fun v6 vi _ _ _ wr=>v6=.bool false∧∃ i:Nat,vi=.int .i64 i∧2≤i∧(i≤n∨i=2)∧Hid (Below w5.heap.size w5 wr)) (fun _ vi _ _ _ _=>n - (intOf vi).toNat)
 case atStart=>exact ⟨rfl,2,rfl,le_refl _,.inr rfl,hid (Below.refl _ _)⟩
 case round =>
  obtain ⟨rfl,i,rfl,x3,xz,x0⟩:=hrel;by_cases xm:i<n
  ·obtain ⟨k,hk⟩:∃ k,k+2=i:=⟨i - 2,j31_⟩
   obtain ⟨j,hj⟩:∃ j,k+1=j:=⟨_,rfl⟩;have xy:(i:Int)<(n:Int):=j31_;have y5:(j:Int)<(n:Int):=j31_;have y6:(k:Int)<(n:Int):=j31_;have yb:IntKind.i64.wrap ((i:Int) - 2)=(k:Int):=y32_;have ya:IntKind.i64.wrap ((i:Int) - 1)=(j:Int):=y32_;have yc:IntKind.i64.wrap ((i:Int)+1)=(i:Int)+1:=y32_;have x2:=HL.out.up x0.out;have x6:k<L.length:=by rw [Hn.out];omega
   have x5:j<L.length:=by rw [Hn.out];omega
   have x4:i<L.length:=by rw [Hn.out];omega
   obtain ⟨Sk,ck,gk,rk⟩:=x2.one x6;obtain ⟨Sj,cj,gj,rj⟩:=x2.one x5;obtain ⟨Si,x7,gi,ri⟩:=x2.one x4;have x9:=z.out.concave (k:=k) (by rw [Hn.out];omega);rw [hk,hj] at x9;have bk:=z.out.small B.out x6;have bj:=z.out.small B.out x5;have bi:=z.out.small B.out x4;have x1:=r.out.up x0.out;obtain ⟨X,hX⟩:∃ X,sumW s (setK L k)=X:=⟨_,rfl⟩;obtain ⟨Y,hY⟩:∃ Y,sumW s (setK L j)=Y:=⟨_,rfl⟩;obtain ⟨Z,hZ⟩:∃ Z,sumW s (setK L i)=Z:=⟨_,rfl⟩;have xo:Hid (∀ W v t,(v=.slice Sk (setK L k).length ck∧t=X)∨(v=.slice Sj (setK L j).length cj∧t=Y)∨(v=.slice Si (setK L i).length x7∧t=Z)→Below wr.heap.size wr W→Calls Tryz.prog 13 #[.slice Aw s.length cw,v] W (Tells W t)):=hid fun W v t h x=>by
    rcases h with ⟨rfl,rfl⟩ | ⟨rfl,rfl⟩ | ⟨rfl,rfl⟩
    ·rw [← hX];exact z.out.weighs B.out x6 _ _ W (x1.up x) (rk.up x)
    ·rw [← hY];exact z.out.weighs B.out x5 _ _ W (x1.up x) (rj.up x)
    ·rw [← hZ];exact z.out.weighs B.out x4 _ _ W (x1.up x) (ri.up x)
   rw [hX,hY,hZ] at x9;rw [hX] at bk;rw [hY] at bj;rw [hZ] at bi;have yd:IntKind.i64.wrap (Z - Y)=Z - Y:=y32_;have ye:IntKind.i64.wrap (Y - X)=Y - X:=y32_;have x8:¬ (Y - X<Z - Y):=j31_;have K:Hid (∀ W,Below wr.drew.heap.size wr.drew W→Below wr.heap.size wr W):=hid fun W x=>Z0_ (Below.refl _ wr).drew (le_refl _) x;generalize (setK L k).length=nk at *
   generalize (setK L j).length=nj at *
   generalize (setK L i).length=ni at *
   have xp:Hid (∀ W,Below wr.drew.heap.size wr.drew W→W.cell? (H.add (k * 3))=some (.slice Sk nk ck)∧W.cell? (H.add (j * 3))=some (.slice Sj nj cj)∧W.cell? (H.add (i * 3))=some (.slice Si ni x7)):=hid fun W x=>⟨gk W (K.out W x),gj W (K.out W x),gi W (K.out W x)⟩;have J:Hid (Below wr.drew.heap.size wr.drew wr.drew):=hid (Below.refl _ _);have xq:=hid x8;have xi:=hid xm;have xr:=hid x3;clear hk hj x2 x6 x5 x4 gk gj gi rk rj ri x9 bk bj bi x1 hX hY hZ x8 x3 xz xm;go_wp2
   go_region_held3 (fun W=>W.cell? (H.add (k * 3))=some (.slice Sk nk ck)∧W.cell? (H.add (j * 3))=some (.slice Sj nj cj)∧W.cell? (H.add (i * 3))=some (.slice Si ni x7))
    (exact xp.out _ J.out)
    ((go_at_call 13;refine (xo.out _ _ _ (by first | exact .inl ⟨rfl,rfl⟩ | exact .inr (.inl ⟨rfl,rfl⟩) | exact .inr (.inr ⟨rfl,rfl⟩)) (K.out _ J.out)).mono ?_;rintro e yf ⟨rfl,xj⟩;replace J:=hid (Z0_ J.out (le_refl _) xj);clear xj))
   all_goals
    have x8:=xq.out;have xn:=hid (Z0_ x0.out (le_refl _) (K.out _ J.out));go_wp2
    go_roundw
    case rel=>exact ⟨rfl,i+1,y33_,by have:=xr.out;omega,by have:=xi.out;omega,xn⟩
    case measure=>have:=xi.out;simp [intOf];omega
  ·have xy:¬ (i:Int)<(n:Int):=by omega
   have Hb9:=hid (Z0_ y.out (le_refl _) x0.out);exact z22_
theorem SplitConcave_any (E:Nat→Addr) (a:Mat) (d:Value) (b:Mat) (e:Value) (c:Value) (s:List Int) (w:World) (m:MatV w w.heap.size d a) (h:Lim a) (o:MatV w w.heap.size e b) (j:Lim b) (k:Row w w.heap.size c s) (g:Env E w):Calls Tryz.prog 6 #[d,e,c] w (Truly w):=by
 cases hfa:fewB 9 a 7 with
 | false=>exact yc_1 E a d b e c s w m h o j k g hfa
 | true =>
  cases hfb:fewB 9 b 7 with
  | false=>exact yc_2 E a d b e c s w m h o j k g hfa hfb
  | true =>
   cases hm:may15 a b s with
   | false=>exact yc_3 E a d b e c s w m h o j k g hfa hfb hm
   | true=>exact Vb1 E a d b e c s w m h o j k g hfa hfb hm
open Go Go.RowKit
theorem Xd0 {a b:Mat} {q:Int} (h:mayP a b=true) (j:-1073741824≤q) (k:q≤1073741824):may15 a b (List.replicate (nN a) q)=true:=by
 obtain ⟨e,c,d⟩:=mayP_iff.1 h;have f:=(Y3_ c).1;unfold may15;have:(List.replicate (nN a) q).any outS=false:=List.any_eq_false.2 fun x g=>by
  rw [(List.mem_replicate.1 g).2];unfold outS;rw [decide_eq_false j31_,decide_eq_false j31_];decide
 rw [this,c,d,decide_eq_true e,decide_eq_true (by rw [List.length_replicate];exact f)];rfl
theorem Ye5 {n:Nat} {q:Int}:∀ {s:List Int},(∀ x∈s,0≤x∧x<(n:Int))→sumW (List.replicate n q) s=(s.length:Int) * q
 | [],_=>by simp [sumW]
 | x :: s,h=>by
  have c:=Ye5 (n:=n) (q:=q) (s:=s) fun y d=>h y (List.mem_cons_of_mem _ d);have e:=h x (List.mem_cons_self ..);unfold sumW at c ⊢;rw [List.map_cons,List.sum_cons,c,List.length_cons,Int.natCast_succ,Int.add_mul,Int.one_mul];have:wt (List.replicate n q) x=q:=by
   unfold wt;rw [List.getD_eq_getElem?_getD,List.getElem?_replicate,if_pos j31_];rfl
  omega
theorem Ye6 {ws:List Int} {q:Int} {L:List Trip}:∀ N,(∀ k,k<N→Q9_ ws (setK L k)=(k:Int) * q)→0<N→J9_ ws L N=if 0<q then ((N:Int) - 1,((N:Int) - 1) * q) else (0,0)
 | 0,_,h=>absurd h (Nat.lt_irrefl 0)
 | 1,hw,_=>by
  have c:=hw 0 j31_;unfold setK at c;rw [J9_,if_pos (.inl (by show (-1:Int)<0;omega)),c];split<;>simp
 | N+2,hw,_=>by
  have f:=Ye6 (ws:=ws) (q:=q) (L:=L) (N+1) (fun k g=>hw k j31_) j31_;have c:=hw (N+1) j31_;unfold setK at c;rw [J9_,f,c];have e:(((N+1:Nat):Int)) * q=((((N+1:Nat):Int)) - 1) * q+q:=by rw [Int.sub_mul,Int.one_mul];omega
  by_cases d:0<q
  ·rw [if_pos d,if_pos (.inr (by rw [e];show _<_+q;omega)),if_pos d]
   rw [show ((N+2:Nat):Int) - 1=((N+1:Nat):Int) by omega]
  ·rw [if_neg d,if_neg d,if_neg]
   rw [not_or];have:(((N+1:Nat):Int)) * q≤0:=Int.mul_nonpos_of_nonneg_of_nonpos j31_ j31_;exact ⟨by show ¬ (0:Int)<0;omega,by show ¬ (0:Int)<_;omega⟩
section
variable {a b:Mat} {q:Int} {L:List Trip}
theorem Told.same (h:Told a b (List.replicate (nN a) q) L) {k:Nat} (c:k<L.length):sumW (List.replicate (nN a) q) (setK L k)=(k:Int) * q:=by
 rw [Ye5 (h.com c).set.2,h.len k c]
theorem Told.bestq (h:Told a b (List.replicate (nN a) q) L) (d:may15 a b (List.replicate (nN a) q)=true):(J9_ (List.replicate (nN a) q) L L.length).1=if 0<q then (L.length:Int) - 1 else 0:=by
 rw [Ye6 (q:=q) L.length (fun k c=>?_) h.pos]
 ·split<;>rfl
 ·rw [← h.same c]
  exact Yn3 (h.com c).n64 (snil d).2.1 (Zi5 d) (h.com c).set
theorem mulq {N i:Nat} (f:N≤65) (hi:i<N) (c:-1073741824≤q) (d:q≤1073741824):IntKind.i64.wrap ((i:Int) * q)=(i:Int) * q:=by
 have e:(i:Int) * q≤(i:Int) * 1073741824:=Int.mul_le_mul_of_nonneg_left d j31_;have h3:(i:Int) * (-1073741824)≤(i:Int) * q:=Int.mul_le_mul_of_nonneg_left c j31_;rw [IntKind.wrap_i64];omega
end
theorem yn_1 (E:Nat→Addr) (a:Mat) (H:Value) (b:Mat) (I:Value) (q:Int) (w:World) (y:MatV w w.heap.size H a) (F:Lim a) (z:MatV w w.heap.size I b) (G:Lim b) (C:Env E w) (D:fewB 9 a 7=false):Calls Tryz.prog 5 #[H,I,.int .i64 q] w (Truly w):=by
 have J:=hid D;clear D;have K:=hid F;have X:=hid G;obtain ⟨l1,Y,P,N,L⟩:=y.open;obtain ⟨l2,Z,Q,O,M⟩:=z.open;obtain ⟨o,u,rfl,_⟩:=N;obtain ⟨m,s,rfl,_⟩:=L;obtain ⟨r,x,rfl,_⟩:=O;obtain ⟨p,v,rfl,_⟩:=M;subst P Q;obtain ⟨k,hW2⟩:∃ k,k=(w.alloc (.cells #[.int .i64 a.t,.int .i64 a.n,.int .i64 a.a,.int .i64 a.b,.slice o a.l.length u,.slice m a.i.length s] 25)).alloc (.cells #[.int .i64 b.t,.int .i64 b.n,.int .i64 b.a,.int .i64 b.b,.slice r b.l.length x,.slice p b.i.length v] 25):=⟨_,rfl⟩;have B:=hid hW2;have c:Below w.heap.size w k:=by rw [hW2];exact ((Below.refl _ w).alloc (le_refl _) _).alloc x32_ _
 have Hka:Hid (Blk k w.heap.size 25 #[.int .i64 a.t,.int .i64 a.n,.int .i64 a.a,.int .i64 a.b,.slice o a.l.length u,.slice m a.i.length s]):=hid k33_;have Hkb:Hid (Blk k (w.heap.size+1) 25 #[.int .i64 b.t,.int .i64 b.n,.int .i64 b.a,.int .i64 b.b,.slice r b.l.length x,.slice p b.i.length v]):=hid (by
  rw [hW2];have:=Blk.new (w.alloc (.cells #[.int .i64 a.t,.int .i64 a.n,.int .i64 a.a,.int .i64 a.b,.slice o a.l.length u,.slice m a.i.length s] 25)) 25 #[.int .i64 b.t,.int .i64 b.n,.int .i64 b.a,.int .i64 b.b,.slice r b.l.length x,.slice p b.i.length v];simpa using this)
 have Hb0:=hid c;have g:=hid (y.up c);have j:=hid (z.up c);have d:=hid (C.up c);clear y z F G C hW2 c
 go_enter Tryz.func5,Tryz.ntmps5
 go_wp2_with fail
 rw [← B.out];refine (Y1_ E _ d.out).mono ?_;rintro e w1 ⟨rfl,h⟩;clear B;replace d:=hid (d.out.up h);replace g:=hid (g.out.up h);replace j:=hid (j.out.up h);replace Hka:=hid (Hka.out.below h Hka.out.lt);replace Hkb:=hid (Hkb.out.below h Hkb.out.lt);replace Hb0:=hid (Z0_ Hb0.out (le_refl _) h);clear h;have R:=Hka.out.cell 0;have S:=Hka.out.cell 1;have T:=Hka.out.cell 2;have U:=Hka.out.cell 3;have V:=Hka.out.cell 4;have W:=Hka.out.cell 5
 go_wp2_with fail
 refine (J1_ a _ 7 _ g.out K.out).mono ?_;rintro e w2 ⟨rfl,c⟩;rw [J.out];clear R S T U V W;replace d:=hid (d.out.up c);replace g:=hid (g.out.up c);replace j:=hid (j.out.up c);replace Hka:=hid (Hka.out.below c Hka.out.lt);replace Hkb:=hid (Hkb.out.below c Hkb.out.lt);replace Hb0:=hid (Z0_ Hb0.out (le_refl _) c);clear c
 go_wp2_with fail
 refine (Y1_ E _ d.out).mono ?_;rintro e w3 ⟨rfl,hb3⟩;replace d:=hid (d.out.up hb3);replace g:=hid (g.out.up hb3);replace j:=hid (j.out.up hb3);exact y27_
theorem yn_2 (E:Nat→Addr) (a:Mat) (J:Value) (b:Mat) (K:Value) (q:Int) (w:World) (z:MatV w w.heap.size J a) (H:Lim a) (B:MatV w w.heap.size K b) (I:Lim b) (D:Env E w) (F:fewB 9 a 7=true) (G:fewB 9 b 7=false):Calls Tryz.prog 5 #[J,K,.int .i64 q] w (Truly w):=by
 have L:=hid F;have M:=hid G;clear F G;have N:=hid H;have O:=hid I;obtain ⟨l1,i1,T,R,P⟩:=z.open;obtain ⟨l2,i2,U,S,Q⟩:=B.open;obtain ⟨p,v,rfl,_⟩:=R;obtain ⟨o,u,rfl,_⟩:=P;obtain ⟨s,y,rfl,_⟩:=S;obtain ⟨r,x,rfl,_⟩:=Q;subst T U;obtain ⟨m,hW2⟩:∃ m,m=(w.alloc (.cells #[.int .i64 a.t,.int .i64 a.n,.int .i64 a.a,.int .i64 a.b,.slice p a.l.length v,.slice o a.i.length u] 25)).alloc (.cells #[.int .i64 b.t,.int .i64 b.n,.int .i64 b.a,.int .i64 b.b,.slice s b.l.length y,.slice r b.i.length x] 25):=⟨_,rfl⟩;have C:=hid hW2;have c:Below w.heap.size w m:=by rw [hW2];exact ((Below.refl _ w).alloc (le_refl _) _).alloc x32_ _
 have Hka:Hid (Blk m w.heap.size 25 #[.int .i64 a.t,.int .i64 a.n,.int .i64 a.a,.int .i64 a.b,.slice p a.l.length v,.slice o a.i.length u]):=hid k33_;have Hkb:Hid (Blk m (w.heap.size+1) 25 #[.int .i64 b.t,.int .i64 b.n,.int .i64 b.a,.int .i64 b.b,.slice s b.l.length y,.slice r b.i.length x]):=hid (by
  rw [hW2];have:=Blk.new (w.alloc (.cells #[.int .i64 a.t,.int .i64 a.n,.int .i64 a.a,.int .i64 a.b,.slice p a.l.length v,.slice o a.i.length u] 25)) 25 #[.int .i64 b.t,.int .i64 b.n,.int .i64 b.a,.int .i64 b.b,.slice s b.l.length y,.slice r b.i.length x];simpa using this)
 have Hb0:=hid c;have g:=hid (z.up c);have h:=hid (B.up c);have d:=hid (D.up c);clear z B H I D hW2 c
 go_enter Tryz.func5,Tryz.ntmps5
 go_wp2_with fail
 rw [← C.out];refine (Y1_ E _ d.out).mono ?_;rintro e w1 ⟨rfl,j⟩;clear C;replace d:=hid (d.out.up j);replace g:=hid (g.out.up j);replace h:=hid (h.out.up j);replace Hka:=hid (Hka.out.below j Hka.out.lt);replace Hkb:=hid (Hkb.out.below j Hkb.out.lt);replace Hb0:=hid (Z0_ Hb0.out (le_refl _) j);clear j;have V:=Hka.out.cell 0;have W:=Hka.out.cell 1;have X:=Hka.out.cell 2;have Y:=Hka.out.cell 3;have Z:=Hka.out.cell 4;have k5:=Hka.out.cell 5
 go_wp2_with fail
 refine (J1_ a _ 7 _ g.out N.out).mono ?_;rintro e w2 ⟨rfl,c⟩;rw [L.out];clear V W X Y Z k5;replace d:=hid (d.out.up c);replace g:=hid (g.out.up c);replace h:=hid (h.out.up c);replace Hka:=hid (Hka.out.below c Hka.out.lt);replace Hkb:=hid (Hkb.out.below c Hkb.out.lt);replace Hb0:=hid (Z0_ Hb0.out (le_refl _) c);clear c;have n0:=Hkb.out.cell 0;have n1:=Hkb.out.cell 1;have n2:=Hkb.out.cell 2;have n3:=Hkb.out.cell 3;have n4:=Hkb.out.cell 4;have n5:=Hkb.out.cell 5
 go_wp2_with fail
 refine (J1_ b _ 7 _ h.out O.out).mono ?_;rintro e w3 ⟨rfl,k⟩;rw [M.out];clear n0 n1 n2 n3 n4 n5;replace d:=hid (d.out.up k);replace g:=hid (g.out.up k);replace h:=hid (h.out.up k);replace Hka:=hid (Hka.out.below k Hka.out.lt);replace Hkb:=hid (Hkb.out.below k Hkb.out.lt);replace Hb0:=hid (Z0_ Hb0.out (le_refl _) k);clear k
 go_wp2_with fail
 refine (Y1_ E _ d.out).mono ?_;rintro e w4 ⟨rfl,hb4⟩;replace d:=hid (d.out.up hb4);replace g:=hid (g.out.up hb4);replace h:=hid (h.out.up hb4);exact z27_
theorem yn_3 (E:Nat→Addr) (a:Mat) (c:Value) (b:Mat) (d:Value) (q:Int) (w:World) (hva:MatV w w.heap.size c a) (hla:Lim a) (hvb:MatV w w.heap.size d b) (hlb:Lim b) (hE:Env E w) (hfa:fewB 9 a 7=true) (hfb:fewB 9 b 7=true) (hm:mayP a b=false):Calls Tryz.prog 5 #[c,d,.int .i64 q] w (Truly w):=q0_
theorem yn_4 (E:Nat→Addr) (a:Mat) (c:Value) (b:Mat) (d:Value) (q:Int) (w:World) (hva:MatV w w.heap.size c a) (hla:Lim a) (hvb:MatV w w.heap.size d b) (hlb:Lim b) (hE:Env E w) (hfa:fewB 9 a 7=true) (hfb:fewB 9 b 7=true) (hm:mayP a b=true) (g:q < -1073741824):Calls Tryz.prog 5 #[c,d,.int .i64 q] w (Truly w):=q0_
theorem yn_5 (E:Nat→Addr) (a:Mat) (c:Value) (b:Mat) (d:Value) (q:Int) (w:World) (hva:MatV w w.heap.size c a) (hla:Lim a) (hvb:MatV w w.heap.size d b) (hlb:Lim b) (hE:Env E w) (hfa:fewB 9 a 7=true) (hfb:fewB 9 b 7=true) (hm:mayP a b=true) (g:-1073741824≤q) (h:1073741824<q):Calls Tryz.prog 5 #[c,d,.int .i64 q] w (Truly w):=q0_
theorem Vb2 (E:Nat→Addr) (a:Mat) (va:Value) (b:Mat) (vb:Value) (q:Int) (w:World) (x7:MatV w w.heap.size va a) (xk:Lim a) (x8:MatV w w.heap.size vb b) (xl:Lim b) (hE:Env E w) (x4:fewB 9 a 7=true) (x5:fewB 9 b 7=true) (hm:mayP a b=true) (h0:-1073741824≤q) (h1:q≤1073741824):Calls Tryz.prog 5 #[va,vb,.int .i64 q] w (Truly w):=by
 have xu:=hid (Q2_ x4);have xv:=hid (Q2_ x5);have x1:=hid (Xd0 hm h0 h1);have x2:=Y3_ (mayP_iff.1 hm).2.1;have xc:=hid x4;have xd:=hid x5;have Hm:=hid hm;clear x4 x5 hm;obtain ⟨n,z⟩:∃ n,nN a=n:=⟨_,rfl⟩;have xs:=hid z;rw [z] at x2;have xe:=hid x2.1;have yj:=x2.2;clear z x2;have yg:decide (q < -1073741824)=false:=decide_eq_false j31_;have yh:decide (1073741824<q)=false:=decide_eq_false j31_;have xq:=hid xk;have xr:=hid xl;obtain ⟨l1,i1,ya,y6,y2⟩:=x7.open;obtain ⟨l2,i2,yb,y7,y3⟩:=x8.open;obtain ⟨Al,cl,rfl,_⟩:=y6;obtain ⟨Ai,ci,rfl,_⟩:=y2;obtain ⟨Bl,dl,rfl,_⟩:=y7;obtain ⟨Bi,di,rfl,_⟩:=y3;subst ya yb;obtain ⟨P,hW2⟩:∃ P,P=(w.alloc (.cells #[.int .i64 a.t,.int .i64 a.n,.int .i64 a.a,.int .i64 a.b,.slice Al a.l.length cl,.slice Ai a.i.length ci] 25)).alloc (.cells #[.int .i64 b.t,.int .i64 b.n,.int .i64 b.a,.int .i64 b.b,.slice Bl b.l.length dl,.slice Bi b.i.length di] 25):=⟨_,rfl⟩;have xa:=hid hW2;have s:Below w.heap.size w P:=by rw [hW2];exact ((Below.refl _ w).alloc (le_refl _) _).alloc x32_ _
 have g:Hid (Blk P w.heap.size 25 #[.int .i64 a.t,.int .i64 a.n,.int .i64 a.a,.int .i64 a.b,.slice Al a.l.length cl,.slice Ai a.i.length ci]):=hid k33_;have j:Hid (Blk P (w.heap.size+1) 25 #[.int .i64 b.t,.int .i64 b.n,.int .i64 b.a,.int .i64 b.b,.slice Bl b.l.length dl,.slice Bi b.i.length di]):=hid (by
  rw [hW2];have:=Blk.new (w.alloc (.cells #[.int .i64 a.t,.int .i64 a.n,.int .i64 a.a,.int .i64 a.b,.slice Al a.l.length cl,.slice Ai a.i.length ci] 25)) 25 #[.int .i64 b.t,.int .i64 b.n,.int .i64 b.a,.int .i64 b.b,.slice Bl b.l.length dl,.slice Bi b.i.length di];simpa using this)
 have r:=hid s;have m:=hid (x7.up s);have o:=hid (x8.up s);have p:=hid (hE.up s);clear x7 x8 xk xl hE hW2 s
 go_enter Tryz.func5,Tryz.ntmps5
 go_wp2_with fail
 rw [← xa.out];refine (Y1_ E _ p.out).mono ?_;rintro e w1 ⟨rfl,H⟩;clear xa;replace p:=hid (p.out.up H);replace m:=hid (m.out.up H);replace o:=hid (o.out.up H);replace g:=hid (g.out.below H g.out.lt);replace j:=hid (j.out.below H j.out.lt);replace r:=hid (Z0_ r.out (le_refl _) H);clear H;have R:=g.out.cell 0;have G:=g.out.cell 1;have S:=g.out.cell 2;have T:=g.out.cell 3;have U:=g.out.cell 4;have V:=g.out.cell 5
 go_wp2_with fail
 refine (J1_ a _ 7 _ m.out xq.out).mono ?_;rintro e w2 ⟨rfl,s⟩;rw [xc.out];clear R G S T U V;replace p:=hid (p.out.up s);replace m:=hid (m.out.up s);replace o:=hid (o.out.up s);replace g:=hid (g.out.below s g.out.lt);replace j:=hid (j.out.below s j.out.lt);replace r:=hid (Z0_ r.out (le_refl _) s);clear s;have W:=j.out.cell 0;have Y:=j.out.cell 1;have Z:=j.out.cell 2;have n3:=j.out.cell 3;have n4:=j.out.cell 4;have n5:=j.out.cell 5
 go_wp2_with fail
 refine (J1_ b _ 7 _ o.out xr.out).mono ?_;rintro e w3 ⟨rfl,I⟩;rw [xd.out];clear W Y Z n3 n4 n5;replace p:=hid (p.out.up I);replace m:=hid (m.out.up I);replace o:=hid (o.out.up I);replace g:=hid (g.out.below I g.out.lt);replace j:=hid (j.out.below I j.out.lt);replace r:=hid (Z0_ r.out (le_refl _) I);clear I;have R:=g.out.cell 0;have G:=g.out.cell 1;have S:=g.out.cell 2;have T:=g.out.cell 3;have U:=g.out.cell 4;have V:=g.out.cell 5;have W:=j.out.cell 0;have Y:=j.out.cell 1;have Z:=j.out.cell 2;have n3:=j.out.cell 3;have n4:=j.out.cell 4;have n5:=j.out.cell 5
 go_wp2_with fail
 refine (L9_ a b _ _ _ m.out o.out (Q2_ xc.out) (Q2_ xd.out)).mono ?_;rintro e u ⟨rfl,J⟩;rw [Hm.out];clear R G S T U V W Y Z n3 n4 n5;replace p:=hid (p.out.up J);replace m:=hid (m.out.up J);replace o:=hid (o.out.up J);replace g:=hid (g.out.below J g.out.lt);replace j:=hid (j.out.below J j.out.lt);replace r:=hid (Z0_ r.out (le_refl _) J);clear J;have xn:(u.alloc (.cells #[] 3)).ownsRow u.heap.size 3 1 (.slice (some ⟨u.heap.size,0,none⟩) 0 0) 0 [] :=
  World.ownsRow_made u #[] 0 (le_refl _) z33_ rfl
 have xh:Below u.heap.size u (u.alloc (.cells #[] 3)):=(Below.refl _ u).alloc (le_refl _) _;go_wp2
 go_loopw [7,8] (fun v7 vk wr=>∃ k:Nat,vk=.int .i64 k∧k≤n∧wr.ownsRow u.heap.size 3 1 v7 (List.replicate k q).length (ints (List.replicate k q))∧Below u.heap.size u wr) (fun _ vk _=>n - (intOf vk).toNat)
 case atStart=>exact ⟨0,rfl,Nat.zero_le _,xn,xh⟩
 case round =>
  obtain ⟨k,rfl,hk,xm,v⟩:=hrel;have O:=hid xm;have Hbr:=hid v;have G:=(g.out.below v g.out.lt).cell 1;clear xm v;by_cases Q:k<n
  ·have y8:(k:Int)<a.n:=by have:=xe.out;omega
   have xt:Hid (List.replicate (k+1) q=List.replicate k q ++ [q]):=hid List.replicate_succ';have xp:Hid ((List.replicate k q).length≤64):=hid (by rw [List.length_replicate];omega);generalize List.replicate k q=F at *
   go_wp2_with (at_builtin;refine Y0_ rfl _ _ rfl u.heap.size _ _ _ F [q] rfl rfl (O.out.alloc _) (Row.lit1 _ q) (by have:=xp.out;omega) x32_ z38_ ?_)
   intro v' yn xf xg;have HB:=hid ((Hbr.out.alloc Hbr.out.size _).grown xg z38_ (fun i hi=>(O.out.lt i hi).1));have Ho:=hid xf;clear xf xg G;go_wp2
   go_roundw
   case rel=>exact ⟨k+1,y33_,j31_,by rw [xt.out,List.length_append];exact Ho.out,HB.out⟩
   case measure=>simp [intOf];omega
  ·have y5:k=n:=by omega
   subst y5;have y8:¬ (k:Int)<a.n:=by have:=xe.out;omega
   obtain ⟨D,hD⟩:∃ D,List.replicate k q=D:=⟨_,rfl⟩;have K:Hid (List.replicate (nN a) q=D):=hid (by rw [xs.out];exact hD);rw [K.out] at x1;rw [hD] at O;have y:Hid (Row wr wr.heap.size u7 D):=hid (Row.of_own O.out rfl);obtain ⟨Ad,cd,y9,-⟩:=id y.out;subst y9;have v:=Hbr.out;clear hD O Hbr G Q hk xh xn;replace p:=hid (p.out.up v);replace m:=hid (m.out.up v);replace o:=hid (o.out.up v);replace g:=hid (g.out.below v g.out.lt);replace j:=hid (j.out.below v j.out.lt);replace r:=hid (Z0_ r.out (le_refl _) v);clear v;have R:=g.out.cell 0;have G:=g.out.cell 1;have S:=g.out.cell 2;have T:=g.out.cell 3;have U:=g.out.cell 4;have V:=g.out.cell 5;have W:=j.out.cell 0;have Y:=j.out.cell 1;have Z:=j.out.cell 2;have n3:=j.out.cell 3;have n4:=j.out.cell 4;have n5:=j.out.cell 5
   go_wp2_with fail
   refine (Yx9 E a b _ _ _ D _ m.out o.out xu.out xv.out y.out p.out x1.out).mono ?_;rintro e w5 ⟨A,c,L,rfl,hL,ht,hl,C⟩;obtain ⟨ad,_,_,_,_,⟨d,e⟩,_,_⟩:=hL.nth ht.pos;obtain rfl:A=some ad:=(Value.slice.inj e).1;have M:=hid hL;have HT:=hid ht;have Hl:=hid hl;clear hL ht hl e;clear R G S T U V W Y Z n3 n4 n5;replace p:=hid (p.out.up C);replace m:=hid (m.out.up C);replace o:=hid (o.out.up C);replace y:=hid (y.out.up C);replace g:=hid (g.out.below C g.out.lt);replace j:=hid (j.out.below C j.out.lt);replace r:=hid (Z0_ r.out (le_refl _) C);clear C;have x3:=hid (K.out▸(K.out▸HT.out:Told a b (List.replicate (nN a) q) L).bestq (K.out▸x1.out):(J9_ D L L.length).1=if 0<q then (L.length:Int) - 1 else 0);have x9:Hid (∀ i,i<L.length→sumW D (setK L i)=(i:Int) * q):=hid fun i hi=>by
    have h:=(K.out▸HT.out:Told a b (List.replicate (nN a) q) L).same hi
    rwa [K.out] at h
   obtain ⟨N,z⟩:∃ N,L.length=N:=⟨_,rfl⟩;have HN:=hid z;have yd:(0:Int)<(N:Int):=by have:=HT.out.pos;omega
   have xz:¬ ((N:Int)=0):=j31_;have y1:¬ N=0:=j31_;have yf:decide (N=0)=false:=decide_eq_false y1;have y0:decide ((N:Int)=0)=false:=decide_eq_false xz;have ye:((N:Int)==0)=false:=y0;have xy:N≤65:=by have:=Hl.out;omega
   rw [z];rw [z] at M x3 x9;clear z
   go_wp2_with fail
   refine (S7_ _ _ L D _ M.out y.out).mono ?_;rintro e w6 ⟨rfl,x⟩;rw [show (J9_ D L L.length).1=(if 0<q then (N:Int) - 1 else 0) from by rw [HN.out];exact x3.out];obtain ⟨B,hB⟩:∃ B,(if 0<q then (N:Int) - 1 else 0)=B:=⟨_,rfl⟩;rw [hB];have HB:=hid hB;have xx:¬ B<0:=by rw [← hB];split<;>omega
   have yc:decide (B<0)=false:=decide_eq_false xx;clear hB x3;replace p:=hid (p.out.up x);replace m:=hid (m.out.up x);replace o:=hid (o.out.up x);replace M:=hid (M.out.up x);replace y:=hid (y.out.up x);replace g:=hid (g.out.below x g.out.lt);replace j:=hid (j.out.below x j.out.lt);replace r:=hid (Z0_ r.out (le_refl _) x);clear x;go_wp2
   go_loopw [6,12] (fun v6 vi wr=>v6=.bool false∧∃ i:Nat,vi=.int .i64 i∧i≤N∧Hid (Below w6.heap.size w6 wr)) (fun _ vi _=>N - (intOf vi).toNat)
   case atStart=>exact ⟨rfl,0,rfl,Nat.zero_le _,hid (Below.refl _ _)⟩
   case round =>
    obtain ⟨rfl,i,rfl,hi,x0⟩:=hrel;by_cases Q:i<N
    ·have y4:(i:Int)<(N:Int):=by omega
     have yl:IntKind.i64.wrap ((i:Int)+1)=(i:Int)+1:=y32_;have x6:i<L.length:=by rw [HN.out];exact Q
     have xi:=M.out.up x0.out;obtain ⟨Si,xw,gi,ri⟩:=xi.one x6;obtain ⟨X,hX⟩:∃ X,(i:Int) * q=X:=⟨_,rfl⟩;have yi:IntKind.i64.wrap ((i:Int) * q)=X:=by rw [← hX];exact mulq xy Q h0 h1
     have xb:Hid (Calls Tryz.prog 13 #[.slice Ad D.length cd,.slice Si (setK L i).length xw] wr (Tells wr X)):=hid (by
      have h:=HT.out.weighs x1.out x6 _ _ wr (y.out.up x0.out) ri
      rwa [x9.out i Q,hX] at h)
     have g0:=gi wr (Below.refl _ _);generalize (setK L i).length=ni at *
     clear hX xi gi ri x6
     go_wp2_with fail
     refine xb.out.mono ?_;rintro e w7 ⟨rfl,xj⟩;have xo:=hid (Z0_ x0.out (le_refl _) xj);clear xj g0 xb;go_wp2
     go_roundw
     case rel=>exact ⟨rfl,i+1,y33_,j31_,xo⟩
     case measure=>simp [intOf];omega
    ·have y4:¬ (i:Int)<(N:Int):=by omega
     have Hb9:=hid (Z0_ r.out (le_refl _) x0.out);have ym:IntKind.i64.wrap ((N:Int) - 1)=(N:Int) - 1:=y32_;have hB:=HB.out;by_cases hq:0<q
     ·rw [if_pos hq] at hB
      subst hB;exact z22_
     ·rw [if_neg hq] at hB
      subst hB;have yk:q≤0:=j31_;exact z22_
theorem SplitNone_any (E:Nat→Addr) (a:Mat) (c:Value) (b:Mat) (d:Value) (q:Int) (w:World) (j:MatV w w.heap.size c a) (g:Lim a) (k:MatV w w.heap.size d b) (h:Lim b) (e:Env E w):Calls Tryz.prog 5 #[c,d,.int .i64 q] w (Truly w):=by
 cases hfa:fewB 9 a 7 with
 | false=>exact yn_1 E a c b d q w j g k h e hfa
 | true =>
  cases hfb:fewB 9 b 7 with
  | false=>exact yn_2 E a c b d q w j g k h e hfa hfb
  | true =>
   cases hm:mayP a b with
   | false=>exact yn_3 E a c b d q w j g k h e hfa hfb hm
   | true =>
    by_cases m:q < -1073741824
    ·exact yn_4 E a c b d q w j g k h e hfa hfb hm m
    ·by_cases o:1073741824<q
     ·exact yn_5 E a c b d q w j g k h e hfa hfb hm j31_ o
     ·exact Vb2 E a c b d q w j g k h e hfa hfb hm j31_ j31_
end Wp
end Go.Proofs.YtgpljiijjnaofaaGreatDoor
