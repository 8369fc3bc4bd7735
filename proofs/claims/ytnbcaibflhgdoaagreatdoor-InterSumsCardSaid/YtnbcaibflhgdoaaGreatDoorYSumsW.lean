/- InterSums, walked: it answers true (written by gen_ysumsw.py). -/
import Derived.Test.YtnbcaibflhgdoaaGreatDoorVInd
import Derived.Test.YtnbcaibflhgdoaaGreatDoorYD
import Derived.Test.YtnbcaibflhgdoaaGreatDoorZS
import Derived.Test.YtnbcaibflhgdoaaGreatDoorZU
import Derived.Test.YtnbcaibflhgdoaaGreatDoorX0A
import Derived.Test.YtnbcaibflhgdoaaGreatDoorX0B
open Go.Lib (hid)
open Nat (le_refl)
namespace Go.Proofs.YtnbcaibflhgdoaaGreatDoor
open Go.RowKit
namespace Wp
theorem V4_ {W:World} {p:Addr} {u e d:Value} {m:Mat} (f:u=.agg #[.int .i64 m.t,.int .i64 m.n,.int .i64 m.a,.int .i64 m.b,e,d]) (h:SixV W p u) :
  W.cell? p=some (.int .i64 m.t)∧W.cell? ⟨p.block,p.off+1,none⟩=some (.int .i64 m.n)∧W.cell? ⟨p.block,p.off+2,none⟩=some (.int .i64 m.a)∧W.cell? ⟨p.block,p.off+3,none⟩=some (.int .i64 m.b)∧W.cell? ⟨p.block,p.off+4,none⟩=some e∧W.cell? ⟨p.block,p.off+5,none⟩=some d:=by
 obtain ⟨g,j,k,o,q,r,c,h⟩:=h;rw [f] at c;cases c;exact h
theorem few_n {m:Mat} (h:fewB 9 m 4=true):m.n≤4:=by
 rw [fewB,Bool.and_eq_true] at h;unfold fewOk at h;rw [Bool.and_eq_true,Bool.and_eq_true] at h;have c:=of_decide_eq_true h.1.1.2;unfold mostI at c;split at c<;>omega
def Good4 (x:Mat):Prop:=fewB 9 x 4=true∧chk x=0∧dp 4 x≤3
theorem Yv3 {x y:Mat} (d:Good4 x) (e:Good4 y):chk (sum2 x y)=0:=by
 have g:=chk_n d.2.1;have j:=chk_n e.2.1;have m1:=few_n d.1;have m2:=few_n e.1;have f:tog [x,y]=x.n+y.n:=by
  show IntKind.i64.wrap (IntKind.i64.wrap (0+x.n)+y.n)=_;rw [show IntKind.i64.wrap (0+x.n)=x.n from by rw [Int.zero_add];exact J1_ j29_ j29_];exact J1_ j29_ j29_
 have h:=(Xv3 (l:=[x,y]) (fun z c=>by
  rcases List.mem_cons.1 c with rfl | c
  ·exact d.2.1
  ·rw [List.mem_singleton.1 c];exact e.2.1) x30_).2 ⟨x30_,x30_,by rw [f];omega,P6_ fun z c=>by
   rcases List.mem_cons.1 c with rfl | c
   ·exact d.2.2
   ·rw [List.mem_singleton.1 c];exact e.2.2⟩
 rwa [f] at h
theorem Yv4 {x y:Mat} (d:Sml x) (e:Sml y):Sml (sum2 x y):=.mk x30_ x30_ x30_ fun z c=>by
 rcases List.mem_cons.1 c with rfl | c
 ·exact d
 ·rw [List.mem_singleton.1 c];exact e
theorem Yw9 {a b:Mat} {s u:List Int} (d:chk a=0) (e:chk b=0) (f:a.n=b.n) (h:MaxIs a b s u):s.length≤64:=by
 obtain ⟨c,_,_⟩:=E2_ d e f h;have:=V1_ c.set;have:=c.n64;omega
theorem C3_ (w:World) (A B:Array Value) (t:TypeId):Blk (((w.alloc (.cells A t)).alloc (.cells B t)).drew) w.heap.size t A∧Blk (((w.alloc (.cells A t)).alloc (.cells B t)).drew) (w.heap.size+1) t B∧Below w.heap.size w (((w.alloc (.cells A t)).alloc (.cells B t)).drew):=by
 refine ⟨((Blk.new w t A).alloc _).drew,?_,(((Below.refl _ w).alloc (le_refl _) _).alloc x30_ _).drew⟩;have:=Blk.new (w.alloc (.cells A t)) t B;rw [show (w.alloc (.cells A t)).heap.size=w.heap.size+1 by simp] at this;exact this.drew
theorem Yv5 {W:World} {h:Nat} {x y:Mat} {n:Int} {g e j f:Value} (o:n=x.n+y.n) (hb:Blk W h 25 #[.int .i64 x.t,.int .i64 x.n,.int .i64 x.a,.int .i64 x.b,g,e,.int .i64 y.t,.int .i64 y.n,.int .i64 y.a,.int .i64 y.b,j,f])
  (p:MatV W W.heap.size (.agg #[.int .i64 x.t,.int .i64 x.n,.int .i64 x.a,.int .i64 x.b,g,e]) x) (q:MatV W W.heap.size (.agg #[.int .i64 y.t,.int .i64 y.n,.int .i64 y.a,.int .i64 y.b,j,f]) y) :
  MatV W W.heap.size (.agg #[.int .i64 9,.int .i64 n,.int .i64 0,.int .i64 0,.slice none 0 0,.slice (some ⟨h,0,none⟩) 2 2]) (sum2 x y):=by
 subst o;refine MatV.shut (Zk2 _ _) ⟨some ⟨h,0,none⟩,2,rfl,⟨le_refl _,y30_,fun h=>by cases h⟩,fun k m=>?_⟩;have d:=hb.lt;have c:=hb.cell
 match k,m with
 | 0,_=>exact ⟨_,_,rfl,d,⟨_,_,_,_,_,_,rfl,c 0,c 1,c 2,c 3,c 4,c 5⟩,p⟩
 | 1,_=>exact ⟨_,_,rfl,d,⟨_,_,_,_,_,_,rfl,c 6,c 7,c 8,c 9,c 10,c 11⟩,q⟩
set_option maxHeartbeats 16000000
set_option maxRecDepth 100000
theorem Xt2 (E:Nat→Addr) (l:List Mat) (v:Value) (w:World) (hl:MatL w w.heap.size v l) (j:l.length≤140737488355328∧∀ x∈l,Lim x) (g:Env E w) (k:l.length≠4):Calls Tryz.prog 5 #[v] w (Truly w):=by
 have d:=hid g;have Hb0:=hid (Below.refl w.heap.size w);have o:(l.length:Int)≤140737488355328:=j29_;have m:((l.length:Int) != 4)=true:=j30_;obtain ⟨A,c,rfl,_,h⟩:=hl;clear g j h
 go_enter Tryz.func5,Tryz.ntmps5
 go_wp2_with fail
 refine (M5_ E _ d.out).mono ?_;rintro e p ⟨rfl,hb⟩;replace d:=hid (d.out.up hb);replace Hb0:=hid (Z0_ Hb0.out (le_refl _) hb);clear hb
 go_wp2_with fail
 refine (M5_ E _ d.out).mono ?_;rintro e q ⟨rfl,hb⟩;replace d:=hid (d.out.up hb);replace Hb0:=hid (Z0_ Hb0.out (le_refl _) hb);clear hb;exact k1_
theorem Xt3 (E:Nat→Addr) (l:List Mat) (v:Value) (w:World) (hl:MatL w w.heap.size v l) (yo:l.length≤140737488355328∧∀ x∈l,Lim x) (hE:Env E w) (h4:l.length=4):Calls Tryz.prog 5 #[v] w (Truly w):=by
 have p:=hid hE;have HL:=hid hl;have yw:=hid yo.2;have ys:=hid hE;have Hb0:=hid (Below.refl w.heap.size w);have Y:Hid (l.length=4):=hid h4;obtain ⟨A,c,rfl,_,hk⟩:=hl;have X:=hid hk;clear hE yo hk;rw [h4];clear h4
 go_enter Tryz.func5,Tryz.ntmps5
 go_wp2_with fail
 refine (M5_ E _ p.out).mono ?_;rintro e w1 ⟨rfl,hb⟩;replace p:=hid (p.out.up hb);replace Hb0:=hid (Z0_ Hb0.out (le_refl _) hb);clear hb;go_wp2
 go_loopw [3] (fun vi wr=>∃ i:Nat,vi=.int .i64 i∧i≤4∧Below w.heap.size w wr∧∀ j,j<i→Good4 (l.getD j default)) (fun vi _=>4 - (intOf vi).toNat)
 case atStart=>exact ⟨0,rfl,Nat.zero_le _,Hb0.out,fun j hj=>absurd hj (Nat.not_lt_zero _)⟩
 case round =>
  clear Hb0;obtain ⟨i,rfl,hi,xu,ym⟩:=hrel;have Hb0:=hid xu;have V:=hid ym;replace p:=hid (ys.out.up xu);clear xu ym;by_cases xv:i<4
  ·have zi:(i:Int)<4:=by omega
   have yr:=Y2_ l i default (by rw [Y.out];exact xv);obtain ⟨d,u,hA,hab,yq,xw⟩:=X.out i (by rw [Y.out];exact xv);subst hA;have xx:=(xw.bel Hb0.out).mono Hb0.out.size;obtain ⟨lv,iv,hu,_,_⟩:=xw.open;have Hu:=hid hu;have xl:Hid (∀ W,Below w.heap.size w W→SixV W (d.add (i * 6)) u):=fun W hW=>yq.below hW x31_;rw [hu] at xx;have y:=hid xx;have yb:=hid (yw.out _ yr);have yx:Hid (Good4 (l.getD i default)→∀ j,j<i+1→Good4 (l.getD j default)):=fun h1 j hj=>by
    by_cases e:j=i
    ·rw [e];exact h1
    ·exact V.out j j29_
   have z6:=dp_le 4 (l.getD i default);clear xw yq hu xx yr hab;generalize l.getD i default=x at *
   obtain ⟨q0,q1,q2,q3,q4,q5⟩:=V4_ Hu.out (xl.out _ Hb0.out);cases hfx:fewB 9 x 4 with
   | false =>
    have xh:=hid hfx;clear hfx
    go_wp2_with fail
    refine (Yw8 x _ 4 _ y.out yb.out).mono ?_;rintro e w2 ⟨rfl,hb⟩;rw [xh.out];replace Hb0:=hid (Z0_ Hb0.out (le_refl _) hb);clear hb;go_wp2;go_ret;exact ⟨rfl,Hb0.out⟩
   | true =>
    have xh:=hid hfx;have yc:=hid (Zx9 hfx);clear hfx;obtain ⟨D,hD⟩:∃ D,chk x=D:=⟨_,rfl⟩;have HD:=hid hD;clear hD
    go_wp2_with fail
    refine (Yw8 x _ 4 _ y.out yb.out).mono ?_;rintro e w2 ⟨rfl,hb⟩;rw [xh.out];replace Hb0:=hid (Z0_ Hb0.out (le_refl _) hb);replace y:=hid (y.out.up hb);clear hb q0 q1 q2 q3 q4 q5;obtain ⟨q0,q1,q2,q3,q4,q5⟩:=V4_ Hu.out (xl.out _ Hb0.out)
    go_wp2_with fail
    refine (Yf6 x _ _ y.out yc.out).mono ?_;rintro e w3 ⟨rfl,hb⟩;rw [HD.out];replace Hb0:=hid (Z0_ Hb0.out (le_refl _) hb);replace y:=hid (y.out.up hb);clear hb q0 q1 q2 q3 q4 q5;by_cases xs:D=0
    ·subst xs
     obtain ⟨q0,q1,q2,q3,q4,q5⟩:=V4_ Hu.out (xl.out _ Hb0.out);obtain ⟨Q,hQ⟩:∃ Q,dp 4 x=Q:=⟨_,rfl⟩;rw [hQ] at z6;have HQ:=hid hQ;have yv:Hid (deepI x=(Q:Int)):=hid (by rw [← hQ];rfl);clear hQ
     go_wp2_with fail
     refine (Zy2 x _ _ y.out yc.out).mono ?_;rintro e w4 ⟨rfl,hb⟩;rw [yv.out];replace Hb0:=hid (Z0_ Hb0.out (le_refl _) hb);clear hb q0 q1 q2 q3 q4 q5;by_cases z4:Q≤3
     ·have z5:decide ((3:Int)<(Q:Int))=false:=by simp;omega
      have Hg:Hid (Good4 x):=hid ⟨xh.out,HD.out,by rw [HQ.out];exact z4⟩;go_wp2
      go_roundw
      case rel=>exact ⟨i+1,y31_,j29_,Hb0.out,yx.out Hg.out⟩
      case measure=>simp [intOf];omega
     ·have z5:decide ((3:Int)<(Q:Int))=true:=by simp;omega
      exact k1_
    ·have zj:(D != 0)=true:=by simpa using xs
     clear xs;exact k1_
  ·have z7:i=4:=by omega
   subst z7;have G:=hid (V.out 0 j29_);have T:=hid (V.out 1 j29_);have H:=hid (V.out 2 j29_);have U:=hid (V.out 3 j29_);clear V hi xv;obtain ⟨d,y0,hA,hab,yp,xi⟩:=X.out 0 (by rw [Y.out];omega);subst hA;obtain ⟨xd,x9,xy,_,_⟩:=xi.open;have xk:Hid (∀ W,Below w.heap.size w W→SixV W d y0):=hid fun W hW=>by
    have:=yp.below hW x31_;rw [Nat.zero_mul,add_zero] at this;exact this
   have xm:=hid xy;rw [xy] at xi;have z:=hid ((xi.bel Hb0.out).mono Hb0.out.size);clear yp xi xy;obtain ⟨yz,y1,ye,_,x6,O⟩:=X.out 1 (by rw [Y.out];omega);obtain rfl:d=yz:=Option.some.inj ye;obtain ⟨xe,xa,xz,_,_⟩:=O.open;have K:Hid (∀ W,Below w.heap.size w W→SixV W ⟨d.block,d.off+6,none⟩ y1):=hid fun W hW=>by
    have:=x6.below hW x31_;rw [show d.add (1 * 6)=⟨d.block,d.off+6,none⟩ from rfl] at this;exact this
   have xn:=hid xz;rw [xz] at O;have B:=hid ((O.bel Hb0.out).mono Hb0.out.size);clear x6 O xz;clear ye;obtain ⟨z0,y2,yf,_,x7,P⟩:=X.out 2 (by rw [Y.out];omega);obtain rfl:d=z0:=Option.some.inj yf;obtain ⟨xf,xb,y4,_,_⟩:=P.open;have L:Hid (∀ W,Below w.heap.size w W→SixV W ⟨d.block,d.off+12,none⟩ y2):=hid fun W hW=>by
    have:=x7.below hW x31_;rw [show d.add (2 * 6)=⟨d.block,d.off+12,none⟩ from rfl] at this;exact this
   have xo:=hid y4;rw [y4] at P;have C:=hid ((P.bel Hb0.out).mono Hb0.out.size);clear x7 P y4;clear yf;obtain ⟨z1,y3,yg,_,x8,R⟩:=X.out 3 (by rw [Y.out];omega);obtain rfl:d=z1:=Option.some.inj yg;obtain ⟨xg,xc,y5,_,_⟩:=R.open;have HS3:Hid (∀ W,Below w.heap.size w W→SixV W ⟨d.block,d.off+18,none⟩ y3):=hid fun W hW=>by
    have:=x8.below hW x31_;rw [show d.add (3 * 6)=⟨d.block,d.off+18,none⟩ from rfl] at this;exact this
   have Hy3:=hid y5;rw [y5] at R;have F:=hid ((R.bel Hb0.out).mono Hb0.out.size);clear x8 R y5;clear yg;clear X;generalize l.getD 0 default=x0 at *
   generalize l.getD 1 default=x1 at *
   generalize l.getD 2 default=x2 at *
   generalize l.getD 3 default=x3 at *
   have zd:=hid (Below.refl wr.heap.size wr);have KN:Hid (∀ W,Below wr.heap.size wr W→W.cell? ⟨d.block,d.off+1,none⟩=some (.int .i64 x0.n)∧W.cell? ⟨d.block,d.off+6+1,none⟩=some (.int .i64 x1.n)∧W.cell? ⟨d.block,d.off+12+1,none⟩=some (.int .i64 x2.n)∧W.cell? ⟨d.block,d.off+18+1,none⟩=some (.int .i64 x3.n)):=hid fun W hW=>by
    have hW:=Z0_ Hb0.out (le_refl _) hW;exact ⟨(V4_ xm.out (xk.out W hW)).2.1,(V4_ xn.out (K.out W hW)).2.1,(V4_ xo.out (L.out W hW)).2.1,(V4_ Hy3.out (HS3.out W hW)).2.1⟩
   by_cases e1:x0.n=x1.n
   ·have d1:(x0.n != x1.n)=false:=by simpa using e1
    by_cases e2:x2.n=x3.n
    ·have d2:(x2.n != x3.n)=false:=by simpa using e2
     have E1:=hid e1;have E2:=hid e2;clear e1 e2;go_wp2;refine Z5_ wr.heap.size wr k29_ k29_ (Below.refl _ _) ?_
     iterate 20 (first | (go_big_quiet_want;apply Exists.intro;refine ⟨fun W hW=>?_,?_⟩;(· obtain ⟨k0,k1,k2,k3⟩:=KN.out W hW;go_simp;first | exact rfl | exact ⟨rfl,rfl⟩);go_simp;go_big_quiet_on))
     refine wpQuiet_nil ?_;intro w8 hB8;have xj:=hid hB8;clear hB8;go_wp2;have yd:Hid (∀ W,Below w8.heap.size w8 W→W.cell? ⟨d.block,d.off+1,none⟩=some (.int .i64 x0.n)∧W.cell? ⟨d.block,d.off+6+1,none⟩=some (.int .i64 x1.n)∧W.cell? ⟨d.block,d.off+12+1,none⟩=some (.int .i64 x2.n)∧W.cell? ⟨d.block,d.off+18+1,none⟩=some (.int .i64 x3.n)):=hid fun W hW=>KN.out W (Z0_ xj.out (le_refl _) hW);have z2:=chk_n G.out.2.1;have z3:=chk_n H.out.2.1;obtain ⟨n,hn⟩:∃ n,IntKind.i64.wrap (x0.n+x2.n)=n:=⟨_,rfl⟩;have HN:Hid (n=x0.n+x2.n):=hid (by rw [← hn];exact J1_ j29_ j29_);clear z2 z3;refine Z5_ w8.heap.size w8 k29_ k29_ (Below.refl _ _) ?_
     iterate 10 (first | (go_big_quiet_want;apply Exists.intro;refine ⟨fun W hW=>?_,?_⟩;(· obtain ⟨k0,k1,k2,k3⟩:=yd.out W hW;go_simp;first | exact rfl | exact ⟨rfl,rfl⟩);go_simp;go_big_quiet_on))
     refine wpQuiet_nil ?_;intro o yh;have x4:=hid (Z0_ xj.out (le_refl _) yh);clear yh xj yd;clear hn;have q:=hid (Z0_ Hb0.out (le_refl _) x4.out)
     go_upto_region 11 with fail
     go_cut [5] (fun s5 S=>∃ g h:Nat,s5=.pointer (some ⟨g,0,none⟩)∧o.heap.size≤g∧o.heap.size≤h∧Blk S g 25 #[.int .i64 9,.int .i64 n,.int .i64 0,.int .i64 0,.slice none 0 0,.slice (some ⟨h,0,none⟩) 2 2]∧Blk S h 25 #[.int .i64 x0.t,.int .i64 x0.n,.int .i64 x0.a,.int .i64 x0.b,xd,x9,.int .i64 x2.t,.int .i64 x2.n,.int .i64 x2.a,.int .i64 x2.b,xf,xb]∧Below o.heap.size o S)
     case first =>
      have xq:Hid (∀ W,Below o.heap.size o W→W.cell? d=some (.int .i64 x0.t)∧W.cell? ⟨d.block,d.off+1,none⟩=some (.int .i64 x0.n)∧W.cell? ⟨d.block,d.off+2,none⟩=some (.int .i64 x0.a)∧W.cell? ⟨d.block,d.off+3,none⟩=some (.int .i64 x0.b)∧W.cell? ⟨d.block,d.off+4,none⟩=some (xd)∧W.cell? ⟨d.block,d.off+5,none⟩=some (x9)∧W.cell? ⟨d.block,d.off+12,none⟩=some (.int .i64 x2.t)∧W.cell? ⟨d.block,d.off+12+1,none⟩=some (.int .i64 x2.n)∧W.cell? ⟨d.block,d.off+12+2,none⟩=some (.int .i64 x2.a)∧W.cell? ⟨d.block,d.off+12+3,none⟩=some (.int .i64 x2.b)∧W.cell? ⟨d.block,d.off+12+4,none⟩=some (xf)∧W.cell? ⟨d.block,d.off+12+5,none⟩=some (xb)):=hid fun W hW=>by
       have hW:=Z0_ q.out (le_refl _) hW;obtain ⟨a0,a1,a2,a3,a4,a5⟩:=V4_ xm.out (xk.out W hW);obtain ⟨b0,b1,b2,b3,b4,b5⟩:=V4_ xo.out (L.out W hW);exact y12_
      go_region_held3 (fun W=>W.cell? d=some (.int .i64 x0.t)∧W.cell? ⟨d.block,d.off+1,none⟩=some (.int .i64 x0.n)∧W.cell? ⟨d.block,d.off+2,none⟩=some (.int .i64 x0.a)∧W.cell? ⟨d.block,d.off+3,none⟩=some (.int .i64 x0.b)∧W.cell? ⟨d.block,d.off+4,none⟩=some (xd)∧W.cell? ⟨d.block,d.off+5,none⟩=some (x9)∧W.cell? ⟨d.block,d.off+12,none⟩=some (.int .i64 x2.t)∧W.cell? ⟨d.block,d.off+12+1,none⟩=some (.int .i64 x2.n)∧W.cell? ⟨d.block,d.off+12+2,none⟩=some (.int .i64 x2.a)∧W.cell? ⟨d.block,d.off+12+3,none⟩=some (.int .i64 x2.b)∧W.cell? ⟨d.block,d.off+12+4,none⟩=some (xf)∧W.cell? ⟨d.block,d.off+12+5,none⟩=some (xb)) ((refine xq.out _ ?_;repeat (first | exact Below.refl _ _ | exact (Below.refl _ _).drew | refine Below.drew ?_ | refine Below.alloc ?_ (by first | (simp;done) | (simp;omega) | omega) _ | refine Below.setCell ?_ (by first | (simp;done) | (simp;omega) | omega) _))) (fail)
      all_goals
       go_wp2_with fail
       go_meet
       first
       | exact ⟨o.heap.size+1,o.heap.size,rfl,j29_,j29_,(C3_ o _ _ _).2.1,(C3_ o _ _ _).1,(C3_ o _ _ _).2.2⟩
       | exact ⟨o.heap.size,o.heap.size+1,rfl,j29_,j29_,(C3_ o _ _ _).1,(C3_ o _ _ _).2.1,(C3_ o _ _ _).2.2⟩
     case rest =>
      obtain ⟨ga,ha,rfl,ze,zg,yi,yk,xt⟩:=hcut;obtain ⟨m,rfl⟩:∃ m,m=wc:=⟨_,rfl⟩;replace q:=hid (Z0_ q.out (le_refl _) xt);have y8:=hid xt;have r:=hid yi;have s:=hid yk;clear yi yk xt;go_wp2
      go_upto_region 12 with fail
      go_cut [6] (fun s5 S=>∃ g h:Nat,s5=.pointer (some ⟨g,0,none⟩)∧m.heap.size≤g∧m.heap.size≤h∧Blk S g 25 #[.int .i64 9,.int .i64 n,.int .i64 0,.int .i64 0,.slice none 0 0,.slice (some ⟨h,0,none⟩) 2 2]∧Blk S h 25 #[.int .i64 x1.t,.int .i64 x1.n,.int .i64 x1.a,.int .i64 x1.b,xe,xa,.int .i64 x3.t,.int .i64 x3.n,.int .i64 x3.a,.int .i64 x3.b,xg,xc]∧Below m.heap.size m S)
      case first =>
       have xq:Hid (∀ W,Below m.heap.size m W→W.cell? ⟨d.block,d.off+6,none⟩=some (.int .i64 x1.t)∧W.cell? ⟨d.block,d.off+6+1,none⟩=some (.int .i64 x1.n)∧W.cell? ⟨d.block,d.off+6+2,none⟩=some (.int .i64 x1.a)∧W.cell? ⟨d.block,d.off+6+3,none⟩=some (.int .i64 x1.b)∧W.cell? ⟨d.block,d.off+6+4,none⟩=some (xe)∧W.cell? ⟨d.block,d.off+6+5,none⟩=some (xa)∧W.cell? ⟨d.block,d.off+18,none⟩=some (.int .i64 x3.t)∧W.cell? ⟨d.block,d.off+18+1,none⟩=some (.int .i64 x3.n)∧W.cell? ⟨d.block,d.off+18+2,none⟩=some (.int .i64 x3.a)∧W.cell? ⟨d.block,d.off+18+3,none⟩=some (.int .i64 x3.b)∧W.cell? ⟨d.block,d.off+18+4,none⟩=some (xg)∧W.cell? ⟨d.block,d.off+18+5,none⟩=some (xc)):=hid fun W hW=>by
        have hW:=Z0_ q.out (le_refl _) hW;obtain ⟨a0,a1,a2,a3,a4,a5⟩:=V4_ xn.out (K.out W hW);exact j27_
       go_region_held3 (fun W=>W.cell? ⟨d.block,d.off+6,none⟩=some (.int .i64 x1.t)∧W.cell? ⟨d.block,d.off+6+1,none⟩=some (.int .i64 x1.n)∧W.cell? ⟨d.block,d.off+6+2,none⟩=some (.int .i64 x1.a)∧W.cell? ⟨d.block,d.off+6+3,none⟩=some (.int .i64 x1.b)∧W.cell? ⟨d.block,d.off+6+4,none⟩=some (xe)∧W.cell? ⟨d.block,d.off+6+5,none⟩=some (xa)∧W.cell? ⟨d.block,d.off+18,none⟩=some (.int .i64 x3.t)∧W.cell? ⟨d.block,d.off+18+1,none⟩=some (.int .i64 x3.n)∧W.cell? ⟨d.block,d.off+18+2,none⟩=some (.int .i64 x3.a)∧W.cell? ⟨d.block,d.off+18+3,none⟩=some (.int .i64 x3.b)∧W.cell? ⟨d.block,d.off+18+4,none⟩=some (xg)∧W.cell? ⟨d.block,d.off+18+5,none⟩=some (xc)) ((refine xq.out _ ?_;repeat (first | exact Below.refl _ _ | exact (Below.refl _ _).drew | refine Below.drew ?_ | refine Below.alloc ?_ (by first | (simp;done) | (simp;omega) | omega) _ | refine Below.setCell ?_ (by first | (simp;done) | (simp;omega) | omega) _))) (fail)
       all_goals
        go_wp2_with fail
        go_meet
        first
        | exact ⟨m.heap.size+1,m.heap.size,rfl,j29_,j29_,(C3_ m _ _ _).2.1,(C3_ m _ _ _).1,(C3_ m _ _ _).2.2⟩
        | exact ⟨m.heap.size,m.heap.size+1,rfl,j29_,j29_,(C3_ m _ _ _).1,(C3_ m _ _ _).2.1,(C3_ m _ _ _).2.2⟩
      case rest =>
       obtain ⟨gb,hb,rfl,zf,zh,yj,yl,x5⟩:=hcut;obtain ⟨wb,rfl⟩:∃ wb,wb=wc:=⟨_,rfl⟩;replace q:=hid (Z0_ q.out (le_refl _) x5);have r:=hid (r.out.below x5 r.out.lt);have s:=hid (s.out.below x5 s.out.lt);have I:=hid yj;have J:=hid yl;have Z:=hid (Z0_ (Z0_ x4.out (le_refl _) y8.out) (le_refl _) x5);clear yj yl x5 x4 y8;replace p:=hid (p.out.up Z.out);replace z:=hid (z.out.up Z.out);replace B:=hid (B.out.up Z.out);replace C:=hid (C.out.up Z.out);replace F:=hid (F.out.up Z.out);have S0:=hid (Zx9 G.out.1);have S1:=hid (Zx9 T.out.1);have S2:=hid (Zx9 H.out.1);have S3:=hid (Zx9 U.out.1);clear Z;have xp:Hid (∀ W,Below wb.heap.size wb W→W.cell? d=some (.int .i64 x0.t)∧W.cell? ⟨d.block,d.off+1,none⟩=some (.int .i64 x0.n)∧W.cell? ⟨d.block,d.off+2,none⟩=some (.int .i64 x0.a)∧W.cell? ⟨d.block,d.off+3,none⟩=some (.int .i64 x0.b)∧W.cell? ⟨d.block,d.off+4,none⟩=some (xd)∧W.cell? ⟨d.block,d.off+5,none⟩=some (x9)∧W.cell? ⟨d.block,d.off+6,none⟩=some (.int .i64 x1.t)∧W.cell? ⟨d.block,d.off+6+1,none⟩=some (.int .i64 x1.n)∧W.cell? ⟨d.block,d.off+6+2,none⟩=some (.int .i64 x1.a)∧W.cell? ⟨d.block,d.off+6+3,none⟩=some (.int .i64 x1.b)∧W.cell? ⟨d.block,d.off+6+4,none⟩=some (xe)∧W.cell? ⟨d.block,d.off+6+5,none⟩=some (xa)):=hid fun W hW=>by
        have hW:=Z0_ q.out (le_refl _) hW;obtain ⟨a0,a1,a2,a3,a4,a5⟩:=V4_ xm.out (xk.out W hW);obtain ⟨b0,b1,b2,b3,b4,b5⟩:=V4_ xn.out (K.out W hW);exact y12_
       have k:=hid (Below.refl wb.heap.size wb);go_wp2
       go_region_held3 (fun W=>W.cell? d=some (.int .i64 x0.t)∧W.cell? ⟨d.block,d.off+1,none⟩=some (.int .i64 x0.n)∧W.cell? ⟨d.block,d.off+2,none⟩=some (.int .i64 x0.a)∧W.cell? ⟨d.block,d.off+3,none⟩=some (.int .i64 x0.b)∧W.cell? ⟨d.block,d.off+4,none⟩=some (xd)∧W.cell? ⟨d.block,d.off+5,none⟩=some (x9)∧W.cell? ⟨d.block,d.off+6,none⟩=some (.int .i64 x1.t)∧W.cell? ⟨d.block,d.off+6+1,none⟩=some (.int .i64 x1.n)∧W.cell? ⟨d.block,d.off+6+2,none⟩=some (.int .i64 x1.a)∧W.cell? ⟨d.block,d.off+6+3,none⟩=some (.int .i64 x1.b)∧W.cell? ⟨d.block,d.off+6+4,none⟩=some (xe)∧W.cell? ⟨d.block,d.off+6+5,none⟩=some (xa)) (first | exact xp.out _ k.out | exact xp.out _ k.out.drew) ((go_at_call 8;refine (Yv1 E x0 x1 _ _ _ (z.out.up k.out.drew) (B.out.up k.out.drew) S0.out S1.out (p.out.up k.out.drew) G.out.2.1 T.out.2.1 E1.out).mono ?_;rintro e wm ⟨s1,u1,O,v1,t1,rfl,x6,za,hb⟩;have y6:=hid O;have K:=hid x6;replace k:=hid (Z0_ k.out.drew (le_refl _) hb);clear O x6 za hb))
       have HS:=K;obtain ⟨A1,c1,hv,_,_⟩:=id K.out;subst hv;clear HS K xp;replace q:=hid (Z0_ q.out (le_refl _) k.out);replace p:=hid (p.out.up k.out);replace z:=hid (z.out.up k.out);replace B:=hid (B.out.up k.out);replace C:=hid (C.out.up k.out);replace F:=hid (F.out.up k.out);replace r:=hid (r.out.below k.out r.out.lt);replace s:=hid (s.out.below k.out s.out.lt);replace I:=hid (I.out.below k.out I.out.lt);replace J:=hid (J.out.below k.out J.out.lt);clear k;have xr:Hid (∀ W,Below wm.heap.size wm W→W.cell? ⟨d.block,d.off+12,none⟩=some (.int .i64 x2.t)∧W.cell? ⟨d.block,d.off+12+1,none⟩=some (.int .i64 x2.n)∧W.cell? ⟨d.block,d.off+12+2,none⟩=some (.int .i64 x2.a)∧W.cell? ⟨d.block,d.off+12+3,none⟩=some (.int .i64 x2.b)∧W.cell? ⟨d.block,d.off+12+4,none⟩=some (xf)∧W.cell? ⟨d.block,d.off+12+5,none⟩=some (xb)∧W.cell? ⟨d.block,d.off+18,none⟩=some (.int .i64 x3.t)∧W.cell? ⟨d.block,d.off+18+1,none⟩=some (.int .i64 x3.n)∧W.cell? ⟨d.block,d.off+18+2,none⟩=some (.int .i64 x3.a)∧W.cell? ⟨d.block,d.off+18+3,none⟩=some (.int .i64 x3.b)∧W.cell? ⟨d.block,d.off+18+4,none⟩=some (xg)∧W.cell? ⟨d.block,d.off+18+5,none⟩=some (xc)):=hid fun W hW=>by
        have hW:=Z0_ q.out (le_refl _) hW;obtain ⟨a0,a1,a2,a3,a4,a5⟩:=V4_ xo.out (L.out W hW);exact j27_
       have k:=hid (Below.refl wm.heap.size wm);go_wp2
       go_region_held3 (fun W=>W.cell? ⟨d.block,d.off+12,none⟩=some (.int .i64 x2.t)∧W.cell? ⟨d.block,d.off+12+1,none⟩=some (.int .i64 x2.n)∧W.cell? ⟨d.block,d.off+12+2,none⟩=some (.int .i64 x2.a)∧W.cell? ⟨d.block,d.off+12+3,none⟩=some (.int .i64 x2.b)∧W.cell? ⟨d.block,d.off+12+4,none⟩=some (xf)∧W.cell? ⟨d.block,d.off+12+5,none⟩=some (xb)∧W.cell? ⟨d.block,d.off+18,none⟩=some (.int .i64 x3.t)∧W.cell? ⟨d.block,d.off+18+1,none⟩=some (.int .i64 x3.n)∧W.cell? ⟨d.block,d.off+18+2,none⟩=some (.int .i64 x3.a)∧W.cell? ⟨d.block,d.off+18+3,none⟩=some (.int .i64 x3.b)∧W.cell? ⟨d.block,d.off+18+4,none⟩=some (xg)∧W.cell? ⟨d.block,d.off+18+5,none⟩=some (xc)) (first | exact xr.out _ k.out | exact xr.out _ k.out.drew) ((go_at_call 8;refine (Yv1 E x2 x3 _ _ _ (C.out.up k.out.drew) (F.out.up k.out.drew) S2.out S3.out (p.out.up k.out.drew) H.out.2.1 U.out.2.1 E2.out).mono ?_;rintro e wn ⟨s2,u2,P,v2,t2,rfl,x7,zb,hb⟩;have y7:=hid P;have L:=hid x7;replace k:=hid (Z0_ k.out.drew (le_refl _) hb);clear P x7 zb hb))
       have HS:=L;obtain ⟨A2,c2,hv,_,_⟩:=id L.out;subst hv;clear HS L xr;replace q:=hid (Z0_ q.out (le_refl _) k.out);replace p:=hid (p.out.up k.out);replace z:=hid (z.out.up k.out);replace B:=hid (B.out.up k.out);replace C:=hid (C.out.up k.out);replace F:=hid (F.out.up k.out);replace r:=hid (r.out.below k.out r.out.lt);replace s:=hid (s.out.below k.out s.out.lt);replace I:=hid (I.out.below k.out I.out.lt);replace J:=hid (J.out.below k.out J.out.lt);clear k;have yt:=hid (Yv5 HN.out s.out z.out C.out);have yu:=hid (Yv5 (HN.out.trans (by rw [E1.out,E2.out])) J.out B.out F.out);have y9:=hid (Yv3 G.out H.out);have ya:=hid (Yv3 T.out U.out);have Sa:=hid (Yv4 S0.out S2.out);have Sb:=hid (Yv4 S1.out S3.out);have yy:Hid ((sum2 x0 x2).n=(sum2 x1 x3).n):=hid (by show x0.n+x2.n=x1.n+x3.n;rw [E1.out,E2.out]);have M:=r.out.cell;have N:=I.out.cell;have a0:=M 0;have a1:=M 1;have a2:=M 2;have a3:=M 3;have a4:=M 4;have a5:=M 5;have b0:=N 0;have b1:=N 1;have b2:=N 2;have b3:=N 3;have b4:=N 4;have b5:=N 5;clear M N
       go_wp2_with fail
       refine (Yv1 E (sum2 x0 x2) (sum2 x1 x3) _ _ _ yt.out yu.out Sa.out Sb.out p.out y9.out ya.out yy.out).mono ?_;rintro e wo ⟨s3,u3,R,v3,t3,rfl,x8,zc,hb⟩;obtain ⟨A3,c3,hv,_,_⟩:=id x8;subst hv;have x4:=hid (Z0_ q.out (le_refl _) hb);have yn:=Xd4 G.out.2.1 T.out.2.1 H.out.2.1 U.out.2.1 G.out.2.2 T.out.2.2 H.out.2.2 U.out.2.2 E1.out E2.out y9.out ya.out y6.out y7.out R;have z8:=Yw9 G.out.2.1 T.out.2.1 E1.out y6.out;have z9:=Yw9 H.out.2.1 U.out.2.1 E2.out y7.out;have hw:IntKind.i64.wrap ((s1.length:Int)+(s2.length:Int))=(s3.length:Int):=by rw [yn];exact (J1_ j29_ j29_).trans x30_
       have e1:((s3.length:Int)==(s3.length:Int))=true:=x30_;clear R x8 zc hb a0 a1 a2 a3 a4 a5 b0 b1 b2 b3 b4 b5 yn z8 z9;go_wp2;go_ret;exact ⟨rfl,x4.out⟩
    ·have d2:(x2.n != x3.n)=true:=by simpa using e2
     clear e2;go_wp2;refine Z5_ wr.heap.size wr k29_ k29_ (Below.refl _ _) ?_
     iterate 20 (first | (go_big_quiet_want;apply Exists.intro;refine ⟨fun W hW=>?_,?_⟩;(· obtain ⟨k0,k1,k2,k3⟩:=KN.out W hW;go_simp;first | exact rfl | exact ⟨rfl,rfl⟩);go_simp;go_big_quiet_on))
     exact z25_
   ·have d1:(x0.n != x1.n)=true:=by simpa using e1
    clear e1;go_wp2;refine Z5_ wr.heap.size wr k29_ k29_ (Below.refl _ _) ?_
    iterate 20 (first | go_big_quiet_skip | (go_big_quiet_want;apply Exists.intro;refine ⟨fun W hW=>?_,?_⟩;(· obtain ⟨k0,k1,k2,k3⟩:=KN.out W hW;go_simp;first | exact rfl | exact ⟨rfl,rfl⟩);go_simp;go_big_quiet_on))
    exact z25_
theorem Ze4 (E:Nat→Addr) (l:List Mat) (v:Value) (w:World) (hl:MatL w w.heap.size v l) (e:l.length≤140737488355328∧∀ x∈l,Lim x) (d:Env E w):Calls Tryz.prog 5 #[v] w (Truly w):=by
 by_cases c:l.length=4
 ·exact Xt3 E l v w hl e d c
 ·exact Xt2 E l v w hl e d c
end Wp
end Go.Proofs.YtnbcaibflhgdoaaGreatDoor
