/- UnionTurned, walked: it answers true (written by gen_uturned.py). -/
import Derived.Test.YtheeajnkiniopaaGreatDoorUFx16
import Derived.Test.YtheeajnkiniopaaGreatDoorURFew
import Derived.Test.YtheeajnkiniopaaGreatDoorURMay
import Derived.Test.YtheeajnkiniopaaGreatDoorUApp
import Derived.Test.YtheeajnkiniopaaGreatDoorX0A
import Derived.Test.YtheeajnkiniopaaGreatDoorX0B
set_option maxHeartbeats 16000000
set_option maxRecDepth 100000
open Go.Lib (hid)
open Nat (le_refl)
namespace Go.Proofs.YtheeajnkiniopaaGreatDoor.Wp
open Go Go.RowKit
theorem R6_ {ms:List Mat} {c most:Int} (h:few16 ms c most=true):(ms.length:Int)≤c∧∀ m∈ms,Sml m:=by
 unfold few16 at h;rw [Bool.and_eq_true,decide_eq_true_iff,List.all_eq_true] at h;exact ⟨h.1,fun m d=>Zh6 (h.2 m d)⟩
def bkL (ms:List Mat) (j:Nat):List Mat:=unU (ms.getD 0 default).n 0 :: ms.reverse.take j
theorem Yx7 {ms:List Mat} {j:Nat} (h:j≤ms.length):(bkL ms j).length=j+1:=by simp [bkL];omega
theorem Xp3 {ms:List Mat} {j p:Nat} (h:p+1+j=ms.length):bkL ms (j+1)=bkL ms j ++ [ms.getD p default]:=by
 unfold bkL;rw [List.take_succ_eq_append_getElem (by rw [List.length_reverse];omega),List.getElem_reverse,List.cons_append];congr 3;simp [List.getD,show p<ms.length by omega];congr 1;omega
theorem Vb3 (ms:List Mat):bkL ms ms.length=backM ms:=by
 unfold bkL backM;rw [List.take_of_length_le y30_]
theorem Xp4 {ms:List Mat} (h:∀ m∈ms,Sml m):∀ m∈backM ms,Sml m:=fun m c=>by
 unfold backM at c;rw [List.mem_cons,List.mem_reverse] at c;rcases c with rfl | c
 ·exact J1_ ..
 ·exact h m c
theorem ut_1 (E:Nat→Addr) (ms:List Mat) (v:Value) (w:World) (hl:MatL w w.heap.size v ms) (p:ms.length≤140737488355328∧∀ x∈ms,Lim x) (m:Env E w) (o:few16 ms 4 6=false):Calls Tryz.prog 7 #[v] w (Truly w):=by
 have q:=hid o;clear o;have k:=hid p;have d:=hid hl;have c:=hid m;have Hb0:=hid (Below.refl w.heap.size w);obtain ⟨r,s,rfl,_⟩:=id hl;clear hl m p
 go_enter Tryz.func7,Tryz.ntmps7
 go_wp2_with fail
 refine (D5_ E _ c.out).mono ?_;rintro e u ⟨rfl,g⟩;replace c:=hid (c.out.up g);replace d:=hid (d.out.up g);replace Hb0:=hid (Z0_ Hb0.out (le_refl _) g);clear g
 go_wp2_with fail
 refine (T2_ ms _ 4 6 _ d.out k.out.2 k.out.1).mono ?_;rintro e y ⟨rfl,h⟩;rw [q.out];replace c:=hid (c.out.up h);replace d:=hid (d.out.up h);replace Hb0:=hid (Z0_ Hb0.out (le_refl _) h);clear h
 go_wp2_with fail
 refine (D5_ E _ c.out).mono ?_;rintro e z ⟨rfl,j⟩;replace c:=hid (c.out.up j);replace d:=hid (d.out.up j);replace Hb0:=hid (Z0_ Hb0.out (le_refl _) j);clear j;exact k1_
theorem ut_2 (E:Nat→Addr) (ms:List Mat) (v:Value) (w:World) (hl:MatL w w.heap.size v ms) (q:ms.length≤140737488355328∧∀ x∈ms,Lim x) (p:Env E w) (m:few16 ms 4 6=true) (r:sevB ms=false):Calls Tryz.prog 7 #[v] w (Truly w):=by
 have s:=hid m;have u:=hid r;have y:=hid (R6_ m).2;have z:ms.length≤1000:=by have:=(R6_ m).1;omega
 clear m r;have o:=hid q;have d:=hid hl;have c:=hid p;have Hb0:=hid (Below.refl w.heap.size w);obtain ⟨B,C,rfl,_⟩:=id hl;clear hl p q
 go_enter Tryz.func7,Tryz.ntmps7
 go_wp2_with fail
 refine (D5_ E _ c.out).mono ?_;rintro e D ⟨rfl,g⟩;replace c:=hid (c.out.up g);replace d:=hid (d.out.up g);replace Hb0:=hid (Z0_ Hb0.out (le_refl _) g);clear g
 go_wp2_with fail
 refine (T2_ ms _ 4 6 _ d.out o.out.2 o.out.1).mono ?_;rintro e F ⟨rfl,h⟩;rw [s.out];replace c:=hid (c.out.up h);replace d:=hid (d.out.up h);replace Hb0:=hid (Z0_ Hb0.out (le_refl _) h);clear h
 go_wp2_with fail
 refine (Zc5 E ms _ _ d.out y.out z).mono ?_;rintro e G ⟨rfl,j⟩;rw [u.out];replace c:=hid (c.out.up j);replace d:=hid (d.out.up j);replace Hb0:=hid (Z0_ Hb0.out (le_refl _) j);clear j
 go_wp2_with fail
 refine (D5_ E _ c.out).mono ?_;rintro e H ⟨rfl,k⟩;replace c:=hid (c.out.up k);replace d:=hid (d.out.up k);replace Hb0:=hid (Z0_ Hb0.out (le_refl _) k);clear k;exact k1_
theorem Vb4 (E:Nat→Addr) (ms:List Mat) (v:Value) (w:World) (hl:MatL w w.heap.size v ms) (yg:ms.length≤140737488355328∧∀ x∈ms,Lim x) (hE:Env E w) (O:few16 ms 4 6=true) (Q:sevB ms=true):Calls Tryz.prog 7 #[v] w (Truly w):=by
 have h4:=(R6_ O).1;have Hf:=hid O;have M:=hid Q;have Hs:=hid (R6_ O).2;have hK:ms.length≤1000:=by have:=(R6_ O).1;omega
 clear O Q;have HS:=hid (sev_iff.1 M.out).1;obtain ⟨yh,z4⟩:=HS.out.many;obtain ⟨ad,d0,zc,za,yx,_,H⟩:=MatL.one hl yh;subst yx;have yo:=hid H;have yk:=hid hl;obtain ⟨n,hn⟩:∃ n,nN (ms.getD 0 default)=n:=⟨_,rfl⟩;have F:=hid hn;have y4:Hid ((ms.getD 0 default).n=(n:Int)):=hid (by
  have h1:=(Y1_ (HS.out.may 0 yh).1).1;rw [← hn];omega)
 have z5:(0:Int)<(ms.length:Int):=k29_;have z3:(ms.length:Int)≤4:=h4;have ye:ad.add (0 * 6)=ad:=z35_;have y6:Hid (∀ W,Below w.heap.size w W→W.cell? ⟨ad.block,ad.off+1,none⟩=some (.int .i64 n)):=hid fun W hW=>by
  have h:=(yo.out W hW).2.1;rw [ye,y4.out] at h;exact h
 have z7:IntKind.i64.wrap ((ms.length:Int) - 1)=(ms.length:Int) - 1:=z30_;clear H hn ye h4;have y3:=hid yg;have o:=hid hl;have q:=hid hE;have r:=hid (Below.refl w.heap.size w);clear hl hE yg
 go_enter Tryz.func7,Tryz.ntmps7
 go_wp2_with fail
 refine (D5_ E _ q.out).mono ?_;rintro e w1 ⟨rfl,x0⟩;replace q:=hid (q.out.up x0);replace o:=hid (o.out.up x0);replace r:=hid (Z0_ r.out (le_refl _) x0);clear x0
 go_wp2_with fail
 refine (T2_ ms _ 4 6 _ o.out y3.out.2 y3.out.1).mono ?_;rintro e w2 ⟨rfl,x4⟩;rw [Hf.out];replace q:=hid (q.out.up x4);replace o:=hid (o.out.up x4);replace r:=hid (Z0_ r.out (le_refl _) x4);clear x4
 go_wp2_with fail
 refine (Zc5 E ms _ _ o.out Hs.out hK).mono ?_;rintro e d ⟨rfl,x5⟩;rw [M.out];replace q:=hid (q.out.up x5);replace o:=hid (o.out.up x5);replace r:=hid (Z0_ r.out (le_refl _) x5);clear x5;have q1:=y6.out d r.out;obtain ⟨X,hX⟩:∃ X,X=d.alloc (.cells #[.int .i64 0,.int .i64 n,.int .i64 0,.int .i64 0,.slice none 0 0,.slice none 0 0] 37):=⟨_,rfl⟩;have HX:=hid hX;have y9:Below d.heap.size d X:=by rw [hX];exact (Below.refl _ d).alloc (le_refl _) _
 have xb:=hid y9;have xd:Hid (X.ownsRow d.heap.size 37 6 (.slice (some ⟨d.heap.size,0,none⟩) 1 1) (0+1) (flat6 (fun _=>[.int .i64 0,.int .i64 n,.int .i64 0,.int .i64 0,.slice none 0 0,.slice none 0 0]) (0+1))):=hid (by
  have h:=World.ownsRow_lit (base:=d.heap.size) (e := 37) (size:=6) d #[.int .i64 0,.int .i64 n,.int .i64 0,.int .i64 0,.slice none 0 0,.slice none 0 0] 1 (le_refl _) k31_ rfl;rw [hX];exact h)
 have x8:Hid (SixM X d.heap.size (fun _=>[.int .i64 0,.int .i64 n,.int .i64 0,.int .i64 0,.slice none 0 0,.slice none 0 0]) (bkL ms 0)):=hid ⟨fun _=>rfl,fun k P=>⟨_,_,_,_,_,_,rfl,by
  have ys:k=0:=by rw [Yx7 (Nat.zero_le _)] at P;omega
  subst ys;show MatV X d.heap.size _ (unU (ms.getD 0 default).n 0);rw [y4.out];exact J0_ _ _ 0 n 0 0⟩⟩
 have xa:=hid r.out;obtain ⟨B,hB⟩:∃ B,d.heap.size=B:=⟨_,rfl⟩;have s:=hid hB;rw [hB] at xb xd x8;have xu:=hid o.out;have xt:=hid q.out;clear hX y9 hB
 go_wp2_with fail
 rw [s.out,← HX.out]
 go_loopw [3,4] (fun v3 vi wr=>∃ (vb:Value) (p1 j:Nat) (z:Int) (S:Nat→List Value),vb=v3∧vi=.int .i64 z∧z=(p1:Int) - 1∧p1+j=ms.length∧wr.ownsRow B 37 6 v3 (j+1) (flat6 S (j+1))∧SixM wr B S (bkL ms j)∧Below B d wr) (fun _ vi _=>(intOf vi+1).toNat)
 case atStart=>exact ⟨_,ms.length,0,(ms.length:Int) - 1,_,rfl,y31_,rfl,rfl,xd.out,x8.out,xb.out⟩
 case round =>
  clear xd x8 xb q1;obtain ⟨vb,p1,j,z,S,rfl,rfl,hz,xs,yi,hS,xj⟩:=hrel;have T:=hid yi;have U:=hid hS;have J:=hid xj;have I:Hid (Below d.heap.size d wr):=hid (by rw [s.out];exact xj);have g:Hid (Below w.heap.size w wr):=hid (Z0_ xa.out (le_refl _) I.out);clear yi hS xj;cases p1 with
  | zero =>
   obtain rfl:z=-1:=k29_;have hj:j=ms.length:=k29_;subst hj;have R:Hid (MatL wr wr.heap.size vb (backM ms)):=hid (by
    have h:=Yx6 (i:=bkL ms ms.length) (by rw [Yx7 (le_refl _)];exact T.out) U.out (by have:=J.out.size;have:=s.out;omega)
    rwa [Vb3] at h)
   have xv:=hid (xu.out.up I.out);have L:=hid (xt.out.up I.out);have xc:=hid (Yd7 M.out (show ms.length≤7 by omega));have xz:=hid (Xp4 Hs.out);clear T U J xu xt o q r HX s hz xs I xa
   go_wp2_with fail
   refine (Zh4 E ms _ _ xv.out Hs.out L.out M.out).mono ?_;rintro e w5 ⟨va,vu,c,u,rfl,hc,hu,x6,xo⟩;rw [F.out] at xo;have xw:=hid xo;have K:=hid hc;clear xo hu;replace R:=hid (R.out.up x6);replace L:=hid (L.out.up x6);replace g:=hid (Z0_ g.out (le_refl _) x6);clear x6 xv
   go_wp2_with fail
   refine (Zh4 E (backM ms) _ _ R.out xz.out L.out xc.out.1).mono ?_;rintro e w6 ⟨vb,zf,c2,u2,rfl,yb,yw,xf,xp⟩;rw [xc.out.2.2,F.out] at xp;have yf:=Yx4 M.out (show ms.length≤7 by omega) (by rw [F.out];exact xw.out) (by rw [F.out];exact xp);rw [F.out] at yf;obtain ⟨Y,N,e3,e4⟩:=yf;replace K:=hid (K.out.up xf);have y:=hid yb;replace g:=hid (Z0_ g.out (le_refl _) xf);obtain ⟨Ac,cc,rfl,_⟩:=hc;obtain ⟨A2,z0,rfl,_⟩:=yb;have q2:=y6.out w6 g.out;have E3:=hid e3;have E4:=hid e4;have yc:c.length≤1048576:=by have:=HS.out.n64;rw [F.out] at this;omega
   have yd:c2.length≤1048576:=k29_;have yn:=hid yc;have y0:=hid yd;rw [N,Y];rw [Y] at K;rw [N,Y] at y;clear xw R xp yw xf Y N e3 e4 xc xz L yc yd
   go_wp2_with fail
   refine (S9_ _ c (-1) _ K.out yn.out).mono ?_;rintro e w7 ⟨vk,rfl,yt,xg⟩;obtain ⟨Ak,ck,rfl,_⟩:=yt;replace y:=hid (y.out.up xg);replace g:=hid (Z0_ g.out (le_refl _) xg);clear xg q2 K
   go_wp2_with fail
   refine (S9_ _ c2 (-1) _ y.out y0.out).mono ?_;rintro e w8 ⟨zd,rfl,yu,xh⟩;obtain ⟨yy,z1,rfl,_⟩:=yu;rw [← E3.out];replace y:=hid (y.out.up xh);replace g:=hid (Z0_ g.out (le_refl _) xh);clear xh
   go_wp2_with fail
   refine (S9_ _ c2 0 _ y.out y0.out).mono ?_;rintro e w9 ⟨ze,rfl,yv,y8⟩;obtain ⟨yz,z2,rfl,_⟩:=yv;rw [E4.out];replace g:=hid (Z0_ g.out (le_refl _) y8);clear y8;go_wp2;go_ret;exact ⟨rfl,g.out⟩
  | succ p =>
   obtain rfl:z=(p:Int):=k29_;have hp:p<ms.length:=k29_;have z6:(p:Int)<(ms.length:Int):=k29_;obtain ⟨yr,d2,lv,iv,hA,xn,H⟩:=MatL.one yk.out hp;obtain rfl:ad=yr:=Option.some.inj (Value.slice.inj hA).1;have xq:=Xp3 (ms:=ms) (j:=j) (p:=p) k29_;obtain ⟨m,Q⟩:∃ m,ms.getD p default=m:=⟨_,rfl⟩;rw [Q] at xn H xq;have xm:MatV wr B (.agg #[.int .i64 m.t,.int .i64 m.n,.int .i64 m.a,.int .i64 m.b,lv,iv]) m:=by
    have h:=(xn.up xa.out).bel I.out
    rwa [s.out] at h
   obtain ⟨S',xe,xk⟩:=U.out.more _ _ _ _ _ _ m xm;rw [← xq] at xe;rw [Yx7 k29_] at xk;obtain ⟨zb,z9,yj,⟨C,c4,rfl,_⟩,⟨D,c5,rfl,_⟩⟩:=xm.open;obtain ⟨rfl,rfl⟩:lv=.slice C m.l.length c4∧iv=.slice D m.i.length c5:=by
    have h1:=Value.agg.inj yj;simp at h1;exact h1
   obtain ⟨q0,q1,q2,q3,q4,q5⟩:=H wr g.out;obtain ⟨W1,G⟩:∃ W1,W1=wr.alloc (.cells #[.int .i64 m.t,.int .i64 m.n,.int .i64 m.a,.int .i64 m.b,.slice C m.l.length c4,.slice D m.i.length c5] 37):=⟨_,rfl⟩;have xy:=hid G;have xi:Below wr.heap.size wr W1:=by rw [G];exact (Below.refl _ wr).alloc (le_refl _) _
   have V:=hid (H2_ T.out xi);have Z:B≤wr.heap.size:=by have:=J.out.size;have:=s.out;omega
   have x9:Hid (Below B d W1):=hid (by rw [G];exact J.out.alloc Z _);have xx:=hid (xe.below (by rw [G];exact (Below.refl B wr).alloc Z _:Below B wr W1));have ya:Blk W1 wr.heap.size 37 #[.int .i64 m.t,.int .i64 m.n,.int .i64 m.a,.int .i64 m.b,.slice C m.l.length c4,.slice D m.i.length c5]:=by rw [G];exact Blk.new wr _ _
   have y1:Hid (∀ ad,some (⟨wr.heap.size,0,none⟩:Addr)=some ad→∀ j u,[Value.int .i64 m.t,.int .i64 m.n,.int .i64 m.a,.int .i64 m.b,.slice C m.l.length c4,.slice D m.i.length c5][j]?=some u→W1.cell? (ad.add j)=some u):=hid fun ad e j u hj=>by
    obtain rfl:=Option.some.inj e;have N:(⟨wr.heap.size,0,none⟩:Addr).add j=⟨wr.heap.size,j,none⟩:=j33_;rw [N,ya.cell j];simpa using hj
   have y5:Hid (∀ u∈[Value.int .i64 m.t,.int .i64 m.n,.int .i64 m.a,.int .i64 m.b,.slice C m.l.length c4,.slice D m.i.length c5],u.oneCell'=true):=hid fun u hu=>by
    simp at hu;rcases hu with rfl | rfl | rfl | rfl | rfl | rfl<;>rfl
   have y7:B≤W1.heap.size:=Nat.le_trans Z xi.size;have x7:=hid y7;have z8:IntKind.i64.wrap ((p:Int) - 1)=(p:Int) - 1:=z30_;have y2:=hid xk;have Hj:=hid (show j+1≤1048576 by omega);have yq:=hid xs;clear hz xs hA xn H xq Q xm xe xk yj G xi ya U T J Z y7
   go_wp2_with (at_builtin;rw [← xy.out];refine R5_ rfl _ _ rfl B (j+1) 1 _ (flat6 S (j+1)) [.int .i64 m.t,.int .i64 m.n,.int .i64 m.a,.int .i64 m.b,.slice C m.l.length c4,.slice D m.i.length c5] (some ⟨wr.heap.size,0,none⟩) 1 rfl rfl V.out rfl y1.out y5.out (fun e=>by cases e) Hj.out k29_ x7.out ?_)
   intro v' W2 xr xl;rw [← y2.out] at xr;have ym:=hid (x9.out.grown xl (by have:=x9.out.size;have:=s.out;omega) (fun k P=>(V.out.lt k P).1));have yp:=hid xr;have yl:=hid (xx.out.below ((Below.refl B _).grown xl x7.out fun k P=>(V.out.lt k P).1));clear xr xl V xx x9 y1 y5 xy y2 q0 q1 q2 q3 q4 q5 x7;go_wp2
   go_roundw
   case rel=>exact ⟨_,p,j+1,(p:Int) - 1,S',rfl,y31_,rfl,by have:=yq.out;omega,yp.out,yl.out,ym.out⟩
   case measure=>simp [intOf]
theorem UnionTurned_any (E:Nat→Addr) (ms:List Mat) (v:Value) (w:World) (hl:MatL w w.heap.size v ms) (d:ms.length≤140737488355328∧∀ x∈ms,Lim x) (c:Env E w):Calls Tryz.prog 7 #[v] w (Truly w):=by
 cases hf:few16 ms 4 6 with
 | false=>exact ut_1 E ms v w hl d c hf
 | true =>
  cases hm:sevB ms with
  | false=>exact ut_2 E ms v w hl d c hf hm
  | true=>exact Vb4 E ms v w hl d c hf hm
end Go.Proofs.YtheeajnkiniopaaGreatDoor.Wp
