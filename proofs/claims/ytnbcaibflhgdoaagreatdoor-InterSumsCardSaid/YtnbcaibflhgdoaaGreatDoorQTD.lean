/- The program's Image, walked. -/
import Derived.Test.YtnbcaibflhgdoaaGreatDoorQTB
import Derived.Test.YtnbcaibflhgdoaaGreatDoorZU
import Derived.Test.YtnbcaibflhgdoaaGreatDoorZA
import Derived.Test.YtnbcaibflhgdoaaGreatDoorX0A
import Derived.Test.YtnbcaibflhgdoaaGreatDoorX0B
import Derived.Test.YtnbcaibflhgdoaaGreatDoorX0C
set_option maxHeartbeats 8000000
set_option maxRecDepth 100000
open Go.Lib (hid)
open Nat (le_refl)
namespace Go.Proofs.YtnbcaibflhgdoaaGreatDoor
open Go.RowKit
namespace Wp
def I5_ (w:World) (b:Bool) (l:List Int) (e:Ending) (w':World):Prop:=∃ v,e=.returned (.tuple #[v,.bool b])∧Row w' w'.heap.size v l∧Below w.heap.size w w'∧∀ (A:Addr) (n c:Nat),v=.slice (some A) n c→w.heap.size≤A.block
theorem I6_ (w w':World) (hb:Below w.heap.size w w'):I5_ w false [] (.returned (.tuple #[.slice none 0 0,.bool false])) w':=⟨_,rfl,Row.nil_ _ _,hb,fun _ _ _ h=>by cases h⟩
theorem Yu0 (m:Mat) (v p:Value) (w:World) (g:MatV w w.heap.size v m) (c:¬ m.t=5) (d:¬ m.t=6):Calls Tryz.prog 118 #[v,p] w (I5_ w false []):=by
 obtain ⟨j,h,o,_,_⟩:=g.open;have k:=hid (Z1_ w m j h);have e:=(Z3_ w m j h).cell;have x:=e 0;have q:(m.t != 5)=true:=by simpa using c
 have s:(m.t != 6)=true:=by simpa using d
 have r:(m.t==5)=false:=by simpa using c
 have u:(m.t==6)=false:=by simpa using d
 subst o;unfold boxed at *
 clear e g c d
 go_enter Tryz.func118,Tryz.ntmps118
 go_wp2
 go_ret2
 exact I6_ w _ k.out
theorem Ye8 (E:Nat→Addr) (n a b:Int) (l:List (List Int)) (i:List Mat) (v c:Value) (w:World) (hv:MatV w w.heap.size v (.mk 5 n a b l i)) (hs:Sml (.mk 5 n a b l i)) (hE:Env E w) (hc:chk (.mk 5 n a b l i)≠0):Calls Tryz.prog 118 #[v,c] w (I5_ w false []):=by
 have d:(chk (.mk 5 n a b l i) != 0)=true:=by simpa using hc
 generalize hD:chk (.mk 5 n a b l i)=D at *
 have Hc:=hid hD;obtain ⟨m,hm⟩:∃ m,m=Mat.mk 5 n a b l i:=⟨_,rfl⟩;rw [← hm] at hv hs Hc;have hmt:m.t=5:=y37_;exact j2_
theorem Ye9 (E:Nat→Addr) (n a b:Int) (l:List (List Int)) (i:List Mat) (v c:Value) (s:List Int) (w:World) (hv:MatV w w.heap.size v (.mk 5 n a b l i)) (hs:Sml (.mk 5 n a b l i)) (hE:Env E w) (hr:Row w w.heap.size c s) (hsl:s.length≤1048576) (hc:chk (.mk 5 n a b l i)=0) (hsub:subB s (allL n)=false):Calls Tryz.prog 118 #[v,c] w (I5_ w false []):=by
 obtain ⟨m,hm⟩:∃ m,m=Mat.mk 5 n a b l i:=⟨_,rfl⟩;rw [← hm] at hv hs hc;have hmt:m.t=5:=y37_;exact j1_
theorem Yf0 (E:Nat→Addr) (n a b:Int) (l:List (List Int)) (i:List Mat) (v sv:Value) (s:List Int) (w:World) (D:MatV w w.heap.size v (.mk 5 n a b l i)) (hs:Sml (.mk 5 n a b l i)) (hE:Env E w) (hr:Row w w.heap.size sv s) (yb:s.length≤1048576) (hc:chk (.mk 5 n a b l i)=0) (C:subB s (allL n)=true):Calls Tryz.prog 118 #[v,sv] w (I5_ w true (imgM (.mk 5 n a b l i) s)):=by
 obtain ⟨m,hm⟩:∃ m,m=Mat.mk 5 n a b l i:=⟨_,rfl⟩;rw [← hm] at D hs hc;rw [← hm];have L:m.t=5:=y37_;rw [show n=m.n by rw [hm];rfl] at C;clear hm;have Hc:=hid hc;have y0:=hid C;obtain ⟨lv,iv,yc,ya,y8⟩:=D.open;have o:=hid (Z1_ w m lv iv);have Hv:=hid (D.up o.out);have Q:=hid (hE.up o.out);have Hblk:=hid (Z3_ w m lv iv);have j:=Hblk.out.cell;have g0:=j 0;have g1:=j 1;have g2:=j 2;have g3:=j 3;have g4:=j 4;have g5:=j 5;subst yc;unfold boxed at *
 rw [L] at g0;have Y:=hid (hr.up o.out);have y5:=C1_ m.n;have y7:=K4_ hc j29_;have O:=Zc2 hc j29_;have xc:=Xf6 hc C;have hn:=chk_n hc;have J:=Zc3 m s;have hfa:=Xf7 m s;have yq:=sml_r hs (Y2_ m.l 0 [] j29_);obtain ⟨Al,cl,rfl,_,xd⟩:=ya;obtain ⟨Ai,ci,rfl,_,xb⟩:=y8;obtain ⟨ad,u0,hA,x7,I,xg⟩:=xd 0 j29_;subst hA;obtain ⟨ai,ui,hA,x8,xi,xe⟩:=xb 0 j29_;subst hA;rw [add_zero] at I;rw [show (0:Nat) * 6=0 from rfl,add_zero] at xi;obtain ⟨yu,yt,xl,_,_⟩:=xe.open;obtain ⟨x0,x1,x2,x3,x4,x5,g,s0,s1,_⟩:=xi;rw [xl] at g;injection g with g;injection g with g;injection g with _ g;injection g with hx1 _;subst hx1;have yn:(0:Int)<(m.l.length:Int):=j29_;have yo:0<m.l.length:=j29_;have yl:(0:Int)<(m.i.length:Int):=j29_;have ym:0<m.i.length:=j29_;obtain ⟨F,hF⟩:∃ F,F=imgM m s:=⟨_,rfl⟩;rw [← hF] at J hfa;rw [← hF];have M:stayL m=m.l.getD 0 []:=by
  unfold stayL;rw [if_neg j29_];rfl
 obtain ⟨ST,x6⟩:∃ ST,ST=stayL m:=⟨_,rfl⟩;rw [← x6] at hfa O M;have yk:=C1_ (m.i.getD 0 default).n;clear x6 hF;generalize m.l.getD 0 []=r at *
 generalize m.i.getD 0 default=x at *
 generalize m.n=N at *
 have xw:=hid M;have V:=hid xc;have xr:=hid hfa;have Hfn:=hid J;have xn:=hid x7;have yg:=hid x8;have xs:=hid xg;have xq:=hid I;have yh:=hid s1;have W:=hid L;have ys:(s.length:Int)≤1048576:=j29_;have yr:(ST.length:Int)≤64:=j29_;have xy:=hid O;obtain ⟨i0,K,yd,ye,hz2⟩:=info_parts info3;clear D hE j hc C M xc hfa J xd xb xg I s0 s1 xe xl x7 x8 y7 O
 go_enter Tryz.func118,Tryz.ntmps118
 rw [W.out] at Hv Hblk o Q Y;rw [W.out];clear L
 go_wp2_with fail
 refine (Q2_ E m _ _ Hv.out hs Q.out).mono ?_;rintro e w1 ⟨rfl,u⟩;rw [Hc.out];have xo:=hid (Z0_ o.out (le_refl _) u);have G:=hid (Hblk.out.below u x30_);have y1:=hid (Y.out.up u);have c1:=G.out.cell 1;clear u g0 g1 g2 g3 g4 g5
 go_wp2_with fail
 refine (F0_ _ _).mono ?_;rintro e w2 ⟨v2,rfl,xh,z⟩;have xp:=hid (Z0_ xo.out (le_refl _) z);have S:=hid (G.out.below z G.out.lt);have Z:=hid (y1.out.up z);have xt:=hid xh;clear z xh c1
 go_wp2_with fail
 refine (P1_ _ _ s (allL N) _ Z.out xt.out yb y5).mono ?_;rintro e d ⟨rfl,B⟩;rw [y0.out];have q:=hid (Z0_ xp.out (le_refl _) B);have T:=hid (S.out.below B S.out.lt);have y2:=hid (Z.out.up B);have c0:=T.out.cell 0;have c4:=T.out.cell 4;have cr:=(q.out.cell (p:=ad) xn.out).trans xq.out;have xu:=hid ((xs.out.below q.out).mono q.out.size);clear B;have xz:Hid (Row d d.heap.size u0 ST):=by
  show Row _ _ _ _;rw [xw.out];exact xu.out
 obtain ⟨As,cs,rfl,_,xj⟩:=id y2.out;obtain ⟨yf,yi,rfl,_,xk⟩:=id xz.out;have xx:=hid xk;clear xk;have xv:=hid xj;clear xj
 go_wp2_with (at_make;refine wpList_make_full d rfl _ _ 26 rfl d.heap.size 3 i0 (.int .i64 0) 1 k29_ K yd ye .i64 .i64 _ _ s.length rfl rfl z31_ z31_ j35_ k31_ (le_refl _) ?_)
 intro w6 xf xa;have H:=L1_ w6 d.heap.size s.length (by rw [Nat.mul_one];exact xf);rw [← Zv9 F] at H;have x9:Below d.heap.size d w6:=(Below.refl _ d).grown xa (le_refl _) (fun i K=>by cases K);have R:=hid x9;have U:=hid H;clear xf xa x9 H;go_wp2
 go_loopw [52] (fun P wr=>∃ k:Nat,P=.int .i64 k∧k≤s.length∧Blk wr d.heap.size 3 (fillM F s.length k)∧Below d.heap.size d wr) (fun P _=>s.length - (intOf P).toNat)
 case atStart=>exact ⟨0,rfl,Nat.zero_le _,U.out,R.out⟩
 case round =>
  clear U R;obtain ⟨k,rfl,hk,hblk,hbr⟩:=hrel;have Hblk:=hid hblk;have Hbr:=hid hbr;by_cases hlt:k<s.length
  ·have yp:(k:Int)<(s.length:Int):=by omega
   have hx0:=(V.out k hlt).1;have hx1:=(V.out k hlt).2;have hfa:=xr.out k hlt;obtain ⟨X,hX⟩:∃ X:Nat,s.getD k 0=(X:Int):=⟨(s.getD k 0).toNat,j29_⟩;rw [hX] at hx0 hx1 hfa;have y4:X<ST.length:=by have:=xy.out;omega
   have yj:(X:Int)<(ST.length:Int):=j29_;rw [show ((X:Int)).toNat=X from rfl] at hfa;obtain ⟨y3,hA,hasb,hcs⟩:=xv.out k hlt;subst hA;obtain ⟨at_,hA,y6,hct⟩:=xx.out X y4;subst hA;rw [hX] at hcs;have gs:=(hbr.cell (p:=y3.add k) y35_).trans hcs;have gt:=(hbr.cell (p:=at_.add X) (by rw [Z2_];exact y6)).trans hct;have gf:=hblk.frozen k;have hsz:=Zv8 (n:=s.length) Hfn.out hk;obtain ⟨xm,gc⟩:∃ xm,wr.cell? ⟨d.heap.size,k,none⟩=some xm:=⟨(fillM F s.length k)[k]'j29_,by rw [hblk.cell];simp [hsz,hlt]⟩;exact k4_
  ·have y9:k=s.length:=by omega
   subst y9;clear hblk hbr;go_wp2
   go_ret2
   exact ⟨_,rfl,Zh0 Hfn.out Hblk.out k31_,Z0_ q.out (le_refl _) Hbr.out,fun A n c h=>by cases h;exact q.out.size⟩
theorem Yf1 (E:Nat→Addr) (n a b:Int) (l:List (List Int)) (i:List Mat) (v c:Value) (w:World) (hv:MatV w w.heap.size v (.mk 6 n a b l i)) (hs:Sml (.mk 6 n a b l i)) (hE:Env E w) (hc:chk (.mk 6 n a b l i)≠0):Calls Tryz.prog 118 #[v,c] w (I5_ w false []):=by
 have d:(chk (.mk 6 n a b l i) != 0)=true:=by simpa using hc
 generalize hD:chk (.mk 6 n a b l i)=D at *
 have Hc:=hid hD;obtain ⟨m,hm⟩:∃ m,m=Mat.mk 6 n a b l i:=⟨_,rfl⟩;rw [← hm] at hv hs Hc;have hmt:m.t=6:=y37_;exact j2_
theorem Yf2 (E:Nat→Addr) (n a b:Int) (l:List (List Int)) (i:List Mat) (v c:Value) (s:List Int) (w:World) (hv:MatV w w.heap.size v (.mk 6 n a b l i)) (hs:Sml (.mk 6 n a b l i)) (hE:Env E w) (hr:Row w w.heap.size c s) (hsl:s.length≤1048576) (hc:chk (.mk 6 n a b l i)=0) (hsub:subB s (allL n)=false):Calls Tryz.prog 118 #[v,c] w (I5_ w false []):=by
 obtain ⟨m,hm⟩:∃ m,m=Mat.mk 6 n a b l i:=⟨_,rfl⟩;rw [← hm] at hv hs hc;have hmt:m.t=6:=y37_;exact j1_
theorem Yf3 (E:Nat→Addr) (n a b:Int) (l:List (List Int)) (i:List Mat) (v sv:Value) (s:List Int) (w:World) (O:MatV w w.heap.size v (.mk 6 n a b l i)) (hs:Sml (.mk 6 n a b l i)) (hE:Env E w) (hr:Row w w.heap.size sv s) (ys:s.length≤1048576) (hc:chk (.mk 6 n a b l i)=0) (M:subB s (allL n)=true):Calls Tryz.prog 118 #[v,sv] w (I5_ w true (imgM (.mk 6 n a b l i) s)):=by
 obtain ⟨m,hm⟩:∃ m,m=Mat.mk 6 n a b l i:=⟨_,rfl⟩;rw [← hm] at O hs hc;rw [← hm];have L:m.t=6:=y37_;rw [show n=m.n by rw [hm];rfl] at M;clear hm;have Hc:=hid hc;have yf:=hid M;obtain ⟨lv,iv,yt,yr,yp⟩:=O.open;have C:=hid (Z1_ w m lv iv);have Hv:=hid (O.up C.out);have HE:=hid (hE.up C.out);have Hblk:=hid (Z3_ w m lv iv);have z:=Hblk.out.cell;have g0:=z 0;have g1:=z 1;have g2:=z 2;have g3:=z 3;have g4:=z 4;have g5:=z 5;subst yt;unfold boxed at *
 rw [L] at g0;have xe:=hid (hr.up C.out);have yl:=C1_ m.n;have yo:=K4_ hc j29_;have Z:=Zc2 hc j29_;have xo:=Xf6 hc M;have hn:=chk_n hc;have U:=Zc3 m s;have hfa:=Xf7 m s;have z4:=sml_r hs (Y2_ m.l 0 [] j29_);obtain ⟨Al,cl,rfl,_,xp⟩:=yr;obtain ⟨Ai,ci,rfl,_,xn⟩:=yp;obtain ⟨u,P,hA,xh,T,xs⟩:=xp 0 j29_;subst hA;obtain ⟨g,ui,hA,xi,xx,xq⟩:=xn 0 j29_;subst hA;rw [add_zero] at T;rw [show (0:Nat) * 6=0 from rfl,add_zero] at xx;obtain ⟨z8,z7,y0,_,_⟩:=xq.open;obtain ⟨x0,x1,x2,x3,x4,x5,o,s0,s1,_⟩:=xx;rw [y0] at o;injection o with o;injection o with o;injection o with _ o;injection o with hx1 _;subst hx1;have z1:(0:Int)<(m.l.length:Int):=j29_;have z2:0<m.l.length:=j29_;have yz:(0:Int)<(m.i.length:Int):=j29_;have z0:0<m.i.length:=j29_;obtain ⟨F,hF⟩:∃ F,F=imgM m s:=⟨_,rfl⟩;rw [← hF] at U hfa;rw [← hF];have Y:stayL m=Z4_ (allL (m.i.getD 0 default).n) (m.l.getD 0 []):=by
  unfold stayL;rw [if_pos L];rfl
 obtain ⟨ST,xg⟩:∃ ST,ST=stayL m:=⟨_,rfl⟩;rw [← xg] at hfa Z Y;have ym:=C1_ (m.i.getD 0 default).n;clear xg hF;generalize m.l.getD 0 []=r at *
 generalize m.i.getD 0 default=x at *
 generalize m.n=N at *
 have yb:=hid Y;have xc:=hid xo;have y5:=hid hfa;have Hfn:=hid U;have x6:=hid xh;have x7:=hid xi;have y6:=hid xs;have y4:=hid T;have y9:=hid s1;have xd:=hid L;have z6:(s.length:Int)≤1048576:=j29_;have z5:(ST.length:Int)≤64:=j29_;have yd:=hid Z;obtain ⟨i0,V,yu,yv,hz2⟩:=info_parts info3;clear O hE z hc M Y xo hfa U xp xn xs T s0 s1 xq y0 xh xi yo Z
 go_enter Tryz.func118,Tryz.ntmps118
 rw [xd.out] at Hv Hblk C HE xe;rw [xd.out];clear L
 go_wp2_with fail
 refine (Q2_ E m _ _ Hv.out hs HE.out).mono ?_;rintro e w1 ⟨rfl,H⟩;rw [Hc.out];have y2:=hid (Z0_ C.out (le_refl _) H);have Q:=hid (Hblk.out.below H x30_);have yg:=hid (xe.out.up H);have c1:=Q.out.cell 1;clear H g0 g1 g2 g3 g4 g5
 go_wp2_with fail
 refine (F0_ _ _).mono ?_;rintro e w2 ⟨v2,rfl,xt,I⟩;have y3:=hid (Z0_ y2.out (le_refl _) I);have xa:=hid (Q.out.below I Q.out.lt);have xf:=hid (yg.out.up I);have y7:=hid xt;clear I xt c1
 go_wp2_with fail
 refine (P1_ _ _ s (allL N) _ xf.out y7.out ys yl).mono ?_;rintro e j ⟨rfl,J⟩;rw [yf.out];have q:=hid (Z0_ y3.out (le_refl _) J);have D:=hid (xa.out.below J xa.out.lt);have yh:=hid (xf.out.up J);have c0:=D.out.cell 0;have c4:=D.out.cell 4;have cr:=(q.out.cell (p:=u) x6.out).trans y4.out;have y8:=hid ((y6.out.below q.out).mono q.out.size);clear J;go_wp2;have hlt:w.heap.size<j.heap.size:=D.out.lt;have xk:u.block<j.heap.size:=Nat.lt_of_lt_of_le x6.out q.out.size;have xj:g.block<j.heap.size:=Nat.lt_of_lt_of_le x7.out q.out.size;have R:Hid (∀ W,Below j.drew.heap.size j.drew W→W.cell? ⟨w.heap.size,4,none⟩=some (.slice (some u) m.l.length cl)∧W.cell? ⟨w.heap.size,5,none⟩=some (.slice (some g) m.i.length ci)∧W.cell? u=some P∧W.cell? ⟨g.block,g.off+1,none⟩=some (.int .i64 x.n)):=fun W G =>
  ⟨(G.cell (p:=⟨w.heap.size,4,none⟩) hlt).trans (D.out.cell 4),(G.cell (p:=⟨w.heap.size,5,none⟩) hlt).trans (D.out.cell 5),(G.cell (p:=u) xk).trans cr,
   (G.cell (p:=⟨g.block,g.off+1,none⟩) xj).trans ((q.out.cell (p:=⟨g.block,g.off+1,none⟩) x7.out).trans y9.out)⟩
 clear c0 c4 cr
 go_region_held3 (fun W=>W.cell? ⟨w.heap.size,4,none⟩=some (.slice (some u) m.l.length cl)∧W.cell? ⟨w.heap.size,5,none⟩=some (.slice (some g) m.i.length ci)∧W.cell? u=some P∧W.cell? ⟨g.block,g.off+1,none⟩=some (.int .i64 x.n))
  (first | exact R.out _ (Below.refl _ _) | exact R.out _ B | exact R.out _ (Z0_ B (le_refl _) K))
  (first
  | (go_at_call 51;refine (F0_ _ _).mono ?_;rintro e w4 ⟨v4,rfl,xu,B⟩;have xw:Row w4 w4.heap.size P r:=(show Row j.drew j.drew.heap.size P r from y8.out).up B)
  | (go_at_call 50;refine (B6_ _ _ (allL x.n) r _ xu xw ym j29_).mono ?_;rintro e d ⟨v5,rfl,xv,K⟩))
 have x8:=hid (Z0_ (Z0_ q.out.drew (le_refl _) B) (le_refl _) K);have ye:Hid (Row d d.heap.size v5 ST):=by
  show Row _ _ _ _;rw [yb.out];exact xv
 have yi:=hid ((show Row j.drew j.drew.heap.size sv s from yh.out).up (Z0_ B (le_refl _) K));clear B K xu xw xv hlt xk xj;generalize v5=vst at *
 obtain ⟨As,cs,rfl,_,xy⟩:=id yi.out;obtain ⟨yw,yx,rfl,_,xz⟩:=id ye.out;have yc:=hid xz;clear xz;go_simp;have ya:=hid xy;clear xy
 go_wp2_with (at_make;refine wpList_make_full d rfl _ _ 26 rfl d.heap.size 3 i0 (.int .i64 0) 1 k29_ V yu yv .i64 .i64 _ _ s.length rfl rfl z31_ z31_ j35_ k31_ (le_refl _) ?_)
 intro w6 xr xm;have S:=L1_ w6 d.heap.size s.length (by rw [Nat.mul_one];exact xr);rw [← Zv9 F] at S;have xl:Below d.heap.size d w6:=(Below.refl _ d).grown xm (le_refl _) (fun i V=>by cases V);have x9:=hid xl;have xb:=hid S;clear xr xm xl S;go_wp2
 go_loopw [52] (fun vk wr=>∃ k:Nat,vk=.int .i64 k∧k≤s.length∧Blk wr d.heap.size 3 (fillM F s.length k)∧Below d.heap.size d wr) (fun vk _=>s.length - (intOf vk).toNat)
 case atStart=>exact ⟨0,rfl,Nat.zero_le _,xb.out,x9.out⟩
 case round =>
  clear xb x9;obtain ⟨k,rfl,hk,hblk,hbr⟩:=hrel;have Hblk:=hid hblk;have Hbr:=hid hbr;by_cases hlt:k<s.length
  ·have z3:(k:Int)<(s.length:Int):=by omega
   have hx0:=(xc.out k hlt).1;have hx1:=(xc.out k hlt).2;have hfa:=y5.out k hlt;obtain ⟨X,hX⟩:∃ X:Nat,s.getD k 0=(X:Int):=⟨(s.getD k 0).toNat,j29_⟩;rw [hX] at hx0 hx1 hfa;have yk:X<ST.length:=by have:=yd.out;omega
   have yy:(X:Int)<(ST.length:Int):=j29_;rw [show ((X:Int)).toNat=X from rfl] at hfa;obtain ⟨yj,hA,hasb,hcs⟩:=ya.out k hlt;subst hA;obtain ⟨at_,hA,yn,hct⟩:=yc.out X yk;subst hA;rw [hX] at hcs;have gs:=(hbr.cell (p:=yj.add k) y35_).trans hcs;have gt:=(hbr.cell (p:=at_.add X) (by rw [Z2_];exact yn)).trans hct;have gf:=hblk.frozen k;have hsz:=Zv8 (n:=s.length) Hfn.out hk;obtain ⟨y1,gc⟩:∃ y1,wr.cell? ⟨d.heap.size,k,none⟩=some y1:=⟨(fillM F s.length k)[k]'j29_,by rw [hblk.cell];simp [hsz,hlt]⟩;exact k4_
  ·have yq:k=s.length:=by omega
   subst yq;clear hblk hbr;go_wp2
   go_ret2
   exact ⟨_,rfl,Zh0 Hfn.out Hblk.out k31_,Z0_ x8.out (le_refl _) Hbr.out,fun A n c h=>by cases h;exact x8.out.size⟩
theorem Zl6 (E:Nat→Addr) (m:Mat) (v d:Value) (s:List Int) (w:World) (g:MatV w w.heap.size v m) (hs:Sml m) (h:Env E w) (j:Row w w.heap.size d s) (k:s.length≤1048576):Calls Tryz.prog 118 #[v,d] w (I5_ w (imgB m s) (imgL m s)):=by
 unfold imgL;by_cases c:m.t=5∨m.t=6
 ·by_cases hc:chk m=0
  ·rcases hsub:subB s (allL m.n) with _ | _
   ·rw [show imgB m s=false by unfold imgB;rw [hsub];simp,if_neg y30_]
    obtain ⟨t,n,a,b,l,i⟩:=m;rcases c with c | c<;>cases c
    ·exact Ye9 E n a b l i v d s w g hs h j k hc hsub
    ·exact Yf2 E n a b l i v d s w g hs h j k hc hsub
   ·rw [show imgB m s=true by unfold imgB;rw [hsub,decide_eq_true c,decide_eq_true hc];rfl,if_pos rfl]
    obtain ⟨t,n,a,b,l,i⟩:=m;rcases c with c | c<;>cases c
    ·exact Yf0 E n a b l i v d s w g hs h j k hc hsub
    ·exact Yf3 E n a b l i v d s w g hs h j k hc hsub
  ·rw [show imgB m s=false by unfold imgB;rw [decide_eq_false hc];simp,if_neg y30_]
   obtain ⟨t,n,a,b,l,i⟩:=m;rcases c with c | c<;>cases c
   ·exact Ye8 E n a b l i v d w g hs h hc
   ·exact Yf1 E n a b l i v d w g hs h hc
 ·rw [show imgB m s=false by unfold imgB;rw [decide_eq_false c];simp,if_neg y30_]
  exact Yu0 m v d w g (fun e=>c (.inl e)) (fun e=>c (.inr e))
open Go.RowKit
theorem Ze2 (v:Value) (l:List Int) (n:Int) (w:World) (m:Row w w.heap.size v l):Calls Tryz.prog 33 #[v,.int .i64 n] w (Says w (okA n l)):=by
 have Hr:=hid m;obtain ⟨A,c,rfl,hcap,k⟩:=m;have s:(l.length:Int)≤9223372036854775807:=j6_;have hlm:l.length≤9223372036854775807:=j29_;have o:=hid k;clear hcap k;rcases hm:mayB l with _ | _
 ·rw [Yh3 hm]
  have Hm:=hid hm;clear hm;exact x28_
 ·have Hm:=hid hm
  clear hm;by_cases d:l.length=0
  ·rw [Za8 Hm.out d]
   have q:((l.length:Int)==0)=true:=by simpa using d
   clear d;exact x28_
  ·obtain ⟨x,j⟩:∃ x,l.getD (l.length - 1) 0=x:=⟨_,rfl⟩
   obtain ⟨al,r,halb,h⟩:=o.out (l.length - 1) j29_;rw [S6_ Hm.out j29_ j];rw [j] at h;subst r;obtain ⟨L,g⟩:∃ L,l.length=L:=⟨_,rfl⟩;have u:=hid g;rw [g] at h Hr s d;rw [g];have q:((L:Int)==0)=false:=by simpa using d
   have z:(0:Int)<(L:Int):=j29_;have B:IntKind.i64.wrap ((L:Int) - 1)=(L:Int) - 1:=k30_;have C:(0:Int)≤(L:Int) - 1:=j29_;have D:(L:Int) - 1<(L:Int):=j29_;have E:((L:Int) - 1).toNat=L - 1:=j29_;clear j d g
   go_enter Tryz.func33,Tryz.ntmps33
   go_wp2_with fail
   refine (M9_ _ l w Hr.out hlm Hm.out).mono ?_;rintro e w1 ⟨rfl,hb1⟩;have Hb1:=hid hb1;have y:=(hb1.cell (p:=al.add (L - 1)) z33_).trans h;clear hb1 h;exact z1_
end Wp
end Go.Proofs.YtnbcaibflhgdoaaGreatDoor
namespace Go.Proofs.YtnbcaibflhgdoaaGreatDoor.Wp
open Go Go.RowKit
theorem Xr9 {n:Int} {l:List Int} (d:0≤n) (f:n≤64):okA n l=subB l (allL n):=by
 rw [Bool.eq_iff_iff];constructor
 ·intro h
  obtain ⟨c,h3⟩:=Yl8 h;exact Zo5 d f c h3
 ·intro h
  obtain ⟨c,_,h3⟩:=subB_iff.1 h;have e:mayB l=true:=mayB_iff.2 c;by_cases hl:l.length=0
  ·exact Za8 e hl
  ·rw [S6_ e j29_ rfl,decide_eq_true_iff]
   have g:=h3 (l.getD (l.length - 1) 0) (by rw [show l.getD (l.length - 1) 0=l[l.length - 1]'j29_ by simp [List.getD,show l.length - 1<l.length by omega]];exact List.getElem_mem _);exact ((A0_ d j29_ _).1 g).2
theorem ok_n {k:Nat} {m:Mat} (h:ok k m=true):0≤m.n∧m.n≤64:=by
 cases k with
 | zero=>cases h
 | succ k=>have:=(X2_ (Yz1 h)).2.1;omega
theorem Vj3 {k:Nat} {i:List Mat} (h:i.all (ok k)=true) (hl:i.length≤8):0≤tog i∧tog i≤512:=by
 have:=Yl4 (l:=i) (fun x c=>ok_n (List.all_eq_true.1 h x c)) j29_;omega
theorem Vj4 {x:Mat} (h:0≤x.n∧x.n≤64):tog [x]=x.n:=by
 show IntKind.i64.wrap (0+x.n)=x.n;rw [J1_ j29_ j29_];omega
def headB (m:Mat):Bool:=decide (m.b=0) && (decide (m.a=0) || decide (m.t=7)) && decide (1≤m.i.length) && decide (m.i.length≤8) && (decide (m.i.length≤1) || decide (m.t=9))
def tailB (S:Int) (m:Mat):Bool :=
 if 7≤m.t then decide (m.l.length=0) && decide (m.n=S)
 else decide (m.l.length=1) && okA S (row m 0) && (if m.t=5 then decide (m.n=(row m 0).length) else decide (m.n=IntKind.i64.wrap (S - (row m 0).length)))
theorem Xs0 {m:Mat} (c:0≤m.n∧m.n≤64∧0≤m.a∧m.a≤64) (d:nest m.t):(bad m=0)↔Z6_ (form m.t) m=true∧fitsB m=true:=by
 unfold nest at d;exact ⟨fun h=>⟨(X2_ h).2.2.1,(X2_ h).2.2.2⟩,fun h=>Yl3 j29_ c h.1 h.2⟩
theorem Xs1 {k:Nat} {m:Mat} (q:0≤m.n∧m.n≤64∧0≤m.a∧m.a≤64) (j:nest m.t):ok (k+1) m=(headB m && m.i.all (ok k) && tailB (tog m.i) m):=by
 rw [ok];rcases hall:m.i.all (ok k) with _ | _
 ·simp
 rw [Bool.and_true,Bool.and_true,Bool.eq_iff_iff,decide_eq_true_iff,Xs0 q j,takes_iff,Bool.and_eq_true];obtain ⟨t,n,a,b,l,i⟩:=m;unfold nest at j;unfold headB tailB;change 5≤t∧t≤9 at j;change 0≤n∧n≤64∧0≤a∧a≤64 at q;change i.all (ok k)=true at hall;obtain ⟨S,e⟩:∃ S,tog (Mat.mk t n a b l i).i=S:=⟨_,rfl⟩;rw [e];change tog i=S at e;have s:row (.mk t n a b l i) 0=l.getD 0 []:=rfl;have r:t=5∨t=6→i.length=1→∃ x,i=[x]∧tog i=x.n∧partB (.mk t n a b l i)=okA x.n (l.getD 0 [])∧0≤x.n∧x.n≤64:=fun _ c=>by
  obtain ⟨x,rfl⟩:=List.length_eq_one_iff.1 c;have d:=ok_n (List.all_eq_true.1 hall x x30_);refine ⟨x,rfl,Vj4 d,?_,d⟩;rw [Xr9 d.1 d.2];rfl
 have f:7≤t→fitsB (.mk t n a b l i)=decide (n=S):=fun h=>by rw [← e];exact K3_ (by show t=7∨t=8∨t=9;omega)
 rcases (by omega:t=5∨t=6∨t=7∨t=8∨t=9) with rfl | rfl | rfl | rfl | rfl
 ·have g:fitsB (.mk 5 n a b l i)=(partB (.mk 5 n a b l i) && decide (n=(l.getD 0 []).length)):=rfl
  rw [g,s];by_cases c:i.length=1
  ·obtain ⟨x,d,p,o,_⟩:=r (.inl rfl) c
   rw [o,← e,p];simp [form,c,Mat.t,Mat.n,Mat.a,Mat.b,Mat.l,Mat.i]
   grind
  ·exact j8_
 ·have g:fitsB (.mk 6 n a b l i)=(partB (.mk 6 n a b l i) && decide (IntKind.i64.wrap (n+(l.getD 0 []).length)=(inn (.mk 6 n a b l i)).n)):=rfl
  rw [g,s];by_cases c:i.length=1
  ·obtain ⟨x,d,p,o,v,w⟩:=r (.inr rfl) c
   have u:(inn (.mk 6 n a b l i)).n=x.n:=by rw [d];rfl
   rw [o,u,← e,p];rcases ho:okA x.n (l.getD 0 []) with _ | _
   ·simp [Mat.t,Mat.n,Mat.a,Mat.b,Mat.l,Mat.i]
   ·obtain ⟨y,z⟩:=Yl8 ho
    have A:=Xm4 v w y z;rw [J1_ j29_ j29_,J1_ j29_ j29_];simp [form,c,Mat.t,Mat.n,Mat.a,Mat.b,Mat.l,Mat.i]
    grind
  ·exact j8_
 ·rw [f j29_]
  exact j8_
 ·rw [f j29_]
  exact j8_
 ·rw [f j29_]
  exact j8_
theorem Yx9 {p:Mat→Bool} {i:List Mat} {k:Nat} (c:k<i.length) (h:p (i.getD k default)=false):i.all p=false:=by
 rw [List.all_eq_false];refine ⟨i[k],List.getElem_mem c,?_⟩;rw [show i.getD k default=i[k] by simp [List.getD,c]] at h;simp [h]
theorem Yv0 {p:Mat→Bool} {i:List Mat} (h:∀ k,k<i.length→p (i.getD k default)=true):i.all p=true:=by
 rw [List.all_eq_true];intro x d;obtain ⟨k,c,rfl⟩:=List.mem_iff_getElem.1 d;have:=h k c
 rwa [show i.getD k default=i[k] by simp [List.getD,c]] at this
def sumsI (k:Nat) (m:Mat):Int:=if m.i.all (ok k)=true then tog m.i else -1
end Go.Proofs.YtnbcaibflhgdoaaGreatDoor.Wp
namespace Go.Proofs.YtnbcaibflhgdoaaGreatDoor
open Go.RowKit
namespace Wp
def MayAt (k:Nat):Prop:=∀ (m:Mat) (v:Value) (w:World),MatV w w.heap.size v m→Sml m→dp k m≤k→Calls Tryz.prog 37 #[v] w (Says w (ok k m))
theorem Xd5 (k:Nat) (ih:MayAt k) (m:Mat) (v:Value) (w:World) (V:MatV w w.heap.size v m) (hs:Sml m) (hd:∀ x∈m.i,dp k x≤k):Calls Tryz.prog 70 #[v] w (Tells w (sumsI k m)):=by
 obtain ⟨F,iv,rfl,_,⟨o,y,rfl,_,P⟩⟩:=V.open;have Hk:=hid P;have Hs:=hid hs;have Hd:=hid hd;have xc:=R9_ hs;have xd:(m.i.length:Int)≤1000:=j29_;have I:=hid (Z1_ w m F (.slice o m.i.length y));have J:=hid (Z3_ w m F (.slice o m.i.length y));obtain ⟨R,z⟩:∃ R,sumsI k m=R:=⟨_,rfl⟩;have H:=hid z;rw [z];unfold boxed at *
 clear V hs hd P z
 go_enter Tryz.func70,Tryz.ntmps70
 go_wp2
 go_loopw [3,4] (fun vn G wr=>∃ i:Nat,vn=.int .i64 (tog (m.i.take i))∧G=.int .i64 i∧i≤m.i.length∧(∀ j,j<i→ok k (m.i.getD j default)=true)∧Blk wr w.heap.size 25 #[.int .i64 m.t,.int .i64 m.n,.int .i64 m.a,.int .i64 m.b,F,.slice o m.i.length y]∧Below w.heap.size w wr) (fun _ G _=>m.i.length - (intOf G).toNat)
 case atStart=>exact ⟨0,rfl,rfl,Nat.zero_le _,fun j O=>absurd O (Nat.not_lt_zero _),J.out,I.out⟩
 case round =>
  obtain ⟨i,rfl,rfl,hi,S,B,M⟩:=hrel;have Hok:=hid S;have Hbr:=hid M;have L:=hid B;have g5:=B.cell 5;obtain ⟨r,d⟩:∃ r,tog (m.i.take i)=r:=⟨_,rfl⟩;have X:=hid d;rw [d];clear S B M J I;by_cases h:i<m.i.length
  ·have xe:(i:Int)<(m.i.length:Int):=by omega
   obtain ⟨s,u,hA,hab,T,Q⟩:=Hk.out i h;subst hA;have xa:=T.below Hbr.out x31_;have D:=(Q.bel Hbr.out).mono Hbr.out.size;have C:=Y2_ m.i i default h;have g:=hid (ih _ u wr D (sml_i Hs.out C) (Hd.out _ C));have E:=Yy1 (l:=m.i) h;rw [d] at E;have x9:=hid E;have x6:=hid (Yx9 (p:=ok k) h);have x7:Hid (ok k (m.i.getD i default)=true→∀ j,j<i+1→ok k (m.i.getD j default)=true):=hid fun hb j O=>y7_;obtain ⟨xg,xf,U,_,_⟩:=D.open;obtain ⟨x0,x1,x2,x3,x4,x5,c,s0,W,s2,s3,s4,s5⟩:=xa;rw [U] at c;injection c with c;injection c with c;injection c with h0 c;injection c with h1 c;injection c with h2 c;injection c with h3 c;injection c with h4 c;injection c with h5 _;subst h0 h1 h2 h3 h4 h5 U;have x8:=hid W;have Y:=hid (show ((s.add (i * 6)).block)<wr.heap.size from by rw [Z2_];exact Nat.lt_of_lt_of_le hab Hbr.out.size);clear d E C T Q D hab Hok;generalize m.i.getD i default=x at *
   rcases hb:ok k x with _ | _
   ·have q:Hid (R=-1):=hid (by rw [← H.out];unfold sumsI;rw [x6.out hb];rfl)
    rw [hb] at g;obtain rfl:=q.out;clear hb
    go_wp2_with fail
    refine (g.out).mono ?_;exact q28_
   ·have Z:=hid hb
    rw [hb] at g;clear hb
    go_wp2_with fail
    refine (g.out).mono ?_;rintro e w1 ⟨rfl,hb1⟩;have Hb1:=hid (Z0_ Hbr.out (le_refl _) hb1);have K:=hid (L.out.below hb1 L.out.lt);have xb:=K.out.cell 5;have xh:=(hb1.cell (p:=⟨(s.add (i * 6)).block,(s.add (i * 6)).off+1,none⟩) Y.out).trans x8.out;clear hb1 s0 W s2 s3 s4 s5 g5;go_wp2
    go_roundw
    case rel=>exact ⟨i+1,by rw [x9.out,Yn9],y31_,j29_,x7.out Z.out,K.out,Hb1.out⟩
    case measure=>simp [intOf];omega
  ·have N:i=m.i.length:=by omega
   have Hie:=hid N;have q:Hid (R=r):=hid (by rw [← H.out,← X.out];unfold sumsI;rw [if_pos (Yv0 k35_),Hie.out,List.take_length]);obtain rfl:=q.out;obtain rfl:=N;clear d;exact z12_
theorem Xd6 (m:Mat) (v:Value) (w:World) (d:MatV w w.heap.size v m) (h:m.n<0∨64<m.n∨m.a<0∨64<m.a):Calls Tryz.prog 37 #[v] w (Says w false):=by
 obtain ⟨g,e,rfl,_,_⟩:=d.open;have Hb0:=hid (Z1_ w m g e);have c:=(Z3_ w m g e).cell;have q:=c 1;have r:=c 2;unfold boxed at *
 clear d c;by_cases j:m.n<0
 ·exact j23_
 by_cases k:64<m.n
 ·exact j23_
 by_cases o:m.a<0
 ·exact j23_
 have p:64<m.a:=j29_;clear h;exact j23_
theorem Yf4 (m:Mat) (v:Value) (w:World) (h:MatV w w.heap.size v m) (hs:Sml m) (x:0≤m.n∧m.n≤64∧0≤m.a∧m.a≤64) (q:¬ nest m.t):Calls Tryz.prog 37 #[v] w (Says w (decide (bad m=0))):=by
 obtain ⟨r,iv,rfl,hl,⟨k,p,rfl,X,Y⟩⟩:=h.open;have u:=hid (h.up (Z1_ w m r (.slice k m.i.length p)));have o:=hid (Z1_ w m r (.slice k m.i.length p));have j:=hid (Z3_ w m r (.slice k m.i.length p));have s:=hid (hl.up o.out);have c:=j.out.cell;have Q:=c 0;have R:=c 1;have S:=c 2;have T:=c 3;have U:=c 4;have V:=c 5;have G:¬ m.n<0:=j29_;have H:¬ 64<m.n:=j29_;have I:¬ m.a<0:=j29_;have J:¬ 64<m.a:=j29_;unfold boxed at *
 have C:=hid q;have E:=hid (fun (v:Value) (W:World) (h:MatV W W.heap.size v m)=>Yc4 m v W h hs x q);generalize decide (bad m=0)=D at *
 clear h q hl X Y c hs x
 go_enter Tryz.func37,Tryz.ntmps37
 go_wp2_with fail
 refine (Y0_ m.t _).mono ?_;rintro e w1 ⟨rfl,g⟩;rw [decide_eq_false C.out];have z:=hid (Z0_ o.out (le_refl _) g);have F:=hid (u.out.up g);have Z:=hid (s.out.up g);have B:=hid (j.out.below g j.out.lt);have d:=B.out.cell;have K:=d 0;have L:=d 1;have M:=d 2;have N:=d 3;have O:=d 4;have P:=d 5;clear d g Q R S T U V G H I J o u s j
 go_wp2_with fail
 refine (E.out _ _ F.out).mono ?_;rintro e w2 ⟨rfl,y⟩;have Hb2:=hid (Z0_ z.out (le_refl _) y);clear y K L M N O P;exact z2_
theorem Xs2 (m:Mat) (v:Value) (w:World) (h:MatV w w.heap.size v m) (_hs:Sml m) (o:0≤m.n∧m.n≤64∧0≤m.a∧m.a≤64) (k:nest m.t) (q1:m.b≠0):Calls Tryz.prog 37 #[v] w (Says w false):=by
 obtain ⟨j,s,rfl,hl,⟨d,g,rfl,p,q⟩⟩:=h.open;have Hv:=hid (h.up (Z1_ w m j (.slice d m.i.length g)));have Hb0:=hid (Z1_ w m j (.slice d m.i.length g));have Hblk:=hid (Z3_ w m j (.slice d m.i.length g));have Hl:=hid (hl.up Hb0.out);have c:=Hblk.out.cell;have g0:=c 0;have g1:=c 1;have g2:=c 2;have g3:=c 3;have g4:=c 4;have g5:=c 5;have a3:¬ m.n<0:=j29_;have a4:¬ 64<m.n:=j29_;have a5:¬ m.a<0:=j29_;have a6:¬ 64<m.a:=j29_;unfold boxed at *
 have Hn:=hid k;clear h k hl p q c o;have r:(m.b != 0)=true:=x32_;clear q1;exact y0_
theorem Xs3 (m:Mat) (v:Value) (w:World) (h:MatV w w.heap.size v m) (_hs:Sml m) (o:0≤m.n∧m.n≤64∧0≤m.a∧m.a≤64) (k:nest m.t) (q1:m.b=0) (q2:m.a≠0) (q3:m.t≠7):Calls Tryz.prog 37 #[v] w (Says w false):=by
 obtain ⟨j,x,rfl,hl,⟨d,g,rfl,p,q⟩⟩:=h.open;have Hv:=hid (h.up (Z1_ w m j (.slice d m.i.length g)));have Hb0:=hid (Z1_ w m j (.slice d m.i.length g));have Hblk:=hid (Z3_ w m j (.slice d m.i.length g));have Hl:=hid (hl.up Hb0.out);have c:=Hblk.out.cell;have g0:=c 0;have g1:=c 1;have g2:=c 2;have g3:=c 3;have g4:=c 4;have g5:=c 5;have a3:¬ m.n<0:=j29_;have a4:¬ 64<m.n:=j29_;have a5:¬ m.a<0:=j29_;have a6:¬ 64<m.a:=j29_;unfold boxed at *
 have Hn:=hid k;clear h k hl p q c o;have r:(m.b != 0)=false:=x32_;clear q1;have s:(m.a != 0)=true:=y32_;have u:(m.t != 7)=true:=j36_;clear q2 q3;exact y0_
theorem Xd7 (m:Mat) (v:Value) (w:World) (h:MatV w w.heap.size v m) (_hs:Sml m) (o:0≤m.n∧m.n≤64∧0≤m.a∧m.a≤64) (k:nest m.t) (q1:m.b=0) (q2:m.a=0) (q4:m.i.length<1):Calls Tryz.prog 37 #[v] w (Says w false):=by
 obtain ⟨j,x,rfl,hl,⟨d,g,rfl,p,q⟩⟩:=h.open;have Hv:=hid (h.up (Z1_ w m j (.slice d m.i.length g)));have Hb0:=hid (Z1_ w m j (.slice d m.i.length g));have Hblk:=hid (Z3_ w m j (.slice d m.i.length g));have Hl:=hid (hl.up Hb0.out);have c:=Hblk.out.cell;have g0:=c 0;have g1:=c 1;have g2:=c 2;have g3:=c 3;have g4:=c 4;have g5:=c 5;have a3:¬ m.n<0:=j29_;have a4:¬ 64<m.n:=j29_;have a5:¬ m.a<0:=j29_;have a6:¬ 64<m.a:=j29_;unfold boxed at *
 have Hn:=hid k;clear h k hl p q c o;have r:(m.b != 0)=false:=x32_;clear q1;have s:(m.a != 0)=false:=y32_;clear q2;have u:(m.i.length:Int)<1:=j29_;clear q4;exact y0_
theorem Xd8 (m:Mat) (v:Value) (w:World) (h:MatV w w.heap.size v m) (_hs:Sml m) (o:0≤m.n∧m.n≤64∧0≤m.a∧m.a≤64) (k:nest m.t) (q1:m.b=0) (q2:m.a≠0) (q3:m.t=7) (q4:m.i.length<1):Calls Tryz.prog 37 #[v] w (Says w false):=by
 obtain ⟨j,y,rfl,hl,⟨d,g,rfl,p,q⟩⟩:=h.open;have Hv:=hid (h.up (Z1_ w m j (.slice d m.i.length g)));have Hb0:=hid (Z1_ w m j (.slice d m.i.length g));have Hblk:=hid (Z3_ w m j (.slice d m.i.length g));have Hl:=hid (hl.up Hb0.out);have c:=Hblk.out.cell;have g0:=c 0;have g1:=c 1;have g2:=c 2;have g3:=c 3;have g4:=c 4;have g5:=c 5;have a3:¬ m.n<0:=j29_;have a4:¬ 64<m.n:=j29_;have a5:¬ m.a<0:=j29_;have a6:¬ 64<m.a:=j29_;unfold boxed at *
 have Hn:=hid k;clear h k hl p q c o;have r:(m.b != 0)=false:=x32_;clear q1;have s:(m.a != 0)=true:=y32_;have u:(m.t != 7)=false:=j36_;clear q2 q3;have x:(m.i.length:Int)<1:=j29_;clear q4;exact y0_
theorem Xd9 (m:Mat) (v:Value) (w:World) (h:MatV w w.heap.size v m) (_hs:Sml m) (o:0≤m.n∧m.n≤64∧0≤m.a∧m.a≤64) (k:nest m.t) (q1:m.b=0) (q2:m.a=0) (q4:8<m.i.length):Calls Tryz.prog 37 #[v] w (Says w false):=by
 obtain ⟨j,u,rfl,hl,⟨d,g,rfl,p,q⟩⟩:=h.open;have Hv:=hid (h.up (Z1_ w m j (.slice d m.i.length g)));have Hb0:=hid (Z1_ w m j (.slice d m.i.length g));have Hblk:=hid (Z3_ w m j (.slice d m.i.length g));have Hl:=hid (hl.up Hb0.out);have c:=Hblk.out.cell;have g0:=c 0;have g1:=c 1;have g2:=c 2;have g3:=c 3;have g4:=c 4;have g5:=c 5;have a3:¬ m.n<0:=j29_;have a4:¬ 64<m.n:=j29_;have a5:¬ m.a<0:=j29_;have a6:¬ 64<m.a:=j29_;unfold boxed at *
 have Hn:=hid k;clear h k hl p q c o;have r:(m.b != 0)=false:=x32_;clear q1;have s:(m.a != 0)=false:=y32_;clear q2;exact y26_
theorem Xe0 (m:Mat) (v:Value) (w:World) (h:MatV w w.heap.size v m) (_hs:Sml m) (o:0≤m.n∧m.n≤64∧0≤m.a∧m.a≤64) (k:nest m.t) (q1:m.b=0) (q2:m.a≠0) (q3:m.t=7) (q4:8<m.i.length):Calls Tryz.prog 37 #[v] w (Says w false):=by
 obtain ⟨j,x,rfl,hl,⟨d,g,rfl,p,q⟩⟩:=h.open;have Hv:=hid (h.up (Z1_ w m j (.slice d m.i.length g)));have Hb0:=hid (Z1_ w m j (.slice d m.i.length g));have Hblk:=hid (Z3_ w m j (.slice d m.i.length g));have Hl:=hid (hl.up Hb0.out);have c:=Hblk.out.cell;have g0:=c 0;have g1:=c 1;have g2:=c 2;have g3:=c 3;have g4:=c 4;have g5:=c 5;have a3:¬ m.n<0:=j29_;have a4:¬ 64<m.n:=j29_;have a5:¬ m.a<0:=j29_;have a6:¬ 64<m.a:=j29_;unfold boxed at *
 have Hn:=hid k;clear h k hl p q c o;have r:(m.b != 0)=false:=x32_;clear q1;have s:(m.a != 0)=true:=y32_;have u:(m.t != 7)=false:=j36_;clear q2 q3;exact y26_
theorem Xe1 (m:Mat) (v:Value) (w:World) (h:MatV w w.heap.size v m) (_hs:Sml m) (o:0≤m.n∧m.n≤64∧0≤m.a∧m.a≤64) (k:nest m.t) (q1:m.b=0) (q2:m.a=0) (q4:1<m.i.length) (q5:m.i.length≤8) (q6:m.t≠9):Calls Tryz.prog 37 #[v] w (Says w false):=by
 obtain ⟨j,u,rfl,hl,⟨d,g,rfl,p,q⟩⟩:=h.open;have Hv:=hid (h.up (Z1_ w m j (.slice d m.i.length g)));have Hb0:=hid (Z1_ w m j (.slice d m.i.length g));have Hblk:=hid (Z3_ w m j (.slice d m.i.length g));have Hl:=hid (hl.up Hb0.out);have c:=Hblk.out.cell;have g0:=c 0;have g1:=c 1;have g2:=c 2;have g3:=c 3;have g4:=c 4;have g5:=c 5;have a3:¬ m.n<0:=j29_;have a4:¬ 64<m.n:=j29_;have a5:¬ m.a<0:=j29_;have a6:¬ 64<m.a:=j29_;unfold boxed at *
 have Hn:=hid k;clear h k hl p q c o;have r:(m.b != 0)=false:=x32_;clear q1;have s:(m.a != 0)=false:=y32_;clear q2;exact x24_
theorem Xe2 (m:Mat) (v:Value) (w:World) (h:MatV w w.heap.size v m) (_hs:Sml m) (o:0≤m.n∧m.n≤64∧0≤m.a∧m.a≤64) (k:nest m.t) (q1:m.b=0) (q2:m.a≠0) (q3:m.t=7) (q4:1<m.i.length) (q5:m.i.length≤8) (q6:m.t≠9):Calls Tryz.prog 37 #[v] w (Says w false):=by
 obtain ⟨j,x,rfl,hl,⟨d,g,rfl,p,q⟩⟩:=h.open;have Hv:=hid (h.up (Z1_ w m j (.slice d m.i.length g)));have Hb0:=hid (Z1_ w m j (.slice d m.i.length g));have Hblk:=hid (Z3_ w m j (.slice d m.i.length g));have Hl:=hid (hl.up Hb0.out);have c:=Hblk.out.cell;have g0:=c 0;have g1:=c 1;have g2:=c 2;have g3:=c 3;have g4:=c 4;have g5:=c 5;have a3:¬ m.n<0:=j29_;have a4:¬ 64<m.n:=j29_;have a5:¬ m.a<0:=j29_;have a6:¬ 64<m.a:=j29_;unfold boxed at *
 have Hn:=hid k;clear h k hl p q c o;have r:(m.b != 0)=false:=x32_;clear q1;have s:(m.a != 0)=true:=y32_;have u:(m.t != 7)=false:=j36_;clear q2 q3;exact x24_
theorem Yu1 (m:Mat) (v:Value) (w:World) (e:MatV w w.heap.size v m) (hs:Sml m) (c:0≤m.n∧m.n≤64∧0≤m.a∧m.a≤64) (d:nest m.t) (h:headB m=false):Calls Tryz.prog 37 #[v] w (Says w false):=by
 unfold headB at h;by_cases q1:m.b=0
 ·by_cases q2:m.a=0
  ·by_cases q4:m.i.length<1
   ·exact Xd7 m v w e hs c d q1 q2 q4
   by_cases q5:8<m.i.length
   ·exact Xd9 m v w e hs c d q1 q2 q5
   exact Xe1 m v w e hs c d q1 q2 (by simp [q1,q2] at h;omega) j29_ (by simp [q1,q2] at h;omega)
  ·by_cases q3:m.t=7
   ·by_cases q4:m.i.length<1
    ·exact Xd8 m v w e hs c d q1 q2 q3 q4
    by_cases q5:8<m.i.length
    ·exact Xe0 m v w e hs c d q1 q2 q3 q5
    exact Xe2 m v w e hs c d q1 q2 q3 (by simp [q1,q3] at h;omega) j29_ j29_
   ·exact Xs3 m v w e hs c d q1 q2 q3
 ·exact Xs2 m v w e hs c d q1
theorem Yu2 (m:Mat) (v:Value) (w:World) (hv:MatV w w.heap.size v m) (_hs:Sml m) (h2:0≤m.n∧m.n≤64∧0≤m.a∧m.a≤64) (hn:nest m.t) (S:Int) (Hsum:∀ (v:Value) (W:World),MatV W W.heap.size v m→Calls Tryz.prog 70 #[v] W (Tells W S)) (q1:m.b=0) (q2:m.a=0) (q4:m.i.length=1) (q7:S<0):Calls Tryz.prog 37 #[v] w (Says w false):=by
 have Hsum:=hid Hsum;obtain ⟨p,o,rfl,hl,⟨c,g,rfl,hci,hki⟩⟩:=hv.open;obtain ⟨d,h,rfl,j,k⟩:=id hl;have Hv:=hid (hv.up (Z1_ w m (.slice d m.l.length h) (.slice c m.i.length g)));have Hb0:=hid (Z1_ w m (.slice d m.l.length h) (.slice c m.i.length g));have Hblk:=hid (Z3_ w m (.slice d m.l.length h) (.slice c m.i.length g));have Hl:=hid (hl.up Hb0.out);have gb:=Hblk.out.cell;have g0:=gb 0;have g1:=gb 1;have g2:=gb 2;have g3:=gb 3;have g4:=gb 4;have g5:=gb 5;have a3:¬ m.n<0:=j29_;have a4:¬ 64<m.n:=j29_;have a5:¬ m.a<0:=j29_;have a6:¬ 64<m.a:=j29_;unfold boxed at *
 have Hn:=hid hn;exact z23_
theorem Yu3 (m:Mat) (v:Value) (w:World) (o:MatV w w.heap.size v m) (_hs:Sml m) (q:0≤m.n∧m.n≤64∧0≤m.a∧m.a≤64) (p:nest m.t) (S:Int) (Hsum:∀ (v:Value) (W:World),MatV W W.heap.size v m→Calls Tryz.prog 70 #[v] W (Tells W S)) (q1:m.b=0) (q2:m.a=0) (q4:m.i.length=1) (q7:¬ S<0) (q8:7≤m.t):Calls Tryz.prog 37 #[v] w (Says w (decide (m.l.length=0) && decide (m.n=S))):=by
 have Hsum:=hid Hsum;obtain ⟨B,z,rfl,hl,⟨d,j,rfl,r,s⟩⟩:=o.open;obtain ⟨g,k,rfl,x,y⟩:=id hl;have Hv:=hid (o.up (Z1_ w m (.slice g m.l.length k) (.slice d m.i.length j)));have Hb0:=hid (Z1_ w m (.slice g m.l.length k) (.slice d m.i.length j));have Hblk:=hid (Z3_ w m (.slice g m.l.length k) (.slice d m.i.length j));have Hl:=hid (hl.up Hb0.out);have c:=Hblk.out.cell;have g0:=c 0;have g1:=c 1;have g2:=c 2;have g3:=c 3;have g4:=c 4;have g5:=c 5;have a3:¬ m.n<0:=j29_;have a4:¬ 64<m.n:=j29_;have a5:¬ m.a<0:=j29_;have a6:¬ 64<m.a:=j29_;unfold boxed at *
 have Hn:=hid p;obtain ⟨L0,hL0⟩:∃ L0,decide (m.l.length=0)=L0:=⟨_,rfl⟩;obtain ⟨h,hN0⟩:∃ h,decide (m.n=S)=h:=⟨_,rfl⟩;rw [hL0,hN0];have u:((m.l.length:Int)==0)=L0:=q34_;have f1:(m.n==S)=h:=j34_;clear hL0 hN0;clear o p r s c q;have e1:(m.b != 0)=false:=x32_;clear q1;have e2:(m.a != 0)=false:=y32_;have e4:¬ (m.i.length:Int)<1:=j29_;have e5:¬ (8:Int)<(m.i.length:Int):=j29_;have e6:¬ (1:Int)<(m.i.length:Int):=j29_;clear q2 q4;exact x1_
theorem Yu4 (m:Mat) (v:Value) (w:World) (k:MatV w w.heap.size v m) (_hs:Sml m) (p:0≤m.n∧m.n≤64∧0≤m.a∧m.a≤64) (o:nest m.t) (S:Int) (Hsum:∀ (v:Value) (W:World),MatV W W.heap.size v m→Calls Tryz.prog 70 #[v] W (Tells W S)) (q1:m.b=0) (q2:m.a≠0) (q3:m.t=7) (q4:m.i.length=1) (q7:S<0):Calls Tryz.prog 37 #[v] w (Says w false):=by
 have Hsum:=hid Hsum;obtain ⟨z,y,rfl,hl,⟨d,h,rfl,q,r⟩⟩:=k.open;obtain ⟨g,j,rfl,u,x⟩:=id hl;have Hv:=hid (k.up (Z1_ w m (.slice g m.l.length j) (.slice d m.i.length h)));have Hb0:=hid (Z1_ w m (.slice g m.l.length j) (.slice d m.i.length h));have Hblk:=hid (Z3_ w m (.slice g m.l.length j) (.slice d m.i.length h));have Hl:=hid (hl.up Hb0.out);have c:=Hblk.out.cell;have g0:=c 0;have g1:=c 1;have g2:=c 2;have g3:=c 3;have g4:=c 4;have g5:=c 5;have a3:¬ m.n<0:=j29_;have a4:¬ 64<m.n:=j29_;have a5:¬ m.a<0:=j29_;have a6:¬ 64<m.a:=j29_;unfold boxed at *
 have Hn:=hid o;clear k o q r c p;have e1:(m.b != 0)=false:=x32_;clear q1;have e2:(m.a != 0)=true:=y32_;have s:(m.t != 7)=false:=j36_;have e4:¬ (m.i.length:Int)<1:=j29_;have e5:¬ (8:Int)<(m.i.length:Int):=j29_;have e6:¬ (1:Int)<(m.i.length:Int):=j29_;clear q2 q3 q4;exact j0_
theorem Yu5 (m:Mat) (v:Value) (w:World) (o:MatV w w.heap.size v m) (_hs:Sml m) (q:0≤m.n∧m.n≤64∧0≤m.a∧m.a≤64) (p:nest m.t) (S:Int) (Hsum:∀ (v:Value) (W:World),MatV W W.heap.size v m→Calls Tryz.prog 70 #[v] W (Tells W S)) (q1:m.b=0) (q2:m.a≠0) (q3:m.t=7) (q4:m.i.length=1) (q7:¬ S<0) (q8:7≤m.t):Calls Tryz.prog 37 #[v] w (Says w (decide (m.l.length=0) && decide (m.n=S))):=by
 have Hsum:=hid Hsum;obtain ⟨C,B,rfl,hl,⟨d,j,rfl,r,s⟩⟩:=o.open;obtain ⟨g,k,rfl,y,z⟩:=id hl;have Hv:=hid (o.up (Z1_ w m (.slice g m.l.length k) (.slice d m.i.length j)));have Hb0:=hid (Z1_ w m (.slice g m.l.length k) (.slice d m.i.length j));have Hblk:=hid (Z3_ w m (.slice g m.l.length k) (.slice d m.i.length j));have Hl:=hid (hl.up Hb0.out);have c:=Hblk.out.cell;have g0:=c 0;have g1:=c 1;have g2:=c 2;have g3:=c 3;have g4:=c 4;have g5:=c 5;have a3:¬ m.n<0:=j29_;have a4:¬ 64<m.n:=j29_;have a5:¬ m.a<0:=j29_;have a6:¬ 64<m.a:=j29_;unfold boxed at *
 have Hn:=hid p;obtain ⟨L0,hL0⟩:∃ L0,decide (m.l.length=0)=L0:=⟨_,rfl⟩;obtain ⟨h,hN0⟩:∃ h,decide (m.n=S)=h:=⟨_,rfl⟩;rw [hL0,hN0];have x:((m.l.length:Int)==0)=L0:=q34_;have f1:(m.n==S)=h:=j34_;clear hL0 hN0;clear o p r s c q;have e1:(m.b != 0)=false:=x32_;clear q1;have e2:(m.a != 0)=true:=y32_;have u:(m.t != 7)=false:=j36_;have e4:¬ (m.i.length:Int)<1:=j29_;have e5:¬ (8:Int)<(m.i.length:Int):=j29_;have e6:¬ (1:Int)<(m.i.length:Int):=j29_;clear q2 q3 q4;exact x1_
theorem Yu6 (m:Mat) (v:Value) (w:World) (k:MatV w w.heap.size v m) (_hs:Sml m) (p:0≤m.n∧m.n≤64∧0≤m.a∧m.a≤64) (o:nest m.t) (S:Int) (Hsum:∀ (v:Value) (W:World),MatV W W.heap.size v m→Calls Tryz.prog 70 #[v] W (Tells W S)) (q1:m.b=0) (q2:m.a=0) (q4:1<m.i.length) (q5:m.i.length≤8) (q6:m.t=9) (q7:S<0):Calls Tryz.prog 37 #[v] w (Says w false):=by
 have Hsum:=hid Hsum;obtain ⟨z,y,rfl,hl,⟨d,h,rfl,q,r⟩⟩:=k.open;obtain ⟨g,j,rfl,u,x⟩:=id hl;have Hv:=hid (k.up (Z1_ w m (.slice g m.l.length j) (.slice d m.i.length h)));have Hb0:=hid (Z1_ w m (.slice g m.l.length j) (.slice d m.i.length h));have Hblk:=hid (Z3_ w m (.slice g m.l.length j) (.slice d m.i.length h));have Hl:=hid (hl.up Hb0.out);have c:=Hblk.out.cell;have g0:=c 0;have g1:=c 1;have g2:=c 2;have g3:=c 3;have g4:=c 4;have g5:=c 5;have a3:¬ m.n<0:=j29_;have a4:¬ 64<m.n:=j29_;have a5:¬ m.a<0:=j29_;have a6:¬ 64<m.a:=j29_;unfold boxed at *
 have Hn:=hid o;clear k o q r c p;have e1:(m.b != 0)=false:=x32_;clear q1;have e2:(m.a != 0)=false:=y32_;have e4:¬ (m.i.length:Int)<1:=j29_;have e5:¬ (8:Int)<(m.i.length:Int):=j29_;have e6:(1:Int)<(m.i.length:Int):=j29_;have s:(m.t != 9)=false:=by simpa using q6
 clear q2 q4 q5 q6;exact j0_
theorem Yu7 (m:Mat) (v:Value) (w:World) (o:MatV w w.heap.size v m) (_hs:Sml m) (q:0≤m.n∧m.n≤64∧0≤m.a∧m.a≤64) (p:nest m.t) (S:Int) (Hsum:∀ (v:Value) (W:World),MatV W W.heap.size v m→Calls Tryz.prog 70 #[v] W (Tells W S)) (q1:m.b=0) (q2:m.a=0) (q4:1<m.i.length) (q5:m.i.length≤8) (q6:m.t=9) (q7:¬ S<0) (q8:7≤m.t):Calls Tryz.prog 37 #[v] w (Says w (decide (m.l.length=0) && decide (m.n=S))):=by
 have Hsum:=hid Hsum;obtain ⟨C,B,rfl,hl,⟨d,j,rfl,r,s⟩⟩:=o.open;obtain ⟨g,k,rfl,y,z⟩:=id hl;have Hv:=hid (o.up (Z1_ w m (.slice g m.l.length k) (.slice d m.i.length j)));have Hb0:=hid (Z1_ w m (.slice g m.l.length k) (.slice d m.i.length j));have Hblk:=hid (Z3_ w m (.slice g m.l.length k) (.slice d m.i.length j));have Hl:=hid (hl.up Hb0.out);have c:=Hblk.out.cell;have g0:=c 0;have g1:=c 1;have g2:=c 2;have g3:=c 3;have g4:=c 4;have g5:=c 5;have a3:¬ m.n<0:=j29_;have a4:¬ 64<m.n:=j29_;have a5:¬ m.a<0:=j29_;have a6:¬ 64<m.a:=j29_;unfold boxed at *
 have Hn:=hid p;obtain ⟨L0,hL0⟩:∃ L0,decide (m.l.length=0)=L0:=⟨_,rfl⟩;obtain ⟨h,hN0⟩:∃ h,decide (m.n=S)=h:=⟨_,rfl⟩;rw [hL0,hN0];have x:((m.l.length:Int)==0)=L0:=q34_;have f1:(m.n==S)=h:=j34_;clear hL0 hN0;clear o p r s c q;have e1:(m.b != 0)=false:=x32_;clear q1;have e2:(m.a != 0)=false:=y32_;have e4:¬ (m.i.length:Int)<1:=j29_;have e5:¬ (8:Int)<(m.i.length:Int):=j29_;have e6:(1:Int)<(m.i.length:Int):=j29_;have u:(m.t != 9)=false:=by simpa using q6
 clear q2 q4 q5 q6;exact x1_
theorem Yu8 (m:Mat) (v:Value) (w:World) (hv:MatV w w.heap.size v m) (_hs:Sml m) (h2:0≤m.n∧m.n≤64∧0≤m.a∧m.a≤64) (hn:nest m.t) (S:Int) (Hsum:∀ (v:Value) (W:World),MatV W W.heap.size v m→Calls Tryz.prog 70 #[v] W (Tells W S)) (q1:m.b=0) (q2:m.a=0) (q4:m.i.length=1) (q7:¬ S<0) (q8:¬ 7≤m.t) (q9:m.l.length≠1):Calls Tryz.prog 37 #[v] w (Says w false):=by
 have Hsum:=hid Hsum;obtain ⟨q,p,rfl,hl,⟨c,g,rfl,hci,hki⟩⟩:=hv.open;obtain ⟨d,h,rfl,k,o⟩:=id hl;have Hv:=hid (hv.up (Z1_ w m (.slice d m.l.length h) (.slice c m.i.length g)));have Hb0:=hid (Z1_ w m (.slice d m.l.length h) (.slice c m.i.length g));have Hblk:=hid (Z3_ w m (.slice d m.l.length h) (.slice c m.i.length g));have Hl:=hid (hl.up Hb0.out);have gb:=Hblk.out.cell;have g0:=gb 0;have g1:=gb 1;have g2:=gb 2;have g3:=gb 3;have g4:=gb 4;have g5:=gb 5;have a3:¬ m.n<0:=j29_;have a4:¬ 64<m.n:=j29_;have a5:¬ m.a<0:=j29_;have a6:¬ 64<m.a:=j29_;unfold boxed at *
 have Hn:=hid hn;have j:((m.l.length:Int) != 1)=true:=j30_;clear q9;exact z23_
theorem Yu9 (m:Mat) (v:Value) (w:World) (I:MatV w w.heap.size v m) (_hs:Sml m) (h2:0≤m.n∧m.n≤64∧0≤m.a∧m.a≤64) (N:nest m.t) (S:Int) (z:∀ (v:Value) (W:World),MatV W W.heap.size v m→Calls Tryz.prog 70 #[v] W (Tells W S)) (q1:m.b=0) (q2:m.a=0) (q4:m.i.length=1) (q7:¬ S<0) (q8:¬ 7≤m.t) (q9:m.l.length=1) (q0:okA S (row m 0)=false):Calls Tryz.prog 37 #[v] w (Says w false):=by
 have z:=hid z;obtain ⟨lv,iv,rfl,hl,⟨q,B,rfl,x0,x2⟩⟩:=I.open;obtain ⟨s,C,rfl,x1,M⟩:=id hl;have K:=hid (I.up (Z1_ w m (.slice s m.l.length C) (.slice q m.i.length B)));have u:=hid (Z1_ w m (.slice s m.l.length C) (.slice q m.i.length B));have j:=hid (Z3_ w m (.slice s m.l.length C) (.slice q m.i.length B));have J:=hid (hl.up u.out);have c:=j.out.cell;have g0:=c 0;have g1:=c 1;have g2:=c 2;have g3:=c 3;have g4:=c 4;have g5:=c 5;have a3:¬ m.n<0:=j29_;have a4:¬ 64<m.n:=j29_;have a5:¬ m.a<0:=j29_;have a6:¬ 64<m.a:=j29_;unfold boxed at *
 have V:=hid N;obtain ⟨ad,u0,hA,L,H,O⟩:=M 0 j29_;subst hA;rw [add_zero] at H;have P:row m 0=m.l.getD 0 []:=rfl;rw [P] at q0;have f0:((m.l.length:Int) != 1)=false:=j30_;have f1:(0:Int)<(m.l.length:Int):=j29_;have f2:0<m.l.length:=j29_;generalize m.l.getD 0 []=r at *
 have T:=hid H;have Q:=hid L;have X:=hid O;have Q0:=hid q0;clear q9 H O q0 x1 M hl L P;clear I N x0 x2 c h2;have e1:(m.b != 0)=false:=x32_;clear q1;have e2:(m.a != 0)=false:=y32_;have e4:¬ (m.i.length:Int)<1:=j29_;have e5:¬ (8:Int)<(m.i.length:Int):=j29_;have e6:¬ (1:Int)<(m.i.length:Int):=j29_;clear q2 q4
 go_enter Tryz.func37,Tryz.ntmps37
 go_wp2_with fail
 refine (Y0_ m.t _).mono ?_;rintro e w1 ⟨rfl,g⟩;rw [decide_eq_true V.out];have R:=hid (Z0_ u.out (le_refl _) g);have Z:=hid (K.out.up g);have U:=hid (J.out.up g);have x:=hid (j.out.below g j.out.lt);have d:=x.out.cell;have D:=d 0;have E:=d 1;have d2:=d 2;have d3:=d 3;have F:=d 4;have d5:=d 5;clear d g g0 g1 g2 g3 g4 g5 a3 a4 a5 a6 u K J j
 go_wp2_with fail
 refine (z.out _ _ Z.out).mono ?_;rintro e w2 ⟨rfl,k⟩;have h:=hid (Z0_ R.out (le_refl _) k);have x4:=hid (U.out.up k);have y:=hid (x.out.below k x.out.lt);clear k D E d2 d3 F d5 e1 e2 e4 e5 e6;have o:=y.out.cell;have D:=o 0;have E:=o 1;have F:=o 4;clear o;have c0:=(h.out.cell (p:=ad) Q.out).trans T.out;have Y:=hid ((X.out.below h.out).mono h.out.size)
 go_wp2_with fail
 refine (Ze2 u0 r S _ Y.out).mono ?_;rintro e w3 ⟨rfl,G⟩;rw [Q0.out];have Hb3:=hid (Z0_ h.out (le_refl _) G);have x3:=hid (y.out.below G y.out.lt);clear G D E F c0;exact x9_
theorem Yf5 (m:Mat) (v:Value) (w:World) (P:MatV w w.heap.size v m) (_hs:Sml m) (h2:0≤m.n∧m.n≤64∧0≤m.a∧m.a≤64) (X:nest m.t) (S:Int) (J:∀ (v:Value) (W:World),MatV W W.heap.size v m→Calls Tryz.prog 70 #[v] W (Tells W S)) (q1:m.b=0) (q2:m.a=0) (q4:m.i.length=1) (q7:¬ S<0) (q8:¬ 7≤m.t) (q9:m.l.length=1) (q0:okA S (row m 0)=true) (q5:m.t=5):Calls Tryz.prog 37 #[v] w (Says w (decide (m.n=(row m 0).length))):=by
 have J:=hid J;obtain ⟨lv,iv,rfl,hl,⟨j,s,rfl,x6,x8⟩⟩:=P.open;obtain ⟨C,u,rfl,x7,V⟩:=id hl;have T:=hid (P.up (Z1_ w m (.slice C m.l.length u) (.slice j m.i.length s)));have E:=hid (Z1_ w m (.slice C m.l.length u) (.slice j m.i.length s));have o:=hid (Z3_ w m (.slice C m.l.length u) (.slice j m.i.length s));have R:=hid (hl.up E.out);have c:=o.out.cell;have g0:=c 0;have g1:=c 1;have g2:=c 2;have g3:=c 3;have g4:=c 4;have g5:=c 5;have a3:¬ m.n<0:=j29_;have a4:¬ 64<m.n:=j29_;have a5:¬ m.a<0:=j29_;have a6:¬ 64<m.a:=j29_;unfold boxed at *
 have Hn:=hid X;obtain ⟨K,u0,hA,U,O,Y⟩:=V 0 j29_;subst hA;rw [add_zero] at O;have Z:row m 0=m.l.getD 0 []:=rfl;rw [Z] at q0 ⊢;have f0:((m.l.length:Int) != 1)=false:=j30_;have f1:(0:Int)<(m.l.length:Int):=j29_;have f2:0<m.l.length:=j29_;generalize m.l.getD 0 []=r at *
 have Q:=hid O;have D:=hid U;have x3:=hid Y;have Q0:=hid q0;clear q9 O Y q0 x7 V hl U Z;have f5:(m.t==5)=true:=by simpa using q5
 clear q5;clear P X x6 x8 c h2;have e1:(m.b != 0)=false:=x32_;clear q1;have e2:(m.a != 0)=false:=y32_;have e4:¬ (m.i.length:Int)<1:=j29_;have e5:¬ (8:Int)<(m.i.length:Int):=j29_;have e6:¬ (1:Int)<(m.i.length:Int):=j29_;clear q2 q4
 go_enter Tryz.func37,Tryz.ntmps37
 go_wp2_with fail
 refine (Y0_ m.t _).mono ?_;rintro e w1 ⟨rfl,h⟩;rw [decide_eq_true Hn.out];have x0:=hid (Z0_ E.out (le_refl _) h);have x5:=hid (T.out.up h);have x2:=hid (R.out.up h);have F:=hid (o.out.below h o.out.lt);have d:=F.out.cell;have g:=d 0;have L:=d 1;have d2:=d 2;have d3:=d 3;have M:=d 4;have d5:=d 5;clear d h g0 g1 g2 g3 g4 g5 a3 a4 a5 a6 E T R o
 go_wp2_with fail
 refine (J.out _ _ x5.out).mono ?_;rintro e w2 ⟨rfl,y⟩;have k:=hid (Z0_ x0.out (le_refl _) y);have xa:=hid (x2.out.up y);have G:=hid (F.out.below y F.out.lt);clear y g L d2 d3 M d5 e1 e2 e4 e5 e6;have z:=G.out.cell;have g:=z 0;have L:=z 1;have M:=z 4;clear z;have c0:=(k.out.cell (p:=K) D.out).trans Q.out;have I:=hid ((x3.out.below k.out).mono k.out.size)
 go_wp2_with fail
 refine (Ze2 u0 r S _ I.out).mono ?_;rintro e B ⟨rfl,N⟩;rw [Q0.out];have Hb3:=hid (Z0_ k.out (le_refl _) N);have H:=hid (G.out.below N G.out.lt);clear N g L M c0;have x1:Hid (∀ W,Below B.heap.size B W→∀ i,W.cell? ⟨w.heap.size,i,none⟩=#[.int .i64 m.t,.int .i64 m.n,.int .i64 m.a,.int .i64 m.b,.slice (some K) m.l.length u,.slice j m.i.length s][i]?):=fun W x i=>(H.out.below x H.out.lt).cell i;have x4:=hid (X5_ ((Hb3.out.cell (p:=K) D.out).trans Q.out) (Nat.lt_of_lt_of_le D.out Hb3.out.size));obtain ⟨Ar,cr,x9,_⟩:=id I.out;subst x9;have g:=H.out.cell 0;clear I;go_wp2;clear g;refine Z5_ B.heap.size B k29_ k29_ (Below.refl _ _) ?_
 iterate 9 (go_big_quiet_want;apply Exists.intro;refine ⟨fun W x=>?_,?_⟩;(· have q:=x1.out W x;have q1:=q 1;have q4:=q 4;clear q;have r0:=x4.out W x;go_simp;first | exact rfl | exact ⟨rfl,rfl⟩);go_simp;go_big_quiet_on)
 exact x14_
theorem Yw0 (m:Mat) (v:Value) (w:World) (P:MatV w w.heap.size v m) (_hs:Sml m) (h2:0≤m.n∧m.n≤64∧0≤m.a∧m.a≤64) (X:nest m.t) (S:Int) (J:∀ (v:Value) (W:World),MatV W W.heap.size v m→Calls Tryz.prog 70 #[v] W (Tells W S)) (q1:m.b=0) (q2:m.a=0) (q4:m.i.length=1) (q7:¬ S<0) (q8:¬ 7≤m.t) (q9:m.l.length=1) (q0:okA S (row m 0)=true) (q5:m.t≠5):Calls Tryz.prog 37 #[v] w (Says w (decide (m.n=IntKind.i64.wrap (S - (row m 0).length)))):=by
 have J:=hid J;obtain ⟨lv,iv,rfl,hl,⟨j,s,rfl,x6,x8⟩⟩:=P.open;obtain ⟨C,u,rfl,x7,V⟩:=id hl;have T:=hid (P.up (Z1_ w m (.slice C m.l.length u) (.slice j m.i.length s)));have E:=hid (Z1_ w m (.slice C m.l.length u) (.slice j m.i.length s));have o:=hid (Z3_ w m (.slice C m.l.length u) (.slice j m.i.length s));have R:=hid (hl.up E.out);have c:=o.out.cell;have g0:=c 0;have g1:=c 1;have g2:=c 2;have g3:=c 3;have g4:=c 4;have g5:=c 5;have a3:¬ m.n<0:=j29_;have a4:¬ 64<m.n:=j29_;have a5:¬ m.a<0:=j29_;have a6:¬ 64<m.a:=j29_;unfold boxed at *
 have Hn:=hid X;obtain ⟨K,u0,hA,U,O,Y⟩:=V 0 j29_;subst hA;rw [add_zero] at O;have Z:row m 0=m.l.getD 0 []:=rfl;rw [Z] at q0 ⊢;have f0:((m.l.length:Int) != 1)=false:=j30_;have f1:(0:Int)<(m.l.length:Int):=j29_;have f2:0<m.l.length:=j29_;generalize m.l.getD 0 []=r at *
 have Q:=hid O;have D:=hid U;have x3:=hid Y;have Q0:=hid q0;clear q9 O Y q0 x7 V hl U Z;have f5:(m.t==5)=false:=by simpa using q5
 clear q5;clear P X x6 x8 c h2;have e1:(m.b != 0)=false:=x32_;clear q1;have e2:(m.a != 0)=false:=y32_;have e4:¬ (m.i.length:Int)<1:=j29_;have e5:¬ (8:Int)<(m.i.length:Int):=j29_;have e6:¬ (1:Int)<(m.i.length:Int):=j29_;clear q2 q4
 go_enter Tryz.func37,Tryz.ntmps37
 go_wp2_with fail
 refine (Y0_ m.t _).mono ?_;rintro e w1 ⟨rfl,h⟩;rw [decide_eq_true Hn.out];have x0:=hid (Z0_ E.out (le_refl _) h);have x5:=hid (T.out.up h);have x2:=hid (R.out.up h);have F:=hid (o.out.below h o.out.lt);have d:=F.out.cell;have g:=d 0;have L:=d 1;have d2:=d 2;have d3:=d 3;have M:=d 4;have d5:=d 5;clear d h g0 g1 g2 g3 g4 g5 a3 a4 a5 a6 E T R o
 go_wp2_with fail
 refine (J.out _ _ x5.out).mono ?_;rintro e w2 ⟨rfl,y⟩;have k:=hid (Z0_ x0.out (le_refl _) y);have xa:=hid (x2.out.up y);have G:=hid (F.out.below y F.out.lt);clear y g L d2 d3 M d5 e1 e2 e4 e5 e6;have z:=G.out.cell;have g:=z 0;have L:=z 1;have M:=z 4;clear z;have c0:=(k.out.cell (p:=K) D.out).trans Q.out;have I:=hid ((x3.out.below k.out).mono k.out.size)
 go_wp2_with fail
 refine (Ze2 u0 r S _ I.out).mono ?_;rintro e B ⟨rfl,N⟩;rw [Q0.out];have Hb3:=hid (Z0_ k.out (le_refl _) N);have H:=hid (G.out.below N G.out.lt);clear N g L M c0;have x1:Hid (∀ W,Below B.heap.size B W→∀ i,W.cell? ⟨w.heap.size,i,none⟩=#[.int .i64 m.t,.int .i64 m.n,.int .i64 m.a,.int .i64 m.b,.slice (some K) m.l.length u,.slice j m.i.length s][i]?):=fun W x i=>(H.out.below x H.out.lt).cell i;have x4:=hid (X5_ ((Hb3.out.cell (p:=K) D.out).trans Q.out) (Nat.lt_of_lt_of_le D.out Hb3.out.size));obtain ⟨Ar,cr,x9,_⟩:=id I.out;subst x9;have g:=H.out.cell 0;clear I;go_wp2;clear g;refine Z5_ B.heap.size B k29_ k29_ (Below.refl _ _) ?_
 iterate 11 (go_big_quiet_want;apply Exists.intro;refine ⟨fun W x=>?_,?_⟩;(· have q:=x1.out W x;have q1:=q 1;have q4:=q 4;clear q;have r0:=x4.out W x;go_simp;first | exact rfl | exact ⟨rfl,rfl⟩);go_simp;go_big_quiet_on)
 exact x14_
theorem Xe3:∀ (k:Nat),MayAt k:=by
 intro k
 induction k with
 | zero=>intro m v w _ _ hd;have:=R6_ 0 m;omega
 | succ k ih =>
  intro m v w g hs hd;by_cases h:0≤m.n∧m.n≤64∧0≤m.a∧m.a≤64
  ·by_cases e:nest m.t
   ·have u:∀ x∈m.i,dp k x≤k:=fun x y=>by have:=T1_ (k:=k) e y;omega
    have j:∀ (v:Value) (W:World),MatV W W.heap.size v m→Calls Tryz.prog 70 #[v] W (Tells W (sumsI k m)):=fun v W g=>Xd5 k ih m v W g hs u;rw [Xs1 h e];rcases hh:headB m with _ | _
    ·simpa using Yu1 m v w g hs h e hh
    rw [Bool.true_and];have r:=hh;unfold headB at r;simp only [Bool.and_eq_true,Bool.or_eq_true,decide_eq_true_iff] at r;obtain ⟨⟨⟨⟨q1,q2⟩,q4⟩,q5⟩,q6⟩:=r;have s:(m.a=0∧m.i.length=1)∨(m.a≠0∧m.t=7∧m.i.length=1)∨(m.a=0∧1<m.i.length∧m.i.length≤8∧m.t=9):=j29_;unfold sumsI at j;rcases hall:m.i.all (ok k) with _ | _
    ·rw [hall,if_neg y30_] at j
     rw [Bool.false_and];rcases s with ⟨a,b⟩ | ⟨a,b,c⟩ | ⟨a,b,c,d⟩
     ·exact Yu2 m v w g hs h e (-1) j q1 a b y30_
     ·exact Yu4 m v w g hs h e (-1) j q1 a b c y30_
     ·exact Yu6 m v w g hs h e (-1) j q1 a b c d y30_
    ·rw [hall,if_pos rfl] at j
     rw [Bool.true_and];have z:=Vj3 hall q5;unfold tailB;by_cases o:7≤m.t
     ·rw [if_pos o]
      rcases s with ⟨a,b⟩ | ⟨a,b,c⟩ | ⟨a,b,c,d⟩
      ·exact Yu3 m v w g hs h e _ j q1 a b j29_ o
      ·exact Yu5 m v w g hs h e _ j q1 a b c j29_ o
      ·exact Yu7 m v w g hs h e _ j q1 a b c d j29_ o
     ·rw [if_neg o]
      have ha:m.a=0:=j29_;have q:m.i.length=1:=j29_;by_cases hl:m.l.length=1
      ·rw [decide_eq_true hl,Bool.true_and]
       rcases hk:okA (tog m.i) (row m 0) with _ | _
       ·exact Yu9 m v w g hs h e _ j q1 ha q j29_ o hl hk
       ·rw [Bool.true_and]
        by_cases p:m.t=5
        ·rw [if_pos p]
         exact Yf5 m v w g hs h e _ j q1 ha q j29_ o hl hk p
        ·rw [if_neg p]
         exact Yw0 m v w g hs h e _ j q1 ha q j29_ o hl hk p
      ·rw [decide_eq_false hl,Bool.false_and,Bool.false_and]
       exact Yu8 m v w g hs h e _ j q1 ha q j29_ o hl
   ·rw [show ok (k+1) m=decide (bad m=0) from by
     rw [ok];by_cases hb:bad m=0
     ·rw [N5_ hb e];simp
     ·rw [decide_eq_false hb];rfl]
    exact Yf4 m v w g hs h e
  ·rw [show ok (k+1) m=false from by
    rw [ok,decide_eq_false (fun hb=>h (X2_ hb).2.1)];rfl]
   exact Xd6 m v w g j29_
open Go.RowKit
open Go.RowKit
theorem Yf6 (m:Mat) (v:Value) (w:World) (j:MatV w w.heap.size v m) (hs:Sml m):Calls Tryz.prog 15 #[v] w (Tells w (chk m)):=by
 have p:=hid hs;obtain ⟨E,C,J,_,_⟩:=j.open;have Hb0:=hid (Z1_ w m E C);have q:=hid (j.up Hb0.out);have c:=hid (Z3_ w m E C);have g0:=c.out.cell 0;have g1:=c.out.cell 1;have g2:=c.out.cell 2;have g3:=c.out.cell 3;have g4:=c.out.cell 4;have g5:=c.out.cell 5;subst J;unfold boxed at *
 have r:=dp_le 4 m;obtain ⟨D,k⟩:∃ D:Nat,dp 4 m=D:=⟨_,rfl⟩;have x:Hid (deepI m=(D:Int)):=hid (by unfold deepI;rw [k]);have o:=hid k;rw [k] at r;clear j hs k;by_cases h:D=5
 ·have e:chk m=91:=if_pos (o.out.trans h)
  rw [e];have I:((D:Int)==5)=true:=j30_;clear e h r
  go_enter Tryz.func15,Tryz.ntmps15
  go_wp2_with fail
  refine (Zy2 m _ _ q.out p.out).mono ?_;rintro e K ⟨rfl,hb1⟩;rw [x.out];exact q24_
 ·have I:((D:Int)==5)=false:=by simp;omega
  obtain ⟨g,u⟩:∃ g,ok 4 m=g:=⟨_,rfl⟩;have e:chk m=if g=true then 0 else 90:=by rw [← u];exact if_neg (by rw [o.out];exact h)
  obtain ⟨R,s⟩:∃ R:Int,R=if g=true then 0 else 90:=⟨_,rfl⟩
  rw [e,← s];have y:=hid s;have z:=hid (fun (v:Value) (W:World) (j:MatV W W.heap.size v m)=>Xe3 4 m v W j p.out (by rw [o.out];omega));rw [u] at z;clear e h r u s
  go_enter Tryz.func15,Tryz.ntmps15
  go_wp2_with fail
  refine (Zy2 m _ _ q.out p.out).mono ?_;rintro e K ⟨rfl,hb1⟩;rw [x.out];have Hb1:=hid (Z0_ Hb0.out (le_refl _) hb1);have F:=hid (q.out.up hb1);have d:=hid (c.out.below hb1 c.out.lt);clear hb1 g0 g1 g2 g3 g4 g5;have g0:=d.out.cell 0;have g1:=d.out.cell 1;have g2:=d.out.cell 2;have g3:=d.out.cell 3;have g4:=d.out.cell 4;have g5:=d.out.cell 5
  go_wp2_with fail
  refine (z.out _ _ F.out).mono ?_;rintro e L ⟨rfl,B⟩;have Hb2:=hid (Z0_ Hb1.out (le_refl _) B);clear B g0 g1 g2 g3 g4 g5;cases g
  ·have H:R=90:=y.out
   subst H;exact z2_
  ·have G:R=0:=y.out
   subst G;exact z2_
open Go.RowKit
end Wp
end Go.Proofs.YtnbcaibflhgdoaaGreatDoor
