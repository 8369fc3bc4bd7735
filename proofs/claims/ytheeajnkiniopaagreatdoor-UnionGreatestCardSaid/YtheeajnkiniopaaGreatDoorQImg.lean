/- The program's Image, walked. -/
import Derived.Test.YtheeajnkiniopaaGreatDoorQWalkC
import Derived.Test.YtheeajnkiniopaaGreatDoorZU
import Derived.Test.YtheeajnkiniopaaGreatDoorX0A
import Derived.Test.YtheeajnkiniopaaGreatDoorX0B
set_option maxHeartbeats 8000000
set_option maxRecDepth 100000
open Go.Lib (hid)
open Nat (le_refl)
namespace Go.Proofs.YtheeajnkiniopaaGreatDoor.Wp
private theorem k1_ {P:Prop} (h:P:=by
 rw [show n=m.n by rw [hm];rfl] at hsub
 clear hm
 have Hc:=hid hc
 have Hsub:=hid hsub
 obtain ⟨lv,iv,hve,hl2,hi2⟩:=hv.open
 have Hb0:=hid (Z1_ w m lv iv)
 have Hv:=hid (hv.up Hb0.out)
 have HE:=hid (hE.up Hb0.out)
 have Hblk:=hid (Z4_ w m lv iv)
 have gb:=Hblk.out.cell
 have g0:=gb 0
 have g1:=gb 1
 have g2:=gb 2
 have g3:=gb 3
 have g4:=gb 4
 have g5:=gb 5
 subst hve
 unfold boxed at *
 rw [hmt] at g0
 have Hsv:=hid (hr.up Hb0.out)
 have hal:=G9_ m.n
 clear hv hE gb hl2 hi2 hc hsub hr
 go_enter Tryz.func134,Tryz.ntmps134
 rw [hmt] at Hv Hblk Hb0 HE Hsv
 rw [hmt]
 go_wp2_with fail
 refine (C1_ E m _ _ Hv.out hs HE.out).mono ?_
 rintro e w1 ⟨rfl,hb1⟩
 rw [Hc.out]
 have Hb1:=hid (Z0_ Hb0.out (le_refl _) hb1)
 have Hblk1:=hid (Hblk.out.below hb1 (by simp))
 have Hsv1:=hid (Hsv.out.up hb1)
 have c1:=Hblk1.out.cell 1
 clear hb1 g0 g1 g2 g3 g4 g5
 go_wp2_with fail
 refine (E5_ _ _).mono ?_
 rintro e w2 ⟨v2,rfl,hr2,hb2⟩
 have Hb2:=hid (Z0_ Hb1.out (le_refl _) hb2)
 have Hblk2:=hid (Hblk1.out.below hb2 Hblk1.out.lt)
 have Hsv2:=hid (Hsv1.out.up hb2)
 have Hr2:=hid hr2
 clear hb2 hr2 c1
 go_wp2_with fail
 refine (Zz9 _ _ s (allL m.n) _ Hsv2.out Hr2.out hsl hal).mono ?_
 rintro e w3 ⟨rfl,hb3⟩
 rw [Hsub.out]
 have Hb3:=hid (Z0_ Hb2.out (le_refl _) hb3)
 clear hb3
 go_wp2
 go_ret2
 exact C2_ w _ Hb3.out):P:=h
private theorem x3_ {P:Prop} (h:P:=by
 clear hD hm hc
 obtain ⟨lv,iv,hve,hl2,hi2⟩:=hv.open
 have Hb0:=hid (Z1_ w m lv iv)
 have Hv:=hid (hv.up Hb0.out)
 have HE:=hid (hE.up Hb0.out)
 have Hblk:=hid (Z4_ w m lv iv)
 have gb:=Hblk.out.cell
 have g0:=gb 0
 have g1:=gb 1
 have g2:=gb 2
 have g3:=gb 3
 have g4:=gb 4
 have g5:=gb 5
 subst hve
 unfold boxed at *
 rw [hmt] at g0
 clear hv hE gb hl2 hi2
 go_enter Tryz.func134,Tryz.ntmps134
 rw [hmt] at Hv Hblk Hb0 HE
 rw [hmt]
 go_wp2_with fail
 refine (C1_ E m _ _ Hv.out hs HE.out).mono ?_
 rintro e w1 ⟨rfl,hb1⟩
 rw [Hc.out]
 have Hb1:=hid (Z0_ Hb0.out (le_refl _) hb1)
 clear hb1 g0 g1 g2 g3 g4 g5
 go_wp2
 go_ret2
 exact C2_ w _ Hb1.out):P:=h
open Go.RowKit
def Q6_ (w:World) (b:Bool) (l:List Int) (e:Ending) (w':World):Prop:=∃ v,e=.returned (.tuple #[v,.bool b])∧Row w' w'.heap.size v l∧Below w.heap.size w w'∧∀ (A:Addr) (n c:Nat),v=.slice (some A) n c→w.heap.size≤A.block
theorem C2_ (w w':World) (hb:Below w.heap.size w w'):Q6_ w false [] (.returned (.tuple #[.slice none 0 0,.bool false])) w':=⟨_,rfl,Row.nil_ _ _,hb,fun _ _ _ h=>by cases h⟩
theorem Xe9 (m:Mat) (v p:Value) (w:World) (g:MatV w w.heap.size v m) (c:¬ m.t=5) (d:¬ m.t=6):Calls Tryz.prog 134 #[v,p] w (Q6_ w false []):=by
 obtain ⟨j,h,o,_,_⟩:=g.open;have k:=hid (Z1_ w m j h);have e:=(Z4_ w m j h).cell;have x:=e 0;have q:(m.t != 5)=true:=by simpa using c
 have s:(m.t != 6)=true:=by simpa using d
 have r:(m.t==5)=false:=by simpa using c
 have u:(m.t==6)=false:=by simpa using d
 subst o;unfold boxed at *
 clear e g c d
 go_enter Tryz.func134,Tryz.ntmps134
 go_wp2
 go_ret2
 exact C2_ w _ k.out
theorem Yw3 (E:Nat→Addr) (n a b:Int) (l:List (List Int)) (i:List Mat) (v c:Value) (w:World) (hv:MatV w w.heap.size v (.mk 5 n a b l i)) (hs:Sml (.mk 5 n a b l i)) (hE:Env E w) (hc:chk (.mk 5 n a b l i)≠0):Calls Tryz.prog 134 #[v,c] w (Q6_ w false []):=by
 have d:(chk (.mk 5 n a b l i) != 0)=true:=by simpa using hc
 generalize hD:chk (.mk 5 n a b l i)=D at *
 have Hc:=hid hD;obtain ⟨m,hm⟩:∃ m,m=Mat.mk 5 n a b l i:=⟨_,rfl⟩;rw [← hm] at hv hs Hc;have hmt:m.t=5:=k47_;exact x3_
theorem Yw4 (E:Nat→Addr) (n a b:Int) (l:List (List Int)) (i:List Mat) (v c:Value) (s:List Int) (w:World) (hv:MatV w w.heap.size v (.mk 5 n a b l i)) (hs:Sml (.mk 5 n a b l i)) (hE:Env E w) (hr:Row w w.heap.size c s) (hsl:s.length≤1048576) (hc:chk (.mk 5 n a b l i)=0) (hsub:subB s (allL n)=false):Calls Tryz.prog 134 #[v,c] w (Q6_ w false []):=by
 obtain ⟨m,hm⟩:∃ m,m=Mat.mk 5 n a b l i:=⟨_,rfl⟩;rw [← hm] at hv hs hc;have hmt:m.t=5:=k47_;exact k1_
theorem Yw5 (E:Nat→Addr) (n a b:Int) (l:List (List Int)) (i:List Mat) (v sv:Value) (s:List Int) (w:World) (G:MatV w w.heap.size v (.mk 5 n a b l i)) (hs:Sml (.mk 5 n a b l i)) (hE:Env E w) (hr:Row w w.heap.size sv s) (yb:s.length≤1048576) (hc:chk (.mk 5 n a b l i)=0) (D:subB s (allL n)=true):Calls Tryz.prog 134 #[v,sv] w (Q6_ w true (imgM (.mk 5 n a b l i) s)):=by
 obtain ⟨m,hm⟩:∃ m,m=Mat.mk 5 n a b l i:=⟨_,rfl⟩;rw [← hm] at G hs hc;rw [← hm];have M:m.t=5:=k47_;rw [show n=m.n by rw [hm];rfl] at D;clear hm;have Hc:=hid hc;have y0:=hid D;obtain ⟨lv,iv,yc,ya,y8⟩:=G.open;have q:=hid (Z1_ w m lv iv);have Hv:=hid (G.up q.out);have R:=hid (hE.up q.out);have Hblk:=hid (Z4_ w m lv iv);have j:=Hblk.out.cell;have g0:=j 0;have g1:=j 1;have g2:=j 2;have g3:=j 3;have g4:=j 4;have g5:=j 5;subst yc;unfold boxed at *
 rw [M] at g0;have Z:=hid (hr.up q.out);have y5:=G9_ m.n;have y7:=D1_ hc x37_;have P:=W4_ hc x37_;have xd:=Ym1 hc D;have hn:=chk_n hc;have K:=Zy6 m s;have hfa:=Ym2 m s;have yq:=sml_r hs (Y3_ m.l 0 [] x37_);obtain ⟨Al,cl,rfl,_,xe⟩:=ya;obtain ⟨Ai,ci,rfl,_,xc⟩:=y8;obtain ⟨ad,u0,o,x8,J,xh⟩:=xe 0 x37_;subst o;obtain ⟨ai,ui,o,x9,xj,xf⟩:=xc 0 x37_;subst o;rw [add_zero] at J;rw [show (0:Nat) * 6=0 from rfl,add_zero] at xj;obtain ⟨yu,yt,xm,_,_⟩:=xf.open;obtain ⟨x0,x1,x2,x3,x4,x5,g,s0,s1,_⟩:=xj;rw [xm] at g;injection g with g;injection g with g;injection g with _ g;injection g with hx1 _;subst hx1;have yn:(0:Int)<(m.l.length:Int):=x37_;have yo:0<m.l.length:=x37_;have yl:(0:Int)<(m.i.length:Int):=x37_;have ym:0<m.i.length:=x37_;obtain ⟨F,hF⟩:∃ F,F=imgM m s:=⟨_,rfl⟩;rw [← hF] at K hfa;rw [← hF];have O:stayL m=m.l.getD 0 []:=by
  unfold stayL;rw [if_neg x37_];rfl
 obtain ⟨ST,x7⟩:∃ ST,ST=stayL m:=⟨_,rfl⟩;rw [← x7] at hfa P O;have yk:=G9_ (m.i.getD 0 default).n;clear x7 hF;generalize m.l.getD 0 []=r at *
 generalize m.i.getD 0 default=x at *
 generalize m.n=N at *
 have xx:=hid O;have W:=hid xd;have xs:=hid hfa;have Hfn:=hid K;have xo:=hid x8;have yg:=hid x9;have xt:=hid xh;have xr:=hid J;have yh:=hid s1;have Y:=hid M;have ys:(s.length:Int)≤1048576:=x37_;have yr:(ST.length:Int)≤64:=x37_;have Hstl:=hid P;obtain ⟨i0,L,yd,ye,hz2⟩:=info_parts info3;clear G hE j hc D O xd hfa K xe xc xh J s0 s1 xf xm x8 x9 y7 P
 go_enter Tryz.func134,Tryz.ntmps134
 rw [Y.out] at Hv Hblk q R Z;rw [Y.out];clear M
 go_wp2_with fail
 refine (C1_ E m _ _ Hv.out hs R.out).mono ?_;rintro e w1 ⟨rfl,z⟩;rw [Hc.out];have xp:=hid (Z0_ q.out (le_refl _) z);have H:=hid (Hblk.out.below z j37_);have y1:=hid (Z.out.up z);have c1:=H.out.cell 1;clear z g0 g1 g2 g3 g4 g5
 go_wp2_with fail
 refine (E5_ _ _).mono ?_;rintro e w2 ⟨v2,rfl,xi,B⟩;have xq:=hid (Z0_ xp.out (le_refl _) B);have T:=hid (H.out.below B H.out.lt);have x6:=hid (y1.out.up B);have xu:=hid xi;clear B xi c1
 go_wp2_with fail
 refine (Zz9 _ _ s (allL N) _ x6.out xu.out yb y5).mono ?_;rintro e d ⟨rfl,C⟩;rw [y0.out];have u:=hid (Z0_ xq.out (le_refl _) C);have U:=hid (T.out.below C T.out.lt);have y2:=hid (x6.out.up C);have c0:=U.out.cell 0;have c4:=U.out.cell 4;have cr:=(u.out.cell (p:=ad) xo.out).trans xr.out;have xv:=hid ((xt.out.below u.out).mono u.out.size);clear C;have xz:Hid (Row d d.heap.size u0 ST):=by
  show Row _ _ _ _;rw [xx.out];exact xv.out
 obtain ⟨As,cs,rfl,_,xk⟩:=id y2.out;obtain ⟨yf,yi,rfl,_,xl⟩:=id xz.out;have xy:=hid xl;clear xl;have xw:=hid xk;clear xk
 go_wp2_with (at_make;refine wpList_make_full d rfl _ _ 23 rfl d.heap.size 3 i0 (.int .i64 0) 1 y37_ L yd ye .i64 .i64 _ _ s.length rfl rfl (by rfl) (by rfl) k45_ z38_ (le_refl _) ?_)
 intro w6 xg xb;have I:=S1_ w6 d.heap.size s.length (by rw [Nat.mul_one];exact xg);rw [← Zi1 F] at I;have xa:Below d.heap.size d w6:=(Below.refl _ d).grown xb (le_refl _) (fun i L=>by cases L);have S:=hid xa;have V:=hid I;clear xg xb xa I;go_wp2
 go_loopw [52] (fun Q wr=>∃ k:Nat,Q=.int .i64 k∧k≤s.length∧Blk wr d.heap.size 3 (fillM F s.length k)∧Below d.heap.size d wr) (fun Q _=>s.length - (intOf Q).toNat)
 case atStart=>exact ⟨0,rfl,Nat.zero_le _,V.out,S.out⟩
 case round =>
  clear V S;obtain ⟨k,rfl,hk,hblk,hbr⟩:=hrel;have Hblk:=hid hblk;have Hbr:=hid hbr;by_cases hlt:k<s.length
  ·have yp:(k:Int)<(s.length:Int):=by omega
   have hx0:=(W.out k hlt).1;have hx1:=(W.out k hlt).2;have hfa:=xs.out k hlt;obtain ⟨X,hX⟩:∃ X:Nat,s.getD k 0=(X:Int):=⟨(s.getD k 0).toNat,x37_⟩;rw [hX] at hx0 hx1 hfa;have y4:X<ST.length:=y47_;have yj:(X:Int)<(ST.length:Int):=x37_;rw [show ((X:Int)).toNat=X from rfl] at hfa;obtain ⟨y3,o,hasb,hcs⟩:=xw.out k hlt;subst o;obtain ⟨at_,o,y6,hct⟩:=xy.out X y4;subst o;rw [hX] at hcs;have gs:=(hbr.cell (p:=y3.add k) j43_).trans hcs;have gt:=(hbr.cell (p:=at_.add X) (by rw [Z2_];exact y6)).trans hct;have gf:=hblk.frozen k;have hsz:=Zi0 (n:=s.length) Hfn.out hk;obtain ⟨xn,gc⟩:∃ xn,wr.cell? ⟨d.heap.size,k,none⟩=some xn:=⟨(fillM F s.length k)[k]'x37_,by rw [hblk.cell];simp [hsz,hlt]⟩;exact z5_
  ·have y9:k=s.length:=by omega
   subst y9;clear hblk hbr;go_wp2
   go_ret2
   exact ⟨_,rfl,Yz0 Hfn.out Hblk.out z38_,Z0_ u.out (le_refl _) Hbr.out,fun A n c h=>by cases h;exact u.out.size⟩
theorem Yw6 (E:Nat→Addr) (n a b:Int) (l:List (List Int)) (i:List Mat) (v c:Value) (w:World) (hv:MatV w w.heap.size v (.mk 6 n a b l i)) (hs:Sml (.mk 6 n a b l i)) (hE:Env E w) (hc:chk (.mk 6 n a b l i)≠0):Calls Tryz.prog 134 #[v,c] w (Q6_ w false []):=by
 have d:(chk (.mk 6 n a b l i) != 0)=true:=by simpa using hc
 generalize hD:chk (.mk 6 n a b l i)=D at *
 have Hc:=hid hD;obtain ⟨m,hm⟩:∃ m,m=Mat.mk 6 n a b l i:=⟨_,rfl⟩;rw [← hm] at hv hs Hc;have hmt:m.t=6:=k47_;exact x3_
theorem Yw7 (E:Nat→Addr) (n a b:Int) (l:List (List Int)) (i:List Mat) (v c:Value) (s:List Int) (w:World) (hv:MatV w w.heap.size v (.mk 6 n a b l i)) (hs:Sml (.mk 6 n a b l i)) (hE:Env E w) (hr:Row w w.heap.size c s) (hsl:s.length≤1048576) (hc:chk (.mk 6 n a b l i)=0) (hsub:subB s (allL n)=false):Calls Tryz.prog 134 #[v,c] w (Q6_ w false []):=by
 obtain ⟨m,hm⟩:∃ m,m=Mat.mk 6 n a b l i:=⟨_,rfl⟩;rw [← hm] at hv hs hc;have hmt:m.t=6:=k47_;exact k1_
theorem Yw8 (E:Nat→Addr) (n a b:Int) (l:List (List Int)) (i:List Mat) (v sv:Value) (s:List Int) (w:World) (P:MatV w w.heap.size v (.mk 6 n a b l i)) (hs:Sml (.mk 6 n a b l i)) (hE:Env E w) (hr:Row w w.heap.size sv s) (ys:s.length≤1048576) (hc:chk (.mk 6 n a b l i)=0) (O:subB s (allL n)=true):Calls Tryz.prog 134 #[v,sv] w (Q6_ w true (imgM (.mk 6 n a b l i) s)):=by
 obtain ⟨m,hm⟩:∃ m,m=Mat.mk 6 n a b l i:=⟨_,rfl⟩;rw [← hm] at P hs hc;rw [← hm];have M:m.t=6:=k47_;rw [show n=m.n by rw [hm];rfl] at O;clear hm;have Hc:=hid hc;have yf:=hid O;obtain ⟨lv,iv,yt,yr,yp⟩:=P.open;have D:=hid (Z1_ w m lv iv);have Hv:=hid (P.up D.out);have HE:=hid (hE.up D.out);have Hblk:=hid (Z4_ w m lv iv);have z:=Hblk.out.cell;have g0:=z 0;have g1:=z 1;have g2:=z 2;have g3:=z 3;have g4:=z 4;have g5:=z 5;subst yt;unfold boxed at *
 rw [M] at g0;have xf:=hid (hr.up D.out);have yl:=G9_ m.n;have yo:=D1_ hc x37_;have x6:=W4_ hc x37_;have xp:=Ym1 hc O;have hn:=chk_n hc;have V:=Zy6 m s;have hfa:=Ym2 m s;have z4:=sml_r hs (Y3_ m.l 0 [] x37_);obtain ⟨Al,cl,rfl,_,xq⟩:=yr;obtain ⟨Ai,ci,rfl,_,xo⟩:=yp;obtain ⟨u,Q,B,xi,U,xt⟩:=xq 0 x37_;subst B;obtain ⟨g,ui,B,xj,xy,xr⟩:=xo 0 x37_;subst B;rw [add_zero] at U;rw [show (0:Nat) * 6=0 from rfl,add_zero] at xy;obtain ⟨z8,z7,y1,_,_⟩:=xr.open;obtain ⟨x0,x1,x2,x3,x4,x5,o,s0,s1,_⟩:=xy;rw [y1] at o;injection o with o;injection o with o;injection o with _ o;injection o with hx1 _;subst hx1;have z1:(0:Int)<(m.l.length:Int):=x37_;have z2:0<m.l.length:=x37_;have yz:(0:Int)<(m.i.length:Int):=x37_;have z0:0<m.i.length:=x37_;obtain ⟨F,hF⟩:∃ F,F=imgM m s:=⟨_,rfl⟩;rw [← hF] at V hfa;rw [← hF];have Z:stayL m=Z9_ (allL (m.i.getD 0 default).n) (m.l.getD 0 []):=by
  unfold stayL;rw [if_pos M];rfl
 obtain ⟨ST,xh⟩:∃ ST,ST=stayL m:=⟨_,rfl⟩;rw [← xh] at hfa x6 Z;have ym:=G9_ (m.i.getD 0 default).n;clear xh hF;generalize m.l.getD 0 []=r at *
 generalize m.i.getD 0 default=x at *
 generalize m.n=N at *
 have yc:=hid Z;have xd:=hid xp;have y6:=hid hfa;have Hfn:=hid V;have x7:=hid xi;have x8:=hid xj;have y7:=hid xt;have y5:=hid U;have ya:=hid s1;have xe:=hid M;have z6:(s.length:Int)≤1048576:=x37_;have z5:(ST.length:Int)≤64:=x37_;have Hstl:=hid x6;obtain ⟨i0,Y,yu,yv,hz2⟩:=info_parts info3;clear P hE z hc O Z xp hfa V xq xo xt U s0 s1 xr y1 xi xj yo x6
 go_enter Tryz.func134,Tryz.ntmps134
 rw [xe.out] at Hv Hblk D HE xf;rw [xe.out];clear M
 go_wp2_with fail
 refine (C1_ E m _ _ Hv.out hs HE.out).mono ?_;rintro e w1 ⟨rfl,I⟩;rw [Hc.out];have y3:=hid (Z0_ D.out (le_refl _) I);have R:=hid (Hblk.out.below I j37_);have yg:=hid (xf.out.up I);have c1:=R.out.cell 1;clear I g0 g1 g2 g3 g4 g5
 go_wp2_with fail
 refine (E5_ _ _).mono ?_;rintro e w2 ⟨v2,rfl,xu,J⟩;have y4:=hid (Z0_ y3.out (le_refl _) J);have xb:=hid (R.out.below J R.out.lt);have xg:=hid (yg.out.up J);have y8:=hid xu;clear J xu c1
 go_wp2_with fail
 refine (Zz9 _ _ s (allL N) _ xg.out y8.out ys yl).mono ?_;rintro e j ⟨rfl,K⟩;rw [yf.out];have q:=hid (Z0_ y4.out (le_refl _) K);have G:=hid (xb.out.below K xb.out.lt);have yh:=hid (xg.out.up K);have c0:=G.out.cell 0;have c4:=G.out.cell 4;have cr:=(q.out.cell (p:=u) x7.out).trans y5.out;have y9:=hid ((y7.out.below q.out).mono q.out.size);clear K;go_wp2;have hlt:w.heap.size<j.heap.size:=G.out.lt;have xl:u.block<j.heap.size:=Nat.lt_of_lt_of_le x7.out q.out.size;have xk:g.block<j.heap.size:=Nat.lt_of_lt_of_le x8.out q.out.size;have S:Hid (∀ W,Below j.drew.heap.size j.drew W→W.cell? ⟨w.heap.size,4,none⟩=some (.slice (some u) m.l.length cl)∧W.cell? ⟨w.heap.size,5,none⟩=some (.slice (some g) m.i.length ci)∧W.cell? u=some Q∧W.cell? ⟨g.block,g.off+1,none⟩=some (.int .i64 x.n)):=fun W H =>
  ⟨(H.cell (p:=⟨w.heap.size,4,none⟩) hlt).trans (G.out.cell 4),(H.cell (p:=⟨w.heap.size,5,none⟩) hlt).trans (G.out.cell 5),(H.cell (p:=u) xl).trans cr,
   (H.cell (p:=⟨g.block,g.off+1,none⟩) xk).trans ((q.out.cell (p:=⟨g.block,g.off+1,none⟩) x8.out).trans ya.out)⟩
 clear c0 c4 cr
 go_region_held3 (fun W=>W.cell? ⟨w.heap.size,4,none⟩=some (.slice (some u) m.l.length cl)∧W.cell? ⟨w.heap.size,5,none⟩=some (.slice (some g) m.i.length ci)∧W.cell? u=some Q∧W.cell? ⟨g.block,g.off+1,none⟩=some (.int .i64 x.n))
  (first | exact S.out _ (Below.refl _ _) | exact S.out _ C | exact S.out _ (Z0_ C (le_refl _) L))
  (first
  | (go_at_call 63;refine (E5_ _ _).mono ?_;rintro e w4 ⟨v4,rfl,xv,C⟩;have xx:Row w4 w4.heap.size Q r:=(show Row j.drew j.drew.heap.size Q r from y9.out).up C)
  | (go_at_call 64;refine (N3_ _ _ (allL x.n) r _ xv xx ym x37_).mono ?_;rintro e d ⟨v5,rfl,xw,L⟩))
 have x9:=hid (Z0_ (Z0_ q.out.drew (le_refl _) C) (le_refl _) L);have ye:Hid (Row d d.heap.size v5 ST):=by
  show Row _ _ _ _;rw [yc.out];exact xw
 have yi:=hid ((show Row j.drew j.drew.heap.size sv s from yh.out).up (Z0_ C (le_refl _) L));clear C L xv xx xw hlt xl xk;generalize v5=vst at *
 obtain ⟨As,cs,rfl,_,xz⟩:=id yi.out;obtain ⟨yw,yx,rfl,_,y0⟩:=id ye.out;have yd:=hid y0;clear y0;go_simp;have yb:=hid xz;clear xz
 go_wp2_with (at_make;refine wpList_make_full d rfl _ _ 23 rfl d.heap.size 3 i0 (.int .i64 0) 1 y37_ Y yu yv .i64 .i64 _ _ s.length rfl rfl (by rfl) (by rfl) k45_ z38_ (le_refl _) ?_)
 intro w6 xs xn;have T:=S1_ w6 d.heap.size s.length (by rw [Nat.mul_one];exact xs);rw [← Zi1 F] at T;have xm:Below d.heap.size d w6:=(Below.refl _ d).grown xn (le_refl _) (fun i Y=>by cases Y);have xa:=hid xm;have xc:=hid T;clear xs xn xm T;go_wp2
 go_loopw [52] (fun vk wr=>∃ k:Nat,vk=.int .i64 k∧k≤s.length∧Blk wr d.heap.size 3 (fillM F s.length k)∧Below d.heap.size d wr) (fun vk _=>s.length - (intOf vk).toNat)
 case atStart=>exact ⟨0,rfl,Nat.zero_le _,xc.out,xa.out⟩
 case round =>
  clear xc xa;obtain ⟨k,rfl,hk,hblk,hbr⟩:=hrel;have Hblk:=hid hblk;have Hbr:=hid hbr;by_cases hlt:k<s.length
  ·have z3:(k:Int)<(s.length:Int):=by omega
   have hx0:=(xd.out k hlt).1;have hx1:=(xd.out k hlt).2;have hfa:=y6.out k hlt;obtain ⟨X,hX⟩:∃ X:Nat,s.getD k 0=(X:Int):=⟨(s.getD k 0).toNat,x37_⟩;rw [hX] at hx0 hx1 hfa;have yk:X<ST.length:=y47_;have yy:(X:Int)<(ST.length:Int):=x37_;rw [show ((X:Int)).toNat=X from rfl] at hfa;obtain ⟨yj,B,hasb,hcs⟩:=yb.out k hlt;subst B;obtain ⟨at_,B,yn,hct⟩:=yd.out X yk;subst B;rw [hX] at hcs;have gs:=(hbr.cell (p:=yj.add k) j43_).trans hcs;have gt:=(hbr.cell (p:=at_.add X) (by rw [Z2_];exact yn)).trans hct;have gf:=hblk.frozen k;have hsz:=Zi0 (n:=s.length) Hfn.out hk;obtain ⟨y2,gc⟩:∃ y2,wr.cell? ⟨d.heap.size,k,none⟩=some y2:=⟨(fillM F s.length k)[k]'x37_,by rw [hblk.cell];simp [hsz,hlt]⟩;exact z5_
  ·have yq:k=s.length:=by omega
   subst yq;clear hblk hbr;go_wp2
   go_ret2
   exact ⟨_,rfl,Yz0 Hfn.out Hblk.out z38_,Z0_ x9.out (le_refl _) Hbr.out,fun A n c h=>by cases h;exact x9.out.size⟩
theorem Yy1 (E:Nat→Addr) (m:Mat) (v d:Value) (s:List Int) (w:World) (g:MatV w w.heap.size v m) (hs:Sml m) (h:Env E w) (j:Row w w.heap.size d s) (k:s.length≤1048576):Calls Tryz.prog 134 #[v,d] w (Q6_ w (imgB m s) (imgL m s)):=by
 unfold imgL;by_cases c:m.t=5∨m.t=6
 ·by_cases hc:chk m=0
  ·rcases hsub:subB s (allL m.n) with _ | _
   ·rw [show imgB m s=false by unfold imgB;rw [hsub];simp,if_neg x38_]
    obtain ⟨t,n,a,b,l,i⟩:=m;rcases c with c | c<;>cases c
    ·exact Yw4 E n a b l i v d s w g hs h j k hc hsub
    ·exact Yw7 E n a b l i v d s w g hs h j k hc hsub
   ·rw [show imgB m s=true by unfold imgB;rw [hsub,decide_eq_true c,decide_eq_true hc];rfl,if_pos rfl]
    obtain ⟨t,n,a,b,l,i⟩:=m;rcases c with c | c<;>cases c
    ·exact Yw5 E n a b l i v d s w g hs h j k hc hsub
    ·exact Yw8 E n a b l i v d s w g hs h j k hc hsub
  ·rw [show imgB m s=false by unfold imgB;rw [decide_eq_false hc];simp,if_neg x38_]
   obtain ⟨t,n,a,b,l,i⟩:=m;rcases c with c | c<;>cases c
   ·exact Yw3 E n a b l i v d w g hs h hc
   ·exact Yw6 E n a b l i v d w g hs h hc
 ·rw [show imgB m s=false by unfold imgB;rw [decide_eq_false c];simp,if_neg x38_]
  exact Xe9 m v d w g (fun e=>c (.inl e)) (fun e=>c (.inr e))
end Go.Proofs.YtheeajnkiniopaaGreatDoor.Wp
