/- The program's Image, walked. -/
import Derived.Test.YtigobiacbficaaaGreatDoorQWalkC
import Derived.Test.YtigobiacbficaaaGreatDoorZU
import Derived.Test.YtigobiacbficaaaGreatDoorZT
import Derived.Test.YtigobiacbficaaaGreatDoorX0A
import Derived.Test.YtigobiacbficaaaGreatDoorX0B
set_option maxHeartbeats 8000000
set_option maxRecDepth 100000
open Go.Lib (hid)
open Nat (le_refl)
namespace Go.Proofs.YtigobiacbficaaaGreatDoor.Wp
private theorem q2_ {P:Prop} (h:P:=by
 rw [show n=m.n by rw [hm];rfl] at hsub
 clear hm
 have Hc:=hid hc
 have Hsub:=hid hsub
 obtain ⟨lv,iv,hve,hl2,hi2⟩:=hv.open
 have Hb0:=hid (Z1_ w m lv iv)
 have Hv:=hid (hv.up Hb0.out)
 have HE:=hid (hE.up Hb0.out)
 have Hblk:=hid (Z4_ w m lv iv)
 have gb:=Hblk.out.cell
 have g0:=gb 0
 have g1:=gb 1
 have g2:=gb 2
 have g3:=gb 3
 have g4:=gb 4
 have g5:=gb 5
 subst hve
 unfold boxed at *
 rw [hmt] at g0
 have Hsv:=hid (hr.up Hb0.out)
 have hal:=D4_ m.n
 clear hv hE gb hl2 hi2 hc hsub hr
 go_enter Tryz.func108,Tryz.ntmps108
 rw [hmt] at Hv Hblk Hb0 HE Hsv
 rw [hmt]
 go_wp2_with fail
 refine (C2_ E m _ _ Hv.out hs HE.out).mono ?_
 rintro e w1 ⟨rfl,hb1⟩
 rw [Hc.out]
 have Hb1:=hid (Z0_ Hb0.out (le_refl _) hb1)
 have Hblk1:=hid (Hblk.out.below hb1 (by simp))
 have Hsv1:=hid (Hsv.out.up hb1)
 have c1:=Hblk1.out.cell 1
 clear hb1 g0 g1 g2 g3 g4 g5
 go_wp2_with fail
 refine (D0_ _ _).mono ?_
 rintro e w2 ⟨v2,rfl,hr2,hb2⟩
 have Hb2:=hid (Z0_ Hb1.out (le_refl _) hb2)
 have Hblk2:=hid (Hblk1.out.below hb2 Hblk1.out.lt)
 have Hsv2:=hid (Hsv1.out.up hb2)
 have Hr2:=hid hr2
 clear hb2 hr2 c1
 go_wp2_with fail
 refine (Zy0 _ _ s (allL m.n) _ Hsv2.out Hr2.out hsl hal).mono ?_
 rintro e w3 ⟨rfl,hb3⟩
 rw [Hsub.out]
 have Hb3:=hid (Z0_ Hb2.out (le_refl _) hb3)
 clear hb3
 go_wp2
 go_ret2
 exact C6_ w _ Hb3.out):P:=h
private theorem z3_ {P:Prop} (h:P:=by
 clear hc hv hs hl2 hi2 hok ht
 go_enter Tryz.func86,Tryz.ntmps86
 go_wp2_with fail
 refine (Q1_ m _ _ Hv0.out Hs.out).mono ?_
 rintro e w1 ⟨rfl,hb1⟩
 rw [HD.out]
 have Hb1:=hid (Z0_ Hb0.out (le_refl _) hb1)
 have Hr1:=hid (Hr0.out.up hb1)
 have Hblk1:=hid (Hblk0.out.below hb1 Hblk0.out.lt)
 clear hb1 g0 g1 g2 g3 g4 g5
 have d0:=Hblk1.out.cell 0
 have d1:=Hblk1.out.cell 1
 obtain ⟨As,cs,rfl,_⟩:=id hr
 go_wp2_with fail
 refine (H7_ _ s m.n _ Hr1.out).mono ?_
 rintro e w2 ⟨rfl,hb2⟩
 rw [Hok.out]
 have Hb2:=hid (Z0_ Hb1.out (le_refl _) hb2)
 have Hr2:=hid (Hr1.out.up hb2)
 have Hblk2:=hid (Hblk1.out.below hb2 Hblk1.out.lt)
 clear hb2 d0 d1
 clear hr
 go_wp2
 go_ret2
 exact C6_ w _ Hb2.out):P:=h
private theorem j3_ {P:Prop} (h:P:=by
 clear hD hm hc
 obtain ⟨lv,iv,hve,hl2,hi2⟩:=hv.open
 have Hb0:=hid (Z1_ w m lv iv)
 have Hv:=hid (hv.up Hb0.out)
 have HE:=hid (hE.up Hb0.out)
 have Hblk:=hid (Z4_ w m lv iv)
 have gb:=Hblk.out.cell
 have g0:=gb 0
 have g1:=gb 1
 have g2:=gb 2
 have g3:=gb 3
 have g4:=gb 4
 have g5:=gb 5
 subst hve
 unfold boxed at *
 rw [hmt] at g0
 clear hv hE gb hl2 hi2
 go_enter Tryz.func108,Tryz.ntmps108
 rw [hmt] at Hv Hblk Hb0 HE
 rw [hmt]
 go_wp2_with fail
 refine (C2_ E m _ _ Hv.out hs HE.out).mono ?_
 rintro e w1 ⟨rfl,hb1⟩
 rw [Hc.out]
 have Hb1:=hid (Z0_ Hb0.out (le_refl _) hb1)
 clear hb1 g0 g1 g2 g3 g4 g5
 go_wp2
 go_ret2
 exact C6_ w _ Hb1.out):P:=h
private theorem q9_ {P:Prop} (h:P:=by
 have hke:k=s.length:=by omega
 subst hke
 have Hff:Hid (F.take s.length=F):=hid (List.take_of_length_le (by have:=Hfn.out;omega))
 rw [Hff.out] at hown
 go_wp2
 go_ret2
 exact ⟨_,rfl,Row.of_own hown rfl,Z0_ Hb4.out (le_refl _) hbr,Yq8 hown Hb4.out.size⟩):P:=h
open Go.RowKit
def A1_ (w:World) (b:Bool) (l:List Int) (e:Ending) (w':World):Prop:=∃ v,e=.returned (.tuple #[v,.bool b])∧Row w' w'.heap.size v l∧Below w.heap.size w w'∧∀ (A:Addr) (n c:Nat),v=.slice (some A) n c→w.heap.size≤A.block
theorem C6_ (w w':World) (hb:Below w.heap.size w w'):A1_ w false [] (.returned (.tuple #[.slice none 0 0,.bool false])) w':=⟨_,rfl,Row.nil_ _ _,hb,fun _ _ _ h=>by cases h⟩
theorem Xs6 (m:Mat) (v p:Value) (w:World) (g:MatV w w.heap.size v m) (c:¬ m.t=5) (d:¬ m.t=6):Calls Tryz.prog 108 #[v,p] w (A1_ w false []):=by
 obtain ⟨j,h,o,_,_⟩:=g.open;have k:=hid (Z1_ w m j h);have e:=(Z4_ w m j h).cell;have x:=e 0;have q:(m.t != 5)=true:=by simpa using c
 have s:(m.t != 6)=true:=by simpa using d
 have r:(m.t==5)=false:=by simpa using c
 have u:(m.t==6)=false:=by simpa using d
 subst o;unfold boxed at *
 clear e g c d
 go_enter Tryz.func108,Tryz.ntmps108
 go_wp2
 go_ret2
 exact C6_ w _ k.out
theorem Xb5 (E:Nat→Addr) (n a b:Int) (l:List (List Int)) (i:List Mat) (v c:Value) (w:World) (hv:MatV w w.heap.size v (.mk 5 n a b l i)) (hs:Sml (.mk 5 n a b l i)) (hE:Env E w) (hc:chk (.mk 5 n a b l i)≠0):Calls Tryz.prog 108 #[v,c] w (A1_ w false []):=by
 have d:(chk (.mk 5 n a b l i) != 0)=true:=by simpa using hc
 generalize hD:chk (.mk 5 n a b l i)=D at *
 have Hc:=hid hD;obtain ⟨m,hm⟩:∃ m,m=Mat.mk 5 n a b l i:=⟨_,rfl⟩;rw [← hm] at hv hs Hc;have hmt:m.t=5:=j51_;exact j3_
theorem Xb6 (E:Nat→Addr) (n a b:Int) (l:List (List Int)) (i:List Mat) (v c:Value) (s:List Int) (w:World) (hv:MatV w w.heap.size v (.mk 5 n a b l i)) (hs:Sml (.mk 5 n a b l i)) (hE:Env E w) (hr:Row w w.heap.size c s) (hsl:s.length≤1048576) (hc:chk (.mk 5 n a b l i)=0) (hsub:subB s (allL n)=false):Calls Tryz.prog 108 #[v,c] w (A1_ w false []):=by
 obtain ⟨m,hm⟩:∃ m,m=Mat.mk 5 n a b l i:=⟨_,rfl⟩;rw [← hm] at hv hs hc;have hmt:m.t=5:=j51_;exact q2_
theorem Xb7 (E:Nat→Addr) (n a b:Int) (l:List (List Int)) (i:List Mat) (v sv:Value) (s:List Int) (w:World) (G:MatV w w.heap.size v (.mk 5 n a b l i)) (hs:Sml (.mk 5 n a b l i)) (hE:Env E w) (hr:Row w w.heap.size sv s) (yb:s.length≤1048576) (hc:chk (.mk 5 n a b l i)=0) (D:subB s (allL n)=true):Calls Tryz.prog 108 #[v,sv] w (A1_ w true (imgM (.mk 5 n a b l i) s)):=by
 obtain ⟨m,hm⟩:∃ m,m=Mat.mk 5 n a b l i:=⟨_,rfl⟩;rw [← hm] at G hs hc;rw [← hm];have M:m.t=5:=j51_;rw [show n=m.n by rw [hm];rfl] at D;clear hm;have Hc:=hid hc;have y0:=hid D;obtain ⟨lv,iv,yc,ya,y8⟩:=G.open;have q:=hid (Z1_ w m lv iv);have Hv:=hid (G.up q.out);have R:=hid (hE.up q.out);have Hblk:=hid (Z4_ w m lv iv);have j:=Hblk.out.cell;have g0:=j 0;have g1:=j 1;have g2:=j 2;have g3:=j 3;have g4:=j 4;have g5:=j 5;subst yc;unfold boxed at *
 rw [M] at g0;have Z:=hid (hr.up q.out);have y5:=D4_ m.n;have y7:=D2_ hc y40_;have P:=W1_ hc y40_;have xd:=Yr5 hc D;have hn:=chk_n hc;have K:=Zy9 m s;have hfa:=Yr6 m s;have yq:=sml_r hs (Y4_ m.l 0 [] y40_);obtain ⟨Al,cl,rfl,_,xe⟩:=ya;obtain ⟨Ai,ci,rfl,_,xc⟩:=y8;obtain ⟨ad,u0,o,x8,J,xh⟩:=xe 0 y40_;subst o;obtain ⟨ai,ui,o,x9,xj,xf⟩:=xc 0 y40_;subst o;rw [add_zero] at J;rw [show (0:Nat) * 6=0 from rfl,add_zero] at xj;obtain ⟨yu,yt,xm,_,_⟩:=xf.open;obtain ⟨x0,x1,x2,x3,x4,x5,g,s0,s1,_⟩:=xj;rw [xm] at g;injection g with g;injection g with g;injection g with _ g;injection g with hx1 _;subst hx1;have yn:(0:Int)<(m.l.length:Int):=y40_;have yo:0<m.l.length:=y40_;have yl:(0:Int)<(m.i.length:Int):=y40_;have ym:0<m.i.length:=y40_;obtain ⟨F,hF⟩:∃ F,F=imgM m s:=⟨_,rfl⟩;rw [← hF] at K hfa;rw [← hF];have O:stayL m=m.l.getD 0 []:=by
  unfold stayL;rw [if_neg y40_];rfl
 obtain ⟨ST,x7⟩:∃ ST,ST=stayL m:=⟨_,rfl⟩;rw [← x7] at hfa P O;have yk:=D4_ (m.i.getD 0 default).n;clear x7 hF;generalize m.l.getD 0 []=r at *
 generalize m.i.getD 0 default=x at *
 generalize m.n=N at *
 have xx:=hid O;have W:=hid xd;have xs:=hid hfa;have Hfn:=hid K;have xo:=hid x8;have yg:=hid x9;have xt:=hid xh;have xr:=hid J;have yh:=hid s1;have Y:=hid M;have ys:(s.length:Int)≤1048576:=y40_;have yr:(ST.length:Int)≤64:=y40_;have Hstl:=hid P;obtain ⟨i0,L,yd,ye,hz2⟩:=info_parts info3;clear G hE j hc D O xd hfa K xe xc xh J s0 s1 xf xm x8 x9 y7 P
 go_enter Tryz.func108,Tryz.ntmps108
 rw [Y.out] at Hv Hblk q R Z;rw [Y.out];clear M
 go_wp2_with fail
 refine (C2_ E m _ _ Hv.out hs R.out).mono ?_;rintro e w1 ⟨rfl,z⟩;rw [Hc.out];have xp:=hid (Z0_ q.out (le_refl _) z);have H:=hid (Hblk.out.below z k40_);have y1:=hid (Z.out.up z);have c1:=H.out.cell 1;clear z g0 g1 g2 g3 g4 g5
 go_wp2_with fail
 refine (D0_ _ _).mono ?_;rintro e w2 ⟨v2,rfl,xi,B⟩;have xq:=hid (Z0_ xp.out (le_refl _) B);have T:=hid (H.out.below B H.out.lt);have x6:=hid (y1.out.up B);have xu:=hid xi;clear B xi c1
 go_wp2_with fail
 refine (Zy0 _ _ s (allL N) _ x6.out xu.out yb y5).mono ?_;rintro e d ⟨rfl,C⟩;rw [y0.out];have u:=hid (Z0_ xq.out (le_refl _) C);have U:=hid (T.out.below C T.out.lt);have y2:=hid (x6.out.up C);have c0:=U.out.cell 0;have c4:=U.out.cell 4;have cr:=(u.out.cell (p:=ad) xo.out).trans xr.out;have xv:=hid ((xt.out.below u.out).mono u.out.size);clear C;have xz:Hid (Row d d.heap.size u0 ST):=by
  show Row _ _ _ _;rw [xx.out];exact xv.out
 obtain ⟨As,cs,rfl,_,xk⟩:=id y2.out;obtain ⟨yf,yi,rfl,_,xl⟩:=id xz.out;have xy:=hid xl;clear xl;have xw:=hid xk;clear xk
 go_wp2_with (at_make;refine wpList_make_full d rfl _ _ 28 rfl d.heap.size 3 i0 (.int .i64 0) 1 z40_ L yd ye .i64 .i64 _ _ s.length rfl rfl (by rfl) (by rfl) x49_ z41_ (le_refl _) ?_)
 intro w6 xg xb;have I:=S1_ w6 d.heap.size s.length (by rw [Nat.mul_one];exact xg);rw [← Zl0 F] at I;have xa:Below d.heap.size d w6:=(Below.refl _ d).grown xb (le_refl _) (fun i L=>by cases L);have S:=hid xa;have V:=hid I;clear xg xb xa I;go_wp2
 go_loopw [52] (fun Q wr=>∃ k:Nat,Q=.int .i64 k∧k≤s.length∧Blk wr d.heap.size 3 (fillM F s.length k)∧Below d.heap.size d wr) (fun Q _=>s.length - (intOf Q).toNat)
 case atStart=>exact ⟨0,rfl,Nat.zero_le _,V.out,S.out⟩
 case round =>
  clear V S;obtain ⟨k,rfl,hk,hblk,hbr⟩:=hrel;have Hblk:=hid hblk;have Hbr:=hid hbr;by_cases hlt:k<s.length
  ·have yp:(k:Int)<(s.length:Int):=by omega
   have hx0:=(W.out k hlt).1;have hx1:=(W.out k hlt).2;have hfa:=xs.out k hlt;obtain ⟨X,hX⟩:∃ X:Nat,s.getD k 0=(X:Int):=⟨(s.getD k 0).toNat,y40_⟩;rw [hX] at hx0 hx1 hfa;have y4:X<ST.length:=x51_;have yj:(X:Int)<(ST.length:Int):=y40_;rw [show ((X:Int)).toNat=X from rfl] at hfa;obtain ⟨y3,o,hasb,hcs⟩:=xw.out k hlt;subst o;obtain ⟨at_,o,y6,hct⟩:=xy.out X y4;subst o;rw [hX] at hcs;have gs:=(hbr.cell (p:=y3.add k) y47_).trans hcs;have gt:=(hbr.cell (p:=at_.add X) (by rw [Z2_];exact y6)).trans hct;have gf:=hblk.frozen k;have hsz:=Zk9 (n:=s.length) Hfn.out hk;obtain ⟨xn,gc⟩:∃ xn,wr.cell? ⟨d.heap.size,k,none⟩=some xn:=⟨(fillM F s.length k)[k]'y40_,by rw [hblk.cell];simp [hsz,hlt]⟩;exact z6_
  ·have y9:k=s.length:=by omega
   subst y9;clear hblk hbr;go_wp2
   go_ret2
   exact ⟨_,rfl,Yv9 Hfn.out Hblk.out z41_,Z0_ u.out (le_refl _) Hbr.out,fun A n c h=>by cases h;exact u.out.size⟩
theorem Xb8 (E:Nat→Addr) (n a b:Int) (l:List (List Int)) (i:List Mat) (v c:Value) (w:World) (hv:MatV w w.heap.size v (.mk 6 n a b l i)) (hs:Sml (.mk 6 n a b l i)) (hE:Env E w) (hc:chk (.mk 6 n a b l i)≠0):Calls Tryz.prog 108 #[v,c] w (A1_ w false []):=by
 have d:(chk (.mk 6 n a b l i) != 0)=true:=by simpa using hc
 generalize hD:chk (.mk 6 n a b l i)=D at *
 have Hc:=hid hD;obtain ⟨m,hm⟩:∃ m,m=Mat.mk 6 n a b l i:=⟨_,rfl⟩;rw [← hm] at hv hs Hc;have hmt:m.t=6:=j51_;exact j3_
theorem Xb9 (E:Nat→Addr) (n a b:Int) (l:List (List Int)) (i:List Mat) (v c:Value) (s:List Int) (w:World) (hv:MatV w w.heap.size v (.mk 6 n a b l i)) (hs:Sml (.mk 6 n a b l i)) (hE:Env E w) (hr:Row w w.heap.size c s) (hsl:s.length≤1048576) (hc:chk (.mk 6 n a b l i)=0) (hsub:subB s (allL n)=false):Calls Tryz.prog 108 #[v,c] w (A1_ w false []):=by
 obtain ⟨m,hm⟩:∃ m,m=Mat.mk 6 n a b l i:=⟨_,rfl⟩;rw [← hm] at hv hs hc;have hmt:m.t=6:=j51_;exact q2_
theorem Xc0 (E:Nat→Addr) (n a b:Int) (l:List (List Int)) (i:List Mat) (v sv:Value) (s:List Int) (w:World) (P:MatV w w.heap.size v (.mk 6 n a b l i)) (hs:Sml (.mk 6 n a b l i)) (hE:Env E w) (hr:Row w w.heap.size sv s) (ys:s.length≤1048576) (hc:chk (.mk 6 n a b l i)=0) (O:subB s (allL n)=true):Calls Tryz.prog 108 #[v,sv] w (A1_ w true (imgM (.mk 6 n a b l i) s)):=by
 obtain ⟨m,hm⟩:∃ m,m=Mat.mk 6 n a b l i:=⟨_,rfl⟩;rw [← hm] at P hs hc;rw [← hm];have M:m.t=6:=j51_;rw [show n=m.n by rw [hm];rfl] at O;clear hm;have Hc:=hid hc;have yf:=hid O;obtain ⟨lv,iv,yt,yr,yp⟩:=P.open;have D:=hid (Z1_ w m lv iv);have Hv:=hid (P.up D.out);have HE:=hid (hE.up D.out);have Hblk:=hid (Z4_ w m lv iv);have z:=Hblk.out.cell;have g0:=z 0;have g1:=z 1;have g2:=z 2;have g3:=z 3;have g4:=z 4;have g5:=z 5;subst yt;unfold boxed at *
 rw [M] at g0;have xf:=hid (hr.up D.out);have yl:=D4_ m.n;have yo:=D2_ hc y40_;have x6:=W1_ hc y40_;have xp:=Yr5 hc O;have hn:=chk_n hc;have V:=Zy9 m s;have hfa:=Yr6 m s;have z4:=sml_r hs (Y4_ m.l 0 [] y40_);obtain ⟨Al,cl,rfl,_,xq⟩:=yr;obtain ⟨Ai,ci,rfl,_,xo⟩:=yp;obtain ⟨u,Q,B,xi,U,xt⟩:=xq 0 y40_;subst B;obtain ⟨g,ui,B,xj,xy,xr⟩:=xo 0 y40_;subst B;rw [add_zero] at U;rw [show (0:Nat) * 6=0 from rfl,add_zero] at xy;obtain ⟨z8,z7,y1,_,_⟩:=xr.open;obtain ⟨x0,x1,x2,x3,x4,x5,o,s0,s1,_⟩:=xy;rw [y1] at o;injection o with o;injection o with o;injection o with _ o;injection o with hx1 _;subst hx1;have z1:(0:Int)<(m.l.length:Int):=y40_;have z2:0<m.l.length:=y40_;have yz:(0:Int)<(m.i.length:Int):=y40_;have z0:0<m.i.length:=y40_;obtain ⟨F,hF⟩:∃ F,F=imgM m s:=⟨_,rfl⟩;rw [← hF] at V hfa;rw [← hF];have Z:stayL m=Z8_ (allL (m.i.getD 0 default).n) (m.l.getD 0 []):=by
  unfold stayL;rw [if_pos M];rfl
 obtain ⟨ST,xh⟩:∃ ST,ST=stayL m:=⟨_,rfl⟩;rw [← xh] at hfa x6 Z;have ym:=D4_ (m.i.getD 0 default).n;clear xh hF;generalize m.l.getD 0 []=r at *
 generalize m.i.getD 0 default=x at *
 generalize m.n=N at *
 have yc:=hid Z;have xd:=hid xp;have y6:=hid hfa;have Hfn:=hid V;have x7:=hid xi;have x8:=hid xj;have y7:=hid xt;have y5:=hid U;have ya:=hid s1;have xe:=hid M;have z6:(s.length:Int)≤1048576:=y40_;have z5:(ST.length:Int)≤64:=y40_;have Hstl:=hid x6;obtain ⟨i0,Y,yu,yv,hz2⟩:=info_parts info3;clear P hE z hc O Z xp hfa V xq xo xt U s0 s1 xr y1 xi xj yo x6
 go_enter Tryz.func108,Tryz.ntmps108
 rw [xe.out] at Hv Hblk D HE xf;rw [xe.out];clear M
 go_wp2_with fail
 refine (C2_ E m _ _ Hv.out hs HE.out).mono ?_;rintro e w1 ⟨rfl,I⟩;rw [Hc.out];have y3:=hid (Z0_ D.out (le_refl _) I);have R:=hid (Hblk.out.below I k40_);have yg:=hid (xf.out.up I);have c1:=R.out.cell 1;clear I g0 g1 g2 g3 g4 g5
 go_wp2_with fail
 refine (D0_ _ _).mono ?_;rintro e w2 ⟨v2,rfl,xu,J⟩;have y4:=hid (Z0_ y3.out (le_refl _) J);have xb:=hid (R.out.below J R.out.lt);have xg:=hid (yg.out.up J);have y8:=hid xu;clear J xu c1
 go_wp2_with fail
 refine (Zy0 _ _ s (allL N) _ xg.out y8.out ys yl).mono ?_;rintro e j ⟨rfl,K⟩;rw [yf.out];have q:=hid (Z0_ y4.out (le_refl _) K);have G:=hid (xb.out.below K xb.out.lt);have yh:=hid (xg.out.up K);have c0:=G.out.cell 0;have c4:=G.out.cell 4;have cr:=(q.out.cell (p:=u) x7.out).trans y5.out;have y9:=hid ((y7.out.below q.out).mono q.out.size);clear K;go_wp2;have hlt:w.heap.size<j.heap.size:=G.out.lt;have xl:u.block<j.heap.size:=Nat.lt_of_lt_of_le x7.out q.out.size;have xk:g.block<j.heap.size:=Nat.lt_of_lt_of_le x8.out q.out.size;have S:Hid (∀ W,Below j.drew.heap.size j.drew W→W.cell? ⟨w.heap.size,4,none⟩=some (.slice (some u) m.l.length cl)∧W.cell? ⟨w.heap.size,5,none⟩=some (.slice (some g) m.i.length ci)∧W.cell? u=some Q∧W.cell? ⟨g.block,g.off+1,none⟩=some (.int .i64 x.n)):=fun W H =>
  ⟨(H.cell (p:=⟨w.heap.size,4,none⟩) hlt).trans (G.out.cell 4),(H.cell (p:=⟨w.heap.size,5,none⟩) hlt).trans (G.out.cell 5),(H.cell (p:=u) xl).trans cr,
   (H.cell (p:=⟨g.block,g.off+1,none⟩) xk).trans ((q.out.cell (p:=⟨g.block,g.off+1,none⟩) x8.out).trans ya.out)⟩
 clear c0 c4 cr
 go_region_held3 (fun W=>W.cell? ⟨w.heap.size,4,none⟩=some (.slice (some u) m.l.length cl)∧W.cell? ⟨w.heap.size,5,none⟩=some (.slice (some g) m.i.length ci)∧W.cell? u=some Q∧W.cell? ⟨g.block,g.off+1,none⟩=some (.int .i64 x.n))
  (first | exact S.out _ (Below.refl _ _) | exact S.out _ C | exact S.out _ (Z0_ C (le_refl _) L))
  (first
  | (go_at_call 32;refine (D0_ _ _).mono ?_;rintro e w4 ⟨v4,rfl,xv,C⟩;have xx:Row w4 w4.heap.size Q r:=(show Row j.drew j.drew.heap.size Q r from y9.out).up C)
  | (go_at_call 65;refine (N6_ _ _ (allL x.n) r _ xv xx ym y40_).mono ?_;rintro e d ⟨v5,rfl,xw,L⟩))
 have x9:=hid (Z0_ (Z0_ q.out.drew (le_refl _) C) (le_refl _) L);have ye:Hid (Row d d.heap.size v5 ST):=by
  show Row _ _ _ _;rw [yc.out];exact xw
 have yi:=hid ((show Row j.drew j.drew.heap.size sv s from yh.out).up (Z0_ C (le_refl _) L));clear C L xv xx xw hlt xl xk;generalize v5=vst at *
 obtain ⟨As,cs,rfl,_,xz⟩:=id yi.out;obtain ⟨yw,yx,rfl,_,y0⟩:=id ye.out;have yd:=hid y0;clear y0;go_simp;have yb:=hid xz;clear xz
 go_wp2_with (at_make;refine wpList_make_full d rfl _ _ 28 rfl d.heap.size 3 i0 (.int .i64 0) 1 z40_ Y yu yv .i64 .i64 _ _ s.length rfl rfl (by rfl) (by rfl) x49_ z41_ (le_refl _) ?_)
 intro w6 xs xn;have T:=S1_ w6 d.heap.size s.length (by rw [Nat.mul_one];exact xs);rw [← Zl0 F] at T;have xm:Below d.heap.size d w6:=(Below.refl _ d).grown xn (le_refl _) (fun i Y=>by cases Y);have xa:=hid xm;have xc:=hid T;clear xs xn xm T;go_wp2
 go_loopw [52] (fun vk wr=>∃ k:Nat,vk=.int .i64 k∧k≤s.length∧Blk wr d.heap.size 3 (fillM F s.length k)∧Below d.heap.size d wr) (fun vk _=>s.length - (intOf vk).toNat)
 case atStart=>exact ⟨0,rfl,Nat.zero_le _,xc.out,xa.out⟩
 case round =>
  clear xc xa;obtain ⟨k,rfl,hk,hblk,hbr⟩:=hrel;have Hblk:=hid hblk;have Hbr:=hid hbr;by_cases hlt:k<s.length
  ·have z3:(k:Int)<(s.length:Int):=by omega
   have hx0:=(xd.out k hlt).1;have hx1:=(xd.out k hlt).2;have hfa:=y6.out k hlt;obtain ⟨X,hX⟩:∃ X:Nat,s.getD k 0=(X:Int):=⟨(s.getD k 0).toNat,y40_⟩;rw [hX] at hx0 hx1 hfa;have yk:X<ST.length:=x51_;have yy:(X:Int)<(ST.length:Int):=y40_;rw [show ((X:Int)).toNat=X from rfl] at hfa;obtain ⟨yj,B,hasb,hcs⟩:=yb.out k hlt;subst B;obtain ⟨at_,B,yn,hct⟩:=yd.out X yk;subst B;rw [hX] at hcs;have gs:=(hbr.cell (p:=yj.add k) y47_).trans hcs;have gt:=(hbr.cell (p:=at_.add X) (by rw [Z2_];exact yn)).trans hct;have gf:=hblk.frozen k;have hsz:=Zk9 (n:=s.length) Hfn.out hk;obtain ⟨y2,gc⟩:∃ y2,wr.cell? ⟨d.heap.size,k,none⟩=some y2:=⟨(fillM F s.length k)[k]'y40_,by rw [hblk.cell];simp [hsz,hlt]⟩;exact z6_
  ·have yq:k=s.length:=by omega
   subst yq;clear hblk hbr;go_wp2
   go_ret2
   exact ⟨_,rfl,Yv9 Hfn.out Hblk.out z41_,Z0_ x9.out (le_refl _) Hbr.out,fun A n c h=>by cases h;exact x9.out.size⟩
theorem Yc6 (E:Nat→Addr) (m:Mat) (v d:Value) (s:List Int) (w:World) (g:MatV w w.heap.size v m) (hs:Sml m) (h:Env E w) (j:Row w w.heap.size d s) (k:s.length≤1048576):Calls Tryz.prog 108 #[v,d] w (A1_ w (imgB m s) (imgL m s)):=by
 unfold imgL;by_cases c:m.t=5∨m.t=6
 ·by_cases hc:chk m=0
  ·rcases hsub:subB s (allL m.n) with _ | _
   ·rw [show imgB m s=false by unfold imgB;rw [hsub];simp,if_neg q41_]
    obtain ⟨t,n,a,b,l,i⟩:=m;rcases c with c | c<;>cases c
    ·exact Xb6 E n a b l i v d s w g hs h j k hc hsub
    ·exact Xb9 E n a b l i v d s w g hs h j k hc hsub
   ·rw [show imgB m s=true by unfold imgB;rw [hsub,decide_eq_true c,decide_eq_true hc];rfl,if_pos rfl]
    obtain ⟨t,n,a,b,l,i⟩:=m;rcases c with c | c<;>cases c
    ·exact Xb7 E n a b l i v d s w g hs h j k hc hsub
    ·exact Xc0 E n a b l i v d s w g hs h j k hc hsub
  ·rw [show imgB m s=false by unfold imgB;rw [decide_eq_false hc];simp,if_neg q41_]
   obtain ⟨t,n,a,b,l,i⟩:=m;rcases c with c | c<;>cases c
   ·exact Xb5 E n a b l i v d w g hs h hc
   ·exact Xb8 E n a b l i v d w g hs h hc
 ·rw [show imgB m s=false by unfold imgB;rw [decide_eq_false c];simp,if_neg q41_]
  exact Xs6 m v d w g (fun e=>c (.inl e)) (fun e=>c (.inr e))
open Go.RowKit
theorem Xc1 (m:Mat) (v q:Value) (s:List Int) (w:World) (j:MatV w w.heap.size v m) (hs:Sml m) (k:Row w w.heap.size q s) (_hsl:s.length≤1048576) (hc:chk m≠0):Calls Tryz.prog 86 #[v,q] w (A1_ w false []):=by
 have y:=hid hs;obtain ⟨p,o,K,J,I⟩:=j.open;have g:=hid (Z1_ w m p o);have z:=hid (j.up g.out);have x:=hid (k.up g.out);have c:=hid (Z4_ w m p o);have B:=c.out.cell 0;have C:=c.out.cell 1;have E:=c.out.cell 2;have F:=c.out.cell 3;have G:=c.out.cell 4;have H:=c.out.cell 5;subst K;unfold boxed at *
 obtain ⟨D,h⟩:∃ D,chk m=D:=⟨_,rfl⟩;have r:=hid h;rw [h] at hc;have N:(D != 0)=true:=by simpa using hc
 clear h hc j hs k J I
 go_enter Tryz.func86,Tryz.ntmps86
 go_wp2_with fail
 refine (Q1_ m _ _ z.out y.out).mono ?_;rintro e O ⟨rfl,d⟩;rw [r.out];have u:=hid (Z0_ g.out (le_refl _) d);have M:=hid (x.out.up d);have L:=hid (c.out.below d c.out.lt);clear d B C E F G H;go_wp2
 go_ret2
 exact C6_ w _ u.out
theorem Xc2 (m:Mat) (v r:Value) (s:List Int) (w:World) (h:MatV w w.heap.size v m) (hs:Sml m) (o:Row w w.heap.size r s) (_hsl:s.length≤1048576) (hc:chk m=0) (j:¬ m.t=5) (k:¬ m.t=6):Calls Tryz.prog 86 #[v,r] w (A1_ w false []):=by
 have B:=hid hs;obtain ⟨q,p,L,K,J⟩:=h.open;have g:=hid (Z1_ w m q p);have C:=hid (h.up g.out);have z:=hid (o.up g.out);have c:=hid (Z4_ w m q p);have D:=c.out.cell 0;have E:=c.out.cell 1;have F:=c.out.cell 2;have G:=c.out.cell 3;have H:=c.out.cell 4;have I:=c.out.cell 5;subst L;unfold boxed at *
 have u:=hid hc;have O:(m.t != 5)=true:=by simpa using j
 have P:(m.t != 6)=true:=by simpa using k
 clear hc h hs o K J j k
 go_enter Tryz.func86,Tryz.ntmps86
 go_wp2_with fail
 refine (Q1_ m _ _ C.out B.out).mono ?_;rintro e Q ⟨rfl,d⟩;rw [u.out];have x:=hid (Z0_ g.out (le_refl _) d);have M:=hid (z.out.up d);have y:=hid (c.out.below d c.out.lt);clear d D E F G H I;have N:=y.out.cell 0;go_wp2
 go_ret2
 exact C6_ w _ x.out
theorem Ym4 (m:Mat) (v g:Value) (s:List Int) (w:World) (hv:MatV w w.heap.size v m) (hs:Sml m) (hr:Row w w.heap.size g s) (_hsl:s.length≤1048576) (hc:chk m=0) (ht:m.t=5) (hok:okA m.n s=false):Calls Tryz.prog 86 #[v,g] w (A1_ w false []):=by
 have Hs:=hid hs;obtain ⟨d,c,h,hl2,hi2⟩:=hv.open;have Hb0:=hid (Z1_ w m d c);have Hv0:=hid (hv.up Hb0.out);have Hr0:=hid (hr.up Hb0.out);have Hblk0:=hid (Z4_ w m d c);have g0:=Hblk0.out.cell 0;have g1:=Hblk0.out.cell 1;have g2:=Hblk0.out.cell 2;have g3:=Hblk0.out.cell 3;have g4:=Hblk0.out.cell 4;have g5:=Hblk0.out.cell 5;subst h;unfold boxed at *
 have HD:=hid hc;have Hok:=hid hok;have j:(m.t != 5)=false:=q45_;exact z3_
theorem Ym5 (m:Mat) (v sv:Value) (s:List Int) (w:World) (N:MatV w w.heap.size v m) (hs:Sml m) (K:Row w w.heap.size sv s) (y4:s.length≤1048576) (hc:chk m=0) (ht:m.t=5) (J:okA m.n s=true):Calls Tryz.prog 86 #[v,sv] w (A1_ w true (imgM m s)):=by
 have Hs:=hid hs;obtain ⟨lv,iv,xt,xr,xp⟩:=N.open;have B:=hid (Z1_ w m lv iv);have xi:=hid (N.up B.out);have x9:=hid (K.up B.out);have g:=hid (Z4_ w m lv iv);have g0:=g.out.cell 0;have g1:=g.out.cell 1;have g2:=g.out.cell 2;have g3:=g.out.cell 3;have g4:=g.out.cell 4;have g5:=g.out.cell 5;subst xt;unfold boxed at *
 have xn:=D2_ hc y40_;have M:=W1_ hc y40_;have V:=Yr5 hc (by rw [← Zx2 (chk_n hc).1 (chk_n hc).2];exact J);have I:=Zy9 m s;have d:=Yr6 m s;obtain ⟨Al,cl,rfl,_,W⟩:=xr;obtain ⟨Ai,ci,rfl,_,xq⟩:=xp;obtain ⟨ad,u0,j,T,G,Z⟩:=W 0 y40_;subst j;rw [add_zero] at G;have y1:(0:Int)<(m.l.length:Int):=y40_;have y0:0<m.l.length:=y40_;have y3:(s.length:Int)≤1048576:=y40_;obtain ⟨F,hF⟩:∃ F,F=imgM m s:=⟨_,rfl⟩;rw [← hF] at I d;rw [← hF];have L:stayL m=m.l.getD 0 []:=by
  unfold stayL;rw [if_neg y40_];rfl
 obtain ⟨h,S⟩:∃ h,h=stayL m:=⟨_,rfl⟩;rw [← S] at d M L;generalize m.l.getD 0 []=r at *
 have xf:=hid L;have P:=hid V;have x7:=hid d;have Hfn:=hid I;have x4:=hid T;have xc:=hid Z;have x6:=hid G;have Hstl:=hid M;have HD:=hid hc;have x8:=hid J;have f6:(m.t==6)=false:=x41_;have y5:(h.length:Int)≤64:=by have:=(chk_n hc).2;omega
 have e5:(m.t != 5)=false:=q45_;clear N hs J ht hc L V d I xn T Z G M W xq hF S
 go_enter Tryz.func86,Tryz.ntmps86
 go_wp2_with fail
 refine (Q1_ m _ _ xi.out Hs.out).mono ?_;rintro e w1 ⟨rfl,u⟩;rw [HD.out];have x5:=hid (Z0_ B.out (le_refl _) u);have Q:=hid (x9.out.up u);have q:=hid (g.out.below u g.out.lt);clear u g0 g1 g2 g3 g4 g5;have D:=q.out.cell 0;have d1:=q.out.cell 1;obtain ⟨As,cs,rfl,_⟩:=id K
 go_wp2_with fail
 refine (H7_ _ s m.n _ Q.out).mono ?_;rintro e c ⟨rfl,x⟩;rw [x8.out];have o:=hid (Z0_ x5.out (le_refl _) x);have xa:=hid (Q.out.up x);have C:=hid (q.out.below x q.out.lt);clear x D d1;clear K;have D:=C.out.cell 0;have d4:=C.out.cell 4;have d5:=C.out.cell 5;have cr:=(o.out.cell (p:=ad) x4.out).trans x6.out;have xd:=hid ((xc.out.below o.out).mono o.out.size);have Hb4:=o;have xb:=xa;have xh:Hid (Row c c.heap.size u0 h):=hid (by rw [xf.out];exact xd.out);obtain ⟨xu,xw,xs,_,x0⟩:=id xb.out;injection xs with he1 he2 he3;subst he1 he3;obtain ⟨xv,xx,rfl,_,x1⟩:=id xh.out;have xg:=hid x1;have xe:=hid x0;have Y:(c.alloc (.cells #[] 3)).ownsRow c.heap.size 3 1 (.slice (some ⟨c.heap.size,0,none⟩) 0 0) 0 [] :=
  World.ownsRow_made c #[] 0 (le_refl _) z41_ rfl
 have R:Below c.heap.size c (c.alloc (.cells #[] 3)):=(Below.refl _ c).alloc (le_refl _) _;clear x1 x0 he2;go_wp2;clear D d4 d5 cr
 go_loopw [7,8] (fun vl O wr=>∃ k:Nat,O=.int .i64 k∧k≤s.length∧wr.ownsRow c.heap.size 3 1 vl (F.take k).length (ints (F.take k))∧Below c.heap.size c wr) (fun _ O _=>s.length - (intOf O).toNat)
 case atStart=>exact ⟨0,rfl,Nat.zero_le _,Y,R⟩
 case round =>
  obtain ⟨k,rfl,hk,hown,hbr⟩:=hrel;clear Y R;by_cases z:k<s.length
  ·have y2:(k:Int)<(s.length:Int):=by omega
   have x2:=(P.out k z).1;have x3:=(P.out k z).2;have d:=x7.out k z;obtain ⟨X,E⟩:∃ X:Nat,s.getD k 0=(X:Int):=⟨(s.getD k 0).toNat,y40_⟩;rw [E] at x2 x3 d;have xl:X<h.length:=x51_;have xz:(X:Int)<(h.length:Int):=y40_;rw [show ((X:Int)).toNat=X from rfl] at d;obtain ⟨xj,j,hasb,H⟩:=xe.out k z;subst j;obtain ⟨at_,j,xm,U⟩:=xg.out X xl;subst j;rw [E] at H;have gs:=(hbr.cell (p:=xj.add k) y47_).trans H;have gt:=(hbr.cell (p:=at_.add X) (by rw [Z2_];exact xm)).trans U;have xy:=Hfn.out;have Htk:Hid (F.take (k+1)=F.take k ++ [h.getD X 0]):=hid (by rw [List.take_succ_eq_append_getElem y40_,← d];simp [List.getD,show k<F.length by omega]);have xk:(F.take k).length=k:=k42_;generalize h.getD X 0=y at *
   have Hlen:Hid ((F.take k ++ [y]).length=k+1):=hid (by rw [List.length_append,xk];rfl);clear H U E x2 x3 d
   go_wp2_with (at_builtin;refine Z5_ rfl _ _ rfl c.heap.size _ _ _ (F.take k) [y] rfl rfl (hown.alloc _) (Row.lit1 _ y) y40_ k40_ x43_ ?_)
   intro v' w6 hown' xo;have hb6:Below c.heap.size wr w6:=((Below.refl _ wr).alloc hbr.size _).grown xo x43_ (fun i hi=>(hown.lt i hi).1);exact y16_
  ·exact q9_
theorem Ym6 (m:Mat) (v g:Value) (s:List Int) (w:World) (hv:MatV w w.heap.size v m) (hs:Sml m) (hr:Row w w.heap.size g s) (_hsl:s.length≤1048576) (hc:chk m=0) (ht:m.t=6) (hok:okA m.n s=false):Calls Tryz.prog 86 #[v,g] w (A1_ w false []):=by
 have Hs:=hid hs;obtain ⟨d,c,h,hl2,hi2⟩:=hv.open;have Hb0:=hid (Z1_ w m d c);have Hv0:=hid (hv.up Hb0.out);have Hr0:=hid (hr.up Hb0.out);have Hblk0:=hid (Z4_ w m d c);have g0:=Hblk0.out.cell 0;have g1:=Hblk0.out.cell 1;have g2:=Hblk0.out.cell 2;have g3:=Hblk0.out.cell 3;have g4:=Hblk0.out.cell 4;have g5:=Hblk0.out.cell 5;subst h;unfold boxed at *
 have HD:=hid hc;have Hok:=hid hok;have j:(m.t != 5)=true:=x41_;have k:(m.t != 6)=false:=q45_;exact z3_
theorem Ym7 (m:Mat) (v sv:Value) (s:List Int) (w:World) (S:MatV w w.heap.size v m) (hs:Sml m) (P:Row w w.heap.size sv s) (yx:s.length≤1048576) (hc:chk m=0) (ht:m.t=6) (O:okA m.n s=true):Calls Tryz.prog 86 #[v,sv] w (A1_ w true (imgM m s)):=by
 have Y:=hid hs;obtain ⟨lv,iv,yj,yh,yg⟩:=S.open;have G:=hid (Z1_ w m lv iv);have y8:=hid (S.up G.out);have xv:=hid (P.up G.out);have g:=hid (Z4_ w m lv iv);have g0:=g.out.cell 0;have g1:=g.out.cell 1;have g2:=g.out.cell 2;have g3:=g.out.cell 3;have g4:=g.out.cell 4;have g5:=g.out.cell 5;subst yj;unfold boxed at *
 have ye:=D2_ hc y40_;have R:=W1_ hc y40_;have xc:=Yr5 hc (by rw [← Zx2 (chk_n hc).1 (chk_n hc).2];exact O);have N:=Zy9 m s;have d:=Yr6 m s;obtain ⟨Al,cl,rfl,_,xd⟩:=yh;obtain ⟨Ai,ci,rfl,_,xb⟩:=yg;obtain ⟨ad,u0,o,x8,L,xg⟩:=xd 0 y40_;subst o;rw [add_zero] at L;have yt:(0:Int)<(m.l.length:Int):=y40_;have ys:0<m.l.length:=y40_;have yw:(s.length:Int)≤1048576:=y40_;obtain ⟨F,hF⟩:∃ F,F=imgM m s:=⟨_,rfl⟩;rw [← hF] at N d;rw [← hF];have Q:stayL m=Z8_ (allL (m.i.getD 0 default).n) (m.l.getD 0 []):=by
  unfold stayL;rw [if_pos ht];rfl
 obtain ⟨Z,ui,o,x9,xj,xe⟩:=xb 0 y40_;subst o;rw [show (0:Nat) * 6=0 from rfl,add_zero] at xj;obtain ⟨z0,yz,xm,_,_⟩:=xe.open;obtain ⟨x0,x1,x2,x3,x4,x5,j,s0,s1,_⟩:=xj;rw [xm] at j;injection j with j;injection j with j;injection j with _ j;injection j with E _;subst E;have yr:(0:Int)<(m.i.length:Int):=y40_;have yq:0<m.i.length:=y40_;have yc:=D4_ (m.i.getD 0 default).n;have yv:=sml_r Y.out (Y4_ m.l 0 [] y40_);generalize m.i.getD 0 default=x at *
 have y3:=hid s1;have xp:=hid x9;obtain ⟨h,x7⟩:∃ h,h=stayL m:=⟨_,rfl⟩;rw [← x7] at d R Q;generalize m.l.getD 0 []=r at *
 have y5:=hid Q;have V:=hid xc;have xt:=hid d;have Hfn:=hid N;have xo:=hid x8;have y0:=hid xg;have xs:=hid L;have Hstl:=hid R;have HD:=hid hc;have xu:=hid O;have f6:(m.t==6)=true:=x41_;have yy:(h.length:Int)≤64:=by have:=(chk_n hc).2;omega
 have e5:(m.t != 5)=true:=x41_;have e6:(m.t != 6)=false:=q45_;clear S hs O ht hc Q xc d N ye x8 xg L R xd xb hF x7 s0 s1 xe xm x9
 go_enter Tryz.func86,Tryz.ntmps86
 go_wp2_with fail
 refine (Q1_ m _ _ y8.out Y.out).mono ?_;rintro e w1 ⟨rfl,z⟩;rw [HD.out];have xq:=hid (Z0_ G.out (le_refl _) z);have W:=hid (xv.out.up z);have u:=hid (g.out.below z g.out.lt);clear z g0 g1 g2 g3 g4 g5;have I:=u.out.cell 0;have d1:=u.out.cell 1;obtain ⟨As,cs,rfl,_⟩:=id P
 go_wp2_with fail
 refine (H7_ _ s m.n _ W.out).mono ?_;rintro e w2 ⟨rfl,B⟩;rw [xu.out];have q:=hid (Z0_ xq.out (le_refl _) B);have xw:=hid (W.out.up B);have H:=hid (u.out.below B u.out.lt);clear B I d1;clear P;have I:=H.out.cell 0;have d4:=H.out.cell 4;have d5:=H.out.cell 5;have cr:=(q.out.cell (p:=ad) xo.out).trans xs.out;have y1:=hid ((y0.out.below q.out).mono q.out.size);have cn:=(q.out.cell (p:=⟨Z.block,Z.off+1,none⟩) xp.out).trans y3.out
 go_wp2_with fail
 refine (D5_ x.n _).mono ?_;rintro e w3 ⟨va,rfl,xh,C⟩;have xr:=hid (Z0_ q.out (le_refl _) C);have xx:=hid (xw.out.up C);have y2:=hid (y1.out.up C);have xz:=hid xh;clear C xh I d4 d5 cr cn
 go_wp2_with fail
 refine (E6_ _ _ (allL x.n) r _ xz.out y2.out yc y40_).mono ?_;rintro e c ⟨U,rfl,xi,K⟩;have Hb4:=hid (Z0_ xr.out (le_refl _) K);have xy:=hid (xx.out.up K);have y7:Hid (Row c c.heap.size U h):=hid (by rw [y5.out];exact xi);clear K xi;obtain ⟨yk,ym,yi,_,xk⟩:=id xy.out;injection yi with he1 he2 he3;subst he1 he3;obtain ⟨yl,yn,rfl,_,xl⟩:=id y7.out;have y6:=hid xl;have y4:=hid xk;have xf:(c.alloc (.cells #[] 3)).ownsRow c.heap.size 3 1 (.slice (some ⟨c.heap.size,0,none⟩) 0 0) 0 [] :=
  World.ownsRow_made c #[] 0 (le_refl _) z41_ rfl
 have x6:Below c.heap.size c (c.alloc (.cells #[] 3)):=(Below.refl _ c).alloc (le_refl _) _;clear xl xk he2;go_wp2
 go_loopw [7,8] (fun U T wr=>∃ k:Nat,T=.int .i64 k∧k≤s.length∧wr.ownsRow c.heap.size 3 1 U (F.take k).length (ints (F.take k))∧Below c.heap.size c wr) (fun _ T _=>s.length - (intOf T).toNat)
 case atStart=>exact ⟨0,rfl,Nat.zero_le _,xf,x6⟩
 case round =>
  obtain ⟨k,rfl,hk,hown,hbr⟩:=hrel;clear xf x6;by_cases D:k<s.length
  ·have yu:(k:Int)<(s.length:Int):=by omega
   have xn:=(V.out k D).1;have E:=(V.out k D).2;have d:=xt.out k D;obtain ⟨X,J⟩:∃ X:Nat,s.getD k 0=(X:Int):=⟨(s.getD k 0).toNat,y40_⟩;rw [J] at xn E d;have yb:X<h.length:=x51_;have yp:(X:Int)<(h.length:Int):=y40_;rw [show ((X:Int)).toNat=X from rfl] at d;obtain ⟨y9,o,hasb,M⟩:=y4.out k D;subst o;obtain ⟨at_,o,yd,xa⟩:=y6.out X yb;subst o;rw [J] at M;have gs:=(hbr.cell (p:=y9.add k) y47_).trans M;have gt:=(hbr.cell (p:=at_.add X) (by rw [Z2_];exact yd)).trans xa;have yo:=Hfn.out;have Htk:Hid (F.take (k+1)=F.take k ++ [h.getD X 0]):=hid (by rw [List.take_succ_eq_append_getElem y40_,← d];simp [List.getD,show k<F.length by omega]);have ya:(F.take k).length=k:=k42_;generalize h.getD X 0=y at *
   have Hlen:Hid ((F.take k ++ [y]).length=k+1):=hid (by rw [List.length_append,ya];rfl);clear M xa J xn E d
   go_wp2_with (at_builtin;refine Z5_ rfl _ _ rfl c.heap.size _ _ _ (F.take k) [y] rfl rfl (hown.alloc _) (Row.lit1 _ y) y40_ k40_ x43_ ?_)
   intro v' w6 hown' yf;have hb6:Below c.heap.size wr w6:=((Below.refl _ wr).alloc hbr.size _).grown yf x43_ (fun i hi=>(hown.lt i hi).1);exact y16_
  ·exact q9_
theorem K7_ (m:Mat) (v d:Value) (s:List Int) (w:World) (j:MatV w w.heap.size v m) (hs:Sml m) (g:Row w w.heap.size d s) (h:s.length≤1048576):Calls Tryz.prog 86 #[v,d] w (A1_ w (imgB m s) (imgL m s)):=by
 unfold imgL;by_cases hc:chk m=0
 ·by_cases c:m.t=5∨m.t=6
  ·rcases hok:okA m.n s with _ | _
   ·have k:subB s (allL m.n)=false:=by rw [← Zx2 (chk_n hc).1 (chk_n hc).2];exact hok
    rw [show imgB m s=false by unfold imgB;rw [k];simp,if_neg q41_];rcases c with c | c
    ·exact Ym4 m v d s w j hs g h hc c hok
    ·exact Ym6 m v d s w j hs g h hc c hok
   ·have k:subB s (allL m.n)=true:=by rw [← Zx2 (chk_n hc).1 (chk_n hc).2];exact hok
    rw [show imgB m s=true by unfold imgB;rw [k,decide_eq_true c,decide_eq_true hc];rfl,if_pos rfl];rcases c with c | c
    ·exact Ym5 m v d s w j hs g h hc c hok
    ·exact Ym7 m v d s w j hs g h hc c hok
  ·rw [show imgB m s=false by unfold imgB;rw [decide_eq_false c];simp,if_neg q41_]
   exact Xc2 m v d s w j hs g h hc (fun e=>c (.inl e)) (fun e=>c (.inr e))
 ·rw [show imgB m s=false by unfold imgB;rw [decide_eq_false hc];simp,if_neg q41_]
  exact Xc1 m v d s w j hs g h hc
end Go.Proofs.YtigobiacbficaaaGreatDoor.Wp
