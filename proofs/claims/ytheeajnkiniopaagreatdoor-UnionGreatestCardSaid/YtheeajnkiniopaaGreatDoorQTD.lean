/- The document's Image, walked. -/
import Derived.Test.YtheeajnkiniopaaGreatDoorZT
import Derived.Test.YtheeajnkiniopaaGreatDoorQImg
import Derived.Test.YtheeajnkiniopaaGreatDoorX0A
import Derived.Test.YtheeajnkiniopaaGreatDoorX0B
set_option maxHeartbeats 8000000
set_option maxRecDepth 100000
open Go.Lib (hid)
open Nat (le_refl)
namespace Go.Proofs.YtheeajnkiniopaaGreatDoor.Wp
private theorem q3_ {P:Prop} (h:P:=by
 clear hc hv hs hl2 hi2 hok ht
 go_enter Tryz.func112,Tryz.ntmps112
 go_wp2_with fail
 refine (Q9_ m _ _ Hv0.out Hs.out).mono ?_
 rintro e w1 ⟨rfl,hb1⟩
 rw [HD.out]
 have Hb1:=hid (Z0_ Hb0.out (le_refl _) hb1)
 have Hr1:=hid (Hr0.out.up hb1)
 have Hblk1:=hid (Hblk0.out.below hb1 Hblk0.out.lt)
 clear hb1 g0 g1 g2 g3 g4 g5
 have d0:=Hblk1.out.cell 0
 have d1:=Hblk1.out.cell 1
 obtain ⟨As,cs,rfl,_⟩:=id hr
 go_wp2_with fail
 refine (F4_ _ s m.n _ Hr1.out).mono ?_
 rintro e w2 ⟨rfl,hb2⟩
 rw [Hok.out]
 have Hb2:=hid (Z0_ Hb1.out (le_refl _) hb2)
 have Hr2:=hid (Hr1.out.up hb2)
 have Hblk2:=hid (Hblk1.out.below hb2 Hblk1.out.lt)
 clear hb2 d0 d1
 clear hr
 go_wp2
 go_ret2
 exact C2_ w _ Hb2.out):P:=h
private theorem j7_ {P:Prop} (h:P:=by
 have hke:k=s.length:=by omega
 subst hke
 have Hff:Hid (F.take s.length=F):=hid (List.take_of_length_le (by have:=Hfn.out;omega))
 rw [Hff.out] at hown
 go_wp2
 go_ret2
 exact ⟨_,rfl,Row.of_own hown rfl,Z0_ Hb4.out (le_refl _) hbr,Yx0 hown Hb4.out.size⟩):P:=h
open Go.RowKit
theorem Xv8 (m:Mat) (v q:Value) (s:List Int) (w:World) (j:MatV w w.heap.size v m) (hs:Sml m) (k:Row w w.heap.size q s) (_hsl:s.length≤1048576) (hc:chk m≠0):Calls Tryz.prog 112 #[v,q] w (Q6_ w false []):=by
 have y:=hid hs;obtain ⟨p,o,K,J,I⟩:=j.open;have g:=hid (Z1_ w m p o);have z:=hid (j.up g.out);have x:=hid (k.up g.out);have c:=hid (Z4_ w m p o);have B:=c.out.cell 0;have C:=c.out.cell 1;have E:=c.out.cell 2;have F:=c.out.cell 3;have G:=c.out.cell 4;have H:=c.out.cell 5;subst K;unfold boxed at *
 obtain ⟨D,h⟩:∃ D,chk m=D:=⟨_,rfl⟩;have r:=hid h;rw [h] at hc;have N:(D != 0)=true:=by simpa using hc
 clear h hc j hs k J I
 go_enter Tryz.func112,Tryz.ntmps112
 go_wp2_with fail
 refine (Q9_ m _ _ z.out y.out).mono ?_;rintro e O ⟨rfl,d⟩;rw [r.out];have u:=hid (Z0_ g.out (le_refl _) d);have M:=hid (x.out.up d);have L:=hid (c.out.below d c.out.lt);clear d B C E F G H;go_wp2
 go_ret2
 exact C2_ w _ u.out
theorem Xv9 (m:Mat) (v r:Value) (s:List Int) (w:World) (h:MatV w w.heap.size v m) (hs:Sml m) (o:Row w w.heap.size r s) (_hsl:s.length≤1048576) (hc:chk m=0) (j:¬ m.t=5) (k:¬ m.t=6):Calls Tryz.prog 112 #[v,r] w (Q6_ w false []):=by
 have B:=hid hs;obtain ⟨q,p,L,K,J⟩:=h.open;have g:=hid (Z1_ w m q p);have C:=hid (h.up g.out);have z:=hid (o.up g.out);have c:=hid (Z4_ w m q p);have D:=c.out.cell 0;have E:=c.out.cell 1;have F:=c.out.cell 2;have G:=c.out.cell 3;have H:=c.out.cell 4;have I:=c.out.cell 5;subst L;unfold boxed at *
 have u:=hid hc;have O:(m.t != 5)=true:=by simpa using j
 have P:(m.t != 6)=true:=by simpa using k
 clear hc h hs o K J j k
 go_enter Tryz.func112,Tryz.ntmps112
 go_wp2_with fail
 refine (Q9_ m _ _ C.out B.out).mono ?_;rintro e Q ⟨rfl,d⟩;rw [u.out];have x:=hid (Z0_ g.out (le_refl _) d);have M:=hid (z.out.up d);have y:=hid (c.out.below d c.out.lt);clear d D E F G H I;have N:=y.out.cell 0;go_wp2
 go_ret2
 exact C2_ w _ x.out
theorem Yg4 (m:Mat) (v g:Value) (s:List Int) (w:World) (hv:MatV w w.heap.size v m) (hs:Sml m) (hr:Row w w.heap.size g s) (_hsl:s.length≤1048576) (hc:chk m=0) (ht:m.t=5) (hok:okA m.n s=false):Calls Tryz.prog 112 #[v,g] w (Q6_ w false []):=by
 have Hs:=hid hs;obtain ⟨d,c,h,hl2,hi2⟩:=hv.open;have Hb0:=hid (Z1_ w m d c);have Hv0:=hid (hv.up Hb0.out);have Hr0:=hid (hr.up Hb0.out);have Hblk0:=hid (Z4_ w m d c);have g0:=Hblk0.out.cell 0;have g1:=Hblk0.out.cell 1;have g2:=Hblk0.out.cell 2;have g3:=Hblk0.out.cell 3;have g4:=Hblk0.out.cell 4;have g5:=Hblk0.out.cell 5;subst h;unfold boxed at *
 have HD:=hid hc;have Hok:=hid hok;have j:(m.t != 5)=false:=j41_;exact q3_
theorem Yg5 (m:Mat) (v sv:Value) (s:List Int) (w:World) (N:MatV w w.heap.size v m) (hs:Sml m) (K:Row w w.heap.size sv s) (y4:s.length≤1048576) (hc:chk m=0) (ht:m.t=5) (J:okA m.n s=true):Calls Tryz.prog 112 #[v,sv] w (Q6_ w true (imgM m s)):=by
 have Hs:=hid hs;obtain ⟨lv,iv,xt,xr,xp⟩:=N.open;have B:=hid (Z1_ w m lv iv);have xi:=hid (N.up B.out);have x9:=hid (K.up B.out);have g:=hid (Z4_ w m lv iv);have g0:=g.out.cell 0;have g1:=g.out.cell 1;have g2:=g.out.cell 2;have g3:=g.out.cell 3;have g4:=g.out.cell 4;have g5:=g.out.cell 5;subst xt;unfold boxed at *
 have xn:=D1_ hc x37_;have M:=W4_ hc x37_;have V:=Ym1 hc (by rw [← Zy8 (chk_n hc).1 (chk_n hc).2];exact J);have I:=Zy6 m s;have d:=Ym2 m s;obtain ⟨Al,cl,rfl,_,W⟩:=xr;obtain ⟨Ai,ci,rfl,_,xq⟩:=xp;obtain ⟨ad,u0,j,T,G,Z⟩:=W 0 x37_;subst j;rw [add_zero] at G;have y1:(0:Int)<(m.l.length:Int):=x37_;have y0:0<m.l.length:=x37_;have y3:(s.length:Int)≤1048576:=x37_;obtain ⟨F,hF⟩:∃ F,F=imgM m s:=⟨_,rfl⟩;rw [← hF] at I d;rw [← hF];have L:stayL m=m.l.getD 0 []:=by
  unfold stayL;rw [if_neg x37_];rfl
 obtain ⟨h,S⟩:∃ h,h=stayL m:=⟨_,rfl⟩;rw [← S] at d M L;generalize m.l.getD 0 []=r at *
 have xf:=hid L;have P:=hid V;have x7:=hid d;have Hfn:=hid I;have x4:=hid T;have xc:=hid Z;have x6:=hid G;have Hstl:=hid M;have HD:=hid hc;have x8:=hid J;have f6:(m.t==6)=false:=k37_;have y5:(h.length:Int)≤64:=by have:=(chk_n hc).2;omega
 have e5:(m.t != 5)=false:=j41_;clear N hs J ht hc L V d I xn T Z G M W xq hF S
 go_enter Tryz.func112,Tryz.ntmps112
 go_wp2_with fail
 refine (Q9_ m _ _ xi.out Hs.out).mono ?_;rintro e w1 ⟨rfl,u⟩;rw [HD.out];have x5:=hid (Z0_ B.out (le_refl _) u);have Q:=hid (x9.out.up u);have q:=hid (g.out.below u g.out.lt);clear u g0 g1 g2 g3 g4 g5;have D:=q.out.cell 0;have d1:=q.out.cell 1;obtain ⟨As,cs,rfl,_⟩:=id K
 go_wp2_with fail
 refine (F4_ _ s m.n _ Q.out).mono ?_;rintro e c ⟨rfl,x⟩;rw [x8.out];have o:=hid (Z0_ x5.out (le_refl _) x);have xa:=hid (Q.out.up x);have C:=hid (q.out.below x q.out.lt);clear x D d1;clear K;have D:=C.out.cell 0;have d4:=C.out.cell 4;have d5:=C.out.cell 5;have cr:=(o.out.cell (p:=ad) x4.out).trans x6.out;have xd:=hid ((xc.out.below o.out).mono o.out.size);have Hb4:=o;have xb:=xa;have xh:Hid (Row c c.heap.size u0 h):=hid (by rw [xf.out];exact xd.out);obtain ⟨xu,xw,xs,_,x0⟩:=id xb.out;injection xs with he1 he2 he3;subst he1 he3;obtain ⟨xv,xx,rfl,_,x1⟩:=id xh.out;have xg:=hid x1;have xe:=hid x0;have Y:(c.alloc (.cells #[] 3)).ownsRow c.heap.size 3 1 (.slice (some ⟨c.heap.size,0,none⟩) 0 0) 0 [] :=
  World.ownsRow_made c #[] 0 (le_refl _) z38_ rfl
 have R:Below c.heap.size c (c.alloc (.cells #[] 3)):=(Below.refl _ c).alloc (le_refl _) _;clear x1 x0 he2;go_wp2;clear D d4 d5 cr
 go_loopw [7,8] (fun vl O wr=>∃ k:Nat,O=.int .i64 k∧k≤s.length∧wr.ownsRow c.heap.size 3 1 vl (F.take k).length (ints (F.take k))∧Below c.heap.size c wr) (fun _ O _=>s.length - (intOf O).toNat)
 case atStart=>exact ⟨0,rfl,Nat.zero_le _,Y,R⟩
 case round =>
  obtain ⟨k,rfl,hk,hown,hbr⟩:=hrel;clear Y R;by_cases z:k<s.length
  ·have y2:(k:Int)<(s.length:Int):=by omega
   have x2:=(P.out k z).1;have x3:=(P.out k z).2;have d:=x7.out k z;obtain ⟨X,E⟩:∃ X:Nat,s.getD k 0=(X:Int):=⟨(s.getD k 0).toNat,x37_⟩;rw [E] at x2 x3 d;have xl:X<h.length:=y47_;have xz:(X:Int)<(h.length:Int):=x37_;rw [show ((X:Int)).toNat=X from rfl] at d;obtain ⟨xj,j,hasb,H⟩:=xe.out k z;subst j;obtain ⟨at_,j,xm,U⟩:=xg.out X xl;subst j;rw [E] at H;have gs:=(hbr.cell (p:=xj.add k) j43_).trans H;have gt:=(hbr.cell (p:=at_.add X) (by rw [Z2_];exact xm)).trans U;have xy:=Hfn.out;have Htk:Hid (F.take (k+1)=F.take k ++ [h.getD X 0]):=hid (by rw [List.take_succ_eq_append_getElem x37_,← d];simp [List.getD,show k<F.length by omega]);have xk:(F.take k).length=k:=k39_;generalize h.getD X 0=y at *
   have Hlen:Hid ((F.take k ++ [y]).length=k+1):=hid (by rw [List.length_append,xk];rfl);clear H U E x2 x3 d
   go_wp2_with (at_builtin;refine Z5_ rfl _ _ rfl c.heap.size _ _ _ (F.take k) [y] rfl rfl (hown.alloc _) (Row.lit1 _ y) x37_ j37_ y40_ ?_)
   intro v' w6 hown' xo;have hb6:Below c.heap.size wr w6:=((Below.refl _ wr).alloc hbr.size _).grown xo y40_ (fun i hi=>(hown.lt i hi).1);exact z14_
  ·exact j7_
theorem Yg6 (m:Mat) (v g:Value) (s:List Int) (w:World) (hv:MatV w w.heap.size v m) (hs:Sml m) (hr:Row w w.heap.size g s) (_hsl:s.length≤1048576) (hc:chk m=0) (ht:m.t=6) (hok:okA m.n s=false):Calls Tryz.prog 112 #[v,g] w (Q6_ w false []):=by
 have Hs:=hid hs;obtain ⟨d,c,h,hl2,hi2⟩:=hv.open;have Hb0:=hid (Z1_ w m d c);have Hv0:=hid (hv.up Hb0.out);have Hr0:=hid (hr.up Hb0.out);have Hblk0:=hid (Z4_ w m d c);have g0:=Hblk0.out.cell 0;have g1:=Hblk0.out.cell 1;have g2:=Hblk0.out.cell 2;have g3:=Hblk0.out.cell 3;have g4:=Hblk0.out.cell 4;have g5:=Hblk0.out.cell 5;subst h;unfold boxed at *
 have HD:=hid hc;have Hok:=hid hok;have j:(m.t != 5)=true:=k37_;have k:(m.t != 6)=false:=j41_;exact q3_
theorem Yg7 (m:Mat) (v sv:Value) (s:List Int) (w:World) (S:MatV w w.heap.size v m) (hs:Sml m) (P:Row w w.heap.size sv s) (yx:s.length≤1048576) (hc:chk m=0) (ht:m.t=6) (O:okA m.n s=true):Calls Tryz.prog 112 #[v,sv] w (Q6_ w true (imgM m s)):=by
 have Y:=hid hs;obtain ⟨lv,iv,yj,yh,yg⟩:=S.open;have G:=hid (Z1_ w m lv iv);have y8:=hid (S.up G.out);have xv:=hid (P.up G.out);have g:=hid (Z4_ w m lv iv);have g0:=g.out.cell 0;have g1:=g.out.cell 1;have g2:=g.out.cell 2;have g3:=g.out.cell 3;have g4:=g.out.cell 4;have g5:=g.out.cell 5;subst yj;unfold boxed at *
 have ye:=D1_ hc x37_;have R:=W4_ hc x37_;have xc:=Ym1 hc (by rw [← Zy8 (chk_n hc).1 (chk_n hc).2];exact O);have N:=Zy6 m s;have d:=Ym2 m s;obtain ⟨Al,cl,rfl,_,xd⟩:=yh;obtain ⟨Ai,ci,rfl,_,xb⟩:=yg;obtain ⟨ad,u0,o,x8,L,xg⟩:=xd 0 x37_;subst o;rw [add_zero] at L;have yt:(0:Int)<(m.l.length:Int):=x37_;have ys:0<m.l.length:=x37_;have yw:(s.length:Int)≤1048576:=x37_;obtain ⟨F,hF⟩:∃ F,F=imgM m s:=⟨_,rfl⟩;rw [← hF] at N d;rw [← hF];have Q:stayL m=Z9_ (allL (m.i.getD 0 default).n) (m.l.getD 0 []):=by
  unfold stayL;rw [if_pos ht];rfl
 obtain ⟨Z,ui,o,x9,xj,xe⟩:=xb 0 x37_;subst o;rw [show (0:Nat) * 6=0 from rfl,add_zero] at xj;obtain ⟨z0,yz,xm,_,_⟩:=xe.open;obtain ⟨x0,x1,x2,x3,x4,x5,j,s0,s1,_⟩:=xj;rw [xm] at j;injection j with j;injection j with j;injection j with _ j;injection j with E _;subst E;have yr:(0:Int)<(m.i.length:Int):=x37_;have yq:0<m.i.length:=x37_;have yc:=G9_ (m.i.getD 0 default).n;have yv:=sml_r Y.out (Y3_ m.l 0 [] x37_);generalize m.i.getD 0 default=x at *
 have y3:=hid s1;have xp:=hid x9;obtain ⟨h,x7⟩:∃ h,h=stayL m:=⟨_,rfl⟩;rw [← x7] at d R Q;generalize m.l.getD 0 []=r at *
 have y5:=hid Q;have V:=hid xc;have xt:=hid d;have Hfn:=hid N;have xo:=hid x8;have y0:=hid xg;have xs:=hid L;have Hstl:=hid R;have HD:=hid hc;have xu:=hid O;have f6:(m.t==6)=true:=k37_;have yy:(h.length:Int)≤64:=by have:=(chk_n hc).2;omega
 have e5:(m.t != 5)=true:=k37_;have e6:(m.t != 6)=false:=j41_;clear S hs O ht hc Q xc d N ye x8 xg L R xd xb hF x7 s0 s1 xe xm x9
 go_enter Tryz.func112,Tryz.ntmps112
 go_wp2_with fail
 refine (Q9_ m _ _ y8.out Y.out).mono ?_;rintro e w1 ⟨rfl,z⟩;rw [HD.out];have xq:=hid (Z0_ G.out (le_refl _) z);have W:=hid (xv.out.up z);have u:=hid (g.out.below z g.out.lt);clear z g0 g1 g2 g3 g4 g5;have I:=u.out.cell 0;have d1:=u.out.cell 1;obtain ⟨As,cs,rfl,_⟩:=id P
 go_wp2_with fail
 refine (F4_ _ s m.n _ W.out).mono ?_;rintro e w2 ⟨rfl,B⟩;rw [xu.out];have q:=hid (Z0_ xq.out (le_refl _) B);have xw:=hid (W.out.up B);have H:=hid (u.out.below B u.out.lt);clear B I d1;clear P;have I:=H.out.cell 0;have d4:=H.out.cell 4;have d5:=H.out.cell 5;have cr:=(q.out.cell (p:=ad) xo.out).trans xs.out;have y1:=hid ((y0.out.below q.out).mono q.out.size);have cn:=(q.out.cell (p:=⟨Z.block,Z.off+1,none⟩) xp.out).trans y3.out
 go_wp2_with fail
 refine (P9_ x.n _).mono ?_;rintro e w3 ⟨va,rfl,xh,C⟩;have xr:=hid (Z0_ q.out (le_refl _) C);have xx:=hid (xw.out.up C);have y2:=hid (y1.out.up C);have xz:=hid xh;clear C xh I d4 d5 cr cn
 go_wp2_with fail
 refine (O5_ _ _ (allL x.n) r _ xz.out y2.out yc x37_).mono ?_;rintro e c ⟨U,rfl,xi,K⟩;have Hb4:=hid (Z0_ xr.out (le_refl _) K);have xy:=hid (xx.out.up K);have y7:Hid (Row c c.heap.size U h):=hid (by rw [y5.out];exact xi);clear K xi;obtain ⟨yk,ym,yi,_,xk⟩:=id xy.out;injection yi with he1 he2 he3;subst he1 he3;obtain ⟨yl,yn,rfl,_,xl⟩:=id y7.out;have y6:=hid xl;have y4:=hid xk;have xf:(c.alloc (.cells #[] 3)).ownsRow c.heap.size 3 1 (.slice (some ⟨c.heap.size,0,none⟩) 0 0) 0 [] :=
  World.ownsRow_made c #[] 0 (le_refl _) z38_ rfl
 have x6:Below c.heap.size c (c.alloc (.cells #[] 3)):=(Below.refl _ c).alloc (le_refl _) _;clear xl xk he2;go_wp2
 go_loopw [7,8] (fun U T wr=>∃ k:Nat,T=.int .i64 k∧k≤s.length∧wr.ownsRow c.heap.size 3 1 U (F.take k).length (ints (F.take k))∧Below c.heap.size c wr) (fun _ T _=>s.length - (intOf T).toNat)
 case atStart=>exact ⟨0,rfl,Nat.zero_le _,xf,x6⟩
 case round =>
  obtain ⟨k,rfl,hk,hown,hbr⟩:=hrel;clear xf x6;by_cases D:k<s.length
  ·have yu:(k:Int)<(s.length:Int):=by omega
   have xn:=(V.out k D).1;have E:=(V.out k D).2;have d:=xt.out k D;obtain ⟨X,J⟩:∃ X:Nat,s.getD k 0=(X:Int):=⟨(s.getD k 0).toNat,x37_⟩;rw [J] at xn E d;have yb:X<h.length:=y47_;have yp:(X:Int)<(h.length:Int):=x37_;rw [show ((X:Int)).toNat=X from rfl] at d;obtain ⟨y9,o,hasb,M⟩:=y4.out k D;subst o;obtain ⟨at_,o,yd,xa⟩:=y6.out X yb;subst o;rw [J] at M;have gs:=(hbr.cell (p:=y9.add k) j43_).trans M;have gt:=(hbr.cell (p:=at_.add X) (by rw [Z2_];exact yd)).trans xa;have yo:=Hfn.out;have Htk:Hid (F.take (k+1)=F.take k ++ [h.getD X 0]):=hid (by rw [List.take_succ_eq_append_getElem x37_,← d];simp [List.getD,show k<F.length by omega]);have ya:(F.take k).length=k:=k39_;generalize h.getD X 0=y at *
   have Hlen:Hid ((F.take k ++ [y]).length=k+1):=hid (by rw [List.length_append,ya];rfl);clear M xa J xn E d
   go_wp2_with (at_builtin;refine Z5_ rfl _ _ rfl c.heap.size _ _ _ (F.take k) [y] rfl rfl (hown.alloc _) (Row.lit1 _ y) x37_ j37_ y40_ ?_)
   intro v' w6 hown' yf;have hb6:Below c.heap.size wr w6:=((Below.refl _ wr).alloc hbr.size _).grown yf y40_ (fun i hi=>(hown.lt i hi).1);exact z14_
  ·exact j7_
theorem K7_ (m:Mat) (v d:Value) (s:List Int) (w:World) (j:MatV w w.heap.size v m) (hs:Sml m) (g:Row w w.heap.size d s) (h:s.length≤1048576):Calls Tryz.prog 112 #[v,d] w (Q6_ w (imgB m s) (imgL m s)):=by
 unfold imgL;by_cases hc:chk m=0
 ·by_cases c:m.t=5∨m.t=6
  ·rcases hok:okA m.n s with _ | _
   ·have k:subB s (allL m.n)=false:=by rw [← Zy8 (chk_n hc).1 (chk_n hc).2];exact hok
    rw [show imgB m s=false by unfold imgB;rw [k];simp,if_neg x38_];rcases c with c | c
    ·exact Yg4 m v d s w j hs g h hc c hok
    ·exact Yg6 m v d s w j hs g h hc c hok
   ·have k:subB s (allL m.n)=true:=by rw [← Zy8 (chk_n hc).1 (chk_n hc).2];exact hok
    rw [show imgB m s=true by unfold imgB;rw [k,decide_eq_true c,decide_eq_true hc];rfl,if_pos rfl];rcases c with c | c
    ·exact Yg5 m v d s w j hs g h hc c hok
    ·exact Yg7 m v d s w j hs g h hc c hok
  ·rw [show imgB m s=false by unfold imgB;rw [decide_eq_false c];simp,if_neg x38_]
   exact Xv9 m v d s w j hs g h hc (fun e=>c (.inl e)) (fun e=>c (.inr e))
 ·rw [show imgB m s=false by unfold imgB;rw [decide_eq_false hc];simp,if_neg x38_]
  exact Xv8 m v d s w j hs g h hc
end Go.Proofs.YtheeajnkiniopaaGreatDoor.Wp
