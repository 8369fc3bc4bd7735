/- The document's Image, walked. -/
import Derived.Test.YteiejkhdonmcdaaGreatDoorZT
import Derived.Test.YteiejkhdonmcdaaGreatDoorQImg
import Derived.Test.YteiejkhdonmcdaaGreatDoorX0A
import Derived.Test.YteiejkhdonmcdaaGreatDoorX0B
set_option maxHeartbeats 8000000
set_option maxRecDepth 100000
open Go.Lib (hid)
open Nat (le_refl)
namespace Go.Proofs.YteiejkhdonmcdaaGreatDoor.Wp
private theorem x4_ {P:Prop} (h:P:=by
 clear hc hv hs hl2 hi2 hok ht
 go_enter Tryz.func85,Tryz.ntmps85
 go_wp2_with fail
 refine (C3_ m _ _ Hv0.out Hs.out).mono ?_
 rintro e w1 ⟨rfl,hb1⟩
 rw [HD.out]
 have Hb1:=hid (Z0_ Hb0.out (le_refl _) hb1)
 have Hr1:=hid (Hr0.out.up hb1)
 have Hblk1:=hid (Hblk0.out.below hb1 Hblk0.out.lt)
 clear hb1 g0 g1 g2 g3 g4 g5
 have d0:=Hblk1.out.cell 0
 have d1:=Hblk1.out.cell 1
 obtain ⟨As,cs,rfl,_⟩:=id hr
 go_wp2_with fail
 refine (I5_ _ s m.n _ Hr1.out).mono ?_
 rintro e w2 ⟨rfl,hb2⟩
 rw [Hok.out]
 have Hb2:=hid (Z0_ Hb1.out (le_refl _) hb2)
 have Hr2:=hid (Hr1.out.up hb2)
 have Hblk2:=hid (Hblk1.out.below hb2 Hblk1.out.lt)
 clear hb2 d0 d1
 clear hr
 go_wp2
 go_ret2
 exact D3_ w _ Hb2.out):P:=h
private theorem j9_ {P:Prop} (h:P:=by
 have hke:k=s.length:=by omega
 subst hke
 have Hff:Hid (F.take s.length=F):=hid (List.take_of_length_le (by have:=Hfn.out;omega))
 rw [Hff.out] at hown
 go_wp2
 go_ret2
 exact ⟨_,rfl,Row.of_own hown rfl,Z0_ Hb4.out (le_refl _) hbr,Yx5 hown Hb4.out.size⟩):P:=h
end Go.Proofs.YteiejkhdonmcdaaGreatDoor.Wp
namespace Go.Proofs.YteiejkhdonmcdaaGreatDoor
open Go.RowKit
namespace Wp
theorem Xy0 (m:Mat) (v q:Value) (s:List Int) (w:World) (j:MatV w w.heap.size v m) (hs:Sml m) (k:Row w w.heap.size q s) (_hsl:s.length≤1048576) (hc:chk m≠0):Calls Tryz.prog 85 #[v,q] w (A5_ w false []):=by
 have y:=hid hs;obtain ⟨p,o,K,J,I⟩:=j.open;have g:=hid (Z1_ w m p o);have z:=hid (j.up g.out);have x:=hid (k.up g.out);have c:=hid (Z3_ w m p o);have B:=c.out.cell 0;have C:=c.out.cell 1;have E:=c.out.cell 2;have F:=c.out.cell 3;have G:=c.out.cell 4;have H:=c.out.cell 5;subst K;unfold boxed at *
 obtain ⟨D,h⟩:∃ D,chk m=D:=⟨_,rfl⟩;have r:=hid h;rw [h] at hc;have N:(D != 0)=true:=by simpa using hc
 clear h hc j hs k J I
 go_enter Tryz.func85,Tryz.ntmps85
 go_wp2_with fail
 refine (C3_ m _ _ z.out y.out).mono ?_;rintro e O ⟨rfl,d⟩;rw [r.out];have u:=hid (Z0_ g.out (le_refl _) d);have M:=hid (x.out.up d);have L:=hid (c.out.below d c.out.lt);clear d B C E F G H;go_wp2
 go_ret2
 exact D3_ w _ u.out
theorem Xy1 (m:Mat) (v r:Value) (s:List Int) (w:World) (h:MatV w w.heap.size v m) (hs:Sml m) (o:Row w w.heap.size r s) (_hsl:s.length≤1048576) (hc:chk m=0) (j:¬ m.t=5) (k:¬ m.t=6):Calls Tryz.prog 85 #[v,r] w (A5_ w false []):=by
 have B:=hid hs;obtain ⟨q,p,L,K,J⟩:=h.open;have g:=hid (Z1_ w m q p);have C:=hid (h.up g.out);have z:=hid (o.up g.out);have c:=hid (Z3_ w m q p);have D:=c.out.cell 0;have E:=c.out.cell 1;have F:=c.out.cell 2;have G:=c.out.cell 3;have H:=c.out.cell 4;have I:=c.out.cell 5;subst L;unfold boxed at *
 have u:=hid hc;have O:(m.t != 5)=true:=by simpa using j
 have P:(m.t != 6)=true:=by simpa using k
 clear hc h hs o K J j k
 go_enter Tryz.func85,Tryz.ntmps85
 go_wp2_with fail
 refine (C3_ m _ _ C.out B.out).mono ?_;rintro e Q ⟨rfl,d⟩;rw [u.out];have x:=hid (Z0_ g.out (le_refl _) d);have M:=hid (z.out.up d);have y:=hid (c.out.below d c.out.lt);clear d D E F G H I;have N:=y.out.cell 0;go_wp2
 go_ret2
 exact D3_ w _ x.out
theorem Ye7 (m:Mat) (v g:Value) (s:List Int) (w:World) (hv:MatV w w.heap.size v m) (hs:Sml m) (hr:Row w w.heap.size g s) (_hsl:s.length≤1048576) (hc:chk m=0) (ht:m.t=5) (hok:okA m.n s=false):Calls Tryz.prog 85 #[v,g] w (A5_ w false []):=by
 have Hs:=hid hs;obtain ⟨d,c,h,hl2,hi2⟩:=hv.open;have Hb0:=hid (Z1_ w m d c);have Hv0:=hid (hv.up Hb0.out);have Hr0:=hid (hr.up Hb0.out);have Hblk0:=hid (Z3_ w m d c);have g0:=Hblk0.out.cell 0;have g1:=Hblk0.out.cell 1;have g2:=Hblk0.out.cell 2;have g3:=Hblk0.out.cell 3;have g4:=Hblk0.out.cell 4;have g5:=Hblk0.out.cell 5;subst h;unfold boxed at *
 have HD:=hid hc;have Hok:=hid hok;have j:(m.t != 5)=false:=j43_;exact x4_
theorem Ye8 (m:Mat) (v sv:Value) (s:List Int) (w:World) (M:MatV w w.heap.size v m) (hs:Sml m) (J:Row w w.heap.size sv s) (y3:s.length≤1048576) (hc:chk m=0) (ht:m.t=5) (I:okA m.n s=true):Calls Tryz.prog 85 #[v,sv] w (A5_ w true (imgM m s)):=by
 have Hs:=hid hs;obtain ⟨lv,iv,xs,xq,xo⟩:=M.open;have z:=hid (Z1_ w m lv iv);have xh:=hid (M.up z.out);have x8:=hid (J.up z.out);have g:=hid (Z3_ w m lv iv);have g0:=g.out.cell 0;have g1:=g.out.cell 1;have g2:=g.out.cell 2;have g3:=g.out.cell 3;have g4:=g.out.cell 4;have g5:=g.out.cell 5;subst xs;unfold boxed at *
 have xm:=E2_ hc q39_;have L:=U3_ hc q39_;have U:=Yk3 hc (by rw [← Zy2 (chk_n hc).1 (chk_n hc).2];exact I);have H:=Zy0 m s;have d:=Yk4 m s;obtain ⟨Al,cl,rfl,_,V⟩:=xq;obtain ⟨Ai,ci,rfl,_,xp⟩:=xo;obtain ⟨ad,u0,hA,S,E,Y⟩:=V 0 q39_;subst hA;rw [add_zero] at E;have y0:(0:Int)<(m.l.length:Int):=q39_;have xz:0<m.l.length:=q39_;have y2:(s.length:Int)≤1048576:=q39_;obtain ⟨F,hF⟩:∃ F,F=imgM m s:=⟨_,rfl⟩;rw [← hF] at H d;rw [← hF];have K:stayL m=m.l.getD 0 []:=by
  unfold stayL;rw [if_neg q39_];rfl
 obtain ⟨h,R⟩:∃ h,h=stayL m:=⟨_,rfl⟩;rw [← R] at d L K;generalize m.l.getD 0 []=r at *
 have xe:=hid K;have O:=hid U;have x6:=hid d;have Hfn:=hid H;have x3:=hid S;have xb:=hid Y;have x5:=hid E;have Hstl:=hid L;have HD:=hid hc;have x7:=hid I;have f6:(m.t==6)=false:=k39_;have y4:(h.length:Int)≤64:=by have:=(chk_n hc).2;omega
 have e5:(m.t != 5)=false:=j43_;clear M hs I ht hc K U d H xm S Y E L V xp hF R
 go_enter Tryz.func85,Tryz.ntmps85
 go_wp2_with fail
 refine (C3_ m _ _ xh.out Hs.out).mono ?_;rintro e w1 ⟨rfl,q⟩;rw [HD.out];have x4:=hid (Z0_ z.out (le_refl _) q);have P:=hid (x8.out.up q);have o:=hid (g.out.below q g.out.lt);clear q g0 g1 g2 g3 g4 g5;have C:=o.out.cell 0;have d1:=o.out.cell 1;obtain ⟨As,cs,rfl,_⟩:=id J
 go_wp2_with fail
 refine (I5_ _ s m.n _ P.out).mono ?_;rintro e c ⟨rfl,u⟩;rw [x7.out];have j:=hid (Z0_ x4.out (le_refl _) u);have x9:=hid (P.out.up u);have B:=hid (o.out.below u o.out.lt);clear u C d1;clear J;have C:=B.out.cell 0;have d4:=B.out.cell 4;have d5:=B.out.cell 5;have cr:=(j.out.cell (p:=ad) x3.out).trans x5.out;have xc:=hid ((xb.out.below j.out).mono j.out.size);have Hb4:=j;have xa:=x9;have xg:Hid (Row c c.heap.size u0 h):=hid (by rw [xe.out];exact xc.out);obtain ⟨xt,xv,xr,_,Z⟩:=id xa.out;injection xr with he1 he2 he3;subst he1 he3;obtain ⟨xu,xw,rfl,_,x0⟩:=id xg.out;have xf:=hid x0;have xd:=hid Z;have W:(c.alloc (.cells #[] 3)).ownsRow c.heap.size 3 1 (.slice (some ⟨c.heap.size,0,none⟩) 0 0) 0 [] :=
  World.ownsRow_made c #[] 0 (le_refl _) z40_ rfl
 have Q:Below c.heap.size c (c.alloc (.cells #[] 3)):=(Below.refl _ c).alloc (le_refl _) _;clear x0 Z he2;go_wp2;clear C d4 d5 cr
 go_loopw [7,8] (fun vl N wr=>∃ k:Nat,N=.int .i64 k∧k≤s.length∧wr.ownsRow c.heap.size 3 1 vl (F.take k).length (ints (F.take k))∧Below c.heap.size c wr) (fun _ N _=>s.length - (intOf N).toNat)
 case atStart=>exact ⟨0,rfl,Nat.zero_le _,W,Q⟩
 case round =>
  obtain ⟨k,rfl,hk,hown,hbr⟩:=hrel;clear W Q;by_cases x:k<s.length
  ·have y1:(k:Int)<(s.length:Int):=by omega
   have x1:=(O.out k x).1;have x2:=(O.out k x).2;have d:=x6.out k x;obtain ⟨X,D⟩:∃ X:Nat,s.getD k 0=(X:Int):=⟨(s.getD k 0).toNat,q39_⟩;rw [D] at x1 x2 d;have xk:X<h.length:=x49_;have xy:(X:Int)<(h.length:Int):=q39_;rw [show ((X:Int)).toNat=X from rfl] at d;obtain ⟨xi,hA,hasb,G⟩:=xd.out k x;subst hA;obtain ⟨at_,hA,xl,T⟩:=xf.out X xk;subst hA;rw [D] at G;have gs:=(hbr.cell (p:=xi.add k) y45_).trans G;have gt:=(hbr.cell (p:=at_.add X) (by rw [Z2_];exact xl)).trans T;have xx:=Hfn.out;have Htk:Hid (F.take (k+1)=F.take k ++ [h.getD X 0]):=hid (by rw [List.take_succ_eq_append_getElem q39_,← d];simp [List.getD,show k<F.length by omega]);have xj:(F.take k).length=k:=y42_;generalize h.getD X 0=y at *
   have Hlen:Hid ((F.take k ++ [y]).length=k+1):=hid (by rw [List.length_append,xj];rfl);clear G T D x1 x2 d
   go_wp2_with (at_builtin;refine Z4_ rfl _ _ rfl c.heap.size _ _ _ (F.take k) [y] rfl rfl (hown.alloc _) (Row.lit1 _ y) q39_ j39_ q42_ ?_)
   intro v' w6 hown' xn;have hb6:Below c.heap.size wr w6:=((Below.refl _ wr).alloc hbr.size _).grown xn q42_ (fun i hi=>(hown.lt i hi).1);exact q16_
  ·exact j9_
theorem Ye9 (m:Mat) (v g:Value) (s:List Int) (w:World) (hv:MatV w w.heap.size v m) (hs:Sml m) (hr:Row w w.heap.size g s) (_hsl:s.length≤1048576) (hc:chk m=0) (ht:m.t=6) (hok:okA m.n s=false):Calls Tryz.prog 85 #[v,g] w (A5_ w false []):=by
 have Hs:=hid hs;obtain ⟨d,c,h,hl2,hi2⟩:=hv.open;have Hb0:=hid (Z1_ w m d c);have Hv0:=hid (hv.up Hb0.out);have Hr0:=hid (hr.up Hb0.out);have Hblk0:=hid (Z3_ w m d c);have g0:=Hblk0.out.cell 0;have g1:=Hblk0.out.cell 1;have g2:=Hblk0.out.cell 2;have g3:=Hblk0.out.cell 3;have g4:=Hblk0.out.cell 4;have g5:=Hblk0.out.cell 5;subst h;unfold boxed at *
 have HD:=hid hc;have Hok:=hid hok;have j:(m.t != 5)=true:=k39_;have k:(m.t != 6)=false:=j43_;exact x4_
theorem Yf0 (m:Mat) (v sv:Value) (s:List Int) (w:World) (R:MatV w w.heap.size v m) (hs:Sml m) (O:Row w w.heap.size sv s) (yw:s.length≤1048576) (hc:chk m=0) (ht:m.t=6) (N:okA m.n s=true):Calls Tryz.prog 85 #[v,sv] w (A5_ w true (imgM m s)):=by
 have W:=hid hs;obtain ⟨lv,iv,yi,yg,yf⟩:=R.open;have E:=hid (Z1_ w m lv iv);have y7:=hid (R.up E.out);have xu:=hid (O.up E.out);have g:=hid (Z3_ w m lv iv);have g0:=g.out.cell 0;have g1:=g.out.cell 1;have g2:=g.out.cell 2;have g3:=g.out.cell 3;have g4:=g.out.cell 4;have g5:=g.out.cell 5;subst yi;unfold boxed at *
 have yd:=E2_ hc q39_;have Q:=U3_ hc q39_;have xb:=Yk3 hc (by rw [← Zy2 (chk_n hc).1 (chk_n hc).2];exact N);have M:=Zy0 m s;have d:=Yk4 m s;obtain ⟨Al,cl,rfl,_,xc⟩:=yg;obtain ⟨Ai,ci,rfl,_,xa⟩:=yf;obtain ⟨ad,u0,hA,x7,K,xf⟩:=xc 0 q39_;subst hA;rw [add_zero] at K;have ys:(0:Int)<(m.l.length:Int):=q39_;have yr:0<m.l.length:=q39_;have yv:(s.length:Int)≤1048576:=q39_;obtain ⟨F,hF⟩:∃ F,F=imgM m s:=⟨_,rfl⟩;rw [← hF] at M d;rw [← hF];have P:stayL m=Z5_ (allL (m.i.getD 0 default).n) (m.l.getD 0 []):=by
  unfold stayL;rw [if_pos ht];rfl
 obtain ⟨Y,ui,hA,x8,xi,xd⟩:=xa 0 q39_;subst hA;rw [show (0:Nat) * 6=0 from rfl,add_zero] at xi;obtain ⟨yz,yy,xl,_,_⟩:=xd.open;obtain ⟨x0,x1,x2,x3,x4,x5,j,s0,s1,_⟩:=xi;rw [xl] at j;injection j with j;injection j with j;injection j with _ j;injection j with D _;subst D;have yq:(0:Int)<(m.i.length:Int):=q39_;have yp:0<m.i.length:=q39_;have yb:=E4_ (m.i.getD 0 default).n;have yu:=sml_r W.out (Y3_ m.l 0 [] q39_);generalize m.i.getD 0 default=x at *
 have y2:=hid s1;have xo:=hid x8;obtain ⟨h,x6⟩:∃ h,h=stayL m:=⟨_,rfl⟩;rw [← x6] at d Q P;generalize m.l.getD 0 []=r at *
 have y4:=hid P;have U:=hid xb;have xs:=hid d;have Hfn:=hid M;have xn:=hid x7;have xz:=hid xf;have xr:=hid K;have Hstl:=hid Q;have HD:=hid hc;have xt:=hid N;have f6:(m.t==6)=true:=k39_;have yx:(h.length:Int)≤64:=by have:=(chk_n hc).2;omega
 have e5:(m.t != 5)=true:=k39_;have e6:(m.t != 6)=false:=j43_;clear R hs N ht hc P xb d M yd x7 xf K Q xc xa hF x6 s0 s1 xd xl x8
 go_enter Tryz.func85,Tryz.ntmps85
 go_wp2_with fail
 refine (C3_ m _ _ y7.out W.out).mono ?_;rintro e w1 ⟨rfl,u⟩;rw [HD.out];have xp:=hid (Z0_ E.out (le_refl _) u);have V:=hid (xu.out.up u);have q:=hid (g.out.below u g.out.lt);clear u g0 g1 g2 g3 g4 g5;have H:=q.out.cell 0;have d1:=q.out.cell 1;obtain ⟨As,cs,rfl,_⟩:=id O
 go_wp2_with fail
 refine (I5_ _ s m.n _ V.out).mono ?_;rintro e w2 ⟨rfl,z⟩;rw [xt.out];have o:=hid (Z0_ xp.out (le_refl _) z);have xv:=hid (V.out.up z);have G:=hid (q.out.below z q.out.lt);clear z H d1;clear O;have H:=G.out.cell 0;have d4:=G.out.cell 4;have d5:=G.out.cell 5;have cr:=(o.out.cell (p:=ad) xn.out).trans xr.out;have y0:=hid ((xz.out.below o.out).mono o.out.size);have cn:=(o.out.cell (p:=⟨Y.block,Y.off+1,none⟩) xo.out).trans y2.out
 go_wp2_with fail
 refine (K6_ x.n _).mono ?_;rintro e w3 ⟨va,rfl,xg,B⟩;have xq:=hid (Z0_ o.out (le_refl _) B);have xw:=hid (xv.out.up B);have y1:=hid (y0.out.up B);have xy:=hid xg;clear B xg H d4 d5 cr cn
 go_wp2_with fail
 refine (C2_ _ _ (allL x.n) r _ xy.out y1.out yb q39_).mono ?_;rintro e c ⟨T,rfl,xh,J⟩;have Hb4:=hid (Z0_ xq.out (le_refl _) J);have xx:=hid (xw.out.up J);have y6:Hid (Row c c.heap.size T h):=hid (by rw [y4.out];exact xh);clear J xh;obtain ⟨yj,yl,yh,_,xj⟩:=id xx.out;injection yh with he1 he2 he3;subst he1 he3;obtain ⟨yk,ym,rfl,_,xk⟩:=id y6.out;have y5:=hid xk;have y3:=hid xj;have xe:(c.alloc (.cells #[] 3)).ownsRow c.heap.size 3 1 (.slice (some ⟨c.heap.size,0,none⟩) 0 0) 0 [] :=
  World.ownsRow_made c #[] 0 (le_refl _) z40_ rfl
 have Z:Below c.heap.size c (c.alloc (.cells #[] 3)):=(Below.refl _ c).alloc (le_refl _) _;clear xk xj he2;go_wp2
 go_loopw [7,8] (fun T S wr=>∃ k:Nat,S=.int .i64 k∧k≤s.length∧wr.ownsRow c.heap.size 3 1 T (F.take k).length (ints (F.take k))∧Below c.heap.size c wr) (fun _ S _=>s.length - (intOf S).toNat)
 case atStart=>exact ⟨0,rfl,Nat.zero_le _,xe,Z⟩
 case round =>
  obtain ⟨k,rfl,hk,hown,hbr⟩:=hrel;clear xe Z;by_cases C:k<s.length
  ·have yt:(k:Int)<(s.length:Int):=by omega
   have xm:=(U.out k C).1;have D:=(U.out k C).2;have d:=xs.out k C;obtain ⟨X,I⟩:∃ X:Nat,s.getD k 0=(X:Int):=⟨(s.getD k 0).toNat,q39_⟩;rw [I] at xm D d;have ya:X<h.length:=x49_;have yo:(X:Int)<(h.length:Int):=q39_;rw [show ((X:Int)).toNat=X from rfl] at d;obtain ⟨y8,hA,hasb,L⟩:=y3.out k C;subst hA;obtain ⟨at_,hA,yc,x9⟩:=y5.out X ya;subst hA;rw [I] at L;have gs:=(hbr.cell (p:=y8.add k) y45_).trans L;have gt:=(hbr.cell (p:=at_.add X) (by rw [Z2_];exact yc)).trans x9;have yn:=Hfn.out;have Htk:Hid (F.take (k+1)=F.take k ++ [h.getD X 0]):=hid (by rw [List.take_succ_eq_append_getElem q39_,← d];simp [List.getD,show k<F.length by omega]);have y9:(F.take k).length=k:=y42_;generalize h.getD X 0=y at *
   have Hlen:Hid ((F.take k ++ [y]).length=k+1):=hid (by rw [List.length_append,y9];rfl);clear L x9 I xm D d
   go_wp2_with (at_builtin;refine Z4_ rfl _ _ rfl c.heap.size _ _ _ (F.take k) [y] rfl rfl (hown.alloc _) (Row.lit1 _ y) q39_ j39_ q42_ ?_)
   intro v' w6 hown' ye;have hb6:Below c.heap.size wr w6:=((Below.refl _ wr).alloc hbr.size _).grown ye q42_ (fun i hi=>(hown.lt i hi).1);exact q16_
  ·exact j9_
theorem K8_ (m:Mat) (v d:Value) (s:List Int) (w:World) (j:MatV w w.heap.size v m) (hs:Sml m) (g:Row w w.heap.size d s) (h:s.length≤1048576):Calls Tryz.prog 85 #[v,d] w (A5_ w (imgB m s) (imgL m s)):=by
 unfold imgL;by_cases hc:chk m=0
 ·by_cases c:m.t=5∨m.t=6
  ·rcases hok:okA m.n s with _ | _
   ·have k:subB s (allL m.n)=false:=by rw [← Zy2 (chk_n hc).1 (chk_n hc).2];exact hok
    rw [show imgB m s=false by unfold imgB;rw [k];simp,if_neg x40_];rcases c with c | c
    ·exact Ye7 m v d s w j hs g h hc c hok
    ·exact Ye9 m v d s w j hs g h hc c hok
   ·have k:subB s (allL m.n)=true:=by rw [← Zy2 (chk_n hc).1 (chk_n hc).2];exact hok
    rw [show imgB m s=true by unfold imgB;rw [k,decide_eq_true c,decide_eq_true hc];rfl,if_pos rfl];rcases c with c | c
    ·exact Ye8 m v d s w j hs g h hc c hok
    ·exact Yf0 m v d s w j hs g h hc c hok
  ·rw [show imgB m s=false by unfold imgB;rw [decide_eq_false c];simp,if_neg x40_]
   exact Xy1 m v d s w j hs g h hc (fun e=>c (.inl e)) (fun e=>c (.inr e))
 ·rw [show imgB m s=false by unfold imgB;rw [decide_eq_false hc];simp,if_neg x40_]
  exact Xy0 m v d s w j hs g h hc
end Wp
end Go.Proofs.YteiejkhdonmcdaaGreatDoor
