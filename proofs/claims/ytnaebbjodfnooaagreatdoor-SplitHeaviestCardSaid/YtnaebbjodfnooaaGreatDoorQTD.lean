/- The program's Image, walked. -/
import Derived.Test.YtnaebbjodfnooaaGreatDoorQTB
import Derived.Test.YtnaebbjodfnooaaGreatDoorZU
import Derived.Test.YtnaebbjodfnooaaGreatDoorGPlaces
import Derived.Test.YtnaebbjodfnooaaGreatDoorX0A
import Derived.Test.YtnaebbjodfnooaaGreatDoorX0C
set_option maxHeartbeats 8000000
set_option maxRecDepth 100000
open Go.Lib (hid)
open Nat (le_refl)
namespace Go.Proofs.YtnaebbjodfnooaaGreatDoor.Wp
private theorem k1_ {P:Prop} (h:P:=by
 rw [show n=m.n by rw [hm];rfl] at hsub
 clear hm
 have Hc:=hid hc
 have Hsub:=hid hsub
 obtain ⟨lv,iv,hve,hl2,hi2⟩:=hv.open
 have Hb0:=hid (Z1_ w m lv iv)
 have Hv:=hid (hv.up Hb0.out)
 have HE:=hid (hE.up Hb0.out)
 have Hblk:=hid (Z3_ w m lv iv)
 have gb:=Hblk.out.cell
 have g0:=gb 0
 have g1:=gb 1
 have g2:=gb 2
 have g3:=gb 3
 have g4:=gb 4
 have g5:=gb 5
 subst hve
 unfold boxed at *
 rw [hmt] at g0
 have Hsv:=hid (hr.up Hb0.out)
 have hal:=F5_ m.n
 clear hv hE gb hl2 hi2 hc hsub hr
 go_enter Tryz.func172,Tryz.ntmps172
 rw [hmt] at Hv Hblk Hb0 HE Hsv
 rw [hmt]
 go_wp2_with fail
 refine (B3_ E m _ _ Hv.out hs HE.out).mono ?_
 rintro e w1 ⟨rfl,hb1⟩
 rw [Hc.out]
 have Hb1:=hid (Z0_ Hb0.out (le_refl _) hb1)
 have Hblk1:=hid (Hblk.out.below hb1 (by simp))
 have Hsv1:=hid (Hsv.out.up hb1)
 have c1:=Hblk1.out.cell 1
 clear hb1 g0 g1 g2 g3 g4 g5
 go_wp2_with fail
 refine (M2_ _ _).mono ?_
 rintro e w2 ⟨v2,rfl,hr2,hb2⟩
 have Hb2:=hid (Z0_ Hb1.out (le_refl _) hb2)
 have Hblk2:=hid (Hblk1.out.below hb2 Hblk1.out.lt)
 have Hsv2:=hid (Hsv1.out.up hb2)
 have Hr2:=hid hr2
 clear hb2 hr2 c1
 go_wp2_with fail
 refine (Zy0 _ _ s (allL m.n) _ Hsv2.out Hr2.out hsl hal).mono ?_
 rintro e w3 ⟨rfl,hb3⟩
 rw [Hsub.out]
 have Hb3:=hid (Z0_ Hb2.out (le_refl _) hb3)
 clear hb3
 go_wp2
 go_ret2
 exact D2_ w _ Hb3.out):P:=h
private theorem q3_ {P:Prop} (h:P:=by
 clear hc hv hs hl2 hi2 hok ht
 go_enter Tryz.func68,Tryz.ntmps68
 go_wp2_with fail
 refine (Q8_ m _ _ Hv0.out Hs.out).mono ?_
 rintro e w1 ⟨rfl,hb1⟩
 rw [HD.out]
 have Hb1:=hid (Z0_ Hb0.out (le_refl _) hb1)
 have Hr1:=hid (Hr0.out.up hb1)
 have Hblk1:=hid (Hblk0.out.below hb1 Hblk0.out.lt)
 clear hb1 g0 g1 g2 g3 g4 g5
 have d0:=Hblk1.out.cell 0
 have d1:=Hblk1.out.cell 1
 obtain ⟨As,cs,rfl,_⟩:=id hr
 go_wp2_with fail
 refine (E5_ _ s m.n _ Hr1.out).mono ?_
 rintro e w2 ⟨rfl,hb2⟩
 rw [Hok.out]
 have Hb2:=hid (Z0_ Hb1.out (le_refl _) hb2)
 have Hr2:=hid (Hr1.out.up hb2)
 have Hblk2:=hid (Hblk1.out.below hb2 Hblk1.out.lt)
 clear hb2 d0 d1
 clear hr
 go_wp2
 go_ret2
 exact D2_ w _ Hb2.out):P:=h
private theorem x3_ {P:Prop} (h:P:=by
 clear hD hm hc
 obtain ⟨lv,iv,hve,hl2,hi2⟩:=hv.open
 have Hb0:=hid (Z1_ w m lv iv)
 have Hv:=hid (hv.up Hb0.out)
 have HE:=hid (hE.up Hb0.out)
 have Hblk:=hid (Z3_ w m lv iv)
 have gb:=Hblk.out.cell
 have g0:=gb 0
 have g1:=gb 1
 have g2:=gb 2
 have g3:=gb 3
 have g4:=gb 4
 have g5:=gb 5
 subst hve
 unfold boxed at *
 rw [hmt] at g0
 clear hv hE gb hl2 hi2
 go_enter Tryz.func172,Tryz.ntmps172
 rw [hmt] at Hv Hblk Hb0 HE
 rw [hmt]
 go_wp2_with fail
 refine (B3_ E m _ _ Hv.out hs HE.out).mono ?_
 rintro e w1 ⟨rfl,hb1⟩
 rw [Hc.out]
 have Hb1:=hid (Z0_ Hb0.out (le_refl _) hb1)
 clear hb1 g0 g1 g2 g3 g4 g5
 go_wp2
 go_ret2
 exact D2_ w _ Hb1.out):P:=h
private theorem j7_ {P:Prop} (h:P:=by
 have hke:k=s.length:=by omega
 subst hke
 have Hff:Hid (F.take s.length=F):=hid (List.take_of_length_le (by have:=Hfn.out;omega))
 rw [Hff.out] at hown
 go_wp2
 go_ret2
 exact ⟨_,rfl,Row.of_own hown rfl,Z0_ Hb4.out (le_refl _) hbr,Yq4 hown Hb4.out.size⟩):P:=h
open Go.RowKit
def A7_ (w:World) (b:Bool) (l:List Int) (e:Ending) (w':World):Prop:=∃ v,e=.returned (.tuple #[v,.bool b])∧Row w' w'.heap.size v l∧Below w.heap.size w w'∧∀ (A:Addr) (n c:Nat),v=.slice (some A) n c→w.heap.size≤A.block
theorem D2_ (w w':World) (hb:Below w.heap.size w w'):A7_ w false [] (.returned (.tuple #[.slice none 0 0,.bool false])) w':=⟨_,rfl,Row.nil_ _ _,hb,fun _ _ _ h=>by cases h⟩
theorem Xo5 (m:Mat) (v p:Value) (w:World) (g:MatV w w.heap.size v m) (c:¬ m.t=5) (d:¬ m.t=6):Calls Tryz.prog 172 #[v,p] w (A7_ w false []):=by
 obtain ⟨j,h,o,_,_⟩:=g.open;have k:=hid (Z1_ w m j h);have e:=(Z3_ w m j h).cell;have x:=e 0;have q:(m.t != 5)=true:=by simpa using c
 have s:(m.t != 6)=true:=by simpa using d
 have r:(m.t==5)=false:=by simpa using c
 have u:(m.t==6)=false:=by simpa using d
 subst o;unfold boxed at *
 clear e g c d
 go_enter Tryz.func172,Tryz.ntmps172
 go_wp2
 go_ret2
 exact D2_ w _ k.out
theorem Xj3 (E:Nat→Addr) (n a b:Int) (l:List (List Int)) (i:List Mat) (v c:Value) (w:World) (hv:MatV w w.heap.size v (.mk 5 n a b l i)) (hs:Sml (.mk 5 n a b l i)) (hE:Env E w) (hc:chk (.mk 5 n a b l i)≠0):Calls Tryz.prog 172 #[v,c] w (A7_ w false []):=by
 have d:(chk (.mk 5 n a b l i) != 0)=true:=by simpa using hc
 generalize hD:chk (.mk 5 n a b l i)=D at *
 have Hc:=hid hD;obtain ⟨m,hm⟩:∃ m,m=Mat.mk 5 n a b l i:=⟨_,rfl⟩;rw [← hm] at hv hs Hc;have hmt:m.t=5:=x48_;exact x3_
theorem Xj4 (E:Nat→Addr) (n a b:Int) (l:List (List Int)) (i:List Mat) (v c:Value) (s:List Int) (w:World) (hv:MatV w w.heap.size v (.mk 5 n a b l i)) (hs:Sml (.mk 5 n a b l i)) (hE:Env E w) (hr:Row w w.heap.size c s) (hsl:s.length≤1048576) (hc:chk (.mk 5 n a b l i)=0) (hsub:subB s (allL n)=false):Calls Tryz.prog 172 #[v,c] w (A7_ w false []):=by
 obtain ⟨m,hm⟩:∃ m,m=Mat.mk 5 n a b l i:=⟨_,rfl⟩;rw [← hm] at hv hs hc;have hmt:m.t=5:=x48_;exact k1_
theorem Xj5 (E:Nat→Addr) (n a b:Int) (l:List (List Int)) (i:List Mat) (v sv:Value) (s:List Int) (w:World) (D:MatV w w.heap.size v (.mk 5 n a b l i)) (hs:Sml (.mk 5 n a b l i)) (hE:Env E w) (hr:Row w w.heap.size sv s) (ya:s.length≤1048576) (hc:chk (.mk 5 n a b l i)=0) (C:subB s (allL n)=true):Calls Tryz.prog 172 #[v,sv] w (A7_ w true (imgM (.mk 5 n a b l i) s)):=by
 obtain ⟨m,hm⟩:∃ m,m=Mat.mk 5 n a b l i:=⟨_,rfl⟩;rw [← hm] at D hs hc;rw [← hm];have K:m.t=5:=x48_;rw [show n=m.n by rw [hm];rfl] at C;clear hm;have Hc:=hid hc;have xz:=hid C;obtain ⟨lv,iv,yb,y9,y7⟩:=D.open;have o:=hid (Z1_ w m lv iv);have Z:=hid (D.up o.out);have P:=hid (hE.up o.out);have Hblk:=hid (Z3_ w m lv iv);have j:=Hblk.out.cell;have g0:=j 0;have g1:=j 1;have g2:=j 2;have g3:=j 3;have g4:=j 4;have g5:=j 5;subst yb;unfold boxed at *
 rw [K] at g0;have W:=hid (hr.up o.out);have y4:=F5_ m.n;have y6:=D7_ hc x37_;have M:=U1_ hc x37_;have xc:=Ym0 hc C;have hn:=chk_n hc;have J:=Zz6 m s;have hfa:=Ym1 m s;have yp:=sml_r hs (Y6_ m.l 0 [] x37_);obtain ⟨Al,cl,rfl,_,xd⟩:=y9;obtain ⟨Ai,ci,rfl,_,xb⟩:=y7;obtain ⟨ad,u0,hA,x7,I,xg⟩:=xd 0 x37_;subst hA;obtain ⟨ai,ui,hA,x8,xi,xe⟩:=xb 0 x37_;subst hA;rw [add_zero] at I;rw [show (0:Nat) * 6=0 from rfl,add_zero] at xi;obtain ⟨yt,ys,xl,_,_⟩:=xe.open;obtain ⟨x0,x1,x2,x3,x4,x5,g,s0,s1,_⟩:=xi;rw [xl] at g;injection g with g;injection g with g;injection g with _ g;injection g with hx1 _;subst hx1;have ym:(0:Int)<(m.l.length:Int):=x37_;have yn:0<m.l.length:=x37_;have yk:(0:Int)<(m.i.length:Int):=x37_;have yl:0<m.i.length:=x37_;obtain ⟨F,hF⟩:∃ F,F=imgM m s:=⟨_,rfl⟩;rw [← hF] at J hfa;rw [← hF];have L:stayL m=m.l.getD 0 []:=by
  unfold stayL;rw [if_neg x37_];rfl
 obtain ⟨ST,x6⟩:∃ ST,ST=stayL m:=⟨_,rfl⟩;rw [← x6] at hfa M L;have yj:=F5_ (m.i.getD 0 default).n;clear x6 hF;generalize m.l.getD 0 []=r at *
 generalize m.i.getD 0 default=x at *
 generalize m.n=N at *
 have xw:=hid L;have U:=hid xc;have xr:=hid hfa;have Hfn:=hid J;have xn:=hid x7;have yf:=hid x8;have xs:=hid xg;have xq:=hid I;have yg:=hid s1;have V:=hid K;have yr:(s.length:Int)≤1048576:=x37_;have yq:(ST.length:Int)≤64:=x37_;have Hstl:=hid M;obtain ⟨i0,hi,yc,yd,hz2⟩:=info_parts info3;clear D hE j hc C L xc hfa J xd xb xg I s0 s1 xe xl x7 x8 y6 M
 go_enter Tryz.func172,Tryz.ntmps172
 rw [V.out] at Z Hblk o P W;rw [V.out];clear K
 go_wp2_with fail
 refine (B3_ E m _ _ Z.out hs P.out).mono ?_;rintro e w1 ⟨rfl,u⟩;rw [Hc.out];have xo:=hid (Z0_ o.out (le_refl _) u);have G:=hid (Hblk.out.below u j37_);have y0:=hid (W.out.up u);have c1:=G.out.cell 1;clear u g0 g1 g2 g3 g4 g5
 go_wp2_with fail
 refine (M2_ _ _).mono ?_;rintro e w2 ⟨v2,rfl,xh,z⟩;have xp:=hid (Z0_ xo.out (le_refl _) z);have R:=hid (G.out.below z G.out.lt);have Y:=hid (y0.out.up z);have xt:=hid xh;clear z xh c1
 go_wp2_with fail
 refine (Zy0 _ _ s (allL N) _ Y.out xt.out ya y4).mono ?_;rintro e d ⟨rfl,B⟩;rw [xz.out];have q:=hid (Z0_ xp.out (le_refl _) B);have S:=hid (R.out.below B R.out.lt);have y1:=hid (Y.out.up B);have c0:=S.out.cell 0;have c4:=S.out.cell 4;have cr:=(q.out.cell (p:=ad) xn.out).trans xq.out;have xu:=hid ((xs.out.below q.out).mono q.out.size);clear B;have xy:Hid (Row d d.heap.size u0 ST):=by
  show Row _ _ _ _;rw [xw.out];exact xu.out
 obtain ⟨As,cs,rfl,_,xj⟩:=id y1.out;obtain ⟨ye,yh,rfl,_,xk⟩:=id xy.out;have xx:=hid xk;clear xk;have xv:=hid xj;clear xj
 go_wp2_with (at_make;refine wpList_make_full d rfl _ _ 26 rfl d.heap.size 3 i0 (.int .i64 0) 1 y37_ hi yc yd .i64 .i64 _ _ s.length rfl rfl (by rfl) (by rfl) y45_ z38_ (le_refl _) ?_)
 intro w6 xf xa;have H:=S5_ w6 d.heap.size s.length (by rw [Nat.mul_one];exact xf);rw [← Zh7 F] at H;have x9:Below d.heap.size d w6:=(Below.refl _ d).grown xa (le_refl _) (fun i hi=>by cases hi);have Q:=hid x9;have T:=hid H;clear xf xa x9 H;go_wp2
 go_loopw [52] (fun O wr=>∃ k:Nat,O=.int .i64 k∧k≤s.length∧Blk wr d.heap.size 3 (fillM F s.length k)∧Below d.heap.size d wr) (fun O _=>s.length - (intOf O).toNat)
 case atStart=>exact ⟨0,rfl,Nat.zero_le _,T.out,Q.out⟩
 case round =>
  clear T Q;obtain ⟨k,rfl,hk,hblk,hbr⟩:=hrel;have Hblk:=hid hblk;have Hbr:=hid hbr;by_cases hlt:k<s.length
  ·have yo:(k:Int)<(s.length:Int):=by omega
   have hx0:=(U.out k hlt).1;have hx1:=(U.out k hlt).2;have hfa:=xr.out k hlt;obtain ⟨X,hX⟩:∃ X:Nat,s.getD k 0=(X:Int):=⟨(s.getD k 0).toNat,x37_⟩;rw [hX] at hx0 hx1 hfa;have y3:X<ST.length:=x47_;have yi:(X:Int)<(ST.length:Int):=x37_;rw [show ((X:Int)).toNat=X from rfl] at hfa;obtain ⟨y2,hA,hasb,hcs⟩:=xv.out k hlt;subst hA;obtain ⟨at_,hA,y5,hct⟩:=xx.out X y3;subst hA;rw [hX] at hcs;have gs:=(hbr.cell (p:=y2.add k) x43_).trans hcs;have gt:=(hbr.cell (p:=at_.add X) (by rw [Z2_];exact y5)).trans hct;have gf:=hblk.frozen k;have hsz:=Zh6 (n:=s.length) Hfn.out hk;obtain ⟨xm,gc⟩:∃ xm,wr.cell? ⟨d.heap.size,k,none⟩=some xm:=⟨(fillM F s.length k)[k]'x37_,by rw [hblk.cell];simp [hsz,hlt]⟩;exact j5_
  ·have y8:k=s.length:=by omega
   subst y8;clear hblk hbr;go_wp2
   go_ret2
   exact ⟨_,rfl,Yz1 Hfn.out Hblk.out z38_,Z0_ q.out (le_refl _) Hbr.out,fun A n c h=>by cases h;exact q.out.size⟩
theorem Xj6 (E:Nat→Addr) (n a b:Int) (l:List (List Int)) (i:List Mat) (v c:Value) (w:World) (hv:MatV w w.heap.size v (.mk 6 n a b l i)) (hs:Sml (.mk 6 n a b l i)) (hE:Env E w) (hc:chk (.mk 6 n a b l i)≠0):Calls Tryz.prog 172 #[v,c] w (A7_ w false []):=by
 have d:(chk (.mk 6 n a b l i) != 0)=true:=by simpa using hc
 generalize hD:chk (.mk 6 n a b l i)=D at *
 have Hc:=hid hD;obtain ⟨m,hm⟩:∃ m,m=Mat.mk 6 n a b l i:=⟨_,rfl⟩;rw [← hm] at hv hs Hc;have hmt:m.t=6:=x48_;exact x3_
theorem Xj7 (E:Nat→Addr) (n a b:Int) (l:List (List Int)) (i:List Mat) (v c:Value) (s:List Int) (w:World) (hv:MatV w w.heap.size v (.mk 6 n a b l i)) (hs:Sml (.mk 6 n a b l i)) (hE:Env E w) (hr:Row w w.heap.size c s) (hsl:s.length≤1048576) (hc:chk (.mk 6 n a b l i)=0) (hsub:subB s (allL n)=false):Calls Tryz.prog 172 #[v,c] w (A7_ w false []):=by
 obtain ⟨m,hm⟩:∃ m,m=Mat.mk 6 n a b l i:=⟨_,rfl⟩;rw [← hm] at hv hs hc;have hmt:m.t=6:=x48_;exact k1_
theorem Xj8 (E:Nat→Addr) (n a b:Int) (l:List (List Int)) (i:List Mat) (v Z:Value) (s:List Int) (w:World) (O:MatV w w.heap.size v (.mk 6 n a b l i)) (hs:Sml (.mk 6 n a b l i)) (hE:Env E w) (hr:Row w w.heap.size Z s) (yr:s.length≤1048576) (hc:chk (.mk 6 n a b l i)=0) (M:subB s (allL n)=true):Calls Tryz.prog 172 #[v,Z] w (A7_ w true (imgM (.mk 6 n a b l i) s)):=by
 obtain ⟨m,hm⟩:∃ m,m=Mat.mk 6 n a b l i:=⟨_,rfl⟩;rw [← hm] at O hs hc;rw [← hm];have L:m.t=6:=x48_;rw [show n=m.n by rw [hm];rfl] at M;clear hm;have Hc:=hid hc;have ye:=hid M;obtain ⟨lv,iv,ys,yq,yo⟩:=O.open;have C:=hid (Z1_ w m lv iv);have Hv:=hid (O.up C.out);have HE:=hid (hE.up C.out);have Hblk:=hid (Z3_ w m lv iv);have z:=Hblk.out.cell;have g0:=z 0;have g1:=z 1;have g2:=z 2;have g3:=z 3;have g4:=z 4;have g5:=z 5;subst ys;unfold boxed at *
 rw [L] at g0;have xe:=hid (hr.up C.out);have yk:=F5_ m.n;have yn:=D7_ hc x37_;have Y:=U1_ hc x37_;have xo:=Ym0 hc M;have hn:=chk_n hc;have U:=Zz6 m s;have hfa:=Ym1 m s;have z3:=sml_r hs (Y6_ m.l 0 [] x37_);obtain ⟨Al,cl,rfl,_,xp⟩:=yq;obtain ⟨Ai,ci,rfl,_,xn⟩:=yo;obtain ⟨u,P,hA,xh,T,xs⟩:=xp 0 x37_;subst hA;obtain ⟨g,ui,hA,xi,xx,xq⟩:=xn 0 x37_;subst hA;rw [add_zero] at T;rw [show (0:Nat) * 6=0 from rfl,add_zero] at xx;obtain ⟨z7,z6,y0,_,_⟩:=xq.open;obtain ⟨x0,x1,x2,x3,x4,x5,o,s0,s1,_⟩:=xx;rw [y0] at o;injection o with o;injection o with o;injection o with _ o;injection o with hx1 _;subst hx1;have z0:(0:Int)<(m.l.length:Int):=x37_;have z1:0<m.l.length:=x37_;have yy:(0:Int)<(m.i.length:Int):=x37_;have yz:0<m.i.length:=x37_;obtain ⟨F,hF⟩:∃ F,F=imgM m s:=⟨_,rfl⟩;rw [← hF] at U hfa;rw [← hF];have V:stayL m=Z5_ (allL (m.i.getD 0 default).n) (m.l.getD 0 []):=by
  unfold stayL;rw [if_pos L];rfl
 obtain ⟨ST,xg⟩:∃ ST,ST=stayL m:=⟨_,rfl⟩;rw [← xg] at hfa Y V;have yl:=F5_ (m.i.getD 0 default).n;clear xg hF;generalize m.l.getD 0 []=r at *
 generalize m.i.getD 0 default=x at *
 generalize m.n=N at *
 have yb:=hid V;have xc:=hid xo;have y5:=hid hfa;have Hfn:=hid U;have x6:=hid xh;have x7:=hid xi;have y6:=hid xs;have y4:=hid T;have y9:=hid s1;have xd:=hid L;have z5:(s.length:Int)≤1048576:=x37_;have z4:(ST.length:Int)≤64:=x37_;have Hstl:=hid Y;obtain ⟨i0,hi,yt,yu,hz2⟩:=info_parts info3;clear O hE z hc M V xo hfa U xp xn xs T s0 s1 xq y0 xh xi yn Y
 go_enter Tryz.func172,Tryz.ntmps172
 rw [xd.out] at Hv Hblk C HE xe;rw [xd.out];clear L
 go_wp2_with fail
 refine (B3_ E m _ _ Hv.out hs HE.out).mono ?_;rintro e w1 ⟨rfl,H⟩;rw [Hc.out];have y2:=hid (Z0_ C.out (le_refl _) H);have Q:=hid (Hblk.out.below H j37_);have yf:=hid (xe.out.up H);have c1:=Q.out.cell 1;clear H g0 g1 g2 g3 g4 g5
 go_wp2_with fail
 refine (M2_ _ _).mono ?_;rintro e w2 ⟨v2,rfl,xt,I⟩;have y3:=hid (Z0_ y2.out (le_refl _) I);have xa:=hid (Q.out.below I Q.out.lt);have xf:=hid (yf.out.up I);have y7:=hid xt;clear I xt c1
 go_wp2_with fail
 refine (Zy0 _ _ s (allL N) _ xf.out y7.out yr yk).mono ?_;rintro e j ⟨rfl,J⟩;rw [ye.out];have q:=hid (Z0_ y3.out (le_refl _) J);have D:=hid (xa.out.below J xa.out.lt);have yg:=hid (xf.out.up J);have c0:=D.out.cell 0;have c4:=D.out.cell 4;have cr:=(q.out.cell (p:=u) x6.out).trans y4.out;have y8:=hid ((y6.out.below q.out).mono q.out.size);clear J;go_wp2;have hlt:w.heap.size<j.heap.size:=D.out.lt;have xk:u.block<j.heap.size:=Nat.lt_of_lt_of_le x6.out q.out.size;have xj:g.block<j.heap.size:=Nat.lt_of_lt_of_le x7.out q.out.size;have R:Hid (∀ W,Below j.drew.heap.size j.drew W→W.cell? ⟨w.heap.size,4,none⟩=some (.slice (some u) m.l.length cl)∧W.cell? ⟨w.heap.size,5,none⟩=some (.slice (some g) m.i.length ci)∧W.cell? u=some P∧W.cell? ⟨g.block,g.off+1,none⟩=some (.int .i64 x.n)):=fun W G =>
  ⟨(G.cell (p:=⟨w.heap.size,4,none⟩) hlt).trans (D.out.cell 4),(G.cell (p:=⟨w.heap.size,5,none⟩) hlt).trans (D.out.cell 5),(G.cell (p:=u) xk).trans cr,
   (G.cell (p:=⟨g.block,g.off+1,none⟩) xj).trans ((q.out.cell (p:=⟨g.block,g.off+1,none⟩) x7.out).trans y9.out)⟩
 clear c0 c4 cr
 go_region_held3 (fun W=>W.cell? ⟨w.heap.size,4,none⟩=some (.slice (some u) m.l.length cl)∧W.cell? ⟨w.heap.size,5,none⟩=some (.slice (some g) m.i.length ci)∧W.cell? u=some P∧W.cell? ⟨g.block,g.off+1,none⟩=some (.int .i64 x.n))
  (first | exact R.out _ (Below.refl _ _) | exact R.out _ B | exact R.out _ (Z0_ B (le_refl _) K))
  (first
  | (go_at_call 82;refine (M2_ _ _).mono ?_;rintro e w4 ⟨v4,rfl,xu,B⟩;have xw:Row w4 w4.heap.size P r:=(show Row j.drew j.drew.heap.size P r from y8.out).up B)
  | (go_at_call 64;refine (H5_ _ _ (allL x.n) r _ xu xw yl x37_).mono ?_;rintro e d ⟨v5,rfl,xv,K⟩))
 have x8:=hid (Z0_ (Z0_ q.out.drew (le_refl _) B) (le_refl _) K);have yd:Hid (Row d d.heap.size v5 ST):=by
  show Row _ _ _ _;rw [yb.out];exact xv
 have yh:=hid ((show Row j.drew j.drew.heap.size Z s from yg.out).up (Z0_ B (le_refl _) K));clear B K xu xw xv hlt xk xj;generalize v5=vst at *
 obtain ⟨As,cs,rfl,_,xy⟩:=id yh.out;obtain ⟨yv,yw,rfl,_,xz⟩:=id yd.out;have yc:=hid xz;clear xz;go_simp;have ya:=hid xy;clear xy
 go_wp2_with (at_make;refine wpList_make_full d rfl _ _ 26 rfl d.heap.size 3 i0 (.int .i64 0) 1 y37_ hi yt yu .i64 .i64 _ _ s.length rfl rfl (by rfl) (by rfl) y45_ z38_ (le_refl _) ?_)
 intro w6 xr xm;have S:=S5_ w6 d.heap.size s.length (by rw [Nat.mul_one];exact xr);rw [← Zh7 F] at S;have xl:Below d.heap.size d w6:=(Below.refl _ d).grown xm (le_refl _) (fun i hi=>by cases hi);have x9:=hid xl;have xb:=hid S;clear xr xm xl S;go_wp2
 go_loopw [52] (fun vk wr=>∃ k:Nat,vk=.int .i64 k∧k≤s.length∧Blk wr d.heap.size 3 (fillM F s.length k)∧Below d.heap.size d wr) (fun vk _=>s.length - (intOf vk).toNat)
 case atStart=>exact ⟨0,rfl,Nat.zero_le _,xb.out,x9.out⟩
 case round =>
  clear xb x9;obtain ⟨k,rfl,hk,hblk,hbr⟩:=hrel;have Hblk:=hid hblk;have Hbr:=hid hbr;by_cases hlt:k<s.length
  ·have z2:(k:Int)<(s.length:Int):=by omega
   have hx0:=(xc.out k hlt).1;have hx1:=(xc.out k hlt).2;have hfa:=y5.out k hlt;obtain ⟨X,hX⟩:∃ X:Nat,s.getD k 0=(X:Int):=⟨(s.getD k 0).toNat,x37_⟩;rw [hX] at hx0 hx1 hfa;have yj:X<ST.length:=x47_;have yx:(X:Int)<(ST.length:Int):=x37_;rw [show ((X:Int)).toNat=X from rfl] at hfa;obtain ⟨yi,hA,hasb,hcs⟩:=ya.out k hlt;subst hA;obtain ⟨at_,hA,ym,hct⟩:=yc.out X yj;subst hA;rw [hX] at hcs;have gs:=(hbr.cell (p:=yi.add k) x43_).trans hcs;have gt:=(hbr.cell (p:=at_.add X) (by rw [Z2_];exact ym)).trans hct;have gf:=hblk.frozen k;have hsz:=Zh6 (n:=s.length) Hfn.out hk;obtain ⟨y1,gc⟩:∃ y1,wr.cell? ⟨d.heap.size,k,none⟩=some y1:=⟨(fillM F s.length k)[k]'x37_,by rw [hblk.cell];simp [hsz,hlt]⟩;exact j5_
  ·have yp:k=s.length:=by omega
   subst yp;clear hblk hbr;go_wp2
   go_ret2
   exact ⟨_,rfl,Yz1 Hfn.out Hblk.out z38_,Z0_ x8.out (le_refl _) Hbr.out,fun A n c h=>by cases h;exact x8.out.size⟩
theorem Yq3 (E:Nat→Addr) (m:Mat) (v d:Value) (s:List Int) (w:World) (g:MatV w w.heap.size v m) (hs:Sml m) (h:Env E w) (j:Row w w.heap.size d s) (k:s.length≤1048576):Calls Tryz.prog 172 #[v,d] w (A7_ w (imgB m s) (imgL m s)):=by
 unfold imgL;by_cases c:m.t=5∨m.t=6
 ·by_cases hc:chk m=0
  ·rcases hsub:subB s (allL m.n) with _ | _
   ·rw [show imgB m s=false by unfold imgB;rw [hsub];simp,if_neg q38_]
    obtain ⟨t,n,a,b,l,i⟩:=m;rcases c with c | c<;>cases c
    ·exact Xj4 E n a b l i v d s w g hs h j k hc hsub
    ·exact Xj7 E n a b l i v d s w g hs h j k hc hsub
   ·rw [show imgB m s=true by unfold imgB;rw [hsub,decide_eq_true c,decide_eq_true hc];rfl,if_pos rfl]
    obtain ⟨t,n,a,b,l,i⟩:=m;rcases c with c | c<;>cases c
    ·exact Xj5 E n a b l i v d s w g hs h j k hc hsub
    ·exact Xj8 E n a b l i v d s w g hs h j k hc hsub
  ·rw [show imgB m s=false by unfold imgB;rw [decide_eq_false hc];simp,if_neg q38_]
   obtain ⟨t,n,a,b,l,i⟩:=m;rcases c with c | c<;>cases c
   ·exact Xj3 E n a b l i v d w g hs h hc
   ·exact Xj6 E n a b l i v d w g hs h hc
 ·rw [show imgB m s=false by unfold imgB;rw [decide_eq_false c];simp,if_neg q38_]
  exact Xo5 m v d w g (fun e=>c (.inl e)) (fun e=>c (.inr e))
open Go.RowKit
theorem E5_ (v:Value) (l:List Int) (n:Int) (w:World) (m:Row w w.heap.size v l):Calls Tryz.prog 22 #[v,.int .i64 n] w (Says w (okA n l)):=by
 have Hr:=hid m;obtain ⟨A,c,rfl,hcap,k⟩:=m;have s:(l.length:Int)≤9223372036854775807:=y8_;have hlm:l.length≤9223372036854775807:=x37_;have o:=hid k;clear hcap k;rcases hm:mayB l with _ | _
 ·rw [Xg0 hm]
  have Hm:=hid hm;clear hm;exact z35_
 ·have Hm:=hid hm
  clear hm;by_cases d:l.length=0
  ·rw [Zo6 Hm.out d]
   have q:((l.length:Int)==0)=true:=by simpa using d
   clear d;exact z35_
  ·obtain ⟨x,j⟩:∃ x,l.getD (l.length - 1) 0=x:=⟨_,rfl⟩
   obtain ⟨al,r,halb,h⟩:=o.out (l.length - 1) x37_;rw [Zj8 Hm.out x37_ j];rw [j] at h;subst r;obtain ⟨L,g⟩:∃ L,l.length=L:=⟨_,rfl⟩;have u:=hid g;rw [g] at h Hr s d;rw [g];have q:((L:Int)==0)=false:=by simpa using d
   have z:(0:Int)<(L:Int):=x37_;have B:IntKind.i64.wrap ((L:Int) - 1)=(L:Int) - 1:=x38_;have C:(0:Int)≤(L:Int) - 1:=x37_;have D:(L:Int) - 1<(L:Int):=x37_;have E:((L:Int) - 1).toNat=L - 1:=x37_;clear j d g
   go_enter Tryz.func22,Tryz.ntmps22
   go_wp2_with fail
   refine (V7_ _ l w Hr.out hlm Hm.out).mono ?_;rintro e w1 ⟨rfl,hb1⟩;have Hb1:=hid hb1;have y:=(hb1.cell (p:=al.add (L - 1)) x42_).trans h;clear hb1 h;exact j1_
open Go
theorem T0_ {n:Int} {l:List Int} (d:0≤n) (f:n≤64):okA n l=subB l (allL n):=by
 rw [Bool.eq_iff_iff];constructor
 ·intro h
  obtain ⟨c,h3⟩:=Zn6 h;exact Yd0 d f c h3
 ·intro h
  obtain ⟨c,_,h3⟩:=subB_iff.1 h;have e:mayB l=true:=mayB_iff.2 c;by_cases hl:l.length=0
  ·exact Zo6 e hl
  ·rw [Zj8 e x37_ rfl,decide_eq_true_iff]
   have g:=h3 (l.getD (l.length - 1) 0) (by rw [show l.getD (l.length - 1) 0=l[l.length - 1]'x37_ by simp [List.getD,show l.length - 1<l.length by omega]];exact List.getElem_mem _);exact ((K0_ d x37_ _).1 g).2
theorem ok_n {k:Nat} {m:Mat} (h:ok k m=true):0≤m.n∧m.n≤64:=by
 cases k with
 | zero=>cases h
 | succ k=>have:=(V2_ (Xc5 h)).2.1;omega
theorem Jv3 {k:Nat} {i:List Mat} (h:i.all (ok k)=true) (hl:i.length≤8):0≤tog i∧tog i≤512:=by
 have:=Ve2 (l:=i) (fun x c=>ok_n (List.all_eq_true.1 h x c)) x37_;omega
theorem Jv4 {x:Mat} (h:0≤x.n∧x.n≤64):tog [x]=x.n:=by
 show IntKind.i64.wrap (0+x.n)=x.n;rw [G6_ x37_ x37_];omega
def headB (m:Mat):Bool:=decide (m.b=0) && (decide (m.a=0) || decide (m.t=7)) && decide (1≤m.i.length) && decide (m.i.length≤8) && (decide (m.i.length≤1) || decide (m.t=9))
def tailB (S:Int) (m:Mat):Bool :=
 if 7≤m.t then decide (m.l.length=0) && decide (m.n=S)
 else decide (m.l.length=1) && okA S (row m 0) && (if m.t=5 then decide (m.n=(row m 0).length) else decide (m.n=IntKind.i64.wrap (S - (row m 0).length)))
theorem Vr4 {m:Mat} (c:0≤m.n∧m.n≤64∧0≤m.a∧m.a≤64) (d:nest m.t):(bad m=0)↔Z7_ (form m.t) m=true∧fitsB m=true:=by
 unfold nest at d;exact ⟨fun h=>⟨(V2_ h).2.2.1,(V2_ h).2.2.2⟩,fun h=>Ve1 x37_ c h.1 h.2⟩
theorem Vr5 {k:Nat} {m:Mat} (p:0≤m.n∧m.n≤64∧0≤m.a∧m.a≤64) (g:nest m.t):ok (k+1) m=(headB m && m.i.all (ok k) && tailB (tog m.i) m):=by
 rw [ok];rcases hall:m.i.all (ok k) with _ | _
 ·simp
 rw [Bool.and_true,Bool.and_true,Bool.eq_iff_iff,decide_eq_true_iff,Vr4 p g,takes_iff,Bool.and_eq_true];obtain ⟨t,n,a,b,l,i⟩:=m;unfold nest at g;unfold headB tailB;change 5≤t∧t≤9 at g;change 0≤n∧n≤64∧0≤a∧a≤64 at p;change i.all (ok k)=true at hall;obtain ⟨S,d⟩:∃ S,tog (Mat.mk t n a b l i).i=S:=⟨_,rfl⟩;rw [d];change tog i=S at d;have r:row (.mk t n a b l i) 0=l.getD 0 []:=rfl;have q:t=5∨t=6→i.length=1→∃ x,i=[x]∧tog i=x.n∧partB (.mk t n a b l i)=okA x.n (l.getD 0 [])∧0≤x.n∧x.n≤64:=fun _ hi=>by
  obtain ⟨x,rfl⟩:=List.length_eq_one_iff.1 hi;have c:=ok_n (List.all_eq_true.1 hall x j37_);refine ⟨x,rfl,Jv4 c,?_,c⟩;rw [T0_ c.1 c.2];rfl
 have e:7≤t→fitsB (.mk t n a b l i)=decide (n=S):=fun h=>by rw [← d];exact Zz5 (by show t=7∨t=8∨t=9;omega)
 rcases (by omega:t=5∨t=6∨t=7∨t=8∨t=9) with rfl | rfl | rfl | rfl | rfl
 ·have f:fitsB (.mk 5 n a b l i)=(partB (.mk 5 n a b l i) && decide (n=(l.getD 0 []).length)):=rfl
  rw [f,r];by_cases hi:i.length=1
  ·obtain ⟨x,c,o,j,_⟩:=q (.inl rfl) hi
   rw [j,← d,o];simp [form,hi,Mat.t,Mat.n,Mat.a,Mat.b,Mat.l,Mat.i]
   grind
  ·exact x11_
 ·have f:fitsB (.mk 6 n a b l i)=(partB (.mk 6 n a b l i) && decide (IntKind.i64.wrap (n+(l.getD 0 []).length)=(inn (.mk 6 n a b l i)).n)):=rfl
  rw [f,r];by_cases hi:i.length=1
  ·obtain ⟨x,c,o,j,u,v⟩:=q (.inr rfl) hi
   have s:(inn (.mk 6 n a b l i)).n=x.n:=by rw [c];rfl
   rw [j,s,← d,o];rcases ho:okA x.n (l.getD 0 []) with _ | _
   ·simp [Mat.t,Mat.n,Mat.a,Mat.b,Mat.l,Mat.i]
   ·obtain ⟨w,y⟩:=Zn6 ho
    have z:=Vk6 u v w y;rw [G6_ x37_ x37_,G6_ x37_ x37_];simp [form,hi,Mat.t,Mat.n,Mat.a,Mat.b,Mat.l,Mat.i]
    grind
  ·exact x11_
 ·rw [e x37_]
  exact x11_
 ·rw [e x37_]
  exact x11_
 ·rw [e x37_]
  exact x11_
theorem Yr1 {p:Mat→Bool} {i:List Mat} {k:Nat} (c:k<i.length) (h:p (i.getD k default)=false):i.all p=false:=by
 rw [List.all_eq_false];refine ⟨i[k],List.getElem_mem c,?_⟩;rw [show i.getD k default=i[k] by simp [List.getD,c]] at h;simp [h]
theorem Yr2 {p:Mat→Bool} {i:List Mat} (h:∀ k,k<i.length→p (i.getD k default)=true):i.all p=true:=by
 rw [List.all_eq_true];intro x d;obtain ⟨k,c,rfl⟩:=List.mem_iff_getElem.1 d;have:=h k c
 rwa [show i.getD k default=i[k] by simp [List.getD,c]] at this
def sumsI (k:Nat) (m:Mat):Int:=if m.i.all (ok k)=true then tog m.i else -1
def MayAt (k:Nat):Prop:=∀ (m:Mat) (v:Value) (w:World),MatV w w.heap.size v m→Sml m→dp k m≤k→Calls Tryz.prog 47 #[v] w (Says w (ok k m))
theorem Vb3 (k:Nat) (ih:MayAt k) (m:Mat) (v:Value) (w:World) (V:MatV w w.heap.size v m) (hs:Sml m) (hd:∀ x∈m.i,dp k x≤k):Calls Tryz.prog 79 #[v] w (Tells w (sumsI k m)):=by
 obtain ⟨F,iv,rfl,_,⟨o,y,rfl,_,P⟩⟩:=V.open;have Hk:=hid P;have Hs:=hid hs;have Hd:=hid hd;have xc:=Zv0 hs;have xd:(m.i.length:Int)≤1000:=x37_;have I:=hid (Z1_ w m F (.slice o m.i.length y));have J:=hid (Z3_ w m F (.slice o m.i.length y));obtain ⟨R,z⟩:∃ R,sumsI k m=R:=⟨_,rfl⟩;have H:=hid z;rw [z];unfold boxed at *
 clear V hs hd P z
 go_enter Tryz.func79,Tryz.ntmps79
 go_wp2
 go_loopw [3,4] (fun vn G wr=>∃ i:Nat,vn=.int .i64 (tog (m.i.take i))∧G=.int .i64 i∧i≤m.i.length∧(∀ j,j<i→ok k (m.i.getD j default)=true)∧Blk wr w.heap.size 25 #[.int .i64 m.t,.int .i64 m.n,.int .i64 m.a,.int .i64 m.b,F,.slice o m.i.length y]∧Below w.heap.size w wr) (fun _ G _=>m.i.length - (intOf G).toNat)
 case atStart=>exact ⟨0,rfl,rfl,Nat.zero_le _,fun j O=>absurd O (Nat.not_lt_zero _),J.out,I.out⟩
 case round =>
  obtain ⟨i,rfl,rfl,hi,S,B,M⟩:=hrel;have Hok:=hid S;have Hbr:=hid M;have L:=hid B;have g5:=B.cell 5;obtain ⟨r,d⟩:∃ r,tog (m.i.take i)=r:=⟨_,rfl⟩;have X:=hid d;rw [d];clear S B M J I;by_cases h:i<m.i.length
  ·have xe:(i:Int)<(m.i.length:Int):=by omega
   obtain ⟨s,u,hA,hab,T,Q⟩:=Hk.out i h;subst hA;have xa:=T.below Hbr.out j38_;have D:=(Q.bel Hbr.out).mono Hbr.out.size;have C:=Y6_ m.i i default h;have g:=hid (ih _ u wr D (sml_i Hs.out C) (Hd.out _ C));have E:=Ym4 (l:=m.i) h;rw [d] at E;have x9:=hid E;have x6:=hid (Yr1 (p:=ok k) h);have x7:Hid (ok k (m.i.getD i default)=true→∀ j,j<i+1→ok k (m.i.getD j default)=true):=hid fun hb j O=>q9_;obtain ⟨xg,xf,U,_,_⟩:=D.open;obtain ⟨x0,x1,x2,x3,x4,x5,c,s0,W,s2,s3,s4,s5⟩:=xa;rw [U] at c;injection c with c;injection c with c;injection c with h0 c;injection c with h1 c;injection c with h2 c;injection c with h3 c;injection c with h4 c;injection c with h5 _;subst h0 h1 h2 h3 h4 h5 U;have x8:=hid W;have Y:=hid (show ((s.add (i * 6)).block)<wr.heap.size from by rw [Z2_];exact Nat.lt_of_lt_of_le hab Hbr.out.size);clear d E C T Q D hab Hok;generalize m.i.getD i default=x at *
   rcases hb:ok k x with _ | _
   ·have q:Hid (R=-1):=hid (by rw [← H.out];unfold sumsI;rw [x6.out hb];rfl)
    rw [hb] at g;obtain rfl:=q.out;clear hb
    go_wp2_with fail
    refine (g.out).mono ?_;exact y35_
   ·have Z:=hid hb
    rw [hb] at g;clear hb
    go_wp2_with fail
    refine (g.out).mono ?_;rintro e w1 ⟨rfl,hb1⟩;have Hb1:=hid (Z0_ Hbr.out (le_refl _) hb1);have K:=hid (L.out.below hb1 L.out.lt);have xb:=K.out.cell 5;have xh:=(hb1.cell (p:=⟨(s.add (i * 6)).block,(s.add (i * 6)).off+1,none⟩) Y.out).trans x8.out;clear hb1 s0 W s2 s3 s4 s5 g5;go_wp2
    go_roundw
    case rel=>exact ⟨i+1,by rw [x9.out,Ym3],y38_,x37_,x7.out Z.out,K.out,Hb1.out⟩
    exact mz_
  ·have N:i=m.i.length:=by omega
   have Hie:=hid N;have q:Hid (R=r):=hid (by rw [← H.out,← X.out];unfold sumsI;rw [if_pos (Yr2 z45_),Hie.out,List.take_length]);obtain rfl:=q.out;obtain rfl:=N;clear d;exact k11_
theorem Vb4 (m:Mat) (v:Value) (w:World) (d:MatV w w.heap.size v m) (h:m.n<0∨64<m.n∨m.a<0∨64<m.a):Calls Tryz.prog 47 #[v] w (Says w false):=by
 obtain ⟨g,e,rfl,_,_⟩:=d.open;have Hb0:=hid (Z1_ w m g e);have c:=(Z3_ w m g e).cell;have q:=c 1;have r:=c 2;unfold boxed at *
 clear d c;by_cases j:m.n<0
 ·exact k30_
 by_cases k:64<m.n
 ·exact k30_
 by_cases o:m.a<0
 ·exact k30_
 have p:64<m.a:=x37_;clear h;exact k30_
theorem Xj9 (m:Mat) (v:Value) (w:World) (h:MatV w w.heap.size v m) (hs:Sml m) (x:0≤m.n∧m.n≤64∧0≤m.a∧m.a≤64) (q:¬ nest m.t):Calls Tryz.prog 47 #[v] w (Says w (decide (bad m=0))):=by
 obtain ⟨r,iv,rfl,hl,⟨k,p,rfl,X,Y⟩⟩:=h.open;have u:=hid (h.up (Z1_ w m r (.slice k m.i.length p)));have o:=hid (Z1_ w m r (.slice k m.i.length p));have j:=hid (Z3_ w m r (.slice k m.i.length p));have s:=hid (hl.up o.out);have c:=j.out.cell;have Q:=c 0;have R:=c 1;have S:=c 2;have T:=c 3;have U:=c 4;have V:=c 5;have G:¬ m.n<0:=x37_;have H:¬ 64<m.n:=x37_;have I:¬ m.a<0:=x37_;have J:¬ 64<m.a:=x37_;unfold boxed at *
 have C:=hid q;have E:=hid (fun (v:Value) (W:World) (h:MatV W W.heap.size v m)=>Yw4 m v W h hs x q);generalize decide (bad m=0)=D at *
 clear h q hl X Y c hs x
 go_enter Tryz.func47,Tryz.ntmps47
 go_wp2_with fail
 refine (X1_ m.t _).mono ?_;rintro e w1 ⟨rfl,g⟩;rw [decide_eq_false C.out];have z:=hid (Z0_ o.out (le_refl _) g);have F:=hid (u.out.up g);have Z:=hid (s.out.up g);have B:=hid (j.out.below g j.out.lt);have d:=B.out.cell;have K:=d 0;have L:=d 1;have M:=d 2;have N:=d 3;have O:=d 4;have P:=d 5;clear d g Q R S T U V G H I J o u s j
 go_wp2_with fail
 refine (E.out _ _ F.out).mono ?_;rintro e w2 ⟨rfl,y⟩;have Hb2:=hid (Z0_ z.out (le_refl _) y);clear y K L M N O P;exact y2_
theorem Vr6 (m:Mat) (v:Value) (w:World) (h:MatV w w.heap.size v m) (_hs:Sml m) (o:0≤m.n∧m.n≤64∧0≤m.a∧m.a≤64) (k:nest m.t) (q1:m.b≠0):Calls Tryz.prog 47 #[v] w (Says w false):=by
 obtain ⟨j,s,rfl,hl,⟨d,g,rfl,p,q⟩⟩:=h.open;have Hv:=hid (h.up (Z1_ w m j (.slice d m.i.length g)));have Hb0:=hid (Z1_ w m j (.slice d m.i.length g));have Hblk:=hid (Z3_ w m j (.slice d m.i.length g));have Hl:=hid (hl.up Hb0.out);have c:=Hblk.out.cell;have g0:=c 0;have g1:=c 1;have g2:=c 2;have g3:=c 3;have g4:=c 4;have g5:=c 5;have a3:¬ m.n<0:=x37_;have a4:¬ 64<m.n:=x37_;have a5:¬ m.a<0:=x37_;have a6:¬ 64<m.a:=x37_;unfold boxed at *
 have Hn:=hid k;clear h k hl p q c o;have r:(m.b != 0)=true:=q40_;clear q1;exact z0_
theorem Vr7 (m:Mat) (v:Value) (w:World) (h:MatV w w.heap.size v m) (_hs:Sml m) (o:0≤m.n∧m.n≤64∧0≤m.a∧m.a≤64) (k:nest m.t) (q1:m.b=0) (q2:m.a≠0) (q3:m.t≠7):Calls Tryz.prog 47 #[v] w (Says w false):=by
 obtain ⟨j,x,rfl,hl,⟨d,g,rfl,p,q⟩⟩:=h.open;have Hv:=hid (h.up (Z1_ w m j (.slice d m.i.length g)));have Hb0:=hid (Z1_ w m j (.slice d m.i.length g));have Hblk:=hid (Z3_ w m j (.slice d m.i.length g));have Hl:=hid (hl.up Hb0.out);have c:=Hblk.out.cell;have g0:=c 0;have g1:=c 1;have g2:=c 2;have g3:=c 3;have g4:=c 4;have g5:=c 5;have a3:¬ m.n<0:=x37_;have a4:¬ 64<m.n:=x37_;have a5:¬ m.a<0:=x37_;have a6:¬ 64<m.a:=x37_;unfold boxed at *
 have Hn:=hid k;clear h k hl p q c o;have r:(m.b != 0)=false:=q40_;clear q1;have s:(m.a != 0)=true:=x40_;have u:(m.t != 7)=true:=k46_;clear q2 q3;exact z0_
theorem Vb5 (m:Mat) (v:Value) (w:World) (h:MatV w w.heap.size v m) (_hs:Sml m) (o:0≤m.n∧m.n≤64∧0≤m.a∧m.a≤64) (k:nest m.t) (q1:m.b=0) (q2:m.a=0) (q4:m.i.length<1):Calls Tryz.prog 47 #[v] w (Says w false):=by
 obtain ⟨j,x,rfl,hl,⟨d,g,rfl,p,q⟩⟩:=h.open;have Hv:=hid (h.up (Z1_ w m j (.slice d m.i.length g)));have Hb0:=hid (Z1_ w m j (.slice d m.i.length g));have Hblk:=hid (Z3_ w m j (.slice d m.i.length g));have Hl:=hid (hl.up Hb0.out);have c:=Hblk.out.cell;have g0:=c 0;have g1:=c 1;have g2:=c 2;have g3:=c 3;have g4:=c 4;have g5:=c 5;have a3:¬ m.n<0:=x37_;have a4:¬ 64<m.n:=x37_;have a5:¬ m.a<0:=x37_;have a6:¬ 64<m.a:=x37_;unfold boxed at *
 have Hn:=hid k;clear h k hl p q c o;have r:(m.b != 0)=false:=q40_;clear q1;have s:(m.a != 0)=false:=x40_;clear q2;have u:(m.i.length:Int)<1:=x37_;clear q4;exact z0_
theorem Vb6 (m:Mat) (v:Value) (w:World) (h:MatV w w.heap.size v m) (_hs:Sml m) (o:0≤m.n∧m.n≤64∧0≤m.a∧m.a≤64) (k:nest m.t) (q1:m.b=0) (q2:m.a≠0) (q3:m.t=7) (q4:m.i.length<1):Calls Tryz.prog 47 #[v] w (Says w false):=by
 obtain ⟨j,y,rfl,hl,⟨d,g,rfl,p,q⟩⟩:=h.open;have Hv:=hid (h.up (Z1_ w m j (.slice d m.i.length g)));have Hb0:=hid (Z1_ w m j (.slice d m.i.length g));have Hblk:=hid (Z3_ w m j (.slice d m.i.length g));have Hl:=hid (hl.up Hb0.out);have c:=Hblk.out.cell;have g0:=c 0;have g1:=c 1;have g2:=c 2;have g3:=c 3;have g4:=c 4;have g5:=c 5;have a3:¬ m.n<0:=x37_;have a4:¬ 64<m.n:=x37_;have a5:¬ m.a<0:=x37_;have a6:¬ 64<m.a:=x37_;unfold boxed at *
 have Hn:=hid k;clear h k hl p q c o;have r:(m.b != 0)=false:=q40_;clear q1;have s:(m.a != 0)=true:=x40_;have u:(m.t != 7)=false:=k46_;clear q2 q3;have x:(m.i.length:Int)<1:=x37_;clear q4;exact z0_
theorem Vb7 (m:Mat) (v:Value) (w:World) (h:MatV w w.heap.size v m) (_hs:Sml m) (o:0≤m.n∧m.n≤64∧0≤m.a∧m.a≤64) (k:nest m.t) (q1:m.b=0) (q2:m.a=0) (q4:8<m.i.length):Calls Tryz.prog 47 #[v] w (Says w false):=by
 obtain ⟨j,u,rfl,hl,⟨d,g,rfl,p,q⟩⟩:=h.open;have Hv:=hid (h.up (Z1_ w m j (.slice d m.i.length g)));have Hb0:=hid (Z1_ w m j (.slice d m.i.length g));have Hblk:=hid (Z3_ w m j (.slice d m.i.length g));have Hl:=hid (hl.up Hb0.out);have c:=Hblk.out.cell;have g0:=c 0;have g1:=c 1;have g2:=c 2;have g3:=c 3;have g4:=c 4;have g5:=c 5;have a3:¬ m.n<0:=x37_;have a4:¬ 64<m.n:=x37_;have a5:¬ m.a<0:=x37_;have a6:¬ 64<m.a:=x37_;unfold boxed at *
 have Hn:=hid k;clear h k hl p q c o;have r:(m.b != 0)=false:=q40_;clear q1;have s:(m.a != 0)=false:=x40_;clear q2;exact y33_
theorem Vb8 (m:Mat) (v:Value) (w:World) (h:MatV w w.heap.size v m) (_hs:Sml m) (o:0≤m.n∧m.n≤64∧0≤m.a∧m.a≤64) (k:nest m.t) (q1:m.b=0) (q2:m.a≠0) (q3:m.t=7) (q4:8<m.i.length):Calls Tryz.prog 47 #[v] w (Says w false):=by
 obtain ⟨j,x,rfl,hl,⟨d,g,rfl,p,q⟩⟩:=h.open;have Hv:=hid (h.up (Z1_ w m j (.slice d m.i.length g)));have Hb0:=hid (Z1_ w m j (.slice d m.i.length g));have Hblk:=hid (Z3_ w m j (.slice d m.i.length g));have Hl:=hid (hl.up Hb0.out);have c:=Hblk.out.cell;have g0:=c 0;have g1:=c 1;have g2:=c 2;have g3:=c 3;have g4:=c 4;have g5:=c 5;have a3:¬ m.n<0:=x37_;have a4:¬ 64<m.n:=x37_;have a5:¬ m.a<0:=x37_;have a6:¬ 64<m.a:=x37_;unfold boxed at *
 have Hn:=hid k;clear h k hl p q c o;have r:(m.b != 0)=false:=q40_;clear q1;have s:(m.a != 0)=true:=x40_;have u:(m.t != 7)=false:=k46_;clear q2 q3;exact y33_
theorem Vb9 (m:Mat) (v:Value) (w:World) (h:MatV w w.heap.size v m) (_hs:Sml m) (o:0≤m.n∧m.n≤64∧0≤m.a∧m.a≤64) (k:nest m.t) (q1:m.b=0) (q2:m.a=0) (q4:1<m.i.length) (q5:m.i.length≤8) (q6:m.t≠9):Calls Tryz.prog 47 #[v] w (Says w false):=by
 obtain ⟨j,u,rfl,hl,⟨d,g,rfl,p,q⟩⟩:=h.open;have Hv:=hid (h.up (Z1_ w m j (.slice d m.i.length g)));have Hb0:=hid (Z1_ w m j (.slice d m.i.length g));have Hblk:=hid (Z3_ w m j (.slice d m.i.length g));have Hl:=hid (hl.up Hb0.out);have c:=Hblk.out.cell;have g0:=c 0;have g1:=c 1;have g2:=c 2;have g3:=c 3;have g4:=c 4;have g5:=c 5;have a3:¬ m.n<0:=x37_;have a4:¬ 64<m.n:=x37_;have a5:¬ m.a<0:=x37_;have a6:¬ 64<m.a:=x37_;unfold boxed at *
 have Hn:=hid k;clear h k hl p q c o;have r:(m.b != 0)=false:=q40_;clear q1;have s:(m.a != 0)=false:=x40_;clear q2;exact x31_
theorem Vc0 (m:Mat) (v:Value) (w:World) (h:MatV w w.heap.size v m) (_hs:Sml m) (o:0≤m.n∧m.n≤64∧0≤m.a∧m.a≤64) (k:nest m.t) (q1:m.b=0) (q2:m.a≠0) (q3:m.t=7) (q4:1<m.i.length) (q5:m.i.length≤8) (q6:m.t≠9):Calls Tryz.prog 47 #[v] w (Says w false):=by
 obtain ⟨j,x,rfl,hl,⟨d,g,rfl,p,q⟩⟩:=h.open;have Hv:=hid (h.up (Z1_ w m j (.slice d m.i.length g)));have Hb0:=hid (Z1_ w m j (.slice d m.i.length g));have Hblk:=hid (Z3_ w m j (.slice d m.i.length g));have Hl:=hid (hl.up Hb0.out);have c:=Hblk.out.cell;have g0:=c 0;have g1:=c 1;have g2:=c 2;have g3:=c 3;have g4:=c 4;have g5:=c 5;have a3:¬ m.n<0:=x37_;have a4:¬ 64<m.n:=x37_;have a5:¬ m.a<0:=x37_;have a6:¬ 64<m.a:=x37_;unfold boxed at *
 have Hn:=hid k;clear h k hl p q c o;have r:(m.b != 0)=false:=q40_;clear q1;have s:(m.a != 0)=true:=x40_;have u:(m.t != 7)=false:=k46_;clear q2 q3;exact x31_
theorem Xo6 (m:Mat) (v:Value) (w:World) (e:MatV w w.heap.size v m) (hs:Sml m) (c:0≤m.n∧m.n≤64∧0≤m.a∧m.a≤64) (d:nest m.t) (h:headB m=false):Calls Tryz.prog 47 #[v] w (Says w false):=by
 unfold headB at h;by_cases q1:m.b=0
 ·by_cases q2:m.a=0
  ·by_cases q4:m.i.length<1
   ·exact Vb5 m v w e hs c d q1 q2 q4
   by_cases q5:8<m.i.length
   ·exact Vb7 m v w e hs c d q1 q2 q5
   exact Vb9 m v w e hs c d q1 q2 (by simp [q1,q2] at h;omega) x37_ (by simp [q1,q2] at h;omega)
  ·by_cases q3:m.t=7
   ·by_cases q4:m.i.length<1
    ·exact Vb6 m v w e hs c d q1 q2 q3 q4
    by_cases q5:8<m.i.length
    ·exact Vb8 m v w e hs c d q1 q2 q3 q5
    exact Vc0 m v w e hs c d q1 q2 q3 (by simp [q1,q3] at h;omega) x37_ x37_
   ·exact Vr7 m v w e hs c d q1 q2 q3
 ·exact Vr6 m v w e hs c d q1
theorem Xo7 (m:Mat) (v:Value) (w:World) (hv:MatV w w.heap.size v m) (_hs:Sml m) (h2:0≤m.n∧m.n≤64∧0≤m.a∧m.a≤64) (hn:nest m.t) (S:Int) (Hsum:∀ (v:Value) (W:World),MatV W W.heap.size v m→Calls Tryz.prog 79 #[v] W (Tells W S)) (q1:m.b=0) (q2:m.a=0) (q4:m.i.length=1) (q7:S<0):Calls Tryz.prog 47 #[v] w (Says w false):=by
 have Hsum:=hid Hsum;obtain ⟨o,k,rfl,hl,⟨c,g,rfl,hci,hki⟩⟩:=hv.open;obtain ⟨d,cl,rfl,h,j⟩:=id hl;have Hv:=hid (hv.up (Z1_ w m (.slice d m.l.length cl) (.slice c m.i.length g)));have Hb0:=hid (Z1_ w m (.slice d m.l.length cl) (.slice c m.i.length g));have Hblk:=hid (Z3_ w m (.slice d m.l.length cl) (.slice c m.i.length g));have Hl:=hid (hl.up Hb0.out);have gb:=Hblk.out.cell;have g0:=gb 0;have g1:=gb 1;have g2:=gb 2;have g3:=gb 3;have g4:=gb 4;have g5:=gb 5;have a3:¬ m.n<0:=x37_;have a4:¬ 64<m.n:=x37_;have a5:¬ m.a<0:=x37_;have a6:¬ 64<m.a:=x37_;unfold boxed at *
 have Hn:=hid hn;exact j30_
theorem Xo8 (m:Mat) (v:Value) (w:World) (k:MatV w w.heap.size v m) (_hs:Sml m) (p:0≤m.n∧m.n≤64∧0≤m.a∧m.a≤64) (o:nest m.t) (S:Int) (Hsum:∀ (v:Value) (W:World),MatV W W.heap.size v m→Calls Tryz.prog 79 #[v] W (Tells W S)) (q1:m.b=0) (q2:m.a=0) (q4:m.i.length=1) (q7:¬ S<0) (q8:7≤m.t):Calls Tryz.prog 47 #[v] w (Says w (decide (m.l.length=0) && decide (m.n=S))):=by
 have Hsum:=hid Hsum;obtain ⟨z,y,rfl,hl,⟨d,j,rfl,q,r⟩⟩:=k.open;obtain ⟨g,cl,rfl,u,x⟩:=id hl;have Hv:=hid (k.up (Z1_ w m (.slice g m.l.length cl) (.slice d m.i.length j)));have Hb0:=hid (Z1_ w m (.slice g m.l.length cl) (.slice d m.i.length j));have Hblk:=hid (Z3_ w m (.slice g m.l.length cl) (.slice d m.i.length j));have Hl:=hid (hl.up Hb0.out);have c:=Hblk.out.cell;have g0:=c 0;have g1:=c 1;have g2:=c 2;have g3:=c 3;have g4:=c 4;have g5:=c 5;have a3:¬ m.n<0:=x37_;have a4:¬ 64<m.n:=x37_;have a5:¬ m.a<0:=x37_;have a6:¬ 64<m.a:=x37_;unfold boxed at *
 have Hn:=hid o;obtain ⟨L0,hL0⟩:∃ L0,decide (m.l.length=0)=L0:=⟨_,rfl⟩;obtain ⟨h,hN0⟩:∃ h,decide (m.n=S)=h:=⟨_,rfl⟩;rw [hL0,hN0];have s:((m.l.length:Int)==0)=L0:=j42_;have f1:(m.n==S)=h:=z43_;clear hL0 hN0;clear k o q r c p;have e1:(m.b != 0)=false:=q40_;clear q1;have e2:(m.a != 0)=false:=x40_;have e4:¬ (m.i.length:Int)<1:=x37_;have e5:¬ (8:Int)<(m.i.length:Int):=x37_;have e6:¬ (1:Int)<(m.i.length:Int):=x37_;clear q2 q4;exact y1_
theorem Xo9 (m:Mat) (v:Value) (w:World) (j:MatV w w.heap.size v m) (_hs:Sml m) (o:0≤m.n∧m.n≤64∧0≤m.a∧m.a≤64) (k:nest m.t) (S:Int) (Hsum:∀ (v:Value) (W:World),MatV W W.heap.size v m→Calls Tryz.prog 79 #[v] W (Tells W S)) (q1:m.b=0) (q2:m.a≠0) (q3:m.t=7) (q4:m.i.length=1) (q7:S<0):Calls Tryz.prog 47 #[v] w (Says w false):=by
 have Hsum:=hid Hsum;obtain ⟨y,x,rfl,hl,⟨d,h,rfl,p,q⟩⟩:=j.open;obtain ⟨g,cl,rfl,s,u⟩:=id hl;have Hv:=hid (j.up (Z1_ w m (.slice g m.l.length cl) (.slice d m.i.length h)));have Hb0:=hid (Z1_ w m (.slice g m.l.length cl) (.slice d m.i.length h));have Hblk:=hid (Z3_ w m (.slice g m.l.length cl) (.slice d m.i.length h));have Hl:=hid (hl.up Hb0.out);have c:=Hblk.out.cell;have g0:=c 0;have g1:=c 1;have g2:=c 2;have g3:=c 3;have g4:=c 4;have g5:=c 5;have a3:¬ m.n<0:=x37_;have a4:¬ 64<m.n:=x37_;have a5:¬ m.a<0:=x37_;have a6:¬ 64<m.a:=x37_;unfold boxed at *
 have Hn:=hid k;clear j k p q c o;have e1:(m.b != 0)=false:=q40_;clear q1;have e2:(m.a != 0)=true:=x40_;have r:(m.t != 7)=false:=k46_;have e4:¬ (m.i.length:Int)<1:=x37_;have e5:¬ (8:Int)<(m.i.length:Int):=x37_;have e6:¬ (1:Int)<(m.i.length:Int):=x37_;clear q2 q3 q4;exact k0_
theorem Xp0 (m:Mat) (v:Value) (w:World) (k:MatV w w.heap.size v m) (_hs:Sml m) (p:0≤m.n∧m.n≤64∧0≤m.a∧m.a≤64) (o:nest m.t) (S:Int) (Hsum:∀ (v:Value) (W:World),MatV W W.heap.size v m→Calls Tryz.prog 79 #[v] W (Tells W S)) (q1:m.b=0) (q2:m.a≠0) (q3:m.t=7) (q4:m.i.length=1) (q7:¬ S<0) (q8:7≤m.t):Calls Tryz.prog 47 #[v] w (Says w (decide (m.l.length=0) && decide (m.n=S))):=by
 have Hsum:=hid Hsum;obtain ⟨B,z,rfl,hl,⟨d,j,rfl,q,r⟩⟩:=k.open;obtain ⟨g,cl,rfl,x,y⟩:=id hl;have Hv:=hid (k.up (Z1_ w m (.slice g m.l.length cl) (.slice d m.i.length j)));have Hb0:=hid (Z1_ w m (.slice g m.l.length cl) (.slice d m.i.length j));have Hblk:=hid (Z3_ w m (.slice g m.l.length cl) (.slice d m.i.length j));have Hl:=hid (hl.up Hb0.out);have c:=Hblk.out.cell;have g0:=c 0;have g1:=c 1;have g2:=c 2;have g3:=c 3;have g4:=c 4;have g5:=c 5;have a3:¬ m.n<0:=x37_;have a4:¬ 64<m.n:=x37_;have a5:¬ m.a<0:=x37_;have a6:¬ 64<m.a:=x37_;unfold boxed at *
 have Hn:=hid o;obtain ⟨L0,hL0⟩:∃ L0,decide (m.l.length=0)=L0:=⟨_,rfl⟩;obtain ⟨h,hN0⟩:∃ h,decide (m.n=S)=h:=⟨_,rfl⟩;rw [hL0,hN0];have u:((m.l.length:Int)==0)=L0:=j42_;have f1:(m.n==S)=h:=z43_;clear hL0 hN0;clear k o q r c p;have e1:(m.b != 0)=false:=q40_;clear q1;have e2:(m.a != 0)=true:=x40_;have s:(m.t != 7)=false:=k46_;have e4:¬ (m.i.length:Int)<1:=x37_;have e5:¬ (8:Int)<(m.i.length:Int):=x37_;have e6:¬ (1:Int)<(m.i.length:Int):=x37_;clear q2 q3 q4;exact y1_
theorem Xp1 (m:Mat) (v:Value) (w:World) (j:MatV w w.heap.size v m) (_hs:Sml m) (o:0≤m.n∧m.n≤64∧0≤m.a∧m.a≤64) (k:nest m.t) (S:Int) (Hsum:∀ (v:Value) (W:World),MatV W W.heap.size v m→Calls Tryz.prog 79 #[v] W (Tells W S)) (q1:m.b=0) (q2:m.a=0) (q4:1<m.i.length) (q5:m.i.length≤8) (q6:m.t=9) (q7:S<0):Calls Tryz.prog 47 #[v] w (Says w false):=by
 have Hsum:=hid Hsum;obtain ⟨y,x,rfl,hl,⟨d,h,rfl,p,q⟩⟩:=j.open;obtain ⟨g,cl,rfl,s,u⟩:=id hl;have Hv:=hid (j.up (Z1_ w m (.slice g m.l.length cl) (.slice d m.i.length h)));have Hb0:=hid (Z1_ w m (.slice g m.l.length cl) (.slice d m.i.length h));have Hblk:=hid (Z3_ w m (.slice g m.l.length cl) (.slice d m.i.length h));have Hl:=hid (hl.up Hb0.out);have c:=Hblk.out.cell;have g0:=c 0;have g1:=c 1;have g2:=c 2;have g3:=c 3;have g4:=c 4;have g5:=c 5;have a3:¬ m.n<0:=x37_;have a4:¬ 64<m.n:=x37_;have a5:¬ m.a<0:=x37_;have a6:¬ 64<m.a:=x37_;unfold boxed at *
 have Hn:=hid k;clear j k p q c o;have e1:(m.b != 0)=false:=q40_;clear q1;have e2:(m.a != 0)=false:=x40_;have e4:¬ (m.i.length:Int)<1:=x37_;have e5:¬ (8:Int)<(m.i.length:Int):=x37_;have e6:(1:Int)<(m.i.length:Int):=x37_;have r:(m.t != 9)=false:=by simpa using q6
 clear q2 q4 q5 q6;exact k0_
theorem Xp2 (m:Mat) (v:Value) (w:World) (k:MatV w w.heap.size v m) (_hs:Sml m) (p:0≤m.n∧m.n≤64∧0≤m.a∧m.a≤64) (o:nest m.t) (S:Int) (Hsum:∀ (v:Value) (W:World),MatV W W.heap.size v m→Calls Tryz.prog 79 #[v] W (Tells W S)) (q1:m.b=0) (q2:m.a=0) (q4:1<m.i.length) (q5:m.i.length≤8) (q6:m.t=9) (q7:¬ S<0) (q8:7≤m.t):Calls Tryz.prog 47 #[v] w (Says w (decide (m.l.length=0) && decide (m.n=S))):=by
 have Hsum:=hid Hsum;obtain ⟨B,z,rfl,hl,⟨d,j,rfl,q,r⟩⟩:=k.open;obtain ⟨g,cl,rfl,x,y⟩:=id hl;have Hv:=hid (k.up (Z1_ w m (.slice g m.l.length cl) (.slice d m.i.length j)));have Hb0:=hid (Z1_ w m (.slice g m.l.length cl) (.slice d m.i.length j));have Hblk:=hid (Z3_ w m (.slice g m.l.length cl) (.slice d m.i.length j));have Hl:=hid (hl.up Hb0.out);have c:=Hblk.out.cell;have g0:=c 0;have g1:=c 1;have g2:=c 2;have g3:=c 3;have g4:=c 4;have g5:=c 5;have a3:¬ m.n<0:=x37_;have a4:¬ 64<m.n:=x37_;have a5:¬ m.a<0:=x37_;have a6:¬ 64<m.a:=x37_;unfold boxed at *
 have Hn:=hid o;obtain ⟨L0,hL0⟩:∃ L0,decide (m.l.length=0)=L0:=⟨_,rfl⟩;obtain ⟨h,hN0⟩:∃ h,decide (m.n=S)=h:=⟨_,rfl⟩;rw [hL0,hN0];have u:((m.l.length:Int)==0)=L0:=j42_;have f1:(m.n==S)=h:=z43_;clear hL0 hN0;clear k o q r c p;have e1:(m.b != 0)=false:=q40_;clear q1;have e2:(m.a != 0)=false:=x40_;have e4:¬ (m.i.length:Int)<1:=x37_;have e5:¬ (8:Int)<(m.i.length:Int):=x37_;have e6:(1:Int)<(m.i.length:Int):=x37_;have s:(m.t != 9)=false:=by simpa using q6
 clear q2 q4 q5 q6;exact y1_
theorem Xp3 (m:Mat) (v:Value) (w:World) (hv:MatV w w.heap.size v m) (_hs:Sml m) (h2:0≤m.n∧m.n≤64∧0≤m.a∧m.a≤64) (hn:nest m.t) (S:Int) (Hsum:∀ (v:Value) (W:World),MatV W W.heap.size v m→Calls Tryz.prog 79 #[v] W (Tells W S)) (q1:m.b=0) (q2:m.a=0) (q4:m.i.length=1) (q7:¬ S<0) (q8:¬ 7≤m.t) (q9:m.l.length≠1):Calls Tryz.prog 47 #[v] w (Says w false):=by
 have Hsum:=hid Hsum;obtain ⟨p,o,rfl,hl,⟨c,g,rfl,hci,hki⟩⟩:=hv.open;obtain ⟨d,cl,rfl,j,k⟩:=id hl;have Hv:=hid (hv.up (Z1_ w m (.slice d m.l.length cl) (.slice c m.i.length g)));have Hb0:=hid (Z1_ w m (.slice d m.l.length cl) (.slice c m.i.length g));have Hblk:=hid (Z3_ w m (.slice d m.l.length cl) (.slice c m.i.length g));have Hl:=hid (hl.up Hb0.out);have gb:=Hblk.out.cell;have g0:=gb 0;have g1:=gb 1;have g2:=gb 2;have g3:=gb 3;have g4:=gb 4;have g5:=gb 5;have a3:¬ m.n<0:=x37_;have a4:¬ 64<m.n:=x37_;have a5:¬ m.a<0:=x37_;have a6:¬ 64<m.a:=x37_;unfold boxed at *
 have Hn:=hid hn;have h:((m.l.length:Int) != 1)=true:=k37_;clear q9;exact j30_
theorem Xp4 (m:Mat) (v:Value) (w:World) (H:MatV w w.heap.size v m) (_hs:Sml m) (h2:0≤m.n∧m.n≤64∧0≤m.a∧m.a≤64) (M:nest m.t) (S:Int) (z:∀ (v:Value) (W:World),MatV W W.heap.size v m→Calls Tryz.prog 79 #[v] W (Tells W S)) (q1:m.b=0) (q2:m.a=0) (q4:m.i.length=1) (q7:¬ S<0) (q8:¬ 7≤m.t) (q9:m.l.length=1) (q0:okA S (row m 0)=false):Calls Tryz.prog 47 #[v] w (Says w false):=by
 have z:=hid z;obtain ⟨lv,iv,rfl,hl,⟨q,B,rfl,x0,x2⟩⟩:=H.open;obtain ⟨s,cl,rfl,x1,L⟩:=id hl;have J:=hid (H.up (Z1_ w m (.slice s m.l.length cl) (.slice q m.i.length B)));have u:=hid (Z1_ w m (.slice s m.l.length cl) (.slice q m.i.length B));have j:=hid (Z3_ w m (.slice s m.l.length cl) (.slice q m.i.length B));have I:=hid (hl.up u.out);have c:=j.out.cell;have g0:=c 0;have g1:=c 1;have g2:=c 2;have g3:=c 3;have g4:=c 4;have g5:=c 5;have a3:¬ m.n<0:=x37_;have a4:¬ 64<m.n:=x37_;have a5:¬ m.a<0:=x37_;have a6:¬ 64<m.a:=x37_;unfold boxed at *
 have U:=hid M;obtain ⟨ad,u0,hA,K,G,N⟩:=L 0 x37_;subst hA;rw [add_zero] at G;have O:row m 0=m.l.getD 0 []:=rfl;rw [O] at q0;have f0:((m.l.length:Int) != 1)=false:=k37_;have f1:(0:Int)<(m.l.length:Int):=x37_;have f2:0<m.l.length:=x37_;generalize m.l.getD 0 []=r at *
 have R:=hid G;have P:=hid K;have V:=hid N;have Z:=hid q0;clear q9 G N q0 x1 L hl K O;clear H M x0 x2 c h2;have e1:(m.b != 0)=false:=q40_;clear q1;have e2:(m.a != 0)=false:=x40_;have e4:¬ (m.i.length:Int)<1:=x37_;have e5:¬ (8:Int)<(m.i.length:Int):=x37_;have e6:¬ (1:Int)<(m.i.length:Int):=x37_;clear q2 q4
 go_enter Tryz.func47,Tryz.ntmps47
 go_wp2_with fail
 refine (X1_ m.t _).mono ?_;rintro e w1 ⟨rfl,g⟩;rw [decide_eq_true U.out];have Q:=hid (Z0_ u.out (le_refl _) g);have Y:=hid (J.out.up g);have T:=hid (I.out.up g);have x:=hid (j.out.below g j.out.lt);have d:=x.out.cell;have C:=d 0;have D:=d 1;have d2:=d 2;have d3:=d 3;have E:=d 4;have d5:=d 5;clear d g g0 g1 g2 g3 g4 g5 a3 a4 a5 a6 u J I j
 go_wp2_with fail
 refine (z.out _ _ Y.out).mono ?_;rintro e w2 ⟨rfl,k⟩;have h:=hid (Z0_ Q.out (le_refl _) k);have x4:=hid (T.out.up k);have y:=hid (x.out.below k x.out.lt);clear k C D d2 d3 E d5 e1 e2 e4 e5 e6;have o:=y.out.cell;have C:=o 0;have D:=o 1;have E:=o 4;clear o;have c0:=(h.out.cell (p:=ad) P.out).trans R.out;have X:=hid ((V.out.below h.out).mono h.out.size)
 go_wp2_with fail
 refine (E5_ u0 r S _ X.out).mono ?_;rintro e w3 ⟨rfl,F⟩;rw [Z.out];have Hb3:=hid (Z0_ h.out (le_refl _) F);have x3:=hid (y.out.below F y.out.lt);clear F C D E c0;exact q6_
theorem Xq0 (m:Mat) (v:Value) (w:World) (O:MatV w w.heap.size v m) (_hs:Sml m) (h2:0≤m.n∧m.n≤64∧0≤m.a∧m.a≤64) (V:nest m.t) (S:Int) (I:∀ (v:Value) (W:World),MatV W W.heap.size v m→Calls Tryz.prog 79 #[v] W (Tells W S)) (q1:m.b=0) (q2:m.a=0) (q4:m.i.length=1) (q7:¬ S<0) (q8:¬ 7≤m.t) (q9:m.l.length=1) (q0:okA S (row m 0)=true) (q5:m.t=5):Calls Tryz.prog 47 #[v] w (Says w (decide (m.n=(row m 0).length))):=by
 have I:=hid I;obtain ⟨lv,iv,rfl,hl,⟨j,s,rfl,x5,x7⟩⟩:=O.open;obtain ⟨B,cl,rfl,x6,U⟩:=id hl;have R:=hid (O.up (Z1_ w m (.slice B m.l.length cl) (.slice j m.i.length s)));have D:=hid (Z1_ w m (.slice B m.l.length cl) (.slice j m.i.length s));have o:=hid (Z3_ w m (.slice B m.l.length cl) (.slice j m.i.length s));have Q:=hid (hl.up D.out);have c:=o.out.cell;have g0:=c 0;have g1:=c 1;have g2:=c 2;have g3:=c 3;have g4:=c 4;have g5:=c 5;have a3:¬ m.n<0:=x37_;have a4:¬ 64<m.n:=x37_;have a5:¬ m.a<0:=x37_;have a6:¬ 64<m.a:=x37_;unfold boxed at *
 have Hn:=hid V;obtain ⟨J,u0,hA,T,N,X⟩:=U 0 x37_;subst hA;rw [add_zero] at N;have Y:row m 0=m.l.getD 0 []:=rfl;rw [Y] at q0 ⊢;have f0:((m.l.length:Int) != 1)=false:=k37_;have f1:(0:Int)<(m.l.length:Int):=x37_;have f2:0<m.l.length:=x37_;generalize m.l.getD 0 []=r at *
 have P:=hid N;have C:=hid T;have x2:=hid X;have Q0:=hid q0;clear q9 N X q0 x6 U hl T Y;have f5:(m.t==5)=true:=by simpa using q5
 clear q5;clear O V x5 x7 c h2;have e1:(m.b != 0)=false:=q40_;clear q1;have e2:(m.a != 0)=false:=x40_;have e4:¬ (m.i.length:Int)<1:=x37_;have e5:¬ (8:Int)<(m.i.length:Int):=x37_;have e6:¬ (1:Int)<(m.i.length:Int):=x37_;clear q2 q4
 go_enter Tryz.func47,Tryz.ntmps47
 go_wp2_with fail
 refine (X1_ m.t _).mono ?_;rintro e w1 ⟨rfl,h⟩;rw [decide_eq_true Hn.out];have Z:=hid (Z0_ D.out (le_refl _) h);have x4:=hid (R.out.up h);have x1:=hid (Q.out.up h);have E:=hid (o.out.below h o.out.lt);have d:=E.out.cell;have g:=d 0;have K:=d 1;have d2:=d 2;have d3:=d 3;have L:=d 4;have d5:=d 5;clear d h g0 g1 g2 g3 g4 g5 a3 a4 a5 a6 D R Q o
 go_wp2_with fail
 refine (I.out _ _ x4.out).mono ?_;rintro e w2 ⟨rfl,x⟩;have k:=hid (Z0_ Z.out (le_refl _) x);have x9:=hid (x1.out.up x);have F:=hid (E.out.below x E.out.lt);clear x g K d2 d3 L d5 e1 e2 e4 e5 e6;have y:=F.out.cell;have g:=y 0;have K:=y 1;have L:=y 4;clear y;have c0:=(k.out.cell (p:=J) C.out).trans P.out;have H:=hid ((x2.out.below k.out).mono k.out.size)
 go_wp2_with fail
 refine (E5_ u0 r S _ H.out).mono ?_;rintro e z ⟨rfl,M⟩;rw [Q0.out];have Hb3:=hid (Z0_ k.out (le_refl _) M);have G:=hid (F.out.below M F.out.lt);clear M g K L c0;have x0:Hid (∀ W,Below z.heap.size z W→∀ i,W.cell? ⟨w.heap.size,i,none⟩=#[.int .i64 m.t,.int .i64 m.n,.int .i64 m.a,.int .i64 m.b,.slice (some J) m.l.length cl,.slice j m.i.length s][i]?):=fun W u i=>(G.out.below u G.out.lt).cell i;have x3:=hid (V6_ ((Hb3.out.cell (p:=J) C.out).trans P.out) (Nat.lt_of_lt_of_le C.out Hb3.out.size));obtain ⟨Ar,cr,x8,_⟩:=id H.out;subst x8;have g:=G.out.cell 0;clear H;go_wp2;clear g;refine Z6_ z.heap.size z y37_ y37_ (Below.refl _ _) ?_
 iterate 9 (go_big_quiet_want;apply Exists.intro;refine ⟨fun W u=>?_,?_⟩;(· have q:=x0.out W u;have q1:=q 1;have q4:=q 4;clear q;have r0:=x3.out W u;go_simp;first | exact rfl | exact ⟨rfl,rfl⟩);go_simp;go_big_quiet_on)
 exact k17_
theorem Xp5 (m:Mat) (v:Value) (w:World) (O:MatV w w.heap.size v m) (_hs:Sml m) (h2:0≤m.n∧m.n≤64∧0≤m.a∧m.a≤64) (V:nest m.t) (S:Int) (I:∀ (v:Value) (W:World),MatV W W.heap.size v m→Calls Tryz.prog 79 #[v] W (Tells W S)) (q1:m.b=0) (q2:m.a=0) (q4:m.i.length=1) (q7:¬ S<0) (q8:¬ 7≤m.t) (q9:m.l.length=1) (q0:okA S (row m 0)=true) (q5:m.t≠5):Calls Tryz.prog 47 #[v] w (Says w (decide (m.n=IntKind.i64.wrap (S - (row m 0).length)))):=by
 have I:=hid I;obtain ⟨lv,iv,rfl,hl,⟨j,s,rfl,x5,x7⟩⟩:=O.open;obtain ⟨B,cl,rfl,x6,U⟩:=id hl;have R:=hid (O.up (Z1_ w m (.slice B m.l.length cl) (.slice j m.i.length s)));have D:=hid (Z1_ w m (.slice B m.l.length cl) (.slice j m.i.length s));have o:=hid (Z3_ w m (.slice B m.l.length cl) (.slice j m.i.length s));have Q:=hid (hl.up D.out);have c:=o.out.cell;have g0:=c 0;have g1:=c 1;have g2:=c 2;have g3:=c 3;have g4:=c 4;have g5:=c 5;have a3:¬ m.n<0:=x37_;have a4:¬ 64<m.n:=x37_;have a5:¬ m.a<0:=x37_;have a6:¬ 64<m.a:=x37_;unfold boxed at *
 have Hn:=hid V;obtain ⟨J,u0,hA,T,N,X⟩:=U 0 x37_;subst hA;rw [add_zero] at N;have Y:row m 0=m.l.getD 0 []:=rfl;rw [Y] at q0 ⊢;have f0:((m.l.length:Int) != 1)=false:=k37_;have f1:(0:Int)<(m.l.length:Int):=x37_;have f2:0<m.l.length:=x37_;generalize m.l.getD 0 []=r at *
 have P:=hid N;have C:=hid T;have x2:=hid X;have Q0:=hid q0;clear q9 N X q0 x6 U hl T Y;have f5:(m.t==5)=false:=by simpa using q5
 clear q5;clear O V x5 x7 c h2;have e1:(m.b != 0)=false:=q40_;clear q1;have e2:(m.a != 0)=false:=x40_;have e4:¬ (m.i.length:Int)<1:=x37_;have e5:¬ (8:Int)<(m.i.length:Int):=x37_;have e6:¬ (1:Int)<(m.i.length:Int):=x37_;clear q2 q4
 go_enter Tryz.func47,Tryz.ntmps47
 go_wp2_with fail
 refine (X1_ m.t _).mono ?_;rintro e w1 ⟨rfl,h⟩;rw [decide_eq_true Hn.out];have Z:=hid (Z0_ D.out (le_refl _) h);have x4:=hid (R.out.up h);have x1:=hid (Q.out.up h);have E:=hid (o.out.below h o.out.lt);have d:=E.out.cell;have g:=d 0;have K:=d 1;have d2:=d 2;have d3:=d 3;have L:=d 4;have d5:=d 5;clear d h g0 g1 g2 g3 g4 g5 a3 a4 a5 a6 D R Q o
 go_wp2_with fail
 refine (I.out _ _ x4.out).mono ?_;rintro e w2 ⟨rfl,x⟩;have k:=hid (Z0_ Z.out (le_refl _) x);have x9:=hid (x1.out.up x);have F:=hid (E.out.below x E.out.lt);clear x g K d2 d3 L d5 e1 e2 e4 e5 e6;have y:=F.out.cell;have g:=y 0;have K:=y 1;have L:=y 4;clear y;have c0:=(k.out.cell (p:=J) C.out).trans P.out;have H:=hid ((x2.out.below k.out).mono k.out.size)
 go_wp2_with fail
 refine (E5_ u0 r S _ H.out).mono ?_;rintro e z ⟨rfl,M⟩;rw [Q0.out];have Hb3:=hid (Z0_ k.out (le_refl _) M);have G:=hid (F.out.below M F.out.lt);clear M g K L c0;have x0:Hid (∀ W,Below z.heap.size z W→∀ i,W.cell? ⟨w.heap.size,i,none⟩=#[.int .i64 m.t,.int .i64 m.n,.int .i64 m.a,.int .i64 m.b,.slice (some J) m.l.length cl,.slice j m.i.length s][i]?):=fun W u i=>(G.out.below u G.out.lt).cell i;have x3:=hid (V6_ ((Hb3.out.cell (p:=J) C.out).trans P.out) (Nat.lt_of_lt_of_le C.out Hb3.out.size));obtain ⟨Ar,cr,x8,_⟩:=id H.out;subst x8;have g:=G.out.cell 0;clear H;go_wp2;clear g;refine Z6_ z.heap.size z y37_ y37_ (Below.refl _ _) ?_
 iterate 11 (go_big_quiet_want;apply Exists.intro;refine ⟨fun W u=>?_,?_⟩;(· have q:=x0.out W u;have q1:=q 1;have q4:=q 4;clear q;have r0:=x3.out W u;go_simp;first | exact rfl | exact ⟨rfl,rfl⟩);go_simp;go_big_quiet_on)
 exact k17_
theorem Vc1:∀ (k:Nat),MayAt k:=by
 intro k
 induction k with
 | zero=>intro m v w _ _ hd;have:=Zb7 0 m;omega
 | succ k ih =>
  intro m v w g hs hd;by_cases h:0≤m.n∧m.n≤64∧0≤m.a∧m.a≤64
  ·by_cases e:nest m.t
   ·have s:∀ x∈m.i,dp k x≤k:=fun x u=>by have:=Zj6 (k:=k) e u;omega
    have j:∀ (v:Value) (W:World),MatV W W.heap.size v m→Calls Tryz.prog 79 #[v] W (Tells W (sumsI k m)):=fun v W g=>Vb3 k ih m v W g hs s;rw [Vr5 h e];rcases hh:headB m with _ | _
    ·simpa using Xo6 m v w g hs h e hh
    rw [Bool.true_and];have q:=hh;unfold headB at q;simp only [Bool.and_eq_true,Bool.or_eq_true,decide_eq_true_iff] at q;obtain ⟨⟨⟨⟨q1,q2⟩,q4⟩,q5⟩,q6⟩:=q;have r:(m.a=0∧m.i.length=1)∨(m.a≠0∧m.t=7∧m.i.length=1)∨(m.a=0∧1<m.i.length∧m.i.length≤8∧m.t=9):=x37_;unfold sumsI at j;rcases hall:m.i.all (ok k) with _ | _
    ·rw [hall,if_neg q38_] at j
     rw [Bool.false_and];rcases r with ⟨a,b⟩ | ⟨a,b,c⟩ | ⟨a,b,c,d⟩
     ·exact Xo7 m v w g hs h e (-1) j q1 a b q38_
     ·exact Xo9 m v w g hs h e (-1) j q1 a b c q38_
     ·exact Xp1 m v w g hs h e (-1) j q1 a b c d q38_
    ·rw [hall,if_pos rfl] at j
     rw [Bool.true_and];have y:=Jv3 hall q5;unfold tailB;by_cases o:7≤m.t
     ·rw [if_pos o]
      rcases r with ⟨a,b⟩ | ⟨a,b,c⟩ | ⟨a,b,c,d⟩
      ·exact Xo8 m v w g hs h e _ j q1 a b x37_ o
      ·exact Xp0 m v w g hs h e _ j q1 a b c x37_ o
      ·exact Xp2 m v w g hs h e _ j q1 a b c d x37_ o
     ·rw [if_neg o]
      have ha:m.a=0:=x37_;have hi:m.i.length=1:=x37_;by_cases hl:m.l.length=1
      ·rw [decide_eq_true hl,Bool.true_and]
       rcases hk:okA (tog m.i) (row m 0) with _ | _
       ·exact Xp4 m v w g hs h e _ j q1 ha hi x37_ o hl hk
       ·rw [Bool.true_and]
        by_cases p:m.t=5
        ·rw [if_pos p]
         exact Xq0 m v w g hs h e _ j q1 ha hi x37_ o hl hk p
        ·rw [if_neg p]
         exact Xp5 m v w g hs h e _ j q1 ha hi x37_ o hl hk p
      ·rw [decide_eq_false hl,Bool.false_and,Bool.false_and]
       exact Xp3 m v w g hs h e _ j q1 ha hi x37_ o hl
   ·rw [show ok (k+1) m=decide (bad m=0) from by
     rw [ok];by_cases hb:bad m=0
     ·rw [U0_ hb e];simp
     ·rw [decide_eq_false hb];rfl]
    exact Xj9 m v w g hs h e
  ·rw [show ok (k+1) m=false from by
    rw [ok,decide_eq_false (fun hb=>h (V2_ hb).2.1)];rfl]
   exact Vb4 m v w g x37_
open Go.RowKit
theorem Xp6 (n:Nat) (w:World) (h:1≤n) (j:n≤100000) :
  Calls Tryz.prog 72 #[.int .i64 n] w (Gives w (allL n)):=by
 have e:=hid (Ye5 h j);have x:(n:Int)≤100000:=x37_
 go_enter Tryz.func72,Tryz.ntmps72
 have s:(w.alloc (.cells #[] 3)).ownsRow w.heap.size 3 1 (.slice (some ⟨w.heap.size,0,none⟩) 0 0) 0 [] :=
  World.ownsRow_made w #[] 0 (le_refl _) z38_ rfl
 have m:Below w.heap.size w (w.alloc (.cells #[] 3)):=(Below.refl _ w).alloc (le_refl _) _;go_wp2
 go_loopw [3,4] (fun u d wr=>∃ k:Nat,d=.int .i64 k∧k≤n∧wr.ownsRow w.heap.size 3 1 u (upTo k).length (ints (upTo k))∧Below w.heap.size w wr) (fun _ d _=>n - (intOf d).toNat)
 case atStart=>exact ⟨0,rfl,Nat.zero_le _,s,m⟩
 case round =>
  obtain ⟨k,rfl,y,c,hbr⟩:=hrel;by_cases z:k<n
  ·have B:=Q3_ k
   have g:=hid (Yx1 k)
   go_wp2_with (at_builtin;refine Z4_ rfl _ _ rfl w.heap.size _ _ _ (upTo k) [(k:Int)] rfl rfl (c.alloc _) (Row.lit1 _ (k:Int)) x37_ j37_ z39_ ?_)
   intro C v r p;have o:Below w.heap.size wr v:=((Below.refl _ wr).alloc hbr.size _).grown p z39_ (fun i hi=>(c.lt i hi).1);go_wp2
   go_roundw
   case rel=>exact ⟨k+1,y38_,x37_,by rw [g.out,List.length_append,Q3_];exact r,hbr.trans o⟩
   exact mz_
  ·have q:k=n:=by omega
   subst q;go_wp2;go_ret;exact ⟨_,rfl,by rw [e.out];exact Row.of_own c rfl,hbr⟩
theorem Zx3 (n:Int) (w:World):Calls Tryz.prog 72 #[.int .i64 n] w (Gives w (allL n)):=by
 by_cases h:n<1∨100000<n
 ·have d:=hid (Xg2 h)
  have c:∀ w':World,Below w.heap.size w w'→Gives w (allL n) (.returned (.slice (some ⟨w.heap.size,0,none⟩) 0 0)) w':=fun w' hb=>⟨_,rfl,by rw [d.out];exact ⟨_,0,rfl,⟨le_refl _,q38_,fun e=>by cases e⟩,fun k g=>absurd g j37_⟩,hb⟩;have Hout:=hid c;clear c;have hB0:Below w.heap.size w (w.alloc (.cells #[] 3)):=(Below.refl _ w).alloc (le_refl _) _;by_cases h1:n<1
  ·have o:¬ (0<n):=by omega
   exact q11_
  ·have p:¬ (n≤100000):=by omega
   have j:0<n:=x37_;exact q11_
 ·obtain ⟨m,rfl⟩:∃ m:Nat,n=(m:Int):=⟨n.toNat,x37_⟩
  exact Xp6 m w x37_ x37_
theorem Yh6 (Q R:Value) (a b:List Int) (w:World) (ha:Row w w.heap.size Q a) (hb:Row w w.heap.size R b) (x1:a.length≤1048576) (x2:b.length≤1048576) (C:mayB a=true) (D:mayB b=true) :
  Calls Tryz.prog 71 #[Q,R] w (Gives w (Z5_ a b)):=by
 have H:=hid ha;have r:=hid hb;obtain ⟨A1,c1,rfl,_,O⟩:=ha;obtain ⟨A2,c2,rfl,_⟩:=hb;have S:=hid O;clear O;have I:=hid (Zi9 a b false C D);change Hid (_=Z5_ a b) at I;have K:=hid C;have L:=hid D;clear C D;have P:(w.alloc (.cells #[] 3)).ownsRow w.heap.size 3 1 (.slice (some ⟨w.heap.size,0,none⟩) 0 0) 0 [] :=
  World.ownsRow_made w #[] 0 (le_refl _) z38_ rfl
 have N:Below w.heap.size w (w.alloc (.cells #[] 3)):=(Below.refl _ w).alloc (le_refl _) _
 go_enter Tryz.func71,Tryz.ntmps71
 go_wp2
 go_loopw [5,6] (fun Y E wr=>∃ k:Nat,E=.int .i64 k∧k≤a.length∧wr.ownsRow w.heap.size 3 1 Y (D5_ a b false k).length (ints (D5_ a b false k))∧Below w.heap.size w wr) (fun _ E _=>a.length - (intOf E).toNat)
 case atStart=>exact ⟨0,rfl,Nat.zero_le _,P,N⟩
 case round =>
  obtain ⟨k,rfl,hk,m,d⟩:=hrel;by_cases B:k<a.length
  ·obtain ⟨M,hA,hab,z⟩:=S.out k B
   subst hA;have x0:(k:Int)<(a.length:Int):=x37_;have x3:=U6_ a b false k;have u:=hid (Zi8 a b false k B);have s:=hid (Yy9 a b false k B);clear P N;generalize a.getD k 0=x at z u s;have J:=hid z;clear z;rcases hc:b.contains x with _ | _
   ·have o:=hid hc
    clear hc
    go_wp2_with fail
    refine (V7_ _ a wr (H.out.below d |>.mono d.size) x37_ K.out).mono ?_;rintro e F ⟨rfl,h⟩;have c:=d.trans (h.mono d.size);have p:=m.kept (row:=none) (Z8_ h _) y44_;clear h
    go_wp2_with fail
    refine (V7_ _ b F (r.out.below c |>.mono c.size) x37_ L.out).mono ?_;rintro e q ⟨rfl,j⟩;have g:=c.trans (j.mono c.size);have v:=p.kept (row:=none) (Z8_ j _) y44_;clear j c p m d;have T:q.cell? (M.add k)=some (.int .i64 x):=(g.cell j38_).trans J.out
    go_wp2_with fail
    refine (Zj9 _ b x _ q (r.out.below g) x37_ o.out).mono ?_;rintro e G ⟨rfl,rfl⟩;have y:=hid (u.out (by rw [o.out]));clear u s
    go_wp2_with (at_builtin;refine Z4_ rfl _ _ rfl w.heap.size _ _ _ (D5_ a b false k) [x] rfl rfl (v.alloc _) (Row.lit1 _ x) x37_ j37_ (by have:=g.size;simp;omega) ?_)
    intro v' Z X V;have U:Below w.heap.size G Z:=((Below.refl _ G).alloc g.size _).grown V (by have:=g.size;simp;omega) (fun i hi=>(v.lt i hi).1);go_wp2
    go_roundw
    case rel=>exact ⟨k+1,y38_,x37_,by rw [y.out,List.length_append];exact X,g.trans U⟩
    exact mz_
   ·have o:=hid hc
    clear hc
    go_wp2_with fail
    refine (V7_ _ a wr (H.out.below d |>.mono d.size) x37_ K.out).mono ?_;rintro e F ⟨rfl,h⟩;have c:=d.trans (h.mono d.size);have p:=m.kept (row:=none) (Z8_ h _) y44_;clear h
    go_wp2_with fail
    refine (V7_ _ b F (r.out.below c |>.mono c.size) x37_ L.out).mono ?_;rintro e q ⟨rfl,j⟩;have g:=c.trans (j.mono c.size);have v:=p.kept (row:=none) (Z8_ j _) y44_;clear j c p m d;have T:q.cell? (M.add k)=some (.int .i64 x):=(g.cell j38_).trans J.out
    go_wp2_with fail
    refine (Zj9 _ b x _ q (r.out.below g) x37_ o.out).mono ?_;rintro e G ⟨rfl,rfl⟩;have y:=hid (s.out (by rw [o.out];decide));clear u s;go_wp2
    go_roundw
    case rel=>exact ⟨k+1,y38_,x37_,by rw [y.out];exact v,g⟩
    exact mz_
  ·have W:k=a.length:=by omega
   subst W;rw [I.out] at m;go_wp2;go_ret;exact ⟨_,rfl,Row.of_own m rfl,d⟩
theorem Zj1 (x y:Value) (a b:List Int) (w:World) (ha:Row w w.heap.size x a) (hb:Row w w.heap.size y b) (K:a.length≤1048576) (L:b.length≤1048576) (h:mayB a=false∨(mayB a=true∧mayB b=false)) :
  Calls Tryz.prog 71 #[x,y] w (Gives w (Z5_ a b)):=by
 have q:=hid ha;have z:=hid hb;obtain ⟨H,c1,rfl,_,r⟩:=ha;obtain ⟨I,c2,rfl,_⟩:=hb;have J:=hid r;clear r;have v:Z5_ a b=[]:=by
  rcases h with h | h
  ·exact Yn1 h
  ·exact Yn2 h.2
 have u:∀ w':World,Below w.heap.size w w'→Gives w (Z5_ a b) (.returned (.slice (some ⟨w.heap.size,0,none⟩) 0 0)) w':=fun w' hb=>⟨_,rfl,by rw [v];exact ⟨_,0,rfl,⟨le_refl _,q38_,fun e=>by cases e⟩,fun k F=>absurd F j37_⟩,hb⟩;have o:=hid u;clear u v;have c:Below w.heap.size w (w.alloc (.cells #[] 3)):=(Below.refl _ w).alloc (le_refl _) _;by_cases p:0<a.length
 ·have C:(0:Int)<(a.length:Int):=by omega
  rcases h with g | ⟨g,s⟩
  ·have m:=hid g
   clear g p
   go_enter Tryz.func71,Tryz.ntmps71
   go_wp2;refine wp_loop_rounds 1 ?_;rw [rounds_succ]
   go_wp2_with fail
   refine (V7_ _ a _ ((q.out.below c).mono c.size) x37_ m.out).mono ?_;rintro e G ⟨rfl,j⟩;have d:=c.trans (j.mono c.size);go_wp2;go_ret;exact o.out _ d
  ·have m:=hid g
   have B:=hid s;clear g s p
   go_enter Tryz.func71,Tryz.ntmps71
   go_wp2;refine wp_loop_rounds 1 ?_;rw [rounds_succ]
   go_wp2_with fail
   refine (V7_ _ a _ ((q.out.below c).mono c.size) x37_ m.out).mono ?_;rintro e G ⟨rfl,j⟩;have d:=c.trans (j.mono c.size);clear j
   go_wp2_with fail
   refine (V7_ _ b _ ((z.out.below d).mono d.size) x37_ B.out).mono ?_;rintro e M ⟨rfl,E⟩;have D:=d.trans (E.mono d.size);go_wp2;go_ret;exact o.out _ D
 ·have C:(a.length:Int)=0:=by omega
  clear h p
  go_enter Tryz.func71,Tryz.ntmps71
  go_wp2;refine wp_loop_rounds 1 ?_;rw [rounds_succ];go_wp2;go_ret;exact o.out _ c
theorem P1_ (c d:Value) (a b:List Int) (w:World) (ha:Row w w.heap.size c a) (hb:Row w w.heap.size d b) (e:a.length≤1048576) (g:b.length≤1048576) :
  Calls Tryz.prog 71 #[c,d] w (Gives w (Z5_ a b)):=by
 rcases hma:mayB a with _ | _
 ·exact Zj1 c d a b w ha hb e g (.inl hma)
 ·rcases hmb:mayB b with _ | _
  ·exact Zj1 c d a b w ha hb e g (.inr ⟨hma,hmb⟩)
  ·exact Yh6 c d a b w ha hb e g hma hmb
open Go.RowKit
theorem Yq4 {w:World} {base B:Nat} {e:TypeId} {f k:Nat} {v:Value} {g:List Value} (h:w.ownsRow base e f v k g) (hB:B≤base):∀ (A:Addr) (n c:Nat),v=.slice (some A) n c→B≤A.block:=fun A n c d=>by
 subst d;exact Nat.le_trans hB (World.ownsRow.lt h A.block rfl).1
theorem Q8_ (m:Mat) (v:Value) (w:World) (j:MatV w w.heap.size v m) (hs:Sml m):Calls Tryz.prog 28 #[v] w (Tells w (chk m)):=by
 have p:=hid hs;obtain ⟨C,B,I,_,_⟩:=j.open;have Hb0:=hid (Z1_ w m C B);have q:=hid (j.up Hb0.out);have c:=hid (Z3_ w m C B);have g0:=c.out.cell 0;have g1:=c.out.cell 1;have g2:=c.out.cell 2;have g3:=c.out.cell 3;have g4:=c.out.cell 4;have g5:=c.out.cell 5;subst I;unfold boxed at *
 have r:=dp_le 4 m;obtain ⟨D,k⟩:∃ D:Nat,dp 4 m=D:=⟨_,rfl⟩;have HD:Hid (deepI m=(D:Int)):=hid (by unfold deepI;rw [k]);have o:=hid k;rw [k] at r;clear j hs k;by_cases h:D=5
 ·have e:chk m=91:=if_pos (o.out.trans h)
  rw [e];have H:((D:Int)==5)=true:=k37_;clear e h r
  go_enter Tryz.func28,Tryz.ntmps28
  go_wp2_with fail
  refine (Yy2 m _ _ q.out p.out).mono ?_;exact j36_
 ·have H:((D:Int)==5)=false:=by simp;omega
  obtain ⟨g,u⟩:∃ g,ok 4 m=g:=⟨_,rfl⟩;have e:chk m=if g=true then 0 else 90:=by rw [← u];exact if_neg (by rw [o.out];exact h)
  obtain ⟨R,s⟩:∃ R:Int,R=if g=true then 0 else 90:=⟨_,rfl⟩
  rw [e,← s];have x:=hid s;have y:=hid (fun (v:Value) (W:World) (j:MatV W W.heap.size v m)=>Vc1 4 m v W j p.out (by rw [o.out];omega));rw [u] at y;clear e h r u s
  go_enter Tryz.func28,Tryz.ntmps28
  go_wp2_with fail
  refine (Yy2 m _ _ q.out p.out).mono ?_;rintro e w1 ⟨rfl,hb1⟩;rw [HD.out];have Hb1:=hid (Z0_ Hb0.out (le_refl _) hb1);have E:=hid (q.out.up hb1);have d:=hid (c.out.below hb1 c.out.lt);clear hb1 g0 g1 g2 g3 g4 g5;have g0:=d.out.cell 0;have g1:=d.out.cell 1;have g2:=d.out.cell 2;have g3:=d.out.cell 3;have g4:=d.out.cell 4;have g5:=d.out.cell 5
  go_wp2_with fail
  refine (y.out _ _ E.out).mono ?_;rintro e J ⟨rfl,z⟩;have Hb2:=hid (Z0_ Hb1.out (le_refl _) z);clear z g0 g1 g2 g3 g4 g5;cases g
  ·have G:R=90:=x.out
   subst G;exact y2_
  ·have F:R=0:=x.out
   subst F;exact y2_
open Go.RowKit
theorem Xq1 (m:Mat) (v q:Value) (s:List Int) (w:World) (j:MatV w w.heap.size v m) (hs:Sml m) (k:Row w w.heap.size q s) (_hsl:s.length≤1048576) (hc:chk m≠0):Calls Tryz.prog 68 #[v,q] w (A7_ w false []):=by
 have y:=hid hs;obtain ⟨p,o,K,J,I⟩:=j.open;have g:=hid (Z1_ w m p o);have z:=hid (j.up g.out);have x:=hid (k.up g.out);have c:=hid (Z3_ w m p o);have B:=c.out.cell 0;have C:=c.out.cell 1;have E:=c.out.cell 2;have F:=c.out.cell 3;have G:=c.out.cell 4;have H:=c.out.cell 5;subst K;unfold boxed at *
 obtain ⟨D,h⟩:∃ D,chk m=D:=⟨_,rfl⟩;have r:=hid h;rw [h] at hc;have N:(D != 0)=true:=by simpa using hc
 clear h hc j hs k J I
 go_enter Tryz.func68,Tryz.ntmps68
 go_wp2_with fail
 refine (Q8_ m _ _ z.out y.out).mono ?_;rintro e O ⟨rfl,d⟩;rw [r.out];have u:=hid (Z0_ g.out (le_refl _) d);have M:=hid (x.out.up d);have L:=hid (c.out.below d c.out.lt);clear d B C E F G H;go_wp2
 go_ret2
 exact D2_ w _ u.out
theorem Xq2 (m:Mat) (v r:Value) (s:List Int) (w:World) (h:MatV w w.heap.size v m) (hs:Sml m) (o:Row w w.heap.size r s) (_hsl:s.length≤1048576) (hc:chk m=0) (j:¬ m.t=5) (k:¬ m.t=6):Calls Tryz.prog 68 #[v,r] w (A7_ w false []):=by
 have B:=hid hs;obtain ⟨q,p,L,K,J⟩:=h.open;have g:=hid (Z1_ w m q p);have C:=hid (h.up g.out);have z:=hid (o.up g.out);have c:=hid (Z3_ w m q p);have D:=c.out.cell 0;have E:=c.out.cell 1;have F:=c.out.cell 2;have G:=c.out.cell 3;have H:=c.out.cell 4;have I:=c.out.cell 5;subst L;unfold boxed at *
 have u:=hid hc;have O:(m.t != 5)=true:=by simpa using j
 have P:(m.t != 6)=true:=by simpa using k
 clear hc h hs o K J j k
 go_enter Tryz.func68,Tryz.ntmps68
 go_wp2_with fail
 refine (Q8_ m _ _ C.out B.out).mono ?_;rintro e Q ⟨rfl,d⟩;rw [u.out];have x:=hid (Z0_ g.out (le_refl _) d);have M:=hid (z.out.up d);have y:=hid (c.out.below d c.out.lt);clear d D E F G H I;have N:=y.out.cell 0;go_wp2
 go_ret2
 exact D2_ w _ x.out
theorem Yh7 (m:Mat) (v g:Value) (s:List Int) (w:World) (hv:MatV w w.heap.size v m) (hs:Sml m) (hr:Row w w.heap.size g s) (_hsl:s.length≤1048576) (hc:chk m=0) (ht:m.t=5) (hok:okA m.n s=false):Calls Tryz.prog 68 #[v,g] w (A7_ w false []):=by
 have Hs:=hid hs;obtain ⟨d,c,h,hl2,hi2⟩:=hv.open;have Hb0:=hid (Z1_ w m d c);have Hv0:=hid (hv.up Hb0.out);have Hr0:=hid (hr.up Hb0.out);have Hblk0:=hid (Z3_ w m d c);have g0:=Hblk0.out.cell 0;have g1:=Hblk0.out.cell 1;have g2:=Hblk0.out.cell 2;have g3:=Hblk0.out.cell 3;have g4:=Hblk0.out.cell 4;have g5:=Hblk0.out.cell 5;subst h;unfold boxed at *
 have HD:=hid hc;have Hok:=hid hok;have j:(m.t != 5)=false:=z41_;exact q3_
theorem Yh8 (m:Mat) (v sv:Value) (s:List Int) (w:World) (M:MatV w w.heap.size v m) (hs:Sml m) (J:Row w w.heap.size sv s) (y3:s.length≤1048576) (hc:chk m=0) (ht:m.t=5) (I:okA m.n s=true):Calls Tryz.prog 68 #[v,sv] w (A7_ w true (imgM m s)):=by
 have Hs:=hid hs;obtain ⟨lv,iv,xs,xq,xo⟩:=M.open;have z:=hid (Z1_ w m lv iv);have xh:=hid (M.up z.out);have x8:=hid (J.up z.out);have g:=hid (Z3_ w m lv iv);have g0:=g.out.cell 0;have g1:=g.out.cell 1;have g2:=g.out.cell 2;have g3:=g.out.cell 3;have g4:=g.out.cell 4;have g5:=g.out.cell 5;subst xs;unfold boxed at *
 have xm:=D7_ hc x37_;have L:=U1_ hc x37_;have U:=Ym0 hc (by rw [← T0_ (chk_n hc).1 (chk_n hc).2];exact I);have H:=Zz6 m s;have d:=Ym1 m s;obtain ⟨Al,cl,rfl,_,V⟩:=xq;obtain ⟨Ai,ci,rfl,_,xp⟩:=xo;obtain ⟨ad,u0,hA,S,E,Y⟩:=V 0 x37_;subst hA;rw [add_zero] at E;have y0:(0:Int)<(m.l.length:Int):=x37_;have xz:0<m.l.length:=x37_;have y2:(s.length:Int)≤1048576:=x37_;obtain ⟨F,hF⟩:∃ F,F=imgM m s:=⟨_,rfl⟩;rw [← hF] at H d;rw [← hF];have K:stayL m=m.l.getD 0 []:=by
  unfold stayL;rw [if_neg x37_];rfl
 obtain ⟨h,R⟩:∃ h,h=stayL m:=⟨_,rfl⟩;rw [← R] at d L K;generalize m.l.getD 0 []=r at *
 have xe:=hid K;have O:=hid U;have x6:=hid d;have Hfn:=hid H;have x3:=hid S;have xb:=hid Y;have x5:=hid E;have Hstl:=hid L;have HD:=hid hc;have x7:=hid I;have f6:(m.t==6)=false:=k37_;have y4:(h.length:Int)≤64:=by have:=(chk_n hc).2;omega
 have e5:(m.t != 5)=false:=z41_;clear M hs I ht hc K U d H xm S Y E L V xp hF R
 go_enter Tryz.func68,Tryz.ntmps68
 go_wp2_with fail
 refine (Q8_ m _ _ xh.out Hs.out).mono ?_;rintro e w1 ⟨rfl,q⟩;rw [HD.out];have x4:=hid (Z0_ z.out (le_refl _) q);have P:=hid (x8.out.up q);have o:=hid (g.out.below q g.out.lt);clear q g0 g1 g2 g3 g4 g5;have C:=o.out.cell 0;have d1:=o.out.cell 1;obtain ⟨As,cs,rfl,_⟩:=id J
 go_wp2_with fail
 refine (E5_ _ s m.n _ P.out).mono ?_;rintro e c ⟨rfl,u⟩;rw [x7.out];have j:=hid (Z0_ x4.out (le_refl _) u);have x9:=hid (P.out.up u);have B:=hid (o.out.below u o.out.lt);clear u C d1;clear J;have C:=B.out.cell 0;have d4:=B.out.cell 4;have d5:=B.out.cell 5;have cr:=(j.out.cell (p:=ad) x3.out).trans x5.out;have xc:=hid ((xb.out.below j.out).mono j.out.size);have Hb4:=j;have xa:=x9;have xg:Hid (Row c c.heap.size u0 h):=hid (by rw [xe.out];exact xc.out);obtain ⟨xt,xv,xr,_,Z⟩:=id xa.out;injection xr with he1 he2 he3;subst he1 he3;obtain ⟨xu,xw,rfl,_,x0⟩:=id xg.out;have xf:=hid x0;have xd:=hid Z;have W:(c.alloc (.cells #[] 3)).ownsRow c.heap.size 3 1 (.slice (some ⟨c.heap.size,0,none⟩) 0 0) 0 [] :=
  World.ownsRow_made c #[] 0 (le_refl _) z38_ rfl
 have Q:Below c.heap.size c (c.alloc (.cells #[] 3)):=(Below.refl _ c).alloc (le_refl _) _;clear x0 Z he2;go_wp2;clear C d4 d5 cr
 go_loopw [7,8] (fun vl N wr=>∃ k:Nat,N=.int .i64 k∧k≤s.length∧wr.ownsRow c.heap.size 3 1 vl (F.take k).length (ints (F.take k))∧Below c.heap.size c wr) (fun _ N _=>s.length - (intOf N).toNat)
 case atStart=>exact ⟨0,rfl,Nat.zero_le _,W,Q⟩
 case round =>
  obtain ⟨k,rfl,hk,hown,hbr⟩:=hrel;clear W Q;by_cases x:k<s.length
  ·have y1:(k:Int)<(s.length:Int):=by omega
   have x1:=(O.out k x).1;have x2:=(O.out k x).2;have d:=x6.out k x;obtain ⟨X,D⟩:∃ X:Nat,s.getD k 0=(X:Int):=⟨(s.getD k 0).toNat,x37_⟩;rw [D] at x1 x2 d;have xk:X<h.length:=x47_;have xy:(X:Int)<(h.length:Int):=x37_;rw [show ((X:Int)).toNat=X from rfl] at d;obtain ⟨xi,hA,hasb,G⟩:=xd.out k x;subst hA;obtain ⟨at_,hA,xl,T⟩:=xf.out X xk;subst hA;rw [D] at G;have gs:=(hbr.cell (p:=xi.add k) x43_).trans G;have gt:=(hbr.cell (p:=at_.add X) (by rw [Z2_];exact xl)).trans T;have xx:=Hfn.out;have Htk:Hid (F.take (k+1)=F.take k ++ [h.getD X 0]):=hid (by rw [List.take_succ_eq_append_getElem x37_,← d];simp [List.getD,show k<F.length by omega]);have xj:(F.take k).length=k:=k39_;generalize h.getD X 0=y at *
   have Hlen:Hid ((F.take k ++ [y]).length=k+1):=hid (by rw [List.length_append,xj];rfl);clear G T D x1 x2 d
   go_wp2_with (at_builtin;refine Z4_ rfl _ _ rfl c.heap.size _ _ _ (F.take k) [y] rfl rfl (hown.alloc _) (Row.lit1 _ y) x37_ j37_ z39_ ?_)
   intro v' w6 hown' xn;have hb6:Below c.heap.size wr w6:=((Below.refl _ wr).alloc hbr.size _).grown xn z39_ (fun i hi=>(hown.lt i hi).1);exact k13_
  ·exact j7_
theorem Yh9 (m:Mat) (v g:Value) (s:List Int) (w:World) (hv:MatV w w.heap.size v m) (hs:Sml m) (hr:Row w w.heap.size g s) (_hsl:s.length≤1048576) (hc:chk m=0) (ht:m.t=6) (hok:okA m.n s=false):Calls Tryz.prog 68 #[v,g] w (A7_ w false []):=by
 have Hs:=hid hs;obtain ⟨d,c,h,hl2,hi2⟩:=hv.open;have Hb0:=hid (Z1_ w m d c);have Hv0:=hid (hv.up Hb0.out);have Hr0:=hid (hr.up Hb0.out);have Hblk0:=hid (Z3_ w m d c);have g0:=Hblk0.out.cell 0;have g1:=Hblk0.out.cell 1;have g2:=Hblk0.out.cell 2;have g3:=Hblk0.out.cell 3;have g4:=Hblk0.out.cell 4;have g5:=Hblk0.out.cell 5;subst h;unfold boxed at *
 have HD:=hid hc;have Hok:=hid hok;have j:(m.t != 5)=true:=k37_;have k:(m.t != 6)=false:=z41_;exact q3_
theorem Yi0 (m:Mat) (v sv:Value) (s:List Int) (w:World) (R:MatV w w.heap.size v m) (hs:Sml m) (O:Row w w.heap.size sv s) (yw:s.length≤1048576) (hc:chk m=0) (ht:m.t=6) (N:okA m.n s=true):Calls Tryz.prog 68 #[v,sv] w (A7_ w true (imgM m s)):=by
 have W:=hid hs;obtain ⟨lv,iv,yi,yg,yf⟩:=R.open;have E:=hid (Z1_ w m lv iv);have y7:=hid (R.up E.out);have xu:=hid (O.up E.out);have g:=hid (Z3_ w m lv iv);have g0:=g.out.cell 0;have g1:=g.out.cell 1;have g2:=g.out.cell 2;have g3:=g.out.cell 3;have g4:=g.out.cell 4;have g5:=g.out.cell 5;subst yi;unfold boxed at *
 have yd:=D7_ hc x37_;have Q:=U1_ hc x37_;have xb:=Ym0 hc (by rw [← T0_ (chk_n hc).1 (chk_n hc).2];exact N);have M:=Zz6 m s;have d:=Ym1 m s;obtain ⟨Al,cl,rfl,_,xc⟩:=yg;obtain ⟨Ai,ci,rfl,_,xa⟩:=yf;obtain ⟨ad,u0,hA,x7,K,xf⟩:=xc 0 x37_;subst hA;rw [add_zero] at K;have ys:(0:Int)<(m.l.length:Int):=x37_;have yr:0<m.l.length:=x37_;have yv:(s.length:Int)≤1048576:=x37_;obtain ⟨F,hF⟩:∃ F,F=imgM m s:=⟨_,rfl⟩;rw [← hF] at M d;rw [← hF];have P:stayL m=Z5_ (allL (m.i.getD 0 default).n) (m.l.getD 0 []):=by
  unfold stayL;rw [if_pos ht];rfl
 obtain ⟨Y,ui,hA,x8,xi,xd⟩:=xa 0 x37_;subst hA;rw [show (0:Nat) * 6=0 from rfl,add_zero] at xi;obtain ⟨yz,yy,xl,_,_⟩:=xd.open;obtain ⟨x0,x1,x2,x3,x4,x5,j,s0,s1,_⟩:=xi;rw [xl] at j;injection j with j;injection j with j;injection j with _ j;injection j with D _;subst D;have yq:(0:Int)<(m.i.length:Int):=x37_;have yp:0<m.i.length:=x37_;have yb:=F5_ (m.i.getD 0 default).n;have yu:=sml_r W.out (Y6_ m.l 0 [] x37_);generalize m.i.getD 0 default=x at *
 have y2:=hid s1;have xo:=hid x8;obtain ⟨h,x6⟩:∃ h,h=stayL m:=⟨_,rfl⟩;rw [← x6] at d Q P;generalize m.l.getD 0 []=r at *
 have y4:=hid P;have U:=hid xb;have xs:=hid d;have Hfn:=hid M;have xn:=hid x7;have xz:=hid xf;have xr:=hid K;have Hstl:=hid Q;have HD:=hid hc;have xt:=hid N;have f6:(m.t==6)=true:=k37_;have yx:(h.length:Int)≤64:=by have:=(chk_n hc).2;omega
 have e5:(m.t != 5)=true:=k37_;have e6:(m.t != 6)=false:=z41_;clear R hs N ht hc P xb d M yd x7 xf K Q xc xa hF x6 s0 s1 xd xl x8
 go_enter Tryz.func68,Tryz.ntmps68
 go_wp2_with fail
 refine (Q8_ m _ _ y7.out W.out).mono ?_;rintro e w1 ⟨rfl,u⟩;rw [HD.out];have xp:=hid (Z0_ E.out (le_refl _) u);have V:=hid (xu.out.up u);have q:=hid (g.out.below u g.out.lt);clear u g0 g1 g2 g3 g4 g5;have H:=q.out.cell 0;have d1:=q.out.cell 1;obtain ⟨As,cs,rfl,_⟩:=id O
 go_wp2_with fail
 refine (E5_ _ s m.n _ V.out).mono ?_;rintro e w2 ⟨rfl,z⟩;rw [xt.out];have o:=hid (Z0_ xp.out (le_refl _) z);have xv:=hid (V.out.up z);have G:=hid (q.out.below z q.out.lt);clear z H d1;clear O;have H:=G.out.cell 0;have d4:=G.out.cell 4;have d5:=G.out.cell 5;have cr:=(o.out.cell (p:=ad) xn.out).trans xr.out;have y0:=hid ((xz.out.below o.out).mono o.out.size);have cn:=(o.out.cell (p:=⟨Y.block,Y.off+1,none⟩) xo.out).trans y2.out
 go_wp2_with fail
 refine (Zx3 x.n _).mono ?_;rintro e w3 ⟨va,rfl,xg,B⟩;have xq:=hid (Z0_ o.out (le_refl _) B);have xw:=hid (xv.out.up B);have y1:=hid (y0.out.up B);have xy:=hid xg;clear B xg H d4 d5 cr cn
 go_wp2_with fail
 refine (P1_ _ _ (allL x.n) r _ xy.out y1.out yb x37_).mono ?_;rintro e c ⟨T,rfl,xh,J⟩;have Hb4:=hid (Z0_ xq.out (le_refl _) J);have xx:=hid (xw.out.up J);have y6:Hid (Row c c.heap.size T h):=hid (by rw [y4.out];exact xh);clear J xh;obtain ⟨yj,yl,yh,_,xj⟩:=id xx.out;injection yh with he1 he2 he3;subst he1 he3;obtain ⟨yk,ym,rfl,_,xk⟩:=id y6.out;have y5:=hid xk;have y3:=hid xj;have xe:(c.alloc (.cells #[] 3)).ownsRow c.heap.size 3 1 (.slice (some ⟨c.heap.size,0,none⟩) 0 0) 0 [] :=
  World.ownsRow_made c #[] 0 (le_refl _) z38_ rfl
 have Z:Below c.heap.size c (c.alloc (.cells #[] 3)):=(Below.refl _ c).alloc (le_refl _) _;clear xk xj he2;go_wp2
 go_loopw [7,8] (fun T S wr=>∃ k:Nat,S=.int .i64 k∧k≤s.length∧wr.ownsRow c.heap.size 3 1 T (F.take k).length (ints (F.take k))∧Below c.heap.size c wr) (fun _ S _=>s.length - (intOf S).toNat)
 case atStart=>exact ⟨0,rfl,Nat.zero_le _,xe,Z⟩
 case round =>
  obtain ⟨k,rfl,hk,hown,hbr⟩:=hrel;clear xe Z;by_cases C:k<s.length
  ·have yt:(k:Int)<(s.length:Int):=by omega
   have xm:=(U.out k C).1;have D:=(U.out k C).2;have d:=xs.out k C;obtain ⟨X,I⟩:∃ X:Nat,s.getD k 0=(X:Int):=⟨(s.getD k 0).toNat,x37_⟩;rw [I] at xm D d;have ya:X<h.length:=x47_;have yo:(X:Int)<(h.length:Int):=x37_;rw [show ((X:Int)).toNat=X from rfl] at d;obtain ⟨y8,hA,hasb,L⟩:=y3.out k C;subst hA;obtain ⟨at_,hA,yc,x9⟩:=y5.out X ya;subst hA;rw [I] at L;have gs:=(hbr.cell (p:=y8.add k) x43_).trans L;have gt:=(hbr.cell (p:=at_.add X) (by rw [Z2_];exact yc)).trans x9;have yn:=Hfn.out;have Htk:Hid (F.take (k+1)=F.take k ++ [h.getD X 0]):=hid (by rw [List.take_succ_eq_append_getElem x37_,← d];simp [List.getD,show k<F.length by omega]);have y9:(F.take k).length=k:=k39_;generalize h.getD X 0=y at *
   have Hlen:Hid ((F.take k ++ [y]).length=k+1):=hid (by rw [List.length_append,y9];rfl);clear L x9 I xm D d
   go_wp2_with (at_builtin;refine Z4_ rfl _ _ rfl c.heap.size _ _ _ (F.take k) [y] rfl rfl (hown.alloc _) (Row.lit1 _ y) x37_ j37_ z39_ ?_)
   intro v' w6 hown' ye;have hb6:Below c.heap.size wr w6:=((Below.refl _ wr).alloc hbr.size _).grown ye z39_ (fun i hi=>(hown.lt i hi).1);exact k13_
  ·exact j7_
theorem L0_ (m:Mat) (v d:Value) (s:List Int) (w:World) (j:MatV w w.heap.size v m) (hs:Sml m) (g:Row w w.heap.size d s) (h:s.length≤1048576):Calls Tryz.prog 68 #[v,d] w (A7_ w (imgB m s) (imgL m s)):=by
 unfold imgL;by_cases hc:chk m=0
 ·by_cases c:m.t=5∨m.t=6
  ·rcases hok:okA m.n s with _ | _
   ·have k:subB s (allL m.n)=false:=by rw [← T0_ (chk_n hc).1 (chk_n hc).2];exact hok
    rw [show imgB m s=false by unfold imgB;rw [k];simp,if_neg q38_];rcases c with c | c
    ·exact Yh7 m v d s w j hs g h hc c hok
    ·exact Yh9 m v d s w j hs g h hc c hok
   ·have k:subB s (allL m.n)=true:=by rw [← T0_ (chk_n hc).1 (chk_n hc).2];exact hok
    rw [show imgB m s=true by unfold imgB;rw [k,decide_eq_true c,decide_eq_true hc];rfl,if_pos rfl];rcases c with c | c
    ·exact Yh8 m v d s w j hs g h hc c hok
    ·exact Yi0 m v d s w j hs g h hc c hok
  ·rw [show imgB m s=false by unfold imgB;rw [decide_eq_false c];simp,if_neg q38_]
   exact Xq2 m v d s w j hs g h hc (fun e=>c (.inl e)) (fun e=>c (.inr e))
 ·rw [show imgB m s=false by unfold imgB;rw [decide_eq_false hc];simp,if_neg q38_]
  exact Xq1 m v d s w j hs g h hc
end Go.Proofs.YtnaebbjodfnooaaGreatDoor.Wp
