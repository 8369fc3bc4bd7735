/- The program's Image, walked. -/
import Derived.Test.YteiejkhdonmcdaaGreatDoorQWalkC
import Derived.Test.YteiejkhdonmcdaaGreatDoorZU
import Derived.Test.YteiejkhdonmcdaaGreatDoorX0A
import Derived.Test.YteiejkhdonmcdaaGreatDoorX0B
set_option maxHeartbeats 8000000
set_option maxRecDepth 100000
open Go.Lib (hid)
open Nat (le_refl)
namespace Go.Proofs.YteiejkhdonmcdaaGreatDoor.Wp
private theorem j2_ {P:Prop} (h:P:=by
 rw [show n=m.n by rw [hm];rfl] at hsub
 clear hm
 have Hc:=hid hc
 have Hsub:=hid hsub
 obtain ⟨lv,iv,hve,hl2,hi2⟩:=hv.open
 have Hb0:=hid (Z1_ w m lv iv)
 have Hv:=hid (hv.up Hb0.out)
 have HE:=hid (hE.up Hb0.out)
 have Hblk:=hid (Z3_ w m lv iv)
 have gb:=Hblk.out.cell
 have g0:=gb 0
 have g1:=gb 1
 have g2:=gb 2
 have g3:=gb 3
 have g4:=gb 4
 have g5:=gb 5
 subst hve
 unfold boxed at *
 rw [hmt] at g0
 have Hsv:=hid (hr.up Hb0.out)
 have hal:=E4_ m.n
 clear hv hE gb hl2 hi2 hc hsub hr
 go_enter Tryz.func150,Tryz.ntmps150
 rw [hmt] at Hv Hblk Hb0 HE Hsv
 rw [hmt]
 go_wp2_with fail
 refine (F2_ E m _ _ Hv.out hs HE.out).mono ?_
 rintro e w1 ⟨rfl,hb1⟩
 rw [Hc.out]
 have Hb1:=hid (Z0_ Hb0.out (le_refl _) hb1)
 have Hblk1:=hid (Hblk.out.below hb1 (by simp))
 have Hsv1:=hid (Hsv.out.up hb1)
 have c1:=Hblk1.out.cell 1
 clear hb1 g0 g1 g2 g3 g4 g5
 go_wp2_with fail
 refine (L3_ _ _).mono ?_
 rintro e w2 ⟨v2,rfl,hr2,hb2⟩
 have Hb2:=hid (Z0_ Hb1.out (le_refl _) hb2)
 have Hblk2:=hid (Hblk1.out.below hb2 Hblk1.out.lt)
 have Hsv2:=hid (Hsv1.out.up hb2)
 have Hr2:=hid hr2
 clear hb2 hr2 c1
 go_wp2_with fail
 refine (Zz1 _ _ s (allL m.n) _ Hsv2.out Hr2.out hsl hal).mono ?_
 rintro e w3 ⟨rfl,hb3⟩
 rw [Hsub.out]
 have Hb3:=hid (Z0_ Hb2.out (le_refl _) hb3)
 clear hb3
 go_wp2
 go_ret2
 exact D3_ w _ Hb3.out):P:=h
private theorem y4_ {P:Prop} (h:P:=by
 clear hD hm hc
 obtain ⟨lv,iv,hve,hl2,hi2⟩:=hv.open
 have Hb0:=hid (Z1_ w m lv iv)
 have Hv:=hid (hv.up Hb0.out)
 have HE:=hid (hE.up Hb0.out)
 have Hblk:=hid (Z3_ w m lv iv)
 have gb:=Hblk.out.cell
 have g0:=gb 0
 have g1:=gb 1
 have g2:=gb 2
 have g3:=gb 3
 have g4:=gb 4
 have g5:=gb 5
 subst hve
 unfold boxed at *
 rw [hmt] at g0
 clear hv hE gb hl2 hi2
 go_enter Tryz.func150,Tryz.ntmps150
 rw [hmt] at Hv Hblk Hb0 HE
 rw [hmt]
 go_wp2_with fail
 refine (F2_ E m _ _ Hv.out hs HE.out).mono ?_
 rintro e w1 ⟨rfl,hb1⟩
 rw [Hc.out]
 have Hb1:=hid (Z0_ Hb0.out (le_refl _) hb1)
 clear hb1 g0 g1 g2 g3 g4 g5
 go_wp2
 go_ret2
 exact D3_ w _ Hb1.out):P:=h
end Go.Proofs.YteiejkhdonmcdaaGreatDoor.Wp
namespace Go.Proofs.YteiejkhdonmcdaaGreatDoor
open Go.RowKit
namespace Wp
def A5_ (w:World) (b:Bool) (l:List Int) (e:Ending) (w':World):Prop:=∃ v,e=.returned (.tuple #[v,.bool b])∧Row w' w'.heap.size v l∧Below w.heap.size w w'∧∀ (A:Addr) (n c:Nat),v=.slice (some A) n c→w.heap.size≤A.block
theorem D3_ (w w':World) (hb:Below w.heap.size w w'):A5_ w false [] (.returned (.tuple #[.slice none 0 0,.bool false])) w':=⟨_,rfl,Row.nil_ _ _,hb,fun _ _ _ h=>by cases h⟩
theorem Xc1 (m:Mat) (v p:Value) (w:World) (g:MatV w w.heap.size v m) (c:¬ m.t=5) (d:¬ m.t=6):Calls Tryz.prog 150 #[v,p] w (A5_ w false []):=by
 obtain ⟨j,h,o,_,_⟩:=g.open;have k:=hid (Z1_ w m j h);have e:=(Z3_ w m j h).cell;have x:=e 0;have q:(m.t != 5)=true:=by simpa using c
 have s:(m.t != 6)=true:=by simpa using d
 have r:(m.t==5)=false:=by simpa using c
 have u:(m.t==6)=false:=by simpa using d
 subst o;unfold boxed at *
 clear e g c d
 go_enter Tryz.func150,Tryz.ntmps150
 go_wp2
 go_ret2
 exact D3_ w _ k.out
theorem Yt1 (E:Nat→Addr) (n a b:Int) (l:List (List Int)) (i:List Mat) (v c:Value) (w:World) (hv:MatV w w.heap.size v (.mk 5 n a b l i)) (hs:Sml (.mk 5 n a b l i)) (hE:Env E w) (hc:chk (.mk 5 n a b l i)≠0):Calls Tryz.prog 150 #[v,c] w (A5_ w false []):=by
 have d:(chk (.mk 5 n a b l i) != 0)=true:=by simpa using hc
 generalize hD:chk (.mk 5 n a b l i)=D at *
 have Hc:=hid hD;obtain ⟨m,hm⟩:∃ m,m=Mat.mk 5 n a b l i:=⟨_,rfl⟩;rw [← hm] at hv hs Hc;have hmt:m.t=5:=k49_;exact y4_
theorem Yt2 (E:Nat→Addr) (n a b:Int) (l:List (List Int)) (i:List Mat) (v c:Value) (s:List Int) (w:World) (hv:MatV w w.heap.size v (.mk 5 n a b l i)) (hs:Sml (.mk 5 n a b l i)) (hE:Env E w) (hr:Row w w.heap.size c s) (hsl:s.length≤1048576) (hc:chk (.mk 5 n a b l i)=0) (hsub:subB s (allL n)=false):Calls Tryz.prog 150 #[v,c] w (A5_ w false []):=by
 obtain ⟨m,hm⟩:∃ m,m=Mat.mk 5 n a b l i:=⟨_,rfl⟩;rw [← hm] at hv hs hc;have hmt:m.t=5:=k49_;exact j2_
theorem Yt3 (E:Nat→Addr) (n a b:Int) (l:List (List Int)) (i:List Mat) (v sv:Value) (s:List Int) (w:World) (D:MatV w w.heap.size v (.mk 5 n a b l i)) (hs:Sml (.mk 5 n a b l i)) (hE:Env E w) (hr:Row w w.heap.size sv s) (ya:s.length≤1048576) (hc:chk (.mk 5 n a b l i)=0) (C:subB s (allL n)=true):Calls Tryz.prog 150 #[v,sv] w (A5_ w true (imgM (.mk 5 n a b l i) s)):=by
 obtain ⟨m,hm⟩:∃ m,m=Mat.mk 5 n a b l i:=⟨_,rfl⟩;rw [← hm] at D hs hc;rw [← hm];have L:m.t=5:=k49_;rw [show n=m.n by rw [hm];rfl] at C;clear hm;have Hc:=hid hc;have xz:=hid C;obtain ⟨lv,iv,yb,y9,y7⟩:=D.open;have o:=hid (Z1_ w m lv iv);have Hv:=hid (D.up o.out);have Q:=hid (hE.up o.out);have Hblk:=hid (Z3_ w m lv iv);have j:=Hblk.out.cell;have g0:=j 0;have g1:=j 1;have g2:=j 2;have g3:=j 3;have g4:=j 4;have g5:=j 5;subst yb;unfold boxed at *
 rw [L] at g0;have Y:=hid (hr.up o.out);have y4:=E4_ m.n;have y6:=E2_ hc q39_;have O:=U3_ hc q39_;have xc:=Yk3 hc C;have hn:=chk_n hc;have J:=Zy0 m s;have hfa:=Yk4 m s;have yp:=sml_r hs (Y3_ m.l 0 [] q39_);obtain ⟨Al,cl,rfl,_,xd⟩:=y9;obtain ⟨Ai,ci,rfl,_,xb⟩:=y7;obtain ⟨ad,u0,hA,x7,I,xg⟩:=xd 0 q39_;subst hA;obtain ⟨ai,ui,hA,x8,xi,xe⟩:=xb 0 q39_;subst hA;rw [add_zero] at I;rw [show (0:Nat) * 6=0 from rfl,add_zero] at xi;obtain ⟨yt,ys,xl,_,_⟩:=xe.open;obtain ⟨x0,x1,x2,x3,x4,x5,g,s0,s1,_⟩:=xi;rw [xl] at g;injection g with g;injection g with g;injection g with _ g;injection g with hx1 _;subst hx1;have ym:(0:Int)<(m.l.length:Int):=q39_;have yn:0<m.l.length:=q39_;have yk:(0:Int)<(m.i.length:Int):=q39_;have yl:0<m.i.length:=q39_;obtain ⟨F,hF⟩:∃ F,F=imgM m s:=⟨_,rfl⟩;rw [← hF] at J hfa;rw [← hF];have M:stayL m=m.l.getD 0 []:=by
  unfold stayL;rw [if_neg q39_];rfl
 obtain ⟨ST,x6⟩:∃ ST,ST=stayL m:=⟨_,rfl⟩;rw [← x6] at hfa O M;have yj:=E4_ (m.i.getD 0 default).n;clear x6 hF;generalize m.l.getD 0 []=r at *
 generalize m.i.getD 0 default=x at *
 generalize m.n=N at *
 have xw:=hid M;have V:=hid xc;have xr:=hid hfa;have Hfn:=hid J;have xn:=hid x7;have yf:=hid x8;have xs:=hid xg;have xq:=hid I;have yg:=hid s1;have W:=hid L;have yr:(s.length:Int)≤1048576:=q39_;have yq:(ST.length:Int)≤64:=q39_;have Hstl:=hid O;obtain ⟨i0,K,yc,yd,hz2⟩:=info_parts info3;clear D hE j hc C M xc hfa J xd xb xg I s0 s1 xe xl x7 x8 y6 O
 go_enter Tryz.func150,Tryz.ntmps150
 rw [W.out] at Hv Hblk o Q Y;rw [W.out];clear L
 go_wp2_with fail
 refine (F2_ E m _ _ Hv.out hs Q.out).mono ?_;rintro e w1 ⟨rfl,u⟩;rw [Hc.out];have xo:=hid (Z0_ o.out (le_refl _) u);have G:=hid (Hblk.out.below u j39_);have y0:=hid (Y.out.up u);have c1:=G.out.cell 1;clear u g0 g1 g2 g3 g4 g5
 go_wp2_with fail
 refine (L3_ _ _).mono ?_;rintro e w2 ⟨v2,rfl,xh,z⟩;have xp:=hid (Z0_ xo.out (le_refl _) z);have S:=hid (G.out.below z G.out.lt);have Z:=hid (y0.out.up z);have xt:=hid xh;clear z xh c1
 go_wp2_with fail
 refine (Zz1 _ _ s (allL N) _ Z.out xt.out ya y4).mono ?_;rintro e d ⟨rfl,B⟩;rw [xz.out];have q:=hid (Z0_ xp.out (le_refl _) B);have T:=hid (S.out.below B S.out.lt);have y1:=hid (Z.out.up B);have c0:=T.out.cell 0;have c4:=T.out.cell 4;have cr:=(q.out.cell (p:=ad) xn.out).trans xq.out;have xu:=hid ((xs.out.below q.out).mono q.out.size);clear B;have xy:Hid (Row d d.heap.size u0 ST):=by
  show Row _ _ _ _;rw [xw.out];exact xu.out
 obtain ⟨As,cs,rfl,_,xj⟩:=id y1.out;obtain ⟨ye,yh,rfl,_,xk⟩:=id xy.out;have xx:=hid xk;clear xk;have xv:=hid xj;clear xj
 go_wp2_with (at_make;refine wpList_make_full d rfl _ _ 26 rfl d.heap.size 3 i0 (.int .i64 0) 1 x39_ K yc yd .i64 .i64 _ _ s.length rfl rfl k41_ k41_ x47_ z40_ (le_refl _) ?_)
 intro w6 xf xa;have H:=R5_ w6 d.heap.size s.length (by rw [Nat.mul_one];exact xf);rw [← Zk1 F] at H;have x9:Below d.heap.size d w6:=(Below.refl _ d).grown xa (le_refl _) (fun i K=>by cases K);have R:=hid x9;have U:=hid H;clear xf xa x9 H;go_wp2
 go_loopw [52] (fun P wr=>∃ k:Nat,P=.int .i64 k∧k≤s.length∧Blk wr d.heap.size 3 (fillM F s.length k)∧Below d.heap.size d wr) (fun P _=>s.length - (intOf P).toNat)
 case atStart=>exact ⟨0,rfl,Nat.zero_le _,U.out,R.out⟩
 case round =>
  clear U R;obtain ⟨k,rfl,hk,hblk,hbr⟩:=hrel;have Hblk:=hid hblk;have Hbr:=hid hbr;by_cases hlt:k<s.length
  ·have yo:(k:Int)<(s.length:Int):=by omega
   have hx0:=(V.out k hlt).1;have hx1:=(V.out k hlt).2;have hfa:=xr.out k hlt;obtain ⟨X,hX⟩:∃ X:Nat,s.getD k 0=(X:Int):=⟨(s.getD k 0).toNat,q39_⟩;rw [hX] at hx0 hx1 hfa;have y3:X<ST.length:=x49_;have yi:(X:Int)<(ST.length:Int):=q39_;rw [show ((X:Int)).toNat=X from rfl] at hfa;obtain ⟨y2,hA,hasb,hcs⟩:=xv.out k hlt;subst hA;obtain ⟨at_,hA,y5,hct⟩:=xx.out X y3;subst hA;rw [hX] at hcs;have gs:=(hbr.cell (p:=y2.add k) y45_).trans hcs;have gt:=(hbr.cell (p:=at_.add X) (by rw [Z2_];exact y5)).trans hct;have gf:=hblk.frozen k;have hsz:=Zk0 (n:=s.length) Hfn.out hk;obtain ⟨xm,gc⟩:∃ xm,wr.cell? ⟨d.heap.size,k,none⟩=some xm:=⟨(fillM F s.length k)[k]'q39_,by rw [hblk.cell];simp [hsz,hlt]⟩;exact k7_
  ·have y8:k=s.length:=by omega
   subst y8;clear hblk hbr;go_wp2
   go_ret2
   exact ⟨_,rfl,Yz7 Hfn.out Hblk.out z40_,Z0_ q.out (le_refl _) Hbr.out,fun A n c h=>by cases h;exact q.out.size⟩
theorem Yt4 (E:Nat→Addr) (n a b:Int) (l:List (List Int)) (i:List Mat) (v c:Value) (w:World) (hv:MatV w w.heap.size v (.mk 6 n a b l i)) (hs:Sml (.mk 6 n a b l i)) (hE:Env E w) (hc:chk (.mk 6 n a b l i)≠0):Calls Tryz.prog 150 #[v,c] w (A5_ w false []):=by
 have d:(chk (.mk 6 n a b l i) != 0)=true:=by simpa using hc
 generalize hD:chk (.mk 6 n a b l i)=D at *
 have Hc:=hid hD;obtain ⟨m,hm⟩:∃ m,m=Mat.mk 6 n a b l i:=⟨_,rfl⟩;rw [← hm] at hv hs Hc;have hmt:m.t=6:=k49_;exact y4_
theorem Yt5 (E:Nat→Addr) (n a b:Int) (l:List (List Int)) (i:List Mat) (v c:Value) (s:List Int) (w:World) (hv:MatV w w.heap.size v (.mk 6 n a b l i)) (hs:Sml (.mk 6 n a b l i)) (hE:Env E w) (hr:Row w w.heap.size c s) (hsl:s.length≤1048576) (hc:chk (.mk 6 n a b l i)=0) (hsub:subB s (allL n)=false):Calls Tryz.prog 150 #[v,c] w (A5_ w false []):=by
 obtain ⟨m,hm⟩:∃ m,m=Mat.mk 6 n a b l i:=⟨_,rfl⟩;rw [← hm] at hv hs hc;have hmt:m.t=6:=k49_;exact j2_
theorem Yt6 (E:Nat→Addr) (n a b:Int) (l:List (List Int)) (i:List Mat) (v sv:Value) (s:List Int) (w:World) (O:MatV w w.heap.size v (.mk 6 n a b l i)) (hs:Sml (.mk 6 n a b l i)) (hE:Env E w) (hr:Row w w.heap.size sv s) (yr:s.length≤1048576) (hc:chk (.mk 6 n a b l i)=0) (M:subB s (allL n)=true):Calls Tryz.prog 150 #[v,sv] w (A5_ w true (imgM (.mk 6 n a b l i) s)):=by
 obtain ⟨m,hm⟩:∃ m,m=Mat.mk 6 n a b l i:=⟨_,rfl⟩;rw [← hm] at O hs hc;rw [← hm];have L:m.t=6:=k49_;rw [show n=m.n by rw [hm];rfl] at M;clear hm;have Hc:=hid hc;have ye:=hid M;obtain ⟨lv,iv,ys,yq,yo⟩:=O.open;have C:=hid (Z1_ w m lv iv);have Hv:=hid (O.up C.out);have HE:=hid (hE.up C.out);have Hblk:=hid (Z3_ w m lv iv);have z:=Hblk.out.cell;have g0:=z 0;have g1:=z 1;have g2:=z 2;have g3:=z 3;have g4:=z 4;have g5:=z 5;subst ys;unfold boxed at *
 rw [L] at g0;have xe:=hid (hr.up C.out);have yk:=E4_ m.n;have yn:=E2_ hc q39_;have Z:=U3_ hc q39_;have xo:=Yk3 hc M;have hn:=chk_n hc;have U:=Zy0 m s;have hfa:=Yk4 m s;have z3:=sml_r hs (Y3_ m.l 0 [] q39_);obtain ⟨Al,cl,rfl,_,xp⟩:=yq;obtain ⟨Ai,ci,rfl,_,xn⟩:=yo;obtain ⟨u,P,hA,xh,T,xs⟩:=xp 0 q39_;subst hA;obtain ⟨g,ui,hA,xi,xx,xq⟩:=xn 0 q39_;subst hA;rw [add_zero] at T;rw [show (0:Nat) * 6=0 from rfl,add_zero] at xx;obtain ⟨z7,z6,y0,_,_⟩:=xq.open;obtain ⟨x0,x1,x2,x3,x4,x5,o,s0,s1,_⟩:=xx;rw [y0] at o;injection o with o;injection o with o;injection o with _ o;injection o with hx1 _;subst hx1;have z0:(0:Int)<(m.l.length:Int):=q39_;have z1:0<m.l.length:=q39_;have yy:(0:Int)<(m.i.length:Int):=q39_;have yz:0<m.i.length:=q39_;obtain ⟨F,hF⟩:∃ F,F=imgM m s:=⟨_,rfl⟩;rw [← hF] at U hfa;rw [← hF];have Y:stayL m=Z5_ (allL (m.i.getD 0 default).n) (m.l.getD 0 []):=by
  unfold stayL;rw [if_pos L];rfl
 obtain ⟨ST,xg⟩:∃ ST,ST=stayL m:=⟨_,rfl⟩;rw [← xg] at hfa Z Y;have yl:=E4_ (m.i.getD 0 default).n;clear xg hF;generalize m.l.getD 0 []=r at *
 generalize m.i.getD 0 default=x at *
 generalize m.n=N at *
 have yb:=hid Y;have xc:=hid xo;have y5:=hid hfa;have Hfn:=hid U;have x6:=hid xh;have x7:=hid xi;have y6:=hid xs;have y4:=hid T;have y9:=hid s1;have xd:=hid L;have z5:(s.length:Int)≤1048576:=q39_;have z4:(ST.length:Int)≤64:=q39_;have Hstl:=hid Z;obtain ⟨i0,V,yt,yu,hz2⟩:=info_parts info3;clear O hE z hc M Y xo hfa U xp xn xs T s0 s1 xq y0 xh xi yn Z
 go_enter Tryz.func150,Tryz.ntmps150
 rw [xd.out] at Hv Hblk C HE xe;rw [xd.out];clear L
 go_wp2_with fail
 refine (F2_ E m _ _ Hv.out hs HE.out).mono ?_;rintro e w1 ⟨rfl,H⟩;rw [Hc.out];have y2:=hid (Z0_ C.out (le_refl _) H);have Q:=hid (Hblk.out.below H j39_);have yf:=hid (xe.out.up H);have c1:=Q.out.cell 1;clear H g0 g1 g2 g3 g4 g5
 go_wp2_with fail
 refine (L3_ _ _).mono ?_;rintro e w2 ⟨v2,rfl,xt,I⟩;have y3:=hid (Z0_ y2.out (le_refl _) I);have xa:=hid (Q.out.below I Q.out.lt);have xf:=hid (yf.out.up I);have y7:=hid xt;clear I xt c1
 go_wp2_with fail
 refine (Zz1 _ _ s (allL N) _ xf.out y7.out yr yk).mono ?_;rintro e j ⟨rfl,J⟩;rw [ye.out];have q:=hid (Z0_ y3.out (le_refl _) J);have D:=hid (xa.out.below J xa.out.lt);have yg:=hid (xf.out.up J);have c0:=D.out.cell 0;have c4:=D.out.cell 4;have cr:=(q.out.cell (p:=u) x6.out).trans y4.out;have y8:=hid ((y6.out.below q.out).mono q.out.size);clear J;go_wp2;have hlt:w.heap.size<j.heap.size:=D.out.lt;have xk:u.block<j.heap.size:=Nat.lt_of_lt_of_le x6.out q.out.size;have xj:g.block<j.heap.size:=Nat.lt_of_lt_of_le x7.out q.out.size;have R:Hid (∀ W,Below j.drew.heap.size j.drew W→W.cell? ⟨w.heap.size,4,none⟩=some (.slice (some u) m.l.length cl)∧W.cell? ⟨w.heap.size,5,none⟩=some (.slice (some g) m.i.length ci)∧W.cell? u=some P∧W.cell? ⟨g.block,g.off+1,none⟩=some (.int .i64 x.n)):=fun W G =>
  ⟨(G.cell (p:=⟨w.heap.size,4,none⟩) hlt).trans (D.out.cell 4),(G.cell (p:=⟨w.heap.size,5,none⟩) hlt).trans (D.out.cell 5),(G.cell (p:=u) xk).trans cr,
   (G.cell (p:=⟨g.block,g.off+1,none⟩) xj).trans ((q.out.cell (p:=⟨g.block,g.off+1,none⟩) x7.out).trans y9.out)⟩
 clear c0 c4 cr
 go_region_held3 (fun W=>W.cell? ⟨w.heap.size,4,none⟩=some (.slice (some u) m.l.length cl)∧W.cell? ⟨w.heap.size,5,none⟩=some (.slice (some g) m.i.length ci)∧W.cell? u=some P∧W.cell? ⟨g.block,g.off+1,none⟩=some (.int .i64 x.n))
  (first | exact R.out _ (Below.refl _ _) | exact R.out _ B | exact R.out _ (Z0_ B (le_refl _) K))
  (first
  | (go_at_call 76;refine (L3_ _ _).mono ?_;rintro e w4 ⟨v4,rfl,xu,B⟩;have xw:Row w4 w4.heap.size P r:=(show Row j.drew j.drew.heap.size P r from y8.out).up B)
  | (go_at_call 57;refine (H5_ _ _ (allL x.n) r _ xu xw yl q39_).mono ?_;rintro e d ⟨v5,rfl,xv,K⟩))
 have x8:=hid (Z0_ (Z0_ q.out.drew (le_refl _) B) (le_refl _) K);have yd:Hid (Row d d.heap.size v5 ST):=by
  show Row _ _ _ _;rw [yb.out];exact xv
 have yh:=hid ((show Row j.drew j.drew.heap.size sv s from yg.out).up (Z0_ B (le_refl _) K));clear B K xu xw xv hlt xk xj;generalize v5=vst at *
 obtain ⟨As,cs,rfl,_,xy⟩:=id yh.out;obtain ⟨yv,yw,rfl,_,xz⟩:=id yd.out;have yc:=hid xz;clear xz;go_simp;have ya:=hid xy;clear xy
 go_wp2_with (at_make;refine wpList_make_full d rfl _ _ 26 rfl d.heap.size 3 i0 (.int .i64 0) 1 x39_ V yt yu .i64 .i64 _ _ s.length rfl rfl k41_ k41_ x47_ z40_ (le_refl _) ?_)
 intro w6 xr xm;have S:=R5_ w6 d.heap.size s.length (by rw [Nat.mul_one];exact xr);rw [← Zk1 F] at S;have xl:Below d.heap.size d w6:=(Below.refl _ d).grown xm (le_refl _) (fun i V=>by cases V);have x9:=hid xl;have xb:=hid S;clear xr xm xl S;go_wp2
 go_loopw [52] (fun vk wr=>∃ k:Nat,vk=.int .i64 k∧k≤s.length∧Blk wr d.heap.size 3 (fillM F s.length k)∧Below d.heap.size d wr) (fun vk _=>s.length - (intOf vk).toNat)
 case atStart=>exact ⟨0,rfl,Nat.zero_le _,xb.out,x9.out⟩
 case round =>
  clear xb x9;obtain ⟨k,rfl,hk,hblk,hbr⟩:=hrel;have Hblk:=hid hblk;have Hbr:=hid hbr;by_cases hlt:k<s.length
  ·have z2:(k:Int)<(s.length:Int):=by omega
   have hx0:=(xc.out k hlt).1;have hx1:=(xc.out k hlt).2;have hfa:=y5.out k hlt;obtain ⟨X,hX⟩:∃ X:Nat,s.getD k 0=(X:Int):=⟨(s.getD k 0).toNat,q39_⟩;rw [hX] at hx0 hx1 hfa;have yj:X<ST.length:=x49_;have yx:(X:Int)<(ST.length:Int):=q39_;rw [show ((X:Int)).toNat=X from rfl] at hfa;obtain ⟨yi,hA,hasb,hcs⟩:=ya.out k hlt;subst hA;obtain ⟨at_,hA,ym,hct⟩:=yc.out X yj;subst hA;rw [hX] at hcs;have gs:=(hbr.cell (p:=yi.add k) y45_).trans hcs;have gt:=(hbr.cell (p:=at_.add X) (by rw [Z2_];exact ym)).trans hct;have gf:=hblk.frozen k;have hsz:=Zk0 (n:=s.length) Hfn.out hk;obtain ⟨y1,gc⟩:∃ y1,wr.cell? ⟨d.heap.size,k,none⟩=some y1:=⟨(fillM F s.length k)[k]'q39_,by rw [hblk.cell];simp [hsz,hlt]⟩;exact k7_
  ·have yp:k=s.length:=by omega
   subst yp;clear hblk hbr;go_wp2
   go_ret2
   exact ⟨_,rfl,Yz7 Hfn.out Hblk.out z40_,Z0_ x8.out (le_refl _) Hbr.out,fun A n c h=>by cases h;exact x8.out.size⟩
theorem Yy6 (E:Nat→Addr) (m:Mat) (v d:Value) (s:List Int) (w:World) (g:MatV w w.heap.size v m) (hs:Sml m) (h:Env E w) (j:Row w w.heap.size d s) (k:s.length≤1048576):Calls Tryz.prog 150 #[v,d] w (A5_ w (imgB m s) (imgL m s)):=by
 unfold imgL;by_cases c:m.t=5∨m.t=6
 ·by_cases hc:chk m=0
  ·rcases hsub:subB s (allL m.n) with _ | _
   ·rw [show imgB m s=false by unfold imgB;rw [hsub];simp,if_neg x40_]
    obtain ⟨t,n,a,b,l,i⟩:=m;rcases c with c | c<;>cases c
    ·exact Yt2 E n a b l i v d s w g hs h j k hc hsub
    ·exact Yt5 E n a b l i v d s w g hs h j k hc hsub
   ·rw [show imgB m s=true by unfold imgB;rw [hsub,decide_eq_true c,decide_eq_true hc];rfl,if_pos rfl]
    obtain ⟨t,n,a,b,l,i⟩:=m;rcases c with c | c<;>cases c
    ·exact Yt3 E n a b l i v d s w g hs h j k hc hsub
    ·exact Yt6 E n a b l i v d s w g hs h j k hc hsub
  ·rw [show imgB m s=false by unfold imgB;rw [decide_eq_false hc];simp,if_neg x40_]
   obtain ⟨t,n,a,b,l,i⟩:=m;rcases c with c | c<;>cases c
   ·exact Yt1 E n a b l i v d w g hs h hc
   ·exact Yt4 E n a b l i v d w g hs h hc
 ·rw [show imgB m s=false by unfold imgB;rw [decide_eq_false c];simp,if_neg x40_]
  exact Xc1 m v d w g (fun e=>c (.inl e)) (fun e=>c (.inr e))
end Wp
end Go.Proofs.YteiejkhdonmcdaaGreatDoor
