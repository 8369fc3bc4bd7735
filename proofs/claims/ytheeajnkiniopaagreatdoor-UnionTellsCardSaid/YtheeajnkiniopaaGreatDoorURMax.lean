/- The document's shift and Max of layer 16, walked (written by gen_urmax.py). -/
import Derived.Test.YtheeajnkiniopaaGreatDoorURLead
import Derived.Test.YtheeajnkiniopaaGreatDoorURMay
import Derived.Test.YtheeajnkiniopaaGreatDoorUFx16
import Derived.Test.YtheeajnkiniopaaGreatDoorZR
import Derived.Deep.RegionWith
import Derived.Test.YtheeajnkiniopaaGreatDoorX0A
import Derived.Test.YtheeajnkiniopaaGreatDoorX0B
set_option maxHeartbeats 16000000
set_option maxRecDepth 100000
open Go.Lib (hid)
open Nat (le_refl)
namespace Go.Proofs.YtheeajnkiniopaaGreatDoor.Wp
private theorem z12_ {P:Prop} (h:P:=by
 go_wp2
 go_region
 all_goals
  go_wp2
  go_roundw
  case rel =>
   have h:=HPut.out _ Hz.out
   exact ⟨k+1,by go_num,by omega,h.1,h.2⟩
  case measure=>simp [intOf];omega):P:=h
open Go Go.RowKit
theorem Va1 {w:World} {base g c n:Nat} {zs:List Int} (h:w.ownsRow base 3 1 (.slice (some ⟨g,0,none⟩) n c) n (ints zs)) (i:Nat) (z:Int):(w.setCell ⟨g,i,none⟩ (.int .i64 z)).ownsRow base 3 1 (.slice (some ⟨g,0,none⟩) n c) n (ints (zs.set i z)):=q21_
theorem Va2 {l:List Int} {i:Nat} (h:i<l.length):(ints l)[i]?=some (.int .i64 (l.getD i 0)):=by
 unfold ints;simp [List.getD,h]
theorem Xj2 (vo vw:Value) (c l:List Int) (w:World) (P:Row w w.heap.size vo c) (Q:Row w w.heap.size vw l) (hl2:2≤l.length) (hl:l.length≤100) (xs:c.length≤64) (xr:0<c.length)
  (x6:∀ i,i+1<l.length→0≤l.getD i 0∧l.getD i 0<(c.length:Int)) (x7:∀ i,i<l.length→0≤l.getD i 0∧l.getD i 0≤100):Calls Tryz.prog 41 #[vo,vw] w (Gives w (V9_ c l c)):=by
 have V:=hid P;have H:=hid Q;obtain ⟨Ao,co,rfl,-⟩:=id P;obtain ⟨Aw,cw,rfl,-⟩:=id Q;obtain ⟨n,O⟩:∃ n,l.length=n+1:=⟨l.length - 1,q40_⟩;have HN:=hid O;have xc:=hid x6;have xd:=hid x7;have xv:1≤n:=q40_;have xw:(n:Int)≤100:=q40_;rw [O];have x9:=World.ownsRow_made (base:=w.heap.size) (e := 3) (size:=1) w #[] 0 (le_refl _) y41_ rfl;have I:Hid ((w.alloc (.cells #[] 3)).ownsRow w.heap.size 3 1 (.slice (some ⟨w.heap.size,0,none⟩) 0 0) ([]:List Int).length (ints [])):=hid x9;have G:Hid (Below w.heap.size w (w.alloc (.cells #[] 3))):=hid ((Below.refl _ w).alloc (le_refl _) _);clear P Q x6 x7 hl O x9
 go_enter Tryz.func41,Tryz.ntmps41
 go_wp2_with (at_builtin;refine Z4_ rfl _ _ rfl w.heap.size _ _ _ [] c rfl rfl I.out (V.out.up G.out) z40_ q40_ z40_ ?_)
 intro v1 U o x5;have x3:Below w.heap.size w U:=G.out.grown x5 z40_ (fun i hi=>(World.ownsRow.lt I.out i hi).1);have o:U.ownsRow w.heap.size 3 1 v1 c.length (ints c):=by simpa using o
 have X:=hid o;have W:=hid x3;obtain ⟨g,r,rfl⟩:∃ g r,v1=.slice (some ⟨g,0,none⟩) c.length r:=by
  rcases o.2 with ⟨rfl,h0⟩ | ⟨g,xg,xq,rfl,_⟩
  ·omega
  ·exact ⟨g,xg,rfl⟩
 have xj:w.heap.size≤g:=(o.lt g rfl).1;clear o x5 x3 I G;go_wp2
 go_loopw [6] (fun T wr=>∃ k:Nat,T=.int .i64 k∧k≤n∧wr.ownsRow w.heap.size 3 1 (.slice (some ⟨g,0,none⟩) c.length r) c.length (ints (stepU c l k))∧Below w.heap.size w wr) (fun T _=>n - (intOf T).toNat)
 case atStart =>
  refine ⟨0,rfl,Nat.zero_le _,?_,W.out⟩;obtain ⟨x,l',rfl⟩:∃ x l',l=x :: l':=q29_;rw [Zk9];exact X.out
 case round =>
  clear X W;obtain ⟨k,rfl,hk,x8,hb⟩:=hrel;have B:=hid x8;have d:=hid hb;clear x8 hb;have xx:IntKind.i64.wrap ((k:Int)+1)=(k:Int)+1:=k40_;by_cases xt:k<n
  ·have xm:(k:Int)<(n:Int):=by omega
   have xu:(k:Int)+1<(n:Int)+1:=q40_;obtain ⟨J,xi,C⟩:=H.out.nth (k:=k) k43_;obtain ⟨xe,M,D⟩:=H.out.nth (k:=k+1) k43_;subst xi;obtain rfl:J=xe:=Option.some.inj M;have m:Below w.heap.size w wr.drew:=d.out.drew;have Z:=C wr d.out;have g1:=D wr d.out;have x0:=C wr.drew m;have x1:=D wr.drew m;obtain ⟨xf,x2,x4⟩:=H.out.nth (k:=0) k43_;obtain rfl:J=xf:=Option.some.inj x2;have g3:=x4 wr d.out;clear x4 x2;obtain ⟨Y,ow,xp⟩:=J;obtain rfl:xp=none:=by simpa [Addr.add] using World.cell?_spot g3
   clear g3;have L:∀ j,(⟨Y,ow,none⟩:Addr).add j=⟨Y,ow+j,none⟩:=fun j=>by simp [Addr.add]
   rw [L] at Z g1 x0 x1;obtain ⟨h1,h2⟩:=xc.out k k43_;obtain ⟨h3,h4⟩:=xd.out (k+1) k43_;obtain ⟨x,E⟩:∃ x:Nat,l.getD k 0=(x:Int):=⟨(l.getD k 0).toNat,q40_⟩;obtain ⟨y,F⟩:∃ y:Nat,l.getD (k+1) 0=(y:Int):=⟨(l.getD (k+1) 0).toNat,q40_⟩;have xz:x<c.length:=q40_;have xy:(x:Int)<(c.length:Int):=q40_;have S:Hid (stepU c l (k+1)=(stepU c l k).set x (nextU c (y:Int))):=hid (by
    rw [Zl0 c l k43_,E,F];rfl)
   have sl:=Yv9 c l k;rw [E] at Z x0;rw [F] at g1 x1;have y0:(y:Int)≤100:=q40_;have q:=hid (M1_ B.out (Below.refl _ wr).drew);have fG:=q.out.frozenAt x;have K:=Va2 (l:=stepU c l k) (i:=x) q40_;have qx:=(q.out.cellAt x q40_).trans K;have HPut:Hid (∀ z:Int,nextU c (y:Int)=z→(wr.drew.setCell ⟨g,x,none⟩ (.int .i64 z)).ownsRow w.heap.size 3 1 (.slice (some ⟨g,0,none⟩) c.length r) c.length (ints (stepU c l (k+1)))∧Below w.heap.size w (wr.drew.setCell ⟨g,x,none⟩ (.int .i64 z))):=hid fun z u=>by
    refine ⟨?_,m.setCell (p:=⟨g,x,none⟩) xj _⟩;rw [S.out,u];exact Va1 q.out x z
   by_cases xn:y<c.length
   ·have R:(y:Int)<(c.length:Int):=by omega
    obtain ⟨ao,xh,N⟩:=V.out.nth xn;subst xh;have qy:=N wr d.out;have xo:=N wr.drew m;have u:nextU c (y:Int)=c.getD y 0:=by unfold nextU;rw [if_pos R];rfl
    obtain ⟨z,xa⟩:∃ z,c.getD y 0=z:=⟨_,rfl⟩;rw [xa] at qy xo u;have Hz:=hid u;obtain ⟨v,s⟩:∃ v,(stepU c l k).getD x 0=v:=⟨_,rfl⟩;rw [s] at qx;clear u xa N C D M L K sl E F h1 h2 h3 h4 s S q m;exact z12_
   ·have R:¬ (y:Int)<(c.length:Int):=by omega
    have Hz:Hid (nextU c (y:Int)=(y:Int) - (c.length:Int)):=hid (by unfold nextU;rw [if_neg R]);have U:IntKind.i64.wrap ((y:Int) - (c.length:Int))=(y:Int) - (c.length:Int):=k40_;obtain ⟨v,s⟩:∃ v,(stepU c l k).getD x 0=v:=⟨_,rfl⟩;rw [s] at qx;clear C D M L K sl E F h1 h2 h3 h4 s S q m;exact z12_
  ·have xl:k=n:=by omega
   subst xl;have xm:¬ (k:Int)<(k:Int):=q40_;have xk:Hid (stepU c l k=V9_ c l c):=hid (by
    have:=Yv8 c l k43_
    rwa [HN.out,Nat.add_sub_cancel] at this)
   rw [xk.out] at B;have xb:Hid (Row wr wr.heap.size (.slice (some ⟨g,0,none⟩) c.length r) (V9_ c l c)):=hid (Row.of_own B.out (I8_ c l c).symm);clear B;go_wp2;go_ret;exact ⟨_,rfl,xb.out,d.out⟩
theorem Xj3 (E:Nat→Addr) (ms:List Mat) (v:Value) (w:World) (hl:MatL w w.heap.size v ms) (hs:∀ m∈ms,Sml m) (g:ms.length≤1000) (h:sevB ms=false) :
  Calls Tryz.prog 14 #[v] w fun e w'=>e=.returned (.tuple #[.slice none 0 0,.slice none 0 0,.int .i64 1])∧Below w.heap.size w w':=by
 have c:=hid (P7_ E ms v w hl hs g);rw [h] at c;obtain ⟨j,k,rfl,-⟩:=id hl;clear hl hs
 go_enter Tryz.func14,Tryz.ntmps14
 go_wp2_with fail
 refine c.out.mono ?_;rintro e o ⟨rfl,hb⟩;have d:=hid hb;clear hb;go_wp2;refine bodyPost_ret (v:=.tuple #[.slice none 0 0,.slice none 0 0,.int .i64 1]) (by simp [results,Tryz.results14,go_sem]) rfl ?_;exact ⟨rfl,d.out⟩
theorem Xn7 (E:Nat→Addr) (ms:List Mat) (v:Value) (w:World) (hl:MatL w w.heap.size v ms) (hs:∀ m∈ms,Sml m) (xg:sevB ms=true) :
  Calls Tryz.prog 14 #[v] w fun e w'=>∃ (vc vu:Value) (c u:List Int),e=.returned (.tuple #[vc,vu,.int .i64 0])∧Row w' w'.heap.size vc c∧Row w' w'.heap.size vu u∧Below w.heap.size w w'∧MaxU ms (nN (ms.getD 0 default)) c u:=by
 have F:=hid (sev_iff.1 xg).1;obtain ⟨yd,zc⟩:=F.out.many;have x4:=hid (P7_ E ms v w hl hs q40_);rw [xg] at x4;obtain ⟨ad,dl,lv,iv,rfl,_,y8⟩:=MatL.one hl yd;have HL:=hid hl;have Hs:=hid hs;obtain ⟨n,V⟩:∃ n,nN (ms.getD 0 default)=n:=⟨_,rfl⟩;have xe:=F.out.n64;rw [V] at F xe;have y4:(ms.getD 0 default).n=(n:Int):=by
  have P:=(Y0_ (F.out.may 0 yd).1).1;rw [← V];omega
 have yb:ad.add (0 * 6)=ad:=x43_;have yv:Hid (∀ W,Below w.heap.size w W→W.cell? ⟨ad.block,ad.off+1,none⟩=some (.int .i64 n)):=hid fun W hW=>by
  have h:=(y8 W hW).2.1;rw [yb,y4] at h;exact h
 have zd:(0:Int)<(ms.length:Int):=q40_;have ze:(n:Int)≤64:=q40_;rw [V];clear hl hs y8 xg V y4 yb
 go_enter Tryz.func14,Tryz.ntmps14
 go_wp2_with fail
 refine x4.out.mono ?_;rintro e g ⟨rfl,hb⟩;have Hb:=hid hb;have q1:=yv.out g hb;clear hb x4;have y1:Hid ((g.alloc (.cells #[] 3)).ownsRow g.heap.size 3 1 (.slice (some ⟨g.heap.size,0,none⟩) 0 0) (List.replicate 0 (-1:Int)).length (ints (List.replicate 0 (-1)))):=hid (World.ownsRow_made (base:=g.heap.size) (e := 3) (size:=1) g #[] 0 (le_refl _) y41_ rfl);have xk:Hid (Below g.heap.size g (g.alloc (.cells #[] 3))):=hid ((Below.refl _ g).alloc (le_refl _) _);go_wp2;clear q1
 go_loopw [6,7] (fun vo vx wr=>∃ x:Nat,vx=.int .i64 x∧x≤n∧Hid (wr.ownsRow g.heap.size 3 1 vo (List.replicate x (-1:Int)).length (ints (List.replicate x (-1))))∧Hid (Below g.heap.size g wr)) (fun _ vx _=>n - (intOf vx).toNat)
 case atStart=>exact ⟨0,rfl,Nat.zero_le _,y1,xk⟩
 case round =>
  clear y1 xk;obtain ⟨x,rfl,zg,G,B⟩:=hrel;by_cases zb:x<n
  ·have z0:(x:Int)<(n:Int):=by omega
   have y2:Hid (List.replicate (x+1) (-1:Int)=List.replicate x (-1) ++ [-1]):=hid List.replicate_succ';have y0:Hid ((List.replicate x (-1:Int)).length≤100):=hid (by rw [List.length_replicate];omega);obtain ⟨Z,hZ⟩:∃ Z,List.replicate x (-1:Int)=Z:=⟨_,rfl⟩;rw [hZ] at G y2 y0;clear hZ
   go_wp2_with (at_builtin;refine Z4_ rfl _ _ rfl g.heap.size _ _ _ Z [-1] rfl rfl (G.out.alloc _) (Row.lit1 _ (-1)) (by have:=y0.out;omega) z40_ (by have:=B.out.size;simp;omega) ?_)
   intro v' z6 ye yc;have y5:Below g.heap.size wr z6:=((Below.refl _ wr).alloc B.out.size _).grown yc (by have:=B.out.size;simp;omega) (fun i I=>(G.out.lt i I).1);have yu:=hid ye;have yo:=hid (B.out.trans y5);clear ye yc y5;go_wp2
   go_roundw
   case rel=>exact ⟨x+1,x41_,q40_,hid (by rw [y2.out,List.length_append];exact yu.out),yo⟩
   exact mz_
  ·have yk:x=n:=by omega
   have z0:¬ (x:Int)<(n:Int):=q40_;have xq:Hid (Row wr wr.heap.size u6 (List.replicate n (-1))):=hid (by rw [← yk];exact Row.of_own G.out z40_);have xn:=hid (Z0_ Hb.out (le_refl _) B.out);clear G B yk Hb;go_wp2
   go_loopg [6,8,9,10,11] (n+1) (fun k vo _ _ _ _ wr=>∃ (vc:Value) (c:List Int) (j:Nat),vc=vo∧ChainU ms n j c∧j+k=n+1∧Row wr wr.heap.size vc c∧Below w.heap.size w wr)
   case atStart=>exact ⟨_,List.replicate n (-1),0,rfl,.zero,q40_,xq.out,xn.out⟩
   case round =>
    clear xq xn;obtain ⟨vc,c,j,rfl,xd,za,xi,xc⟩:=hrel;obtain ⟨y9,U,yx⟩:=Zf7 F.out xd;have xo:=hid xd;have L:=hid xi;have xm:=hid xc;have D:=hid y9;have s:=hid U;obtain ⟨Ac,cc,rfl,-⟩:=id xi;have xp:=hid (HL.out.up xc);rw [U];rw [U] at L;have z9:j≤n:=q40_;clear xd xi xc y9 U yx
    go_wp2_with fail
    refine (Xj1 ms _ _ c _ xp.out Hs.out L.out D.out).mono ?_;rintro e w5 ⟨va,rfl,yj,xa⟩;have xj:=hid yj;have xr:=hid (L.out.up xa);have xl:=hid (Z0_ xm.out (le_refl _) xa);obtain ⟨Aa,ca,rfl,-⟩:=yj;obtain ⟨N,hN⟩:∃ N:Nat,n+ms.length=N:=⟨_,rfl⟩;have yp:=hid hN;have zf:IntKind.i64.wrap ((n:Int)+(ms.length:Int))=(N:Int):=k40_;clear xa hN L xm xp
    go_wp2_with fail
    refine (I6_ (N:Int) _).mono ?_;rintro e w6 ⟨v6,rfl,yg,y6⟩;have O:=hid yg;obtain ⟨A6,c6,rfl,-⟩:=yg
    go_wp2_with fail
    refine (I6_ (n:Int) _).mono ?_;rintro e w7 ⟨v7,rfl,yh,xb⟩;have xu:=hid yh;obtain ⟨A7,c7,rfl,-⟩:=yh;have xv:=hid (show (allL (N:Int)).length≤1048576 by have:=(C9_ (N:Int)).1;omega);have xw:=hid (show (allL (n:Int)).length≤1048576 by have:=(C9_ (n:Int)).1;omega);have yt:Hid (Z8_ (allL (N:Int)) (allL (n:Int))=endsU ms n):=hid (by
     have h:=Zl3 (ms:=ms) (c:=c) D.out (by rw [s.out];exact xe)
     rwa [s.out,yp.out] at h)
    have Q:=Z0_ y6 (le_refl _) xb;have p:=hid (xj.out.up Q);have o:=hid (xr.out.up Q);have r:=hid (Z0_ xl.out (le_refl _) Q);replace O:=hid (O.out.up xb);clear y6 xb Q xj xr xl
    go_wp2_with fail
    refine (E2_ _ _ (allL (N:Int)) (allL (n:Int)) _ O.out xu.out xv.out xw.out).mono ?_;rintro e w8 ⟨v8,rfl,xh,R⟩;rw [yt.out] at xh;have C:=hid xh;obtain ⟨A8,c8,rfl,-⟩:=xh;replace p:=hid (p.out.up R);replace o:=hid (o.out.up R);replace r:=hid (Z0_ r.out (le_refl _) R);have xx:=hid (show c.length≤1048576 by have:=s.out;omega);clear R O xu xv xw
    go_wp2_with fail
    refine (F8_ _ c (-1) _ o.out xx.out).mono ?_;rintro e w9 ⟨v9,rfl,yi,H⟩;have M:=hid yi;obtain ⟨A9,c9,rfl,-⟩:=yi;replace p:=hid (p.out.up H);replace o:=hid (o.out.up H);replace C:=hid (C.out.up H);replace r:=hid (Z0_ r.out (le_refl _) H);have S:=A2_ D.out;have Y:=K1_ D.out;have ya:PtsP (adjU ms c).length (endsU ms n):=by
     rw [D8_,← s.out];exact Zs1 D.out (by rw [s.out];exact xe)
    have x6:=hid S;have x7:=hid Y;have xy:=hid ya;clear H ya;rcases Yx6 (dst:=endsU ms n) S Y with ⟨d,x0,l0,T⟩ | xf
    ·obtain ⟨l,hl⟩:∃ l,x0 :: l0=l:=⟨_,rfl⟩
     rw [hl] at T;have xz:=hid (show Greedy (adjU ms c) (endsU ms c.length) (Z3_ c (-1)) d l by rw [s.out];exact T);have x5:Hid (Yp6 (adjU ms c) (Z3_ c (-1)) (endsU ms n) l true):=hid (.inl ⟨rfl,d,T⟩);clear T hl S Y
     go_wp2_with fail
     refine (Zl2 (adjU ms c) (Z3_ c (-1)) (endsU ms n) l true x6.out x7.out xy.out x5.out _ _ _ _ p.out M.out C.out).mono ?_;rintro e yl ⟨z2,rfl,X,y⟩;have xt:=hid X;replace o:=hid (o.out.up y);replace r:=hid (Z0_ r.out (le_refl _) y);obtain ⟨z7,z8,rfl,-⟩:=X;obtain ⟨q,m,K,hw⟩:=Yo0 (c:=c) xz.out;have yz:=hw.len;have hpt:=hw.pt;have hK:=hw.hK;have yy:=s.out;have y7:0<c.length:=by have:=(hw.el 0 (Nat.zero_le _)).1;omega
     have z1:m+1≤c.length:=Yv5 hw;have x8:∀ i,i<l.length→(i≤m∧q i<c.length∧l.getD i 0=(q i:Int))∨(i=m+1∧l.getD i 0=(c.length:Int)+(K:Int)):=fun i I=>x16_;have y3:=hid (Xj2 _ _ c l yl (by have h:=o.out;rw [← s.out] at h;exact h) xt.out q40_ q40_ q40_ y7
      (fun i I=>by
       rcases x8 i q40_ with ⟨P,h2,h3⟩ | ⟨P,h3⟩
       ·omega
       ·omega)
      (fun i I=>by
       rcases x8 i I with ⟨P,h2,h3⟩ | ⟨P,h3⟩
       ·omega
       ·omega))
     rw [s.out] at y3;clear y hw x8 yz hpt hK z1 yy y7 xt M C p
     go_wp2_with fail
     refine y3.out.mono ?_;rintro e z5 ⟨z3,rfl,J,z⟩;have yq:=hid J;have ym:=hid (Z0_ r.out (le_refl _) z);clear J z;go_wp2
     go_roundg (n - j)
     case measure=>omega
     case rel=>exact ⟨_,V9_ c l c,j+1,rfl,.succ xo.out xz.out,q40_,yq.out,ym.out⟩
    ·have yw:Hid (StopU ms c):=hid (by unfold StopU;rw [s.out];exact xf)
     have x5:Hid (Yp6 (adjU ms c) (Z3_ c (-1)) (endsU ms n) [] false):=hid (.inr ⟨rfl,rfl,xf⟩);clear xf S Y
     go_wp2_with fail
     refine (Zl2 (adjU ms c) (Z3_ c (-1)) (endsU ms n) [] false x6.out x7.out xy.out x5.out _ _ _ _ p.out M.out C.out).mono ?_;rintro e yl ⟨z2,rfl,X,y⟩;replace o:=hid (o.out.up y);replace p:=hid (p.out.up y);replace r:=hid (Z0_ r.out (le_refl _) y);clear y X M C
     go_wp2_with fail
     refine (F8_ _ c (-1) _ o.out xx.out).mono ?_;rintro e z5 ⟨z3,rfl,J,z⟩;have xs:=hid J;replace o:=hid (o.out.up z);replace p:=hid (p.out.up z);replace r:=hid (Z0_ r.out (le_refl _) z);clear J z
     go_wp2_with fail
     refine (Xy6 _ _ (adjU ms c) (Z3_ c (-1)) x6.out x7.out _ p.out xs.out).mono ?_;rintro e zh ⟨z4,rfl,yf,x9⟩;have ys:=hid yf;have yr:=hid (o.out.up x9);have yn:=hid (Z0_ r.out (le_refl _) x9);clear yf x9 p xs;go_wp2;refine bodyPost_ret (v:=.tuple #[.slice Ac n cc,z4,.int .i64 0]) (by simp [results,Tryz.results14,go_sem]) rfl ?_;exact ⟨_,_,c,_,rfl,yr.out,ys.out,yn.out,⟨j,xo.out⟩,yw.out,rfl⟩
end Go.Proofs.YtheeajnkiniopaaGreatDoor.Wp
