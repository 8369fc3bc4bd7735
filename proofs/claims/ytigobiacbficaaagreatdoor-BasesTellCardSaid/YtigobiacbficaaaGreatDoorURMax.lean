/- The document's shift and Max of layer 16, walked (written by gen_urmax.py). -/
import Derived.Test.YtigobiacbficaaaGreatDoorURLead
import Derived.Test.YtigobiacbficaaaGreatDoorURMay
import Derived.Test.YtigobiacbficaaaGreatDoorUMaxW
import Derived.Test.YtigobiacbficaaaGreatDoorZR
import Derived.Deep.RegionWith
import Derived.Test.YtigobiacbficaaaGreatDoorX0A
import Derived.Test.YtigobiacbficaaaGreatDoorX0B
set_option maxHeartbeats 16000000
set_option maxRecDepth 100000
open Go.Lib (hid)
open Nat (le_refl)
namespace Go.Proofs.YtigobiacbficaaaGreatDoor.Wp
private theorem j12_ {P:Prop} (h:P:=by
 go_wp2
 go_region
 all_goals
  go_wp2
  go_roundw
  case rel =>
   have h:=HPut.out _ Hz.out
   exact ⟨k+1,by go_num,by omega,h.1,h.2⟩
  case measure=>simp [intOf];omega):P:=h
open Go Go.RowKit
theorem Vf5 {w:World} {base g c n:Nat} {zs:List Int} (h:w.ownsRow base 3 1 (.slice (some ⟨g,0,none⟩) n c) n (ints zs)) (i:Nat) (z:Int):(w.setCell ⟨g,i,none⟩ (.int .i64 z)).ownsRow base 3 1 (.slice (some ⟨g,0,none⟩) n c) n (ints (zs.set i z)):=y21_
theorem Vf6 {l:List Int} {i:Nat} (h:i<l.length):(ints l)[i]?=some (.int .i64 (l.getD i 0)):=by
 unfold ints;simp [List.getD,h]
theorem Xc9 (vo vw:Value) (c l:List Int) (w:World) (P:Row w w.heap.size vo c) (Q:Row w w.heap.size vw l) (hl2:2≤l.length) (hl:l.length≤100) (xs:c.length≤64) (xr:0<c.length)
  (x6:∀ i,i+1<l.length→0≤l.getD i 0∧l.getD i 0<(c.length:Int)) (x7:∀ i,i<l.length→0≤l.getD i 0∧l.getD i 0≤100):Calls Tryz.prog 39 #[vo,vw] w (Gives w (V9_ c l c)):=by
 have V:=hid P;have H:=hid Q;obtain ⟨Ao,co,rfl,-⟩:=id P;obtain ⟨Aw,cw,rfl,-⟩:=id Q;obtain ⟨n,O⟩:∃ n,l.length=n+1:=⟨l.length - 1,y40_⟩;have HN:=hid O;have xc:=hid x6;have xd:=hid x7;have xv:1≤n:=y40_;have xw:(n:Int)≤100:=y40_;rw [O];have x9:=World.ownsRow_made (base:=w.heap.size) (e := 3) (size:=1) w #[] 0 (le_refl _) z41_ rfl;have I:Hid ((w.alloc (.cells #[] 3)).ownsRow w.heap.size 3 1 (.slice (some ⟨w.heap.size,0,none⟩) 0 0) ([]:List Int).length (ints [])):=hid x9;have G:Hid (Below w.heap.size w (w.alloc (.cells #[] 3))):=hid ((Below.refl _ w).alloc (le_refl _) _);clear P Q x6 x7 hl O x9
 go_enter Tryz.func39,Tryz.ntmps39
 go_wp2_with (at_builtin;refine Z5_ rfl _ _ rfl w.heap.size _ _ _ [] c rfl rfl I.out (V.out.up G.out) k40_ y40_ k40_ ?_)
 intro v1 U o x5;have x3:Below w.heap.size w U:=G.out.grown x5 k40_ (fun i hi=>(World.ownsRow.lt I.out i hi).1);have o:U.ownsRow w.heap.size 3 1 v1 c.length (ints c):=by simpa using o
 have X:=hid o;have W:=hid x3;obtain ⟨g,r,rfl⟩:∃ g r,v1=.slice (some ⟨g,0,none⟩) c.length r:=by
  rcases o.2 with ⟨rfl,h0⟩ | ⟨g,xg,xq,rfl,_⟩
  ·omega
  ·exact ⟨g,xg,rfl⟩
 have xj:w.heap.size≤g:=(o.lt g rfl).1;clear o x5 x3 I G;go_wp2
 go_loopw [6] (fun T wr=>∃ k:Nat,T=.int .i64 k∧k≤n∧wr.ownsRow w.heap.size 3 1 (.slice (some ⟨g,0,none⟩) c.length r) c.length (ints (stepU c l k))∧Below w.heap.size w wr) (fun T _=>n - (intOf T).toNat)
 case atStart =>
  refine ⟨0,rfl,Nat.zero_le _,?_,W.out⟩;obtain ⟨x,l',rfl⟩:∃ x l',l=x :: l':=y29_;rw [Zo0];exact X.out
 case round =>
  clear X W;obtain ⟨k,rfl,hk,x8,hb⟩:=hrel;have B:=hid x8;have d:=hid hb;clear x8 hb;have xx:IntKind.i64.wrap ((k:Int)+1)=(k:Int)+1:=y41_;by_cases xt:k<n
  ·have xm:(k:Int)<(n:Int):=by omega
   have xu:(k:Int)+1<(n:Int)+1:=y40_;obtain ⟨J,xi,C⟩:=H.out.nth (k:=k) k43_;obtain ⟨xe,M,D⟩:=H.out.nth (k:=k+1) k43_;subst xi;obtain rfl:J=xe:=Option.some.inj M;have m:Below w.heap.size w wr.drew:=d.out.drew;have Z:=C wr d.out;have g1:=D wr d.out;have x0:=C wr.drew m;have x1:=D wr.drew m;obtain ⟨xf,x2,x4⟩:=H.out.nth (k:=0) k43_;obtain rfl:J=xf:=Option.some.inj x2;have g3:=x4 wr d.out;clear x4 x2;obtain ⟨Y,ow,xp⟩:=J;obtain rfl:xp=none:=by simpa [Addr.add] using World.cell?_spot g3
   clear g3;have L:∀ j,(⟨Y,ow,none⟩:Addr).add j=⟨Y,ow+j,none⟩:=fun j=>by simp [Addr.add]
   rw [L] at Z g1 x0 x1;obtain ⟨h1,h2⟩:=xc.out k k43_;obtain ⟨h3,h4⟩:=xd.out (k+1) k43_;obtain ⟨x,E⟩:∃ x:Nat,l.getD k 0=(x:Int):=⟨(l.getD k 0).toNat,y40_⟩;obtain ⟨y,F⟩:∃ y:Nat,l.getD (k+1) 0=(y:Int):=⟨(l.getD (k+1) 0).toNat,y40_⟩;have xz:x<c.length:=y40_;have xy:(x:Int)<(c.length:Int):=y40_;have S:Hid (stepU c l (k+1)=(stepU c l k).set x (nextU c (y:Int))):=hid (by
    rw [Zo1 c l k43_,E,F];rfl)
   have sl:=Yd0 c l k;rw [E] at Z x0;rw [F] at g1 x1;have y0:(y:Int)≤100:=y40_;have q:=hid (I6_ B.out (Below.refl _ wr).drew);have fG:=q.out.frozenAt x;have K:=Vf6 (l:=stepU c l k) (i:=x) y40_;have qx:=(q.out.cellAt x y40_).trans K;have HPut:Hid (∀ z:Int,nextU c (y:Int)=z→(wr.drew.setCell ⟨g,x,none⟩ (.int .i64 z)).ownsRow w.heap.size 3 1 (.slice (some ⟨g,0,none⟩) c.length r) c.length (ints (stepU c l (k+1)))∧Below w.heap.size w (wr.drew.setCell ⟨g,x,none⟩ (.int .i64 z))):=hid fun z u=>by
    refine ⟨?_,m.setCell (p:=⟨g,x,none⟩) xj _⟩;rw [S.out,u];exact Vf5 q.out x z
   by_cases xn:y<c.length
   ·have R:(y:Int)<(c.length:Int):=by omega
    obtain ⟨ao,xh,N⟩:=V.out.nth xn;subst xh;have qy:=N wr d.out;have xo:=N wr.drew m;have u:nextU c (y:Int)=c.getD y 0:=by unfold nextU;rw [if_pos R];rfl
    obtain ⟨z,xa⟩:∃ z,c.getD y 0=z:=⟨_,rfl⟩;rw [xa] at qy xo u;have Hz:=hid u;obtain ⟨v,s⟩:∃ v,(stepU c l k).getD x 0=v:=⟨_,rfl⟩;rw [s] at qx;clear u xa N C D M L K sl E F h1 h2 h3 h4 s S q m;exact j12_
   ·have R:¬ (y:Int)<(c.length:Int):=by omega
    have Hz:Hid (nextU c (y:Int)=(y:Int) - (c.length:Int)):=hid (by unfold nextU;rw [if_neg R]);have U:IntKind.i64.wrap ((y:Int) - (c.length:Int))=(y:Int) - (c.length:Int):=y41_;obtain ⟨v,s⟩:∃ v,(stepU c l k).getD x 0=v:=⟨_,rfl⟩;rw [s] at qx;clear C D M L K sl E F h1 h2 h3 h4 s S q m;exact j12_
  ·have xl:k=n:=by omega
   subst xl;have xm:¬ (k:Int)<(k:Int):=y40_;have xk:Hid (stepU c l k=V9_ c l c):=hid (by
    have:=Yc9 c l k43_
    rwa [HN.out,Nat.add_sub_cancel] at this)
   rw [xk.out] at B;have xb:Hid (Row wr wr.heap.size (.slice (some ⟨g,0,none⟩) c.length r) (V9_ c l c)):=hid (Row.of_own B.out (K3_ c l c).symm);clear B;go_wp2;go_ret;exact ⟨_,rfl,xb.out,d.out⟩
theorem Yd4 (E:Nat→Addr) (ms:List Mat) (v:Value) (w:World) (hl:MatL w w.heap.size v ms) (hs:∀ m∈ms,Sml m) (xh:sevB ms=true) :
  Calls Tryz.prog 20 #[v] w fun e w'=>∃ (vc vu:Value) (c u:List Int),e=.returned (.tuple #[vc,vu,.int .i64 0])∧Row w' w'.heap.size vc c∧Row w' w'.heap.size vu u∧Below w.heap.size w w'∧MaxU ms (nN (ms.getD 0 default)) c u:=by
 have F:=hid (sev_iff.1 xh).1;obtain ⟨ye,zd⟩:=F.out.many;have x5:=hid (Xc8 E ms v w hl hs y40_);rw [xh] at x5;obtain ⟨H,dl,lv,iv,rfl,_,y9⟩:=MatL.one hl ye;have HL:=hid hl;have Hs:=hid hs;obtain ⟨n,X⟩:∃ n,nN (ms.getD 0 default)=n:=⟨_,rfl⟩;have xf:=F.out.n64;rw [X] at F xf;have y5:(ms.getD 0 default).n=(n:Int):=by
  have Q:=(Y0_ (F.out.may 0 ye).1).1;rw [← X];omega
 have yc:H.add (0 * 6)=H:=by obtain ⟨x1,x2,x3⟩:=H;cases x3<;>simp [Addr.add]
 have yw:Hid (∀ W,Below w.heap.size w W→W.cell? ⟨H.block,H.off+1,none⟩=some (.int .i64 n)):=hid fun W hW=>by
  have h:=(y9 W hW).2.1;rw [yc,y5] at h;exact h
 have ze:(0:Int)<(ms.length:Int):=y40_;have zf:(n:Int)≤64:=y40_;rw [X];clear hl hs y9 xh X y5 yc
 go_enter Tryz.func20,Tryz.ntmps20
 go_wp2_with fail
 refine x5.out.mono ?_;rintro e g ⟨rfl,hb⟩;have Hb:=hid hb;have q1:=yw.out g hb;clear hb x5;have y2:Hid ((g.alloc (.cells #[] 3)).ownsRow g.heap.size 3 1 (.slice (some ⟨g.heap.size,0,none⟩) 0 0) (List.replicate 0 (-1:Int)).length (ints (List.replicate 0 (-1)))):=hid (World.ownsRow_made (base:=g.heap.size) (e := 3) (size:=1) g #[] 0 (le_refl _) z41_ rfl);have xl:Hid (Below g.heap.size g (g.alloc (.cells #[] 3))):=hid ((Below.refl _ g).alloc (le_refl _) _);go_wp2;clear q1
 go_loopw [6,7] (fun vo vx wr=>∃ x:Nat,vx=.int .i64 x∧x≤n∧Hid (wr.ownsRow g.heap.size 3 1 vo (List.replicate x (-1:Int)).length (ints (List.replicate x (-1))))∧Hid (Below g.heap.size g wr)) (fun _ vx _=>n - (intOf vx).toNat)
 case atStart=>exact ⟨0,rfl,Nat.zero_le _,y2,xl⟩
 case round =>
  clear y2 xl;obtain ⟨x,rfl,zh,G,B⟩:=hrel;by_cases zc:x<n
  ·have z1:(x:Int)<(n:Int):=by omega
   have y3:Hid (List.replicate (x+1) (-1:Int)=List.replicate x (-1) ++ [-1]):=hid List.replicate_succ';have y1:Hid ((List.replicate x (-1:Int)).length≤100):=hid (by rw [List.length_replicate];omega);obtain ⟨Z,hZ⟩:∃ Z,List.replicate x (-1:Int)=Z:=⟨_,rfl⟩;rw [hZ] at G y3 y1;clear hZ
   go_wp2_with (at_builtin;refine Z5_ rfl _ _ rfl g.heap.size _ _ _ Z [-1] rfl rfl (G.out.alloc _) (Row.lit1 _ (-1)) (by have:=y1.out;omega) k40_ (by have:=B.out.size;simp;omega) ?_)
   intro v' z7 yf yd;have y6:Below g.heap.size wr z7:=((Below.refl _ wr).alloc B.out.size _).grown yd (by have:=B.out.size;simp;omega) (fun i J=>(G.out.lt i J).1);have yv:=hid yf;have yp:=hid (B.out.trans y6);clear yf yd y6;go_wp2
   go_roundw
   case rel=>exact ⟨x+1,j41_,y40_,hid (by rw [y3.out,List.length_append];exact yv.out),yp⟩
   exact mz_
  ·have yl:x=n:=by omega
   have z1:¬ (x:Int)<(n:Int):=y40_;have xr:Hid (Row wr wr.heap.size u6 (List.replicate n (-1))):=hid (by rw [← yl];exact Row.of_own G.out k40_);have xo:=hid (Z0_ Hb.out (le_refl _) B.out);clear G B yl Hb;go_wp2
   go_loopg [6,8,9,10,11] (n+1) (fun k vo _ _ _ _ wr=>∃ (vc:Value) (c:List Int) (j:Nat),vc=vo∧ChainU ms n j c∧j+k=n+1∧Row wr wr.heap.size vc c∧Below w.heap.size w wr)
   case atStart=>exact ⟨_,List.replicate n (-1),0,rfl,.zero,y40_,xr.out,xo.out⟩
   case round =>
    clear xr xo;obtain ⟨vc,c,j,rfl,xe,zb,xj,xd⟩:=hrel;obtain ⟨ya,V,yy⟩:=Zg4 F.out xe;have xp:=hid xe;have M:=hid xj;have xn:=hid xd;have D:=hid ya;have s:=hid V;obtain ⟨Ac,cc,rfl,-⟩:=id xj;have xq:=hid (HL.out.up xd);rw [V];rw [V] at M;have za:j≤n:=y40_;clear xe xj xd ya V yy
    go_wp2_with fail
    refine (Xc5 ms _ _ c _ xq.out Hs.out M.out D.out).mono ?_;rintro e w5 ⟨va,rfl,yk,xb⟩;have xk:=hid yk;have xs:=hid (M.out.up xb);have xm:=hid (Z0_ xn.out (le_refl _) xb);obtain ⟨Aa,ca,rfl,-⟩:=yk;obtain ⟨N,hN⟩:∃ N:Nat,n+ms.length=N:=⟨_,rfl⟩;have yq:=hid hN;have zg:IntKind.i64.wrap ((n:Int)+(ms.length:Int))=(N:Int):=y41_;clear xb hN M xn xq
    go_wp2_with fail
    refine (D5_ (N:Int) _).mono ?_;rintro e w6 ⟨v6,rfl,yh,y7⟩;have P:=hid yh;obtain ⟨A6,c6,rfl,-⟩:=yh
    go_wp2_with fail
    refine (D5_ (n:Int) _).mono ?_;rintro e w7 ⟨v7,rfl,yi,xc⟩;have xv:=hid yi;obtain ⟨A7,c7,rfl,-⟩:=yi;have xw:=hid (show (allL (N:Int)).length≤1048576 by have:=(C8_ (N:Int)).1;omega);have xx:=hid (show (allL (n:Int)).length≤1048576 by have:=(C8_ (n:Int)).1;omega);have yu:Hid (Z8_ (allL (N:Int)) (allL (n:Int))=endsU ms n):=hid (by
     have h:=Zn9 (ms:=ms) (c:=c) D.out (by rw [s.out];exact xf)
     rwa [s.out,yq.out] at h)
    have R:=Z0_ y7 (le_refl _) xc;have p:=hid (xk.out.up R);have o:=hid (xs.out.up R);have r:=hid (Z0_ xm.out (le_refl _) R);replace P:=hid (P.out.up xc);clear y7 xc R xk xs xm
    go_wp2_with fail
    refine (E6_ _ _ (allL (N:Int)) (allL (n:Int)) _ P.out xv.out xw.out xx.out).mono ?_;rintro e w8 ⟨v8,rfl,xi,S⟩;rw [yu.out] at xi;have C:=hid xi;obtain ⟨A8,c8,rfl,-⟩:=xi;replace p:=hid (p.out.up S);replace o:=hid (o.out.up S);replace r:=hid (Z0_ r.out (le_refl _) S);have xy:=hid (show c.length≤1048576 by have:=s.out;omega);clear S P xv xw xx
    go_wp2_with fail
    refine (D7_ _ c (-1) _ o.out xy.out).mono ?_;rintro e w9 ⟨v9,rfl,yj,I⟩;have O:=hid yj;obtain ⟨A9,c9,rfl,-⟩:=yj;replace p:=hid (p.out.up I);replace o:=hid (o.out.up I);replace C:=hid (C.out.up I);replace r:=hid (Z0_ r.out (le_refl _) I);have T:=A2_ D.out;have x4:=K5_ D.out;have yb:PtsP (adjU ms c).length (endsU ms n):=by
     rw [E2_,← s.out];exact Zw2 D.out (by rw [s.out];exact xf)
    have x7:=hid T;have x8:=hid x4;have xz:=hid yb;clear I yb;rcases Ya3 (dst:=endsU ms n) T x4 with ⟨d,x0,l0,U⟩ | xg
    ·obtain ⟨l,hl⟩:∃ l,x0 :: l0=l:=⟨_,rfl⟩
     rw [hl] at U;have y0:=hid (show Greedy (adjU ms c) (endsU ms c.length) (Z3_ c (-1)) d l by rw [s.out];exact U);have x6:Hid (Yu8 (adjU ms c) (Z3_ c (-1)) (endsU ms n) l true):=hid (.inl ⟨rfl,d,U⟩);clear U hl T x4
     go_wp2_with fail
     refine (Zn4 (adjU ms c) (Z3_ c (-1)) (endsU ms n) l true x7.out x8.out xz.out x6.out _ _ _ _ p.out O.out C.out).mono ?_;rintro e ym ⟨z3,rfl,Y,y⟩;have xu:=hid Y;replace o:=hid (o.out.up y);replace r:=hid (Z0_ r.out (le_refl _) y);obtain ⟨z8,z9,rfl,-⟩:=Y;obtain ⟨q,m,K,hw⟩:=Yt1 (c:=c) y0.out;have z0:=hw.len;have hpt:=hw.pt;have hK:=hw.hK;have yz:=s.out;have y8:0<c.length:=by have:=(hw.el 0 (Nat.zero_le _)).1;omega
     have z2:m+1≤c.length:=Yb3 hw;have x9:∀ i,i<l.length→(i≤m∧q i<c.length∧l.getD i 0=(q i:Int))∨(i=m+1∧l.getD i 0=(c.length:Int)+(K:Int)):=fun i J=>z16_;have y4:=hid (Xc9 _ _ c l ym (by have h:=o.out;rw [← s.out] at h;exact h) xu.out y40_ y40_ y40_ y8
      (fun i J=>by
       rcases x9 i y40_ with ⟨Q,h2,h3⟩ | ⟨Q,h3⟩
       ·omega
       ·omega)
      (fun i J=>by
       rcases x9 i J with ⟨Q,h2,h3⟩ | ⟨Q,h3⟩
       ·omega
       ·omega))
     rw [s.out] at y4;clear y hw x9 z0 hpt hK z2 yz y8 xu O C p
     go_wp2_with fail
     refine y4.out.mono ?_;rintro e z6 ⟨z4,rfl,L,z⟩;have yr:=hid L;have yn:=hid (Z0_ r.out (le_refl _) z);clear L z;go_wp2
     go_roundg (n - j)
     case measure=>omega
     case rel=>exact ⟨_,V9_ c l c,j+1,rfl,.succ xp.out y0.out,y40_,yr.out,yn.out⟩
    ·have yx:Hid (StopU ms c):=hid (by unfold StopU;rw [s.out];exact xg)
     have x6:Hid (Yu8 (adjU ms c) (Z3_ c (-1)) (endsU ms n) [] false):=hid (.inr ⟨rfl,rfl,xg⟩);clear xg T x4
     go_wp2_with fail
     refine (Zn4 (adjU ms c) (Z3_ c (-1)) (endsU ms n) [] false x7.out x8.out xz.out x6.out _ _ _ _ p.out O.out C.out).mono ?_;rintro e ym ⟨z3,rfl,Y,y⟩;replace o:=hid (o.out.up y);replace p:=hid (p.out.up y);replace r:=hid (Z0_ r.out (le_refl _) y);clear y Y O C
     go_wp2_with fail
     refine (D7_ _ c (-1) _ o.out xy.out).mono ?_;rintro e z6 ⟨z4,rfl,L,z⟩;have xt:=hid L;replace o:=hid (o.out.up z);replace p:=hid (p.out.up z);replace r:=hid (Z0_ r.out (le_refl _) z);clear L z
     go_wp2_with fail
     refine (Xa1 _ _ (adjU ms c) (Z3_ c (-1)) x7.out x8.out _ p.out xt.out).mono ?_;rintro e zi ⟨z5,rfl,yg,xa⟩;have yt:=hid yg;have ys:=hid (o.out.up xa);have yo:=hid (Z0_ r.out (le_refl _) xa);clear yg xa p xt;go_wp2;refine bodyPost_ret (v:=.tuple #[.slice Ac n cc,z5,.int .i64 0]) (by simp [results,Tryz.results20,go_sem]) rfl ?_;exact ⟨_,_,c,_,rfl,ys.out,yt.out,yo.out,⟨j,xp.out⟩,yx.out,rfl⟩
end Go.Proofs.YtigobiacbficaaaGreatDoor.Wp
