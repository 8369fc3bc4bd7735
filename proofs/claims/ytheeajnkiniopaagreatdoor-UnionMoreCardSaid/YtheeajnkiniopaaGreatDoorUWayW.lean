/- union's way, walked (written by gen_uway.py). -/
import Derived.Test.YtheeajnkiniopaaGreatDoorUTurn
import Derived.Test.YtheeajnkiniopaaGreatDoorVI10C
import Derived.Test.YtheeajnkiniopaaGreatDoorUAdj
import Derived.Test.YtheeajnkiniopaaGreatDoorYB
import Derived.Deep.CutBlock
import Derived.Deep.LoopGhost
import Derived.Deep.RegionHeld3
import Derived.Test.YtheeajnkiniopaaGreatDoorX0A
import Derived.Test.YtheeajnkiniopaaGreatDoorX0B
set_option maxHeartbeats 16000000
set_option maxRecDepth 100000
open Go.Lib (hid)
open Nat (le_refl)
namespace Go.Proofs.YtheeajnkiniopaaGreatDoor.Wp
private theorem x43_ {P:Prop} (h:P:=by simp [results,Tryz.results35,go_sem]):P:=h
open Go Go.RowKit
def RowA (w:World) (G:Nat) (v:Value) (zs:List Int):Prop:=Row w w.heap.size v zs∧∀ g,v.ownBlock=some g→G<g
theorem RowA.up {w w':World} {G:Nat} {v:Value} {zs:List Int} (h:RowA w G v zs) (hb:Below w.heap.size w w'):RowA w' G v zs:=⟨h.1.up hb,h.2⟩
theorem RowA.put {w:World} {G i:Nat} {u v:Value} {zs:List Int} (h:RowA w G v zs):RowA (w.setCell ⟨G,i,none⟩ u) G v zs:=by
 refine ⟨?_,h.2⟩;rw [show (w.setCell ⟨G,i,none⟩ u).heap.size=w.heap.size by simp];exact Ye5 h.1 (fun g c e=>by have:=h.2 g c;have e:g=G:=e;omega) u
structure WayS (W1 w:World) (G:Nat) (vs:List Value) (pp:List (List Int)) (vf vt vn vc:Value) (f t n c:List Int):Prop where
 adj:AdjR w G vs pp
 rf:RowA w G vf f
 rt:RowA w G vt t
 rn:RowA w G vn n
 rc:RowA w G vc c
 bel:Below G W1 w
section
variable {W1 w w':World} {G:Nat} {vs:List Value} {pp:List (List Int)} {vf vt vn vc:Value} {f t n c:List Int}
theorem WayS.up (h:WayS W1 w G vs pp vf vt vn vc f t n c) (hb:Below w.heap.size w w'):WayS W1 w' G vs pp vf vt vn vc f t n c :=
 ⟨h.adj.up hb,h.rf.up hb,h.rt.up hb,h.rn.up hb,h.rc.up hb,h.bel.trans (hb.mono (Nat.le_of_lt h.adj.blk.lt))⟩
theorem WayS.put {i:Nat} {u:Value} {q:List Int} (h:WayS W1 w G vs pp vf vt vn vc f t n c) (d:RowA w G u q):WayS W1 (w.setCell ⟨G,i,none⟩ u) G (vs.set i u) (pp.set i q) vf vt vn vc f t n c :=
 ⟨h.adj.put d.1 d.2,h.rf.put,h.rt.put,h.rn.put,h.rc.put,h.bel.setCell (p:=⟨G,i,none⟩) (le_refl _) _⟩
end
theorem Vj7 (E:Nat→Addr) (ms:List Mat) (I Ao:Option Addr) (L K:Nat) (c:List Int) (w:World) (h:Cls ms c) (ui:0<c.length) (hl:MatL w w.heap.size (.slice I ms.length L) ms) (hs:∀ m∈ms,Sml m) (ho:Row w w.heap.size (.slice Ao c.length K) c) (hE:Env E w) :
  Calls Tryz.prog 35 #[.agg #[.slice I ms.length L,.slice Ao c.length K]] w fun e w'=>∃ (vw vb:Value) (l t:List Int),e=.returned (.tuple #[vw,vb])∧Row w' w'.heap.size vw l∧Row w' w'.heap.size vb t∧Below w.heap.size w w'∧(∀ g,vw.ownBlock=some g→w.heap.size≤g)∧((∃ d,Greedy (adjU ms c) (endsU ms c.length) (Z3_ c (-1)) d l)∨(l=[]∧StopU ms c∧t=comeU ms c)):=by
 obtain ⟨R,ub,_⟩:=Row.nth ho ui;subst ub;have x8:=h.n64;have ug:=h.many.2;have v6:(c.length:Int)≤64:=x37_;have v5:(ms.length:Int)≤8:=x37_;obtain ⟨W0,hW0⟩:∃ W0,W0=w.alloc (.cells #[.slice I ms.length L,.slice (some R) c.length K] 47):=⟨_,rfl⟩;have zz:=hid hW0;have xb:Below w.heap.size w W0:=q39_;have z4:Blk W0 w.heap.size 47 #[.slice I ms.length L,.slice (some R) c.length K]:=y41_;have u0:=hid xb;have H:=hid z4;have HL:=hid (hl.up xb);have HO:=hid (ho.up xb);have HE:=hid (hE.up xb);have Hs:=hid hs;have j:=hid h;clear xb z4 hl ho hE hs h;have b0:=H.out.cell 0;have b1:=H.out.cell 1;rw [hW0] at b0 b1;clear hW0
 go_enter Tryz.func35,Tryz.ntmps35
 go_wp2_with fail
 rw [← zz.out];refine (E5_ (c.length:Int) W0).mono ?_;rintro e W1 ⟨va,rfl,yc,x4⟩;have HA:=hid yc;have y2:=hid (Z0_ u0.out (le_refl _) x4);replace H:=hid (H.out.below x4 H.out.lt);replace HL:=hid (HL.out.up x4);replace HO:=hid (HO.out.up x4);replace HE:=hid (HE.out.up x4);obtain ⟨Aa,ca,rfl,_⟩:=id yc;have z1:(allL (c.length:Int)).length=c.length:=by have:=(I7_ (c.length:Int)).2 x37_ x37_;omega
 have y0:=hid z1;obtain ⟨N,hN⟩:∃ N:Nat,c.length+ms.length=N:=⟨_,rfl⟩;have O:=hid hN;have v0:(N:Int)≤72:=x37_;have uz:(1:Int)≤(N:Int):=x37_;have v8:IntKind.i64.wrap ((c.length:Int)+(ms.length:Int))=(N:Int):=q38_;clear b0 b1 yc x4 z1 hN;have b0:=H.out.cell 0;have b1:=H.out.cell 1;have uh:=run_make_row' 35 23 (.slice none 0 0) 24 Tryz.underlying35 Ye0 rfl .i64 .i64 N x37_ x37_ W1;obtain ⟨Y,hY⟩:∃ Y,W1.alloc (.cells (madeCells #[.slice none 0 0] N) 23)=Y:=⟨_,rfl⟩;obtain ⟨G,hG⟩:∃ G,W1.heap.size=G:=⟨_,rfl⟩;have HY:=hid hY;have HG:=hid hG;have x7:Below W1.heap.size W1 Y:=by rw [← hY];exact (Below.refl _ W1).alloc (le_refl _) _
 have xj:Hid (AdjR Y G (List.replicate N (.slice none 0 0)) (List.replicate N [])):=hid (AdjR.made (by rw [← hY,← hG];exact Blk.new W1 _ _));have z0:G<Y.heap.size:=by rw [← hY,← hG];simp
 have uv:=hid x7;have zq:Hid ((allL (N:Int)).length=N):=hid (by have:=(I7_ (N:Int)).2 x37_ x37_;omega);have u4:Hid (Z9_ (allL (N:Int)) (allL (c.length:Int))=endsU ms c.length):=hid (by rw [← O.out];exact Xy9 j.out x8);have yk:=hid (HO.out.up x7);have yh:=hid (HA.out.up x7);have yi:=hid (H.out.below x7 H.out.lt);have ys:=hid x7;have y1:=yi.out.cell 1;rw [← hY] at y1;clear hY x7
 go_wp2_with fail
 rw [HY.out];refine (G0_ _ c (-1) Y yk.out x37_).mono ?_;rintro e w3 ⟨vf,rfl,yd,x5,za⟩;have HF:=hid yd;have xy:Hid (∀ g,vf.ownBlock=some g→G<g):=hid fun g o=>Nat.lt_of_lt_of_le z0 (za g o);have u1:=hid x5;obtain ⟨Af,cf,rfl,_⟩:=id yd;clear y1 yd za uh b0 b1
 go_wp2_with fail
 refine (E5_ (N:Int) w3).mono ?_;rintro e w4 ⟨vn,rfl,ye,x6⟩;have yj:=hid ye;have xm:=hid (Z0_ x5 (le_refl _) x6);replace HF:=hid (HF.out.up x6);obtain ⟨An,cn,rfl,_⟩:=id ye;clear ye x5 x6 u1
 go_wp2_with fail
 refine (N2_ _ _ (allL (N:Int)) (allL (c.length:Int)) w4 yj.out (yh.out.up xm.out) (by rw [zq.out];omega) (by rw [y0.out];omega)).mono ?_;rintro e w5 ⟨vt,rfl,xu,y5,zd⟩;rw [u4.out] at xu;have HT:=hid xu;have yr:Hid (∀ g,vt.ownBlock=some g→G<g):=hid fun g o=>Nat.lt_of_lt_of_le (Nat.lt_of_lt_of_le z0 xm.out.size) (zd g o);have y3:=hid (Z0_ xm.out (le_refl _) y5);replace HF:=hid (HF.out.up y5);replace xj:=hid (xj.out.up y3.out);obtain ⟨x9,ct,rfl,_⟩:=id xu;have uw:Hid ((endsU ms c.length).length=ms.length):=hid (by unfold endsU upTo;simp);clear xu y5 zd yj xm;have yo:Hid (WayS W1 w5 G (List.replicate N (.slice none 0 0)) (List.replicate N []) (.slice Af (Z3_ c (-1)).length cf) (.slice x9 (endsU ms c.length).length ct) (.slice none 0 0) (.slice Af (Z3_ c (-1)).length cf) (Z3_ c (-1)) (endsU ms c.length) (nearU ms c 0) (lev ms c 0)):=hid ⟨xj.out,⟨HF.out,xy.out⟩,⟨HT.out,yr.out⟩,⟨Row.nil_ _ _,fun g o=>by cases o⟩,⟨HF.out,xy.out⟩,by rw [← HG.out];exact Z0_ ys.out (le_refl _) y3.out⟩;have yl:Hid (Part ms c 0 (List.replicate N [])):=hid (by rw [← O.out];exact Part.start);have x1:Hid (∀ W,Below G W1 W→MatL W W.heap.size (.slice I ms.length L) ms∧Row W W.heap.size (.slice (some R) c.length K) c∧Env E W∧Blk W w.heap.size 47 #[.slice I ms.length L,.slice (some R) c.length K]∧Row W W.heap.size (.slice Aa (allL (c.length:Int)).length ca) (allL (c.length:Int))∧∀ x,x<c.length→W.cell? (R.add x)=some (.int .i64 (c.getD x 0))):=hid (by
  rw [← HG.out];intro W V;refine ⟨HL.out.up V,HO.out.up V,HE.out.up V,H.out.below V H.out.lt,HA.out.up V,fun x B=>?_⟩;obtain ⟨a2,U,h3⟩:=Row.nth HO.out B;obtain rfl:=Option.some.inj U;exact h3 W V)
 clear xj HF HT xy yr yk yh yi ys y3
 go_wp2_with fail
 clear HY
 go_loopg [8,9] 80 (fun k vn vc wr=>∃ (r:Nat) (vs:List Value) (pp:List (List Int)),(nearU ms c r).length+k=80∧WayS W1 wr G vs pp (.slice Af (Z3_ c (-1)).length cf) (.slice x9 (endsU ms c.length).length ct) vn vc (Z3_ c (-1)) (endsU ms c.length) (nearU ms c r) (lev ms c r)∧Part ms c r pp∧∀ k,k<r→D9_ ms c k)
 case atStart=>exact ⟨0,_,_,rfl,yo.out,yl.out,fun k hk=>absurd hk (Nat.not_lt_zero _)⟩
 case round =>
  obtain ⟨r,vs,pp,hk,xv,hp,zg⟩:=hrel;obtain ⟨xi,xn,un,_⟩:=id xv.rn.1;obtain ⟨Ac,cc,um,_⟩:=id xv.rc.1;subst un um;have T:=hid xv;have Q:=hid hp;have P:=hid zg;have ue:(lev ms c r).length≤72:=by have:=Y4_ (H9_ j.out r);rw [F5_] at this;omega
  have yv:=hid ue;clear xv hp zg yo yl;by_cases v2:(nearU ms c r).length<(lev ms c r).length
  ·have uc:((nearU ms c r).length:Int)<((lev ms c r).length:Int):=by omega
   go_wp2_with fail
   refine (N2_ _ _ (lev ms c r) (nearU ms c r) wr T.out.rc.1 T.out.rn.1 x37_ x37_).mono ?_;rintro e w6 ⟨ur,rfl,xr,z3,zb⟩;have yt:Hid ((Z9_ (lev ms c r) (nearU ms c r)).length≤72):=hid (by have:=Zx4 (lev ms c r) (nearU ms c r);omega);have xx:=hid (Yo2 j.out P.out);obtain ⟨far,y8⟩:∃ far,Z9_ (lev ms c r) (nearU ms c r)=far:=⟨_,rfl⟩;have xa:=hid y8;rw [y8] at xr yt xx;clear y8;have u9:G<wr.heap.size:=T.out.adj.blk.lt;have zx:Hid (RowA w6 G ur far):=hid ⟨xr,fun g o=>Nat.lt_of_lt_of_le u9 (zb g o)⟩;replace T:=hid (T.out.up z3);obtain ⟨Ar,cr,rfl,_⟩:=id xr;clear xr z3 zb;have v1:(far.length:Int)≤72:=by have:=yt.out;omega
   go_upto_block 2 with fail
   go_cut [] from 38 to 101 (fun wx=>∃ (x3:List Value) (C:List (List Int)),WayS W1 wx G x3 C (.slice Af (Z3_ c (-1)).length cf) (.slice x9 (endsU ms c.length).length ct) (.slice xi (nearU ms c r).length xn) (.slice Ac (lev ms c r).length cc) (Z3_ c (-1)) (endsU ms c.length) (nearU ms c r) (lev ms c r)∧RowA wx G (.slice Ar far.length cr) far∧Roomed ms c r pp C)
   case first =>
    go_wp2_with fail
    go_loopw [12,48] (fun _ vk wx=>∃ (k:Nat) (x3:List Value),vk=.int .i64 k∧k≤far.length∧WayS W1 wx G x3 (putsU (A1_ ms c) (far.take k) pp) (.slice Af (Z3_ c (-1)).length cf) (.slice x9 (endsU ms c.length).length ct) (.slice xi (nearU ms c r).length xn) (.slice Ac (lev ms c r).length cc) (Z3_ c (-1)) (endsU ms c.length) (nearU ms c r) (lev ms c r)∧RowA wx G (.slice Ar far.length cr) far) (fun _ vk _=>far.length - (intOf vk).toNat)
    case atStart=>exact ⟨0,_,rfl,Nat.zero_le _,T.out,zx.out⟩
    case round =>
     obtain ⟨k,x3,rfl,ud,x0,xg⟩:=hrel;have D:=hid x0;have S:=hid xg;clear x0 xg;by_cases X:k<far.length
     ·have uf:(k:Int)<(far.length:Int):=by omega
      have yg:=xx.out _ (Q5_ 0 X);obtain ⟨x,B⟩:∃ x:Nat,far.getD k 0=(x:Int):=⟨(far.getD k 0).toNat,x37_⟩;rw [B] at yg;have xw:x<c.length:=x37_;have yf:x<N:=by have:=O.out;omega
      have uo:(x:Int)<(N:Int):=x37_;have v9:(x:Int)<(c.length:Int):=x37_;obtain ⟨af,hA,xc⟩:=Row.nth S.out.1 X;subst hA;have g0:=xc _ (Below.refl _ _);rw [B] at g0;have HX:=hid B;obtain ⟨k1,k2,k3,M,k5,k6⟩:=x1.out _ D.out.bel;have b0:=M.cell 0;have b1:=M.cell 1;have Hu:=hid (Xi8 E ms I (some R) L K c x _ k1 Hs.out k2 x8 ug xw k3);clear k1 k2 k3 M k5 k6 xc B
      go_wp2_with fail
      refine Hu.out.mono ?_;rintro e w7 ⟨vq,rfl,xt,y6,zc⟩;have Z:=Yx9 (f:=A1_ ms c) (pp:=pp) X;rw [HX.out,Int.toNat_natCast] at Z;obtain ⟨q,hq⟩:∃ q,A1_ ms c (x:Int)=q:=⟨_,rfl⟩;rw [hq] at xt Z;have HQ:=hid hq;have xz:=hid Z;have ua:=D.out.adj.blk.lt;have zy:Hid (RowA w7 G vq q):=hid ⟨xt,fun g o=>Nat.lt_of_lt_of_le ua (zc g o)⟩;have yp:=hid (D.out.up y6);have zw:=hid (S.out.up y6);have HS8:=hid (yp.out.put (i:=x) zy.out);have HR8:=hid (zw.out.put (i:=x) (u:=vq));rw [← xz.out] at HS8;obtain ⟨A9,c9,n1,n2⟩:=yp.out.adj.nth (i:=x) (by rw [M6_,Q.out.len,O.out];exact yf);obtain ⟨k1,k2,k3,M,k5,k6⟩:=x1.out _ HS8.out.bel;have e1:=k6 x xw;have e2:=M.cell 0;have e3:=M.cell 1;obtain ⟨z,hz⟩:∃ z,c.getD x 0=z:=⟨_,rfl⟩;rw [hz] at e1;have HZ:=hid hz;obtain ⟨Aq,cq,rfl,_⟩:=id xt;clear k1 k2 k3 M k5 k6 hz xt y6 zc hq Z Hu;by_cases zo:z=-1
      ·subst zo
       by_cases xp:q=[]
       ·have ul:¬ (0:Int)<(q.length:Int):=by rw [xp];simp
        clear xp;exact q14_
       ·have v7:0<q.length:=List.length_pos_iff.2 xp
        have ul:(0:Int)<(q.length:Int):=x37_
        go_wp2_with fail
        go_meet
        refine ⟨_,_,HS8.out,HR8.out,?_⟩;have h:=Xy8 j.out P.out Q.out (k:=k) (x:=x) (by rw [xa.out];exact X) (by rw [xa.out];exact HX.out) HZ.out (by rw [HQ.out];exact xp);rw [xa.out] at h;exact h
      ·have vd:(z==-1)=false:=by simpa using zo
       exact q14_
     ·have y9:k=far.length:=by omega
      subst y9;rw [List.take_length] at D
      go_wp2_with fail
      go_meet
      have h:=Xy7 j.out P.out Q.out;rw [xa.out] at h;exact ⟨_,_,D.out,S.out,h⟩
   case rest =>
    obtain ⟨x3,C,x0,xg,xs⟩:=hcut;have D:=hid x0;have S:=hid xg;have xk:=hid xs;have xf:C.length=N:=by rw [xs.len,Q.out.len,O.out]
    have x2:=x0.adj.rows x37_;rw [xf] at x2;have z6:=xs.dig j.out Q.out;have zk:PtsP C.length (Z3_ c (-1)):=by rw [xf,← O.out,← F5_];exact M8_ j.out
    have zl:PtsP C.length (endsU ms c.length):=by rw [xf,← O.out];exact Yo3 j.out x8
    have yw:=hid (Zp5 _ _ _ C (Z3_ c (-1)) (endsU ms c.length) _ x2 x0.rf.1 x0.rt.1 z6 zk zl);clear x0 xg xs x2 z6 zk zl
    go_wp2_with fail
    refine yw.out.mono ?_;rintro e w9 ⟨u,l,b,rfl,hu,xo,ze,uk⟩;have z5:Below w.heap.size w w9:=Z0_ y2.out (le_refl _) (by rw [HG.out];exact (D.out.up xo).bel);have uy:w.heap.size≤G:=by rw [← HG.out];exact y2.out.size
    have zf:∀ g,u.ownBlock=some g→w.heap.size≤g:=fun g o=>by
     have h1:=ze g o;have U:=D.out.adj.blk.lt;omega
    have yu:=hid zf;have u3:=hid z5;replace D:=hid (D.out.up xo);replace S:=hid (S.out.up xo);have HU:=hid hu;obtain ⟨Au,cu,rfl,_⟩:=id hu;have xl:=hid fun B=>xk.out.way j.out P.out Q.out B;clear hu xo ze z5 zf yw;rcases uk with ⟨rfl,nn,x,l',rfl,xd⟩ | ⟨rfl,rfl,zh⟩
    ·have u5:Hid (∃ d,Greedy (adjU ms c) (endsU ms c.length) (Z3_ c (-1)) d (x :: l')):=hid (by
      by_cases B:∃ x:Nat,Lev ms c r (x:Int)∧A1_ ms c (x:Int)≠[]
      ·obtain ⟨d,l0,h1,U⟩:=xl.out B
       rw [xd.unique U];exact ⟨d,h1⟩
      ·have uj:=(xk.out.none j.out P.out Q.out fun y hy=>Classical.byContradiction fun hn=>B ⟨y,hy,hn⟩).2
       have hl:=xd.length;exact (uj nn _ xd.first (by simpa using xd.near 0 x37_)).elim)
     clear xd xl
     go_wp2_with fail
     refine bodyPost_ret (v:=.tuple #[.slice Au (x :: l').length cu,.slice none 0 0]) x43_ rfl ?_;exact ⟨_,_,_,[],rfl,HU.out,Row.nil_ _ _,u3.out,yu.out,.inl u5.out⟩
    ·have zt:Hid (D9_ ms c r):=hid (xk.out.none j.out P.out Q.out fun y hy=>Classical.byContradiction fun hn=>by
      obtain ⟨d,l0,_,U⟩:=xl.out ⟨y,hy,hn⟩;have hl:=U.length;exact zh _ U.first d (by simpa using U.near 0 x37_)).1
     clear zh xl HU yu
     go_wp2_with fail
     go_loopw [16,84] (fun _ vk wx=>∃ (k:Nat) (x3:List Value),vk=.int .i64 k∧k≤far.length∧WayS W1 wx G x3 (putsU (rowU ms c r) (far.take k) C) (.slice Af (Z3_ c (-1)).length cf) (.slice x9 (endsU ms c.length).length ct) (.slice xi (nearU ms c r).length xn) (.slice Ac (lev ms c r).length cc) (Z3_ c (-1)) (endsU ms c.length) (nearU ms c r) (lev ms c r)∧RowA wx G (.slice Ar far.length cr) far) (fun _ vk _=>far.length - (intOf vk).toNat)
     case atStart=>exact ⟨0,_,rfl,Nat.zero_le _,D.out,S.out⟩
     case round =>
      obtain ⟨k,ve,rfl,ud,zn,xh⟩:=hrel;have F:=hid zn;have ym:=hid xh;clear zn xh D S;by_cases X:k<far.length
      ·have uf:(k:Int)<(far.length:Int):=by omega
       have yg:=xx.out _ (Q5_ 0 X);obtain ⟨x,B⟩:∃ x:Nat,far.getD k 0=(x:Int):=⟨(far.getD k 0).toNat,x37_⟩;rw [B] at yg;have xw:x<c.length:=x37_;have yf:x<N:=by have:=O.out;omega
       have uo:(x:Int)<(N:Int):=x37_;obtain ⟨af,hA,xc⟩:=Row.nth ym.out.1 X;subst hA;have g0:=xc _ (Below.refl _ _);rw [B] at g0;have Z:=Yx9 (f:=rowU ms c r) (pp:=C) X;rw [B,Int.toNat_natCast] at Z;have xz:=hid Z;have u8:=hid (Xk1 j.out (r:=r) x8 (x:Int));have u6:Hid ((Z9_ (allL (c.length:Int)) (lev ms c r)).length≤64):=hid (by have:=Zx4 (allL (c.length:Int)) (lev ms c r);have:=y0.out;omega);have zj:x<(putsU (rowU ms c r) (far.take k) C).length:=by rw [M6_,xf];exact yf
       have u7:=hid zj;clear xc B Z zj;have y7:Below wr.heap.size wr wr.drew:=(Below.refl _ wr).drew;have J:=hid (F.out.up y7);have yn:=hid (ym.out.up y7);have s:Hid (Below wr.drew.heap.size wr.drew wr.drew):=hid (Below.refl _ _);have K1:Hid (∀ W,Below G W1 W→W.cell? ⟨w.heap.size,0,none⟩=some (.slice I ms.length L)∧W.cell? ⟨w.heap.size,1,none⟩=some (.slice (some R) c.length K)):=hid fun W V=>by
        obtain ⟨_,_,_,M,_⟩:=x1.out _ V;exact ⟨M.cell 0,M.cell 1⟩
       clear y7
       go_wp2_with fail
       go_region_held3 (fun W=>W.cell? ⟨w.heap.size,0,none⟩=some (.slice I ms.length L)∧W.cell? ⟨w.heap.size,1,none⟩=some (.slice (some R) c.length K))
        (first | exact K1.out _ (J.out.up s.out).bel | exact K1.out _ ((J.out.up s.out).bel.setCell (p:=⟨G,x,none⟩) (le_refl _) _))
        (first
        | (go_at_call 64;refine (N2_ _ _ (allL (c.length:Int)) (lev ms c r) _ (x1.out _ (J.out.up s.out).bel).2.2.2.2.1 (J.out.up s.out).rc.1 (by rw [y0.out];omega) (by have:=yv.out;omega)).mono ?_;rintro e w3 ⟨v3,rfl,xh,x5,_⟩;replace s:=hid (Z0_ s.out (le_refl _) x5);have zr:=hid xh;clear xh x5)
        | (go_at_call 67;refine (Yf8 E ms I (some R) L K c x _ (Z9_ (allL (c.length:Int)) (lev ms c r)) _ (x1.out _ (J.out.up s.out).bel).1 Hs.out (x1.out _ (J.out.up s.out).bel).2.1 zr.out x8 xw u6.out (Vo0 j.out x8) (x1.out _ (J.out.up s.out).bel).2.2.1).mono ?_;rintro e w4 ⟨v4,rfl,xq,x6,z9⟩;rw [u8.out] at xq;have yz:=(J.out.up s.out).adj.blk.lt;have zp:=hid (show RowA _ G v4 (rowU ms c r (x:Int)) from ⟨xq,fun g o=>Nat.lt_of_lt_of_le yz (z9 g o)⟩);replace s:=hid (Z0_ s.out (le_refl _) x6);obtain ⟨A9,c9,n1,n2⟩:=(J.out.up s.out).adj.nth (i:=x) u7.out;obtain ⟨Aq,cq,rfl,_⟩:=id xq;clear xq x6 z9 yz))
       all_goals
        have yq:=hid ((J.out.up s.out).put (i:=x) zp.out);have uu:=hid ((yn.out.up s.out).put (i:=x) (u:=.slice (some ⟨G,0,none⟩) 0 0));rw [← xz.out] at yq
        go_wp2_with fail
        go_roundw
        case rel=>exact ⟨k+1,_,y38_,x37_,yq.out,(yn.out.up s.out).put⟩
        exact mz_
      ·have y9:k=far.length:=by omega
       subst y9;rw [List.take_length] at F;have xe:=Xk0 j.out P.out Q.out xk.out;rw [xa.out] at xe;have ya:∀ k,k<r+1→D9_ ms c k:=fun k hk=>by
        by_cases e:k=r
        ·rw [e];exact zt.out
        ·exact P.out k x37_
       have zi:(putsU (rowU ms c r) far C).length=N:=by rw [M6_,xf]
       have z7:=xe.dig j.out;have zm:PtsP (putsU (rowU ms c r) far C).length (Z3_ c (-1)):=by rw [zi,← O.out,← F5_];exact M8_ j.out
       have x2:=F.out.adj.rows x37_;rw [zi] at x2;have y4:=hid (Zp6 _ _ (putsU (rowU ms c r) far C) (Z3_ c (-1)) _ x2 F.out.rf.1 z7 zm);rw [xe.come j.out ya] at y4;have zu:=hid xe;have zs:=hid ya;clear xe ya z7 zm x2
       go_wp2_with fail
       refine y4.out.mono ?_;rintro e us ⟨uq,rfl,yb,z2,z8⟩;have yy:=F.out.adj.blk.lt;have zv:Hid (RowA us G uq (lev ms c (r+1))):=hid ⟨yb,fun g o=>Nat.lt_of_lt_of_le yy (z8 g o)⟩;replace F:=hid (F.out.up z2);obtain ⟨ut,ux,rfl,_⟩:=id yb;clear yb z2 z8 yy y4
       go_wp2_with fail
       go_roundg (80 - (lev ms c r).length)
       case measure=>omega
       case rel=>exact ⟨r+1,_,_,by show (lev ms c r).length+_=80;have:=yv.out;omega,⟨F.out.adj,F.out.rf,F.out.rt,F.out.rc,zv.out,F.out.bel⟩,zu.out,zs.out⟩
  ·have uc:¬ ((nearU ms c r).length:Int)<((lev ms c r).length:Int):=by omega
   have yx:=hid (Yv0 j.out P.out x37_);have u2:Hid (Below w.heap.size w wr):=hid (Z0_ y2.out (le_refl _) (by rw [HG.out];exact T.out.bel))
   go_wp2_with fail
   refine bodyPost_ret (v:=.tuple #[.slice none 0 0,.slice xi (nearU ms c r).length xn]) x43_ rfl ?_;exact ⟨_,_,rfl,[],Row.nil_ _ _,nearU ms c r,T.out.rn.1,u2.out,(fun g o=>by cases o),.inr ⟨rfl,yx.out.2,yx.out.1.symm⟩⟩
end Go.Proofs.YtheeajnkiniopaaGreatDoor.Wp
