/- union's way, walked (written by gen_uway.py). -/
import Derived.Test.YtheeajnkiniopaaGreatDoorVI10C
import Derived.Test.YtheeajnkiniopaaGreatDoorUAdj
import Derived.Test.YtheeajnkiniopaaGreatDoorYB
import Derived.Deep.CutBlock
import Derived.Deep.LoopGhost
import Derived.Deep.RegionHeld3
import Derived.Test.YtheeajnkiniopaaGreatDoorURMay
import Derived.Test.YtheeajnkiniopaaGreatDoorX0A
import Derived.Test.YtheeajnkiniopaaGreatDoorX0B
set_option maxHeartbeats 16000000
set_option maxRecDepth 100000
open Go.Lib (hid)
open Nat (le_refl)
namespace Go.Proofs.YtheeajnkiniopaaGreatDoor.Wp
private theorem k45_ {P:Prop} (h:P:=by simp [results,Tryz.results35,go_sem]):P:=h
open Go Go.RowKit
def RowA (w:World) (G:Nat) (v:Value) (zs:List Int):Prop:=Row w w.heap.size v zs∧∀ g,v.ownBlock=some g→G<g
theorem RowA.up {w w':World} {G:Nat} {v:Value} {zs:List Int} (h:RowA w G v zs) (hb:Below w.heap.size w w'):RowA w' G v zs:=⟨h.1.up hb,h.2⟩
theorem RowA.put {w:World} {G i:Nat} {u v:Value} {zs:List Int} (h:RowA w G v zs):RowA (w.setCell ⟨G,i,none⟩ u) G v zs:=by
 refine ⟨?_,h.2⟩;rw [show (w.setCell ⟨G,i,none⟩ u).heap.size=w.heap.size by simp];exact Yf5 h.1 (fun g c e=>by have:=h.2 g c;have e:g=G:=e;omega) u
structure WayS (W1 w:World) (G:Nat) (vs:List Value) (pp:List (List Int)) (vf vt vn vc:Value) (f t n c:List Int):Prop where
 adj:AdjR w G vs pp
 rf:RowA w G vf f
 rt:RowA w G vt t
 rn:RowA w G vn n
 rc:RowA w G vc c
 bel:Below G W1 w
section
variable {W1 w w':World} {G:Nat} {vs:List Value} {pp:List (List Int)} {vf vt vn vc:Value} {f t n c:List Int}
theorem WayS.up (h:WayS W1 w G vs pp vf vt vn vc f t n c) (hb:Below w.heap.size w w'):WayS W1 w' G vs pp vf vt vn vc f t n c :=
 ⟨h.adj.up hb,h.rf.up hb,h.rt.up hb,h.rn.up hb,h.rc.up hb,h.bel.trans (hb.mono (Nat.le_of_lt h.adj.blk.lt))⟩
theorem WayS.put {i:Nat} {u:Value} {q:List Int} (h:WayS W1 w G vs pp vf vt vn vc f t n c) (d:RowA w G u q):WayS W1 (w.setCell ⟨G,i,none⟩ u) G (vs.set i u) (pp.set i q) vf vt vn vc f t n c :=
 ⟨h.adj.put d.1 d.2,h.rf.put,h.rt.put,h.rn.put,h.rc.put,h.bel.setCell (p:=⟨G,i,none⟩) (le_refl _) _⟩
end
theorem Vv0 (E:Nat→Addr) (ms:List Mat) (I Ao:Option Addr) (L K:Nat) (c:List Int) (w:World) (h:Cls ms c) (ui:0<c.length) (hl:MatL w w.heap.size (.slice I ms.length L) ms) (hs:∀ m∈ms,Sml m) (ho:Row w w.heap.size (.slice Ao c.length K) c) (hE:Env E w) :
  Calls Tryz.prog 35 #[.agg #[.slice I ms.length L,.slice Ao c.length K]] w fun e w'=>∃ (vw vb:Value) (l t:List Int),e=.returned (.tuple #[vw,vb])∧Row w' w'.heap.size vw l∧Row w' w'.heap.size vb t∧Below w.heap.size w w'∧(∀ g,vw.ownBlock=some g→w.heap.size≤g)∧((∃ d,Greedy (adjU ms c) (endsU ms c.length) (Z3_ c (-1)) d l)∨(l=[]∧StopU ms c∧t=comeU ms c)):=by
 obtain ⟨R,ub,_⟩:=Row.nth ho ui;subst ub;have x8:=h.n64;have ug:=h.many.2;have v6:(c.length:Int)≤64:=q40_;have v5:(ms.length:Int)≤8:=q40_;obtain ⟨W0,hW0⟩:∃ W0,W0=w.alloc (.cells #[.slice I ms.length L,.slice (some R) c.length K] 47):=⟨_,rfl⟩;have zz:=hid hW0;have xb:Below w.heap.size w W0:=q42_;have z4:Blk W0 w.heap.size 47 #[.slice I ms.length L,.slice (some R) c.length K]:=x44_;have u0:=hid xb;have H:=hid z4;have HL:=hid (hl.up xb);have HO:=hid (ho.up xb);have HE:=hid (hE.up xb);have Hs:=hid hs;have j:=hid h;clear xb z4 hl ho hE hs h;have b0:=H.out.cell 0;have b1:=H.out.cell 1;rw [hW0] at b0 b1;clear hW0
 go_enter Tryz.func35,Tryz.ntmps35
 go_wp2_with fail
 rw [← zz.out];refine (E8_ (c.length:Int) W0).mono ?_;rintro e W1 ⟨va,rfl,yc,x4⟩;have HA:=hid yc;have y2:=hid (Z0_ u0.out (le_refl _) x4);replace H:=hid (H.out.below x4 H.out.lt);replace HL:=hid (HL.out.up x4);replace HO:=hid (HO.out.up x4);replace HE:=hid (HE.out.up x4);obtain ⟨Aa,ca,rfl,_⟩:=id yc;have z1:(allL (c.length:Int)).length=c.length:=by have:=(C9_ (c.length:Int)).2 q40_ q40_;omega
 have y0:=hid z1;obtain ⟨N,hN⟩:∃ N:Nat,c.length+ms.length=N:=⟨_,rfl⟩;have O:=hid hN;have v0:(N:Int)≤72:=q40_;have uz:(1:Int)≤(N:Int):=q40_;have v8:IntKind.i64.wrap ((c.length:Int)+(ms.length:Int))=(N:Int):=k40_;clear b0 b1 yc x4 z1 hN;have b0:=H.out.cell 0;have b1:=H.out.cell 1;have uh:=run_make_row' 35 23 (.slice none 0 0) 24 Tryz.underlying35 Ye9 rfl .i64 .i64 N q40_ q40_ W1;obtain ⟨Y,hY⟩:∃ Y,W1.alloc (.cells (madeCells #[.slice none 0 0] N) 23)=Y:=⟨_,rfl⟩;obtain ⟨G,hG⟩:∃ G,W1.heap.size=G:=⟨_,rfl⟩;have HY:=hid hY;have HG:=hid hG;have x7:Below W1.heap.size W1 Y:=by rw [← hY];exact (Below.refl _ W1).alloc (le_refl _) _
 have xj:Hid (AdjR Y G (List.replicate N (.slice none 0 0)) (List.replicate N [])):=hid (AdjR.made (by rw [← hY,← hG];exact Blk.new W1 _ _));have z0:G<Y.heap.size:=by rw [← hY,← hG];simp
 have uv:=hid x7;have zq:Hid ((allL (N:Int)).length=N):=hid (by have:=(C9_ (N:Int)).2 q40_ q40_;omega);have u4:Hid (Z8_ (allL (N:Int)) (allL (c.length:Int))=endsU ms c.length):=hid (by rw [← O.out];exact Zl3 j.out x8);have yk:=hid (HO.out.up x7);have yh:=hid (HA.out.up x7);have yi:=hid (H.out.below x7 H.out.lt);have ys:=hid x7;have y1:=yi.out.cell 1;rw [← hY] at y1;clear hY x7
 go_wp2_with fail
 rw [HY.out];refine (B7_ _ c (-1) Y yk.out q40_).mono ?_;rintro e w3 ⟨vf,rfl,yd,x5,za⟩;have HF:=hid yd;have xy:Hid (∀ g,vf.ownBlock=some g→G<g):=hid fun g o=>Nat.lt_of_lt_of_le z0 (za g o);have u1:=hid x5;obtain ⟨Af,cf,rfl,_⟩:=id yd;clear y1 yd za uh b0 b1
 go_wp2_with fail
 refine (E8_ (N:Int) w3).mono ?_;rintro e w4 ⟨vn,rfl,ye,x6⟩;have yj:=hid ye;have xm:=hid (Z0_ x5 (le_refl _) x6);replace HF:=hid (HF.out.up x6);obtain ⟨An,cn,rfl,_⟩:=id ye;clear ye x5 x6 u1
 go_wp2_with fail
 refine (N2_ _ _ (allL (N:Int)) (allL (c.length:Int)) w4 yj.out (yh.out.up xm.out) (by rw [zq.out];omega) (by rw [y0.out];omega)).mono ?_;rintro e w5 ⟨vt,rfl,xu,y5,zd⟩;rw [u4.out] at xu;have HT:=hid xu;have yr:Hid (∀ g,vt.ownBlock=some g→G<g):=hid fun g o=>Nat.lt_of_lt_of_le (Nat.lt_of_lt_of_le z0 xm.out.size) (zd g o);have y3:=hid (Z0_ xm.out (le_refl _) y5);replace HF:=hid (HF.out.up y5);replace xj:=hid (xj.out.up y3.out);obtain ⟨x9,ct,rfl,_⟩:=id xu;have uw:Hid ((endsU ms c.length).length=ms.length):=hid (by unfold endsU upTo;simp);clear xu y5 zd yj xm;have yo:Hid (WayS W1 w5 G (List.replicate N (.slice none 0 0)) (List.replicate N []) (.slice Af (Z3_ c (-1)).length cf) (.slice x9 (endsU ms c.length).length ct) (.slice none 0 0) (.slice Af (Z3_ c (-1)).length cf) (Z3_ c (-1)) (endsU ms c.length) (nearU ms c 0) (lev ms c 0)):=hid ⟨xj.out,⟨HF.out,xy.out⟩,⟨HT.out,yr.out⟩,⟨Row.nil_ _ _,fun g o=>by cases o⟩,⟨HF.out,xy.out⟩,by rw [← HG.out];exact Z0_ ys.out (le_refl _) y3.out⟩;have yl:Hid (Part ms c 0 (List.replicate N [])):=hid (by rw [← O.out];exact Part.start);have x1:Hid (∀ W,Below G W1 W→MatL W W.heap.size (.slice I ms.length L) ms∧Row W W.heap.size (.slice (some R) c.length K) c∧Env E W∧Blk W w.heap.size 47 #[.slice I ms.length L,.slice (some R) c.length K]∧Row W W.heap.size (.slice Aa (allL (c.length:Int)).length ca) (allL (c.length:Int))∧∀ x,x<c.length→W.cell? (R.add x)=some (.int .i64 (c.getD x 0))):=hid (by
  rw [← HG.out];intro W V;refine ⟨HL.out.up V,HO.out.up V,HE.out.up V,H.out.below V H.out.lt,HA.out.up V,fun x B=>?_⟩;obtain ⟨a2,U,h3⟩:=Row.nth HO.out B;obtain rfl:=Option.some.inj U;exact h3 W V)
 clear xj HF HT xy yr yk yh yi ys y3
 go_wp2_with fail
 clear HY
 go_loopg [8,9] 80 (fun k vn vc wr=>∃ (r:Nat) (vs:List Value) (pp:List (List Int)),(nearU ms c r).length+k=80∧WayS W1 wr G vs pp (.slice Af (Z3_ c (-1)).length cf) (.slice x9 (endsU ms c.length).length ct) vn vc (Z3_ c (-1)) (endsU ms c.length) (nearU ms c r) (lev ms c r)∧Part ms c r pp∧∀ k,k<r→E3_ ms c k)
 case atStart=>exact ⟨0,_,_,rfl,yo.out,yl.out,fun k hk=>absurd hk (Nat.not_lt_zero _)⟩
 case round =>
  obtain ⟨r,vs,pp,hk,xv,hp,zg⟩:=hrel;obtain ⟨xi,xn,un,_⟩:=id xv.rn.1;obtain ⟨Ac,cc,um,_⟩:=id xv.rc.1;subst un um;have T:=hid xv;have Q:=hid hp;have P:=hid zg;have ue:(lev ms c r).length≤72:=by have:=Y7_ (H4_ j.out r);rw [D8_] at this;omega
  have yv:=hid ue;clear xv hp zg yo yl;by_cases v2:(nearU ms c r).length<(lev ms c r).length
  ·have uc:((nearU ms c r).length:Int)<((lev ms c r).length:Int):=by omega
   go_wp2_with fail
   refine (N2_ _ _ (lev ms c r) (nearU ms c r) wr T.out.rc.1 T.out.rn.1 q40_ q40_).mono ?_;rintro e w6 ⟨ur,rfl,xr,z3,zb⟩;have yt:Hid ((Z8_ (lev ms c r) (nearU ms c r)).length≤72):=hid (by have:=Zy8 (lev ms c r) (nearU ms c r);omega);have xx:=hid (Yp8 j.out P.out);obtain ⟨far,y8⟩:∃ far,Z8_ (lev ms c r) (nearU ms c r)=far:=⟨_,rfl⟩;have xa:=hid y8;rw [y8] at xr yt xx;clear y8;have u9:G<wr.heap.size:=T.out.adj.blk.lt;have zx:Hid (RowA w6 G ur far):=hid ⟨xr,fun g o=>Nat.lt_of_lt_of_le u9 (zb g o)⟩;replace T:=hid (T.out.up z3);obtain ⟨Ar,cr,rfl,_⟩:=id xr;clear xr z3 zb;have v1:(far.length:Int)≤72:=by have:=yt.out;omega
   go_upto_block 2 with fail
   go_cut [] from 38 to 101 (fun wx=>∃ (x3:List Value) (C:List (List Int)),WayS W1 wx G x3 C (.slice Af (Z3_ c (-1)).length cf) (.slice x9 (endsU ms c.length).length ct) (.slice xi (nearU ms c r).length xn) (.slice Ac (lev ms c r).length cc) (Z3_ c (-1)) (endsU ms c.length) (nearU ms c r) (lev ms c r)∧RowA wx G (.slice Ar far.length cr) far∧Roomed ms c r pp C)
   case first =>
    go_wp2_with fail
    go_loopw [12,48] (fun _ vk wx=>∃ (k:Nat) (x3:List Value),vk=.int .i64 k∧k≤far.length∧WayS W1 wx G x3 (putsU (A4_ ms c) (far.take k) pp) (.slice Af (Z3_ c (-1)).length cf) (.slice x9 (endsU ms c.length).length ct) (.slice xi (nearU ms c r).length xn) (.slice Ac (lev ms c r).length cc) (Z3_ c (-1)) (endsU ms c.length) (nearU ms c r) (lev ms c r)∧RowA wx G (.slice Ar far.length cr) far) (fun _ vk _=>far.length - (intOf vk).toNat)
    case atStart=>exact ⟨0,_,rfl,Nat.zero_le _,T.out,zx.out⟩
    case round =>
     obtain ⟨k,x3,rfl,ud,x0,xg⟩:=hrel;have D:=hid x0;have S:=hid xg;clear x0 xg;by_cases X:k<far.length
     ·have uf:(k:Int)<(far.length:Int):=by omega
      have yg:=xx.out _ (Q5_ 0 X);obtain ⟨x,B⟩:∃ x:Nat,far.getD k 0=(x:Int):=⟨(far.getD k 0).toNat,q40_⟩;rw [B] at yg;have xw:x<c.length:=q40_;have yf:x<N:=by have:=O.out;omega
      have uo:(x:Int)<(N:Int):=q40_;have v9:(x:Int)<(c.length:Int):=q40_;obtain ⟨af,hA,xc⟩:=Row.nth S.out.1 X;subst hA;have g0:=xc _ (Below.refl _ _);rw [B] at g0;have HX:=hid B;obtain ⟨k1,k2,k3,M,k5,k6⟩:=x1.out _ D.out.bel;have b0:=M.cell 0;have b1:=M.cell 1;have Hu:=hid (Xi0 E ms I (some R) L K c x _ k1 Hs.out k2 x8 ug xw k3);clear k1 k2 k3 M k5 k6 xc B
      go_wp2_with fail
      refine Hu.out.mono ?_;rintro e w7 ⟨vq,rfl,xt,y6,zc⟩;have Z:=Yj6 (f:=A4_ ms c) (pp:=pp) X;rw [HX.out,Int.toNat_natCast] at Z;obtain ⟨q,hq⟩:∃ q,A4_ ms c (x:Int)=q:=⟨_,rfl⟩;rw [hq] at xt Z;have HQ:=hid hq;have xz:=hid Z;have ua:=D.out.adj.blk.lt;have zy:Hid (RowA w7 G vq q):=hid ⟨xt,fun g o=>Nat.lt_of_lt_of_le ua (zc g o)⟩;have yp:=hid (D.out.up y6);have zw:=hid (S.out.up y6);have HS8:=hid (yp.out.put (i:=x) zy.out);have HR8:=hid (zw.out.put (i:=x) (u:=vq));rw [← xz.out] at HS8;obtain ⟨A9,c9,n1,n2⟩:=yp.out.adj.nth (i:=x) (by rw [M7_,Q.out.len,O.out];exact yf);obtain ⟨k1,k2,k3,M,k5,k6⟩:=x1.out _ HS8.out.bel;have e1:=k6 x xw;have e2:=M.cell 0;have e3:=M.cell 1;obtain ⟨z,hz⟩:∃ z,c.getD x 0=z:=⟨_,rfl⟩;rw [hz] at e1;have HZ:=hid hz;obtain ⟨Aq,cq,rfl,_⟩:=id xt;clear k1 k2 k3 M k5 k6 hz xt y6 zc hq Z Hu;by_cases zo:z=-1
      ·subst zo
       by_cases xp:q=[]
       ·have ul:¬ (0:Int)<(q.length:Int):=by rw [xp];simp
        clear xp;exact z15_
       ·have v7:0<q.length:=List.length_pos_iff.2 xp
        have ul:(0:Int)<(q.length:Int):=q40_
        go_wp2_with fail
        go_meet
        refine ⟨_,_,HS8.out,HR8.out,?_⟩;have h:=Xx0 j.out P.out Q.out (k:=k) (x:=x) (by rw [xa.out];exact X) (by rw [xa.out];exact HX.out) HZ.out (by rw [HQ.out];exact xp);rw [xa.out] at h;exact h
      ·have vd:(z==-1)=false:=by simpa using zo
       exact z15_
     ·have y9:k=far.length:=by omega
      subst y9;rw [List.take_length] at D
      go_wp2_with fail
      go_meet
      have h:=Xy9 j.out P.out Q.out;rw [xa.out] at h;exact ⟨_,_,D.out,S.out,h⟩
   case rest =>
    obtain ⟨x3,C,x0,xg,xs⟩:=hcut;have D:=hid x0;have S:=hid xg;have xk:=hid xs;have xf:C.length=N:=by rw [xs.len,Q.out.len,O.out]
    have x2:=x0.adj.rows q40_;rw [xf] at x2;have z6:=xs.dig j.out Q.out;have zk:PtsP C.length (Z3_ c (-1)):=by rw [xf,← O.out,← D8_];exact K1_ j.out
    have zl:PtsP C.length (endsU ms c.length):=by rw [xf,← O.out];exact Zs1 j.out x8
    have yw:=hid (Zr1 _ _ _ C (Z3_ c (-1)) (endsU ms c.length) _ x2 x0.rf.1 x0.rt.1 z6 zk zl);clear x0 xg xs x2 z6 zk zl
    go_wp2_with fail
    refine yw.out.mono ?_;rintro e w9 ⟨u,l,b,rfl,hu,xo,ze,uk⟩;have z5:Below w.heap.size w w9:=Z0_ y2.out (le_refl _) (by rw [HG.out];exact (D.out.up xo).bel);have uy:w.heap.size≤G:=by rw [← HG.out];exact y2.out.size
    have zf:∀ g,u.ownBlock=some g→w.heap.size≤g:=fun g o=>by
     have h1:=ze g o;have U:=D.out.adj.blk.lt;omega
    have yu:=hid zf;have u3:=hid z5;replace D:=hid (D.out.up xo);replace S:=hid (S.out.up xo);have HU:=hid hu;obtain ⟨Au,cu,rfl,_⟩:=id hu;have xl:=hid fun B=>xk.out.way j.out P.out Q.out B;clear hu xo ze z5 zf yw;rcases uk with ⟨rfl,nn,x,l',rfl,xd⟩ | ⟨rfl,rfl,zh⟩
    ·have u5:Hid (∃ d,Greedy (adjU ms c) (endsU ms c.length) (Z3_ c (-1)) d (x :: l')):=hid (by
      by_cases B:∃ x:Nat,Lev ms c r (x:Int)∧A4_ ms c (x:Int)≠[]
      ·obtain ⟨d,l0,h1,U⟩:=xl.out B
       rw [xd.unique U];exact ⟨d,h1⟩
      ·have uj:=(xk.out.none j.out P.out Q.out fun y hy=>Classical.byContradiction fun hn=>B ⟨y,hy,hn⟩).2
       have hl:=xd.length;exact (uj nn _ xd.first (by simpa using xd.near 0 q40_)).elim)
     clear xd xl
     go_wp2_with fail
     refine bodyPost_ret (v:=.tuple #[.slice Au (x :: l').length cu,.slice none 0 0]) k45_ rfl ?_;exact ⟨_,_,_,[],rfl,HU.out,Row.nil_ _ _,u3.out,yu.out,.inl u5.out⟩
    ·have zt:Hid (E3_ ms c r):=hid (xk.out.none j.out P.out Q.out fun y hy=>Classical.byContradiction fun hn=>by
      obtain ⟨d,l0,_,U⟩:=xl.out ⟨y,hy,hn⟩;have hl:=U.length;exact zh _ U.first d (by simpa using U.near 0 q40_)).1
     clear zh xl HU yu
     go_wp2_with fail
     go_loopw [16,84] (fun _ vk wx=>∃ (k:Nat) (x3:List Value),vk=.int .i64 k∧k≤far.length∧WayS W1 wx G x3 (putsU (rowU ms c r) (far.take k) C) (.slice Af (Z3_ c (-1)).length cf) (.slice x9 (endsU ms c.length).length ct) (.slice xi (nearU ms c r).length xn) (.slice Ac (lev ms c r).length cc) (Z3_ c (-1)) (endsU ms c.length) (nearU ms c r) (lev ms c r)∧RowA wx G (.slice Ar far.length cr) far) (fun _ vk _=>far.length - (intOf vk).toNat)
     case atStart=>exact ⟨0,_,rfl,Nat.zero_le _,D.out,S.out⟩
     case round =>
      obtain ⟨k,ve,rfl,ud,zn,xh⟩:=hrel;have F:=hid zn;have ym:=hid xh;clear zn xh D S;by_cases X:k<far.length
      ·have uf:(k:Int)<(far.length:Int):=by omega
       have yg:=xx.out _ (Q5_ 0 X);obtain ⟨x,B⟩:∃ x:Nat,far.getD k 0=(x:Int):=⟨(far.getD k 0).toNat,q40_⟩;rw [B] at yg;have xw:x<c.length:=q40_;have yf:x<N:=by have:=O.out;omega
       have uo:(x:Int)<(N:Int):=q40_;obtain ⟨af,hA,xc⟩:=Row.nth ym.out.1 X;subst hA;have g0:=xc _ (Below.refl _ _);rw [B] at g0;have Z:=Yj6 (f:=rowU ms c r) (pp:=C) X;rw [B,Int.toNat_natCast] at Z;have xz:=hid Z;have u8:=hid (Xm5 j.out (r:=r) x8 (x:Int));have u6:Hid ((Z8_ (allL (c.length:Int)) (lev ms c r)).length≤64):=hid (by have:=Zy8 (allL (c.length:Int)) (lev ms c r);have:=y0.out;omega);have zj:x<(putsU (rowU ms c r) (far.take k) C).length:=by rw [M7_,xf];exact yf
       have u7:=hid zj;clear xc B Z zj;have y7:Below wr.heap.size wr wr.drew:=(Below.refl _ wr).drew;have J:=hid (F.out.up y7);have yn:=hid (ym.out.up y7);have s:Hid (Below wr.drew.heap.size wr.drew wr.drew):=hid (Below.refl _ _);have K1:Hid (∀ W,Below G W1 W→W.cell? ⟨w.heap.size,0,none⟩=some (.slice I ms.length L)∧W.cell? ⟨w.heap.size,1,none⟩=some (.slice (some R) c.length K)):=hid fun W V=>by
        obtain ⟨_,_,_,M,_⟩:=x1.out _ V;exact ⟨M.cell 0,M.cell 1⟩
       clear y7
       go_wp2_with fail
       go_region_held3 (fun W=>W.cell? ⟨w.heap.size,0,none⟩=some (.slice I ms.length L)∧W.cell? ⟨w.heap.size,1,none⟩=some (.slice (some R) c.length K))
        (first | exact K1.out _ (J.out.up s.out).bel | exact K1.out _ ((J.out.up s.out).bel.setCell (p:=⟨G,x,none⟩) (le_refl _) _))
        (first
        | (go_at_call 64;refine (N2_ _ _ (allL (c.length:Int)) (lev ms c r) _ (x1.out _ (J.out.up s.out).bel).2.2.2.2.1 (J.out.up s.out).rc.1 (by rw [y0.out];omega) (by have:=yv.out;omega)).mono ?_;rintro e w3 ⟨v3,rfl,xh,x5,_⟩;replace s:=hid (Z0_ s.out (le_refl _) x5);have zr:=hid xh;clear xh x5)
        | (go_at_call 67;refine (Yg6 E ms I (some R) L K c x _ (Z8_ (allL (c.length:Int)) (lev ms c r)) _ (x1.out _ (J.out.up s.out).bel).1 Hs.out (x1.out _ (J.out.up s.out).bel).2.1 zr.out x8 xw u6.out (Vo1 j.out x8) (x1.out _ (J.out.up s.out).bel).2.2.1).mono ?_;rintro e w4 ⟨v4,rfl,xq,x6,z9⟩;rw [u8.out] at xq;have yz:=(J.out.up s.out).adj.blk.lt;have zp:=hid (show RowA _ G v4 (rowU ms c r (x:Int)) from ⟨xq,fun g o=>Nat.lt_of_lt_of_le yz (z9 g o)⟩);replace s:=hid (Z0_ s.out (le_refl _) x6);obtain ⟨A9,c9,n1,n2⟩:=(J.out.up s.out).adj.nth (i:=x) u7.out;obtain ⟨Aq,cq,rfl,_⟩:=id xq;clear xq x6 z9 yz))
       all_goals
        have yq:=hid ((J.out.up s.out).put (i:=x) zp.out);have uu:=hid ((yn.out.up s.out).put (i:=x) (u:=.slice (some ⟨G,0,none⟩) 0 0));rw [← xz.out] at yq
        go_wp2_with fail
        go_roundw
        case rel=>exact ⟨k+1,_,x41_,q40_,yq.out,(yn.out.up s.out).put⟩
        exact mz_
      ·have y9:k=far.length:=by omega
       subst y9;rw [List.take_length] at F;have xe:=Xm4 j.out P.out Q.out xk.out;rw [xa.out] at xe;have ya:∀ k,k<r+1→E3_ ms c k:=fun k hk=>by
        by_cases e:k=r
        ·rw [e];exact zt.out
        ·exact P.out k q40_
       have zi:(putsU (rowU ms c r) far C).length=N:=by rw [M7_,xf]
       have z7:=xe.dig j.out;have zm:PtsP (putsU (rowU ms c r) far C).length (Z3_ c (-1)):=by rw [zi,← O.out,← D8_];exact K1_ j.out
       have x2:=F.out.adj.rows q40_;rw [zi] at x2;have y4:=hid (Zr2 _ _ (putsU (rowU ms c r) far C) (Z3_ c (-1)) _ x2 F.out.rf.1 z7 zm);rw [xe.come j.out ya] at y4;have zu:=hid xe;have zs:=hid ya;clear xe ya z7 zm x2
       go_wp2_with fail
       refine y4.out.mono ?_;rintro e us ⟨uq,rfl,yb,z2,z8⟩;have yy:=F.out.adj.blk.lt;have zv:Hid (RowA us G uq (lev ms c (r+1))):=hid ⟨yb,fun g o=>Nat.lt_of_lt_of_le yy (z8 g o)⟩;replace F:=hid (F.out.up z2);obtain ⟨ut,ux,rfl,_⟩:=id yb;clear yb z2 z8 yy y4
       go_wp2_with fail
       go_roundg (80 - (lev ms c r).length)
       case measure=>omega
       case rel=>exact ⟨r+1,_,_,by show (lev ms c r).length+_=80;have:=yv.out;omega,⟨F.out.adj,F.out.rf,F.out.rt,F.out.rc,zv.out,F.out.bel⟩,zu.out,zs.out⟩
  ·have uc:¬ ((nearU ms c r).length:Int)<((lev ms c r).length:Int):=by omega
   have yx:=hid (Yj7 j.out P.out q40_);have u2:Hid (Below w.heap.size w wr):=hid (Z0_ y2.out (le_refl _) (by rw [HG.out];exact T.out.bel))
   go_wp2_with fail
   refine bodyPost_ret (v:=.tuple #[.slice none 0 0,.slice xi (nearU ms c r).length xn]) k45_ rfl ?_;exact ⟨_,_,rfl,[],Row.nil_ _ _,nearU ms c r,T.out.rn.1,u2.out,(fun g o=>by cases o),.inr ⟨rfl,yx.out.2,yx.out.1.symm⟩⟩
open Go Go.RowKit
theorem Vv1 {w:World} {g base n:Nat} {f:Nat→Int} (h:w.rowIs g 3 n fun i=>.int .i64 (f i)) (hb:base≤g) (m:n≤maxLen):w.ownsRow base 3 1 (.slice (some ⟨g,0,none⟩) n n) n (ints ((List.range n).map f)):=by
 obtain ⟨c,d,e,h3⟩:=h;refine ⟨by simp [ints],.inr ⟨g,n,c,rfl,hb,d,le_refl _,m,q40_,?_⟩⟩;apply List.ext_getElem
 ·simp [ints,e]
 ·intro i o j
  have k:i<n:=by simpa [ints] using j
  have:=h3 i k;rw [List.getElem_take];rw [Array.getElem?_eq_getElem q40_] at this;injection this with this;simp [ints,this]
theorem Yv5 {ms:List Mat} {c l:List Int} {p:Nat→Nat} {m K:Nat} (f:WayU ms c l p m K):m+1≤c.length:=by
 have g:((List.range (m+1)).map p).Nodup:=by
  refine List.pairwise_map.2 (List.pairwise_iff_getElem.2 fun i j d k q=>?_);rw [List.getElem_range,List.getElem_range];rw [List.length_range] at d k;exact fun e=>by have:=f.inj i j q40_ q40_ e;omega
 have h:(List.range (m+1)).map p ⊆ List.range c.length:=fun x o=>by
  obtain ⟨i,d,rfl⟩:=List.mem_map.1 o;rw [List.mem_range] at d ⊢;exact (f.el i q40_).1
 have h3:=Wp.K.nodup_le g h;simpa using h3
theorem Vv2 (x j:Option Addr) (m z q:Nat) (w:World) (x2:1≤m) (x3:m≤8) (K:Row w w.heap.size (.slice j 0 q) []) :
  Calls Tryz.prog 35 #[.agg #[.slice x m z,.slice j 0 q]] w fun e w'=>e=.returned (.tuple #[.slice none 0 0,.slice none 0 0])∧Below w.heap.size w w':=by
 obtain ⟨g,hW0⟩:∃ g,g=w.alloc (.cells #[.slice x m z,.slice j 0 q] 47):=⟨_,rfl⟩;have R:=hid hW0;have B:Below w.heap.size w g:=q42_;have J:Blk g w.heap.size 47 #[.slice x m z,.slice j 0 q]:=x44_;have U:=hid B;have c:=hid J;have y:=hid (K.up B);have x4:(m:Int)≤8:=q40_;clear B J K;have o:=c.out.cell 0;have p:=c.out.cell 1;rw [hW0] at o p;clear hW0
 go_enter Tryz.func35,Tryz.ntmps35
 go_wp2_with fail
 rw [← R.out];refine (E8_ 0 g).mono ?_;rintro e W1 ⟨va,rfl,E,s⟩;have N:=hid E;have V:=hid (Z0_ U.out (le_refl _) s);replace c:=hid (c.out.below s c.out.lt);replace y:=hid (y.out.up s);obtain ⟨Aa,ca,rfl,_⟩:=id E;have x6:IntKind.i64.wrap (0+(m:Int))=(m:Int):=k40_;have x5:(0:Int)+(m:Int)=(m:Int):=q40_;clear o p E s;have o:=c.out.cell 0;have p:=c.out.cell 1;have x0:=run_make_row' 35 23 (.slice none 0 0) 24 Tryz.underlying35 Ye9 rfl .i64 .i64 m q40_ q40_ W1;obtain ⟨Y,r⟩:∃ Y,W1.alloc (.cells (madeCells #[.slice none 0 0] m) 23)=Y:=⟨_,rfl⟩;have S:=hid r;have h:Below W1.heap.size W1 Y:=by rw [← r];exact (Below.refl _ W1).alloc (le_refl _) _
 have Q:=hid (y.out.up h);have d:=hid (N.out.up h);have O:=hid (c.out.below h c.out.lt);have Z:=hid (Z0_ V.out (le_refl _) h);have L:=O.out.cell 1;rw [← r] at L;clear r h
 go_wp2_with fail
 rw [S.out];refine (B7_ _ [] (-1) Y Q.out z40_).mono ?_;rintro e G ⟨vf,rfl,u,C,_⟩;have u:Row G G.heap.size vf []:=u;have H:=hid (Z0_ Z.out (le_refl _) C);replace d:=hid (d.out.up C);obtain ⟨M,cf,rfl,_⟩:=id u;clear L u x0 o p C
 go_wp2_with fail
 refine (E8_ (m:Int) G).mono ?_;rintro e w4 ⟨vn,rfl,F,D⟩;have P:=hid F;have W:=hid (Z0_ H.out (le_refl _) D);replace d:=hid (d.out.up D);obtain ⟨An,cn,rfl,_⟩:=id F;clear F D H
 go_wp2_with fail
 refine (N2_ _ _ (allL (m:Int)) (allL 0) w4 P.out d.out (by have:=(C9_ (m:Int)).1;omega) (by have:=(C9_ 0).1;omega)).mono ?_;rintro e w5 ⟨vt,rfl,x1,I,_⟩;have X:=hid (Z0_ W.out (le_refl _) I);clear x1 I
 go_wp2_with fail
 go_loopg [8,9] 0 (fun k vn vc wr=>vn=.slice none 0 0∧vc=.slice M 0 cf∧Below w.heap.size w wr)
 case atStart=>exact ⟨rfl,rfl,X.out⟩
 case round =>
  obtain ⟨rfl,rfl,hb⟩:=hrel;have T:=hid hb
  go_wp2_with fail
  refine bodyPost_ret (v:=.tuple #[.slice none 0 0,.slice none 0 0]) k45_ rfl ?_;exact ⟨rfl,T.out⟩
theorem Yo8 (E:Nat→Addr) (ms:List Mat) (v:Value) (w:World) (hl:MatL w w.heap.size v ms) (hs:∀ m∈ms,Sml m) (d:Env E w) (h:sevB ms=false) :
  Calls Tryz.prog 13 #[v] w fun e w'=>e=.returned (.tuple #[.slice none 0 0,.slice none 0 0,.int .i64 1])∧Below w.heap.size w w':=by
 have c:=hid (T0_ E ms v w hl hs d);rw [h] at c;obtain ⟨j,k,rfl,_⟩:=id hl;clear hl hs d
 go_enter Tryz.func13,Tryz.ntmps13
 go_wp2_with fail
 refine c.out.mono ?_;rintro e o ⟨rfl,hb⟩;have g:=hid hb;clear hb
 go_wp2_with fail
 refine bodyPost_ret (v:=.tuple #[.slice none 0 0,.slice none 0 0,.int .i64 1]) (by simp [results,Tryz.results13,go_sem]) rfl ?_;exact ⟨rfl,g.out⟩
theorem Xk0 (E:Nat→Addr) (ms:List Mat) (v:Value) (w:World) (hl:MatL w w.heap.size v ms) (hs:∀ m∈ms,Sml m) (hE:Env E w) (x8:sevB ms=true) :
  Calls Tryz.prog 13 #[v] w fun e w'=>∃ (vc vu:Value) (c u:List Int),e=.returned (.tuple #[vc,vu,.int .i64 0])∧Row w' w'.heap.size vc c∧Row w' w'.heap.size vu u∧Below w.heap.size w w'∧MaxU ms (nN (ms.getD 0 default)) c u:=by
 have xi:=hid (T0_ E ms v w hl hs hE);rw [x8] at xi;have D:=hid (sev_iff.1 x8).1;obtain ⟨x7,yi⟩:=D.out.many;obtain ⟨o,s,lv,iv,rfl,_,xq⟩:=MatL.one hl x7;have xh:=hid xq;have HL:=hid hl;have Hs:=hid hs;have HE:=hid hE;obtain ⟨n,V⟩:∃ n,nN (ms.getD 0 default)=n:=⟨_,rfl⟩;have yj:=D.out.n64;rw [V] at D yj;have ye:(ms.getD 0 default).n=(n:Int):=by
  have x:=(Y0_ (D.out.may 0 x7).1).1;rw [← V];omega
 have yu:(0:Int)<(ms.length:Int):=q40_;rw [V];clear hl hs hE xq x8 V
 go_enter Tryz.func13,Tryz.ntmps13
 go_wp2_with fail
 refine xi.out.mono ?_;rintro e y ⟨rfl,hb⟩;have Hb:=hid hb;clear hb;obtain ⟨X,z⟩:∃ X,X=y.alloc (.cells #[.int .i64 (-1)] 3):=⟨_,rfl⟩;have HX:=hid z;have xp:Below y.heap.size y X:=by rw [z];exact (Below.refl _ y).alloc (le_refl _) _
 have O:=hid (Z0_ Hb.out (le_refl _) xp);have q1:=(xh.out X O.out).2.1;rw [show o.add (0 * 6)=o by obtain ⟨x1,x2,x3⟩:=o;cases x3<;>simp [Addr.add],ye,z] at q1;have xy:X.cell? ⟨y.heap.size,0,none⟩=some (.int .i64 (-1)):=by rw [z];exact (Blk.new y 3 #[.int .i64 (-1)]).cell 0
 have xz:y.heap.size<X.heap.size:=by rw [z];simp
 clear z xp
 go_wp2_with fail
 rw [← HX.out];refine (R.repeat_any y.heap.size n X xy xz q40_).mono ?_;rintro e p ⟨rfl,W,xn⟩;obtain ⟨g,B⟩:∃ g,X.heap.size=g:=⟨_,rfl⟩;rw [B] at W;have xs:w.heap.size≤g:=by rw [← B];exact O.out.size
 have yo:g<p.heap.size:=World.rowIs.lt W;have ya:=hid (Z0_ O.out (le_refl _) xn);have xw:(List.range n).map (fun _=>(-1:Int))=List.replicate n (-1):=by
  refine List.ext_getElem z40_ fun i x h2=>by simp
 have x9:=Vv1 (base:=w.heap.size) W xs y41_;rw [xw] at x9;have xd:=hid x9;have Hg:=hid B;clear q1 xy xz W xn B xw x9;obtain ⟨P,Q⟩:∃ P,P=p.alloc (.cells #[.slice (some o) ms.length s,.slice (some ⟨g,0,none⟩) n n] 47):=⟨_,rfl⟩;have xg:=hid Q;have x4:Below p.heap.size p P:=by rw [Q];exact (Below.refl _ p).alloc (le_refl _) _
 have yc:Hid (Blk P p.heap.size 47 #[.slice (some o) ms.length s,.slice (some ⟨g,0,none⟩) n n]):=hid (by rw [Q];exact Blk.new p _ _);have y4:=hid (M1_ xd.out x4);have yb:=hid (Z0_ ya.out (le_refl _) x4);have yf:p.heap.size≠g:=q40_;clear Q x4 xd xh
 go_wp2_with fail
 rw [Hg.out,← xg.out];clear xg Hg HX O
 go_loopg [6,7] (n+1) (fun k _ _ wr=>∃ (c:List Int) (j:Nat),ChainU ms n j c∧j+k=n+1∧wr.ownsRow w.heap.size 3 1 (.slice (some ⟨g,0,none⟩) n n) n (ints c)∧Blk wr p.heap.size 47 #[.slice (some o) ms.length s,.slice (some ⟨g,0,none⟩) n n]∧Below w.heap.size w wr)
 case atStart=>exact ⟨List.replicate n (-1),0,.zero,q40_,y4.out,yc.out,yb.out⟩
 case round =>
  obtain ⟨c,j,x5,yr,Y,T,S⟩:=hrel;obtain ⟨U,I,yn⟩:=Zf7 D.out x5;have x0:=hid x5;have y7:=hid Y;have xc:=hid T;have y1:=hid S;have ym:=hid U;have C:=hid I;have J:Row wr wr.heap.size (.slice (some ⟨g,0,none⟩) n n) c:=Row.of_own Y I.symm;have y8:=hid J;have yp:g<wr.heap.size:=(Y.lt g rfl).2;have xm:Hid (Calls Tryz.prog 35 #[.agg #[.slice (some o) ms.length s,.slice (some ⟨g,0,none⟩) n n]] wr fun e w'=>∃ (M vb:Value) (l t:List Int),e=.returned (.tuple #[M,vb])∧Row w' w'.heap.size M l∧Row w' w'.heap.size vb t∧Below wr.heap.size wr w'∧(∀ g,M.ownBlock=some g→wr.heap.size≤g)∧((∃ d,Greedy (adjU ms c) (endsU ms n) (Z3_ c (-1)) d l)∨(l=[]∧StopU ms c∧t=comeU ms c))):=hid (by
   by_cases xu:n=0
   ·have hc:c=[]:=List.length_eq_zero_iff.1 q40_
    have L:=Yj7 U (r:=0) (fun k H=>absurd H (Nat.not_lt_zero _)) (by rw [hc];exact le_refl _);rw [xu,hc] at J;rw [xu];refine (Vv2 (some o) (some ⟨g,0,none⟩) ms.length s 0 wr x7 yi J).mono ?_;rintro e w' ⟨rfl,hb⟩;exact ⟨_,_,[],[],rfl,Row.nil_ _ _,Row.nil_ _ _,hb,(fun g B=>by cases B),.inr ⟨rfl,L.2,L.1.symm⟩⟩
   ·have h:=Vv0 E ms (some o) (some ⟨g,0,none⟩) s n c wr U q40_ (HL.out.up S) Hs.out (by rw [I];exact J) (HE.out.up S)
    rw [I] at h;exact h)
  have b0:=T.cell 0;have b1:=T.cell 1;clear x5 Y T S U I J
  go_wp2_with fail
  refine xm.out.mono ?_;rintro e w5 ⟨M,vb,l,t,rfl,xb,xa,G,xr,yk⟩;have N:=hid (xc.out.below G xc.out.lt);have y5:=hid (M1_ y7.out G);have xe:=hid (y8.out.up G);have Z:=hid (Z0_ y1.out (le_refl _) G);have y9:=hid xb;have xf:=hid xa;have y3:Hid (∀ k,M.ownBlock=some k→k≠g):=hid fun k H=>by have:=xr k H;omega
  obtain ⟨Aw,cw,rfl,_⟩:=id xb;obtain ⟨Ab,cb,rfl,_⟩:=id xa;clear b0 b1 xb xa G xr xm;have b0:=N.out.cell 0;have b1:=N.out.cell 1;rcases yk with ⟨d,x6⟩ | ⟨rfl,L,xx⟩
  ·obtain ⟨q,m,K,hw⟩:=Yo0 (c:=c) (by rw [C.out];exact x6)
   have yl:=Yv5 hw;have yh:=hw.len;have hpt:=hw.pt;have hK:=hw.hK;have yg:=C.out;have yd:=hid (show Greedy (adjU ms c) (endsU ms c.length) (Z3_ c (-1)) d l by rw [C.out];exact x6);have F:∀ i,i<l.length→(i≤m∧q i<c.length∧l.getD i 0=(q i:Int))∨(i=m+1∧l.getD i 0=(c.length:Int)+(K:Int)):=fun i hi=>x16_;have xl:=hid (Xk6 (some o) s ms.length g n w.heap.size c l _ w5 xs (by rw [C.out];exact y5.out) y9.out y3.out q40_ q40_ q40_
    (fun i k yq H e=>by
     rcases F i q40_ with ⟨x,h2,h3⟩ | ⟨x,h3⟩<;>rcases F k H with ⟨h4,h5,h6⟩ | ⟨h4,h6⟩
     ·have:=hw.inj i k x h4 q40_
      omega
     ·omega
     ·omega
     ·omega)
    (fun i hi=>by
     rcases F i q40_ with ⟨x,h2,h3⟩ | ⟨x,h3⟩
     ·omega
     ·omega)
    (fun i hi=>by
     rcases F i hi with ⟨x,h2,h3⟩ | ⟨x,h3⟩
     ·omega
     ·omega))
   rw [C.out] at xl;have yt:¬ (l.length:Int)=0:=q40_;have ys:j≤n:=q40_;clear x6 hw F yh hpt hK yl yg
   go_wp2_with fail
   refine xl.out.mono ?_;rintro e w6 ⟨rfl,xv,xo,xt⟩;have y6:=hid xv;have y0:=hid (Z.out.trans xo);have y2:Hid (Blk w6 p.heap.size 47 #[.slice (some o) ms.length s,.slice (some ⟨g,0,none⟩) n n]):=hid ((xt _ N.out.lt yf).trans N.out);clear xv xo xt
   go_wp2_with fail
   go_roundg (n - j)
   case measure=>omega
   case rel=>exact ⟨V9_ c l c,j+1,.succ x0.out yd.out,q40_,y6.out,y2.out,y0.out⟩
  ·have xj:=hid L
   have xk:=hid xx;clear L xx
   go_wp2_with fail
   refine bodyPost_ret (v:=.tuple #[.slice (some ⟨g,0,none⟩) n n,.slice Ab t.length cb,.int .i64 0]) (by simp [results,Tryz.results13,go_sem]) rfl ?_
   first
   | exact ⟨_,_,c,t,rfl,xe.out,xf.out,Z.out,⟨j,x0.out⟩,xj.out,xk.out⟩
   | exact ⟨_,_,rfl,c,xe.out,t,xf.out,Z.out,⟨j,x0.out⟩,xj.out,xk.out⟩
open Go Go.RowKit
theorem Zk7 (W:World):MatL (W.alloc (.cells #[.int .i64 0,.int .i64 3,.int .i64 1,.int .i64 0,.slice none 0 0,.slice none 0 0] 37)) (W.alloc (.cells #[.int .i64 0,.int .i64 3,.int .i64 1,.int .i64 0,.slice none 0 0,.slice none 0 0] 37)).heap.size (.slice (some ⟨W.heap.size,0,none⟩) 1 1) [unU 3 1]:=by
 have h:=Vx4 (W:=W) (Zf1 W W.heap.size 0 3 1 0)
 rwa [show W.heap.size+1=(W.alloc (.cells #[.int .i64 0,.int .i64 3,.int .i64 1,.int .i64 0,.slice none 0 0,.slice none 0 0] 37)).heap.size by simp] at h
theorem Zk8 (W:World):MatL (W.alloc (.cells #[.int .i64 0,.int .i64 3,.int .i64 1,.int .i64 0,.slice none 0 0,.slice none 0 0,.int .i64 0,.int .i64 3,.int .i64 1,.int .i64 0,.slice none 0 0,.slice none 0 0] 37)) (W.alloc (.cells #[.int .i64 0,.int .i64 3,.int .i64 1,.int .i64 0,.slice none 0 0,.slice none 0 0,.int .i64 0,.int .i64 3,.int .i64 1,.int .i64 0,.slice none 0 0,.slice none 0 0] 37)).heap.size (.slice (some ⟨W.heap.size,0,none⟩) 2 2) two31:=by
 have hb:=Blk.new W 37 #[.int .i64 0,.int .i64 3,.int .i64 1,.int .i64 0,.slice none 0 0,.slice none 0 0,.int .i64 0,.int .i64 3,.int .i64 1,.int .i64 0,.slice none 0 0,.slice none 0 0];have hs:W.heap.size<(W.alloc (.cells #[.int .i64 0,.int .i64 3,.int .i64 1,.int .i64 0,.slice none 0 0,.slice none 0 0,.int .i64 0,.int .i64 3,.int .i64 1,.int .i64 0,.slice none 0 0,.slice none 0 0] 37)).heap.size:=z40_;refine ⟨_,2,rfl,⟨le_refl _,q41_,fun e=>by cases e⟩,fun k c=>⟨⟨W.heap.size,0,none⟩,.agg #[.int .i64 0,.int .i64 3,.int .i64 1,.int .i64 0,.slice none 0 0,.slice none 0 0],rfl,hs,?_,?_⟩⟩
 ·match k,c with
  | 0,_=>exact ⟨_,_,_,_,_,_,rfl,hb.cell 0,hb.cell 1,hb.cell 2,hb.cell 3,hb.cell 4,hb.cell 5⟩
  | 1,_=>exact ⟨_,_,_,_,_,_,rfl,hb.cell 6,hb.cell 7,hb.cell 8,hb.cell 9,hb.cell 10,hb.cell 11⟩
 ·match k,c with
  | 0,_=>exact Zf1 _ _ 0 3 1 0
  | 1,_=>exact Zf1 _ _ 0 3 1 0
theorem sameF (u v:Value) (l:List Int) (W:World) (c:Row W W.heap.size u l) (d:Row W W.heap.size v l) (hl:l.length≤1000):Calls Tryz.prog 15 #[u,v] W (Says W true) :=
 Xi5 u v l l W c d q40_ q40_ (by unfold sameB;simp)
theorem M5_ (E:Nat→Addr) (w:World) (hE:Env E w):Calls Tryz.prog 12 #[] w (Truly w):=by
 obtain ⟨W1,M⟩:∃ W1,W1=w.alloc (.cells #[.int .i64 0,.int .i64 3,.int .i64 1,.int .i64 0,.slice none 0 0,.slice none 0 0] 37):=⟨_,rfl⟩;have x0:=hid M;have V:Below w.heap.size w W1:=by rw [M];exact (Below.refl _ w).alloc (le_refl _) _
 have d:Hid (Blk W1 w.heap.size 37 #[.int .i64 0,.int .i64 3,.int .i64 1,.int .i64 0,.slice none 0 0,.slice none 0 0]):=hid (by rw [M];exact Blk.new w _ _);have Y:Hid (W1.heap.size=w.heap.size+1):=hid (by rw [M];simp);have Hb0:=hid V;have g:=hid (hE.up V);clear hE M V;have r:=d.out.cell 0;have s:=d.out.cell 1;have v:=d.out.cell 2;have y:=d.out.cell 3;have z:=d.out.cell 4;have B:=d.out.cell 5;have k:=hid (Zk8 W1);have h:Hid (Below W1.heap.size W1 (W1.alloc (.cells #[.int .i64 0,.int .i64 3,.int .i64 1,.int .i64 0,.slice none 0 0,.slice none 0 0,.int .i64 0,.int .i64 3,.int .i64 1,.int .i64 0,.slice none 0 0,.slice none 0 0] 37))):=hid ((Below.refl _ _).alloc (le_refl _) _);rw [Y.out] at k
 go_enter Tryz.func12,Tryz.ntmps12
 go_wp2_with fail
 rw [← x0.out];refine (Xk0 E two31 _ _ k.out (by intro x o;simp [two31] at o;subst o;exact W5_ ..) (g.out.up h.out) Vv8).mono ?_;rintro e w3 ⟨vc,vu,c,u,rfl,hc,hu,G,hm⟩;obtain ⟨rfl,rfl⟩:=Jz4 hm;have N:=hid hc;have C:=hid hu;obtain ⟨Ac,cc,rfl,-⟩:=hc;obtain ⟨Au,cu,rfl,-⟩:=hu;replace G:=Z0_ h.out (le_refl _) G;clear hm x0 k h Y;clear r s v y z B;replace g:=hid (g.out.up G);replace d:=hid (d.out.below G d.out.lt);replace Hb0:=hid (Z0_ Hb0.out (le_refl _) G);clear G
 go_wp2_with fail
 refine (Yo8 E [] _ _ (MatL.nil_ _ _) z40_ g.out Vn2).mono ?_;rintro e R ⟨rfl,H⟩;replace g:=hid (g.out.up H);replace N:=hid (N.out.up H);replace C:=hid (C.out.up H);replace d:=hid (d.out.below H d.out.lt);replace Hb0:=hid (Z0_ Hb0.out (le_refl _) H);clear H;have m:=hid (Row.here (Row.lit3 R 0 1 (-1)));have j:Hid (Below R.heap.size R (R.alloc (.cells #[.int .i64 0,.int .i64 1,.int .i64 (-1)] 3))):=hid ((Below.refl _ _).alloc (le_refl _) _)
 go_wp2_with fail
 refine (sameF _ _ [0,1,-1] _ (N.out.up j.out) m.out q41_).mono ?_;rintro e S ⟨rfl,q⟩;replace q:=Z0_ j.out (le_refl _) q;clear m j N;replace g:=hid (g.out.up q);replace C:=hid (C.out.up q);replace d:=hid (d.out.below q d.out.lt);replace Hb0:=hid (Z0_ Hb0.out (le_refl _) q);clear q;have r:=d.out.cell 0;have s:=d.out.cell 1;have v:=d.out.cell 2;have y:=d.out.cell 3;have z:=d.out.cell 4;have B:=d.out.cell 5;have k:=hid (Zk8 S);have h:Hid (Below S.heap.size S (S.alloc (.cells #[.int .i64 0,.int .i64 3,.int .i64 1,.int .i64 0,.slice none 0 0,.slice none 0 0,.int .i64 0,.int .i64 3,.int .i64 1,.int .i64 0,.slice none 0 0,.slice none 0 0] 37))):=hid ((Below.refl _ _).alloc (le_refl _) _)
 go_wp2_with fail
 refine (G0_ E two31 _ _ [0,1,2] _ k.out (by intro x o;simp [two31] at o;subst o;exact W5_ ..) (C.out.up h.out) q41_ (g.out.up h.out) (Yp0 _ _ (.inl rfl) q41_)).mono ?_;rintro e T ⟨rfl,I⟩;rw [Vm8];replace I:=Z0_ h.out (le_refl _) I;clear k h C;clear r s v y z B;replace g:=hid (g.out.up I);replace d:=hid (d.out.below I d.out.lt);replace Hb0:=hid (Z0_ Hb0.out (le_refl _) I);clear I;have r:=d.out.cell 0;have s:=d.out.cell 1;have v:=d.out.cell 2;have y:=d.out.cell 3;have z:=d.out.cell 4;have B:=d.out.cell 5;have k:=hid (Zk7 T);have h:Hid (Below T.heap.size T (T.alloc (.cells #[.int .i64 0,.int .i64 3,.int .i64 1,.int .i64 0,.slice none 0 0,.slice none 0 0] 37))):=hid ((Below.refl _ _).alloc (le_refl _) _)
 go_wp2_with fail
 refine (G0_ E [unU 3 1] _ _ [] _ k.out (by intro x o;simp at o;subst o;exact W5_ ..) (Row.nil_ _ _) q41_ (g.out.up h.out) (Yp0 _ _ (.inr (.inl rfl)) q41_)).mono ?_;rintro e L ⟨rfl,J⟩;rw [Vm9];replace J:=Z0_ h.out (le_refl _) J;clear k h;clear r s v y z B;replace g:=hid (g.out.up J);replace d:=hid (d.out.below J d.out.lt);replace Hb0:=hid (Z0_ Hb0.out (le_refl _) J);clear J;have r:=d.out.cell 0;have s:=d.out.cell 1;have v:=d.out.cell 2;have y:=d.out.cell 3;have z:=d.out.cell 4;have B:=d.out.cell 5;have k:=hid (Zk7 L);have h:Hid (Below L.heap.size L (L.alloc (.cells #[.int .i64 0,.int .i64 3,.int .i64 1,.int .i64 0,.slice none 0 0,.slice none 0 0] 37))):=hid ((Below.refl _ _).alloc (le_refl _) _);obtain ⟨p,O⟩:∃ p,p=L.alloc (.cells #[.int .i64 0,.int .i64 3,.int .i64 1,.int .i64 0,.slice none 0 0,.slice none 0 0] 37):=⟨_,rfl⟩;have x1:=hid O;have Z:Hid (p.heap.size=L.heap.size+1):=hid (by rw [O];simp);rw [← O] at k h;have m:=hid (Row.here (Row.lit3 p 0 1 2));have j:Hid (Below p.heap.size p (p.alloc (.cells #[.int .i64 0,.int .i64 1,.int .i64 2] 3))):=hid ((Below.refl _ _).alloc (le_refl _) _);rw [Z.out] at m;clear O
 go_wp2_with fail
 rw [← x1.out];refine (G0_ E [unU 3 1] _ _ [0,1,2] _ (k.out.up j.out) (by intro x o;simp at o;subst o;exact W5_ ..) m.out q41_ ((g.out.up h.out).up j.out) (Yp0 _ _ (.inr (.inl rfl)) q41_)).mono ?_;rintro e w8 ⟨rfl,K⟩;rw [Vn0];replace K:=Z0_ h.out (le_refl _) (Z0_ j.out (le_refl _) K);clear k h m j x1 Z;clear r s v y z B;replace g:=hid (g.out.up K);replace d:=hid (d.out.below K d.out.lt);replace Hb0:=hid (Z0_ Hb0.out (le_refl _) K);clear K
 go_wp2_with fail
 refine (G0_ E [] _ _ [] _ (MatL.nil_ _ _) z40_ (Row.nil_ _ _) q41_ g.out (Yp0 _ _ (.inr (.inr rfl)) q41_)).mono ?_;rintro e U ⟨rfl,P⟩;rw [Vn1];replace g:=hid (g.out.up P);replace d:=hid (d.out.below P d.out.lt);replace Hb0:=hid (Z0_ Hb0.out (le_refl _) P);clear P;have m:=hid (Row.here (Row.lit3 U 1 (-1) 1));have j:Hid (Below U.heap.size U (U.alloc (.cells #[.int .i64 1,.int .i64 (-1),.int .i64 1] 3))):=hid ((Below.refl _ _).alloc (le_refl _) _)
 go_wp2_with fail
 refine (B7_ _ [1,-1,1] 1 _ m.out q41_).mono ?_;rintro e Q ⟨vk,rfl,W,D,_⟩;rw [Jz5] at W;replace D:=Z0_ j.out (le_refl _) D;have X:=hid W;obtain ⟨Ak,ck,rfl,-⟩:=W;clear m j;replace g:=hid (g.out.up D);replace d:=hid (d.out.below D d.out.lt);replace Hb0:=hid (Z0_ Hb0.out (le_refl _) D);clear D;have m:=hid (Row.here (Row.lit2 Q 0 2));have j:Hid (Below Q.heap.size Q (Q.alloc (.cells #[.int .i64 0,.int .i64 2] 3))):=hid ((Below.refl _ _).alloc (le_refl _) _)
 go_wp2_with fail
 refine (sameF _ _ [0,2] _ (X.out.up j.out) m.out q41_).mono ?_;rintro e x2 ⟨rfl,F⟩;replace F:=Z0_ j.out (le_refl _) F;clear m j X;replace g:=hid (g.out.up F);replace d:=hid (d.out.below F d.out.lt);replace Hb0:=hid (Z0_ Hb0.out (le_refl _) F);clear F;exact k2_
end Go.Proofs.YtheeajnkiniopaaGreatDoor.Wp
