/- union's way, walked (written by gen_uway.py). -/
import Derived.Test.YtheeajnkiniopaaGreatDoorUTurnP
import Derived.Test.YtheeajnkiniopaaGreatDoorUTurn
import Derived.Test.YtheeajnkiniopaaGreatDoorUAdj
import Derived.Test.YtheeajnkiniopaaGreatDoorYB
import Derived.Deep.CutBlock
import Derived.Deep.LoopGhost
import Derived.Deep.RegionHeld3
import Derived.Test.YtheeajnkiniopaaGreatDoorX0A
import Derived.Test.YtheeajnkiniopaaGreatDoorX0B
import Derived.Test.YtheeajnkiniopaaGreatDoorX0C
set_option maxHeartbeats 16000000
set_option maxRecDepth 100000
open Go.Lib (hid)
open Nat (le_refl)
namespace Go.Proofs.YtheeajnkiniopaaGreatDoor.Wp
open Go Go.RowKit
def RowA (w:World) (G:Nat) (v:Value) (zs:List Int):Prop:=Row w w.heap.size v zs∧∀ g,v.ownBlock=some g→G<g
theorem RowA.up {w w':World} {G:Nat} {v:Value} {zs:List Int} (h:RowA w G v zs) (hb:Below w.heap.size w w'):RowA w' G v zs:=⟨h.1.up hb,h.2⟩
theorem RowA.put {w:World} {G i:Nat} {u v:Value} {zs:List Int} (h:RowA w G v zs):RowA (w.setCell ⟨G,i,none⟩ u) G v zs:=by
 refine ⟨?_,h.2⟩;rw [show (w.setCell ⟨G,i,none⟩ u).heap.size=w.heap.size by simp];exact Yy6 h.1 (fun g c e=>by have:=h.2 g c;have e:g=G:=e;omega) u
structure WayS (W1 w:World) (G:Nat) (vs:List Value) (pp:List (List Int)) (vf vt vn vc:Value) (f t n c:List Int):Prop where
 adj:AdjR w G vs pp
 rf:RowA w G vf f
 rt:RowA w G vt t
 rn:RowA w G vn n
 rc:RowA w G vc c
 bel:Below G W1 w
section
variable {W1 w w':World} {G:Nat} {vs:List Value} {pp:List (List Int)} {vf vt vn vc:Value} {f t n c:List Int}
theorem WayS.up (h:WayS W1 w G vs pp vf vt vn vc f t n c) (hb:Below w.heap.size w w'):WayS W1 w' G vs pp vf vt vn vc f t n c :=
 ⟨h.adj.up hb,h.rf.up hb,h.rt.up hb,h.rn.up hb,h.rc.up hb,h.bel.trans (hb.mono (Nat.le_of_lt h.adj.blk.lt))⟩
theorem WayS.put {i:Nat} {u:Value} {q:List Int} (h:WayS W1 w G vs pp vf vt vn vc f t n c) (d:RowA w G u q):WayS W1 (w.setCell ⟨G,i,none⟩ u) G (vs.set i u) (pp.set i q) vf vt vn vc f t n c :=
 ⟨h.adj.put d.1 d.2,h.rf.put,h.rt.put,h.rn.put,h.rc.put,h.bel.setCell (p:=⟨G,i,none⟩) (le_refl _) _⟩
end
theorem Xn6 (E:Nat→Addr) (ms:List Mat) (I Ao:Option Addr) (L K:Nat) (c:List Int) (w:World) (h:Cls ms c) (uh:0<c.length) (hl:MatL w w.heap.size (.slice I ms.length L) ms) (hs:∀ m∈ms,Sml m) (ho:Row w w.heap.size (.slice Ao c.length K) c) (hE:Env E w) :
  Calls Tryz.prog 35 #[.agg #[.slice I ms.length L,.slice Ao c.length K]] w fun e w'=>∃ (vw vb:Value) (l t:List Int),e=.returned (.tuple #[vw,vb])∧Row w' w'.heap.size vw l∧Row w' w'.heap.size vb t∧Below w.heap.size w w'∧(∀ g,vw.ownBlock=some g→w.heap.size≤g)∧((∃ d,Greedy (adjU ms c) (endsU ms c.length) (Z2_ c (-1)) d l)∨(l=[]∧StopU ms c∧t=comeU ms c)):=by
 obtain ⟨R,ua,_⟩:=Row.nth ho uh;subst ua;have x7:=h.n64;have uf:=h.many.2;have v5:(c.length:Int)≤64:=k29_;have v2:(ms.length:Int)≤8:=k29_;obtain ⟨W0,hW0⟩:∃ W0,W0=w.alloc (.cells #[.slice I ms.length L,.slice (some R) c.length K] 47):=⟨_,rfl⟩;have zy:=hid hW0;have xa:Below w.heap.size w W0:=q32_;have z3:Blk W0 w.heap.size 47 #[.slice I ms.length L,.slice (some R) c.length K]:=z33_;have zz:=hid xa;have H:=hid z3;have HL:=hid (hl.up xa);have HO:=hid (ho.up xa);have HE:=hid (hE.up xa);have Hs:=hid hs;have j:=hid h;clear xa z3 hl ho hE hs h;have b0:=H.out.cell 0;have b1:=H.out.cell 1;rw [hW0] at b0 b1;clear hW0
 go_enter Tryz.func35,Tryz.ntmps35
 go_wp2_with fail
 rw [← zy.out];refine (A5_ (c.length:Int) W0).mono ?_;rintro e W1 ⟨va,rfl,yb,x3⟩;have HA:=hid yb;have y0:=hid (Z0_ zz.out (le_refl _) x3);replace H:=hid (H.out.below x3 H.out.lt);replace HL:=hid (HL.out.up x3);replace HO:=hid (HO.out.up x3);replace HE:=hid (HE.out.up x3);obtain ⟨Aa,ca,rfl,_⟩:=id yb;have z0:(allL (c.length:Int)).length=c.length:=by have:=(E7_ (c.length:Int)).2 k29_ k29_;omega
 have xz:=hid z0;obtain ⟨N,hN⟩:∃ N:Nat,c.length+ms.length=N:=⟨_,rfl⟩;have O:=hid hN;have uz:(N:Int)≤72:=k29_;have uy:(1:Int)≤(N:Int):=k29_;have v7:IntKind.i64.wrap ((c.length:Int)+(ms.length:Int))=(N:Int):=z30_;clear b0 b1 yb x3 z0 hN;have b0:=H.out.cell 0;have b1:=H.out.cell 1;have ug:=run_make_row' 35 23 (.slice none 0 0) 24 Tryz.underlying35 Zf4 rfl .i64 .i64 N k29_ k29_ W1;obtain ⟨Y,hY⟩:∃ Y,W1.alloc (.cells (madeCells #[.slice none 0 0] N) 23)=Y:=⟨_,rfl⟩;obtain ⟨G,hG⟩:∃ G,W1.heap.size=G:=⟨_,rfl⟩;have HY:=hid hY;have HG:=hid hG;have x6:Below W1.heap.size W1 Y:=by rw [← hY];exact (Below.refl _ W1).alloc (le_refl _) _
 have xi:Hid (AdjR Y G (List.replicate N (.slice none 0 0)) (List.replicate N [])):=hid (AdjR.made (by rw [← hY,← hG];exact Blk.new W1 _ _));have yz:G<Y.heap.size:=by rw [← hY,← hG];simp
 have uu:=hid x6;have zp:Hid ((allL (N:Int)).length=N):=hid (by have:=(E7_ (N:Int)).2 k29_ k29_;omega);have u3:Hid (Z7_ (allL (N:Int)) (allL (c.length:Int))=endsU ms c.length):=hid (by rw [← O.out];exact Yn0 j.out x7);have yj:=hid (HO.out.up x6);have yg:=hid (HA.out.up x6);have yh:=hid (H.out.below x6 H.out.lt);have yr:=hid x6;have y1:=yh.out.cell 1;rw [← hY] at y1;clear hY x6
 go_wp2_with fail
 rw [HY.out];refine (Q1_ _ c (-1) Y yj.out k29_).mono ?_;rintro e w3 ⟨vf,rfl,yc,x4,z9⟩;have HF:=hid yc;have xx:Hid (∀ g,vf.ownBlock=some g→G<g):=hid fun g o=>Nat.lt_of_lt_of_le yz (z9 g o);have u0:=hid x4;obtain ⟨Af,cf,rfl,_⟩:=id yc;clear y1 yc z9 ug b0 b1
 go_wp2_with fail
 refine (A5_ (N:Int) w3).mono ?_;rintro e w4 ⟨vn,rfl,yd,x5⟩;have yi:=hid yd;have xl:=hid (Z0_ x4 (le_refl _) x5);replace HF:=hid (HF.out.up x5);obtain ⟨An,cn,rfl,_⟩:=id yd;clear yd x4 x5 u0
 go_wp2_with fail
 refine (I3_ _ _ (allL (N:Int)) (allL (c.length:Int)) w4 yi.out (yg.out.up xl.out) (by rw [zp.out];omega) (by rw [xz.out];omega)).mono ?_;rintro e w5 ⟨vt,rfl,xt,y4,zc⟩;rw [u3.out] at xt;have HT:=hid xt;have yq:Hid (∀ g,vt.ownBlock=some g→G<g):=hid fun g o=>Nat.lt_of_lt_of_le (Nat.lt_of_lt_of_le yz xl.out.size) (zc g o);have y2:=hid (Z0_ xl.out (le_refl _) y4);replace HF:=hid (HF.out.up y4);replace xi:=hid (xi.out.up y2.out);obtain ⟨x8,ct,rfl,_⟩:=id xt;have uv:Hid ((endsU ms c.length).length=ms.length):=hid (by unfold endsU upTo;simp);clear xt y4 zc yi xl;have yn:Hid (WayS W1 w5 G (List.replicate N (.slice none 0 0)) (List.replicate N []) (.slice Af (Z2_ c (-1)).length cf) (.slice x8 (endsU ms c.length).length ct) (.slice none 0 0) (.slice Af (Z2_ c (-1)).length cf) (Z2_ c (-1)) (endsU ms c.length) (nearU ms c 0) (lev ms c 0)):=hid ⟨xi.out,⟨HF.out,xx.out⟩,⟨HT.out,yq.out⟩,⟨Row.nil_ _ _,fun g o=>by cases o⟩,⟨HF.out,xx.out⟩,by rw [← HG.out];exact Z0_ yr.out (le_refl _) y2.out⟩;have yk:Hid (Part ms c 0 (List.replicate N [])):=hid (by rw [← O.out];exact Part.start);have x0:Hid (∀ W,Below G W1 W→MatL W W.heap.size (.slice I ms.length L) ms∧Row W W.heap.size (.slice (some R) c.length K) c∧Env E W∧Blk W w.heap.size 47 #[.slice I ms.length L,.slice (some R) c.length K]∧Row W W.heap.size (.slice Aa (allL (c.length:Int)).length ca) (allL (c.length:Int))∧∀ x,x<c.length→W.cell? (R.add x)=some (.int .i64 (c.getD x 0))):=hid (by
  rw [← HG.out];intro W U;refine ⟨HL.out.up U,HO.out.up U,HE.out.up U,H.out.below U H.out.lt,HA.out.up U,fun x B=>?_⟩;obtain ⟨a2,h2,h3⟩:=Row.nth HO.out B;obtain rfl:=Option.some.inj h2;exact h3 W U)
 clear xi HF HT xx yq yj yg yh yr y2
 go_wp2_with fail
 clear HY
 go_loopg [8,9] 80 (fun k vn vc wr=>∃ (r:Nat) (vs:List Value) (pp:List (List Int)),(nearU ms c r).length+k=80∧WayS W1 wr G vs pp (.slice Af (Z2_ c (-1)).length cf) (.slice x8 (endsU ms c.length).length ct) vn vc (Z2_ c (-1)) (endsU ms c.length) (nearU ms c r) (lev ms c r)∧Part ms c r pp∧∀ k,k<r→B1_ ms c k)
 case atStart=>exact ⟨0,_,_,rfl,yn.out,yk.out,fun k hk=>absurd hk (Nat.not_lt_zero _)⟩
 case round =>
  obtain ⟨r,vs,pp,hk,xu,hp,zf⟩:=hrel;obtain ⟨xh,xm,um,_⟩:=id xu.rn.1;obtain ⟨Ac,cc,ul,_⟩:=id xu.rc.1;subst um ul;have T:=hid xu;have Q:=hid hp;have P:=hid zf;have ud:(lev ms c r).length≤72:=by have:=V6_ (D9_ j.out r);rw [C3_] at this;omega
  have yu:=hid ud;clear xu hp zf yn yk;by_cases v1:(nearU ms c r).length<(lev ms c r).length
  ·have ub:((nearU ms c r).length:Int)<((lev ms c r).length:Int):=by omega
   go_wp2_with fail
   refine (I3_ _ _ (lev ms c r) (nearU ms c r) wr T.out.rc.1 T.out.rn.1 k29_ k29_).mono ?_;rintro e w6 ⟨uq,rfl,xq,z2,za⟩;have ys:Hid ((Z7_ (lev ms c r) (nearU ms c r)).length≤72):=hid (by have:=T1_ (lev ms c r) (nearU ms c r);omega);have xw:=hid (Yd1 j.out P.out);obtain ⟨far,y7⟩:∃ far,Z7_ (lev ms c r) (nearU ms c r)=far:=⟨_,rfl⟩;have x9:=hid y7;rw [y7] at xq ys xw;clear y7;have u8:G<wr.heap.size:=T.out.adj.blk.lt;have zw:Hid (RowA w6 G uq far):=hid ⟨xq,fun g o=>Nat.lt_of_lt_of_le u8 (za g o)⟩;replace T:=hid (T.out.up z2);obtain ⟨Ar,cr,rfl,_⟩:=id xq;clear xq z2 za;have v0:(far.length:Int)≤72:=by have:=ys.out;omega
   go_upto_block 2 with fail
   go_cut [] from 38 to 101 (fun wx=>∃ (x2:List Value) (C:List (List Int)),WayS W1 wx G x2 C (.slice Af (Z2_ c (-1)).length cf) (.slice x8 (endsU ms c.length).length ct) (.slice xh (nearU ms c r).length xm) (.slice Ac (lev ms c r).length cc) (Z2_ c (-1)) (endsU ms c.length) (nearU ms c r) (lev ms c r)∧RowA wx G (.slice Ar far.length cr) far∧Roomed ms c r pp C)
   case first =>
    go_wp2_with fail
    go_loopw [12,48] (fun _ vk wx=>∃ (k:Nat) (x2:List Value),vk=.int .i64 k∧k≤far.length∧WayS W1 wx G x2 (putsU (J3_ ms c) (far.take k) pp) (.slice Af (Z2_ c (-1)).length cf) (.slice x8 (endsU ms c.length).length ct) (.slice xh (nearU ms c r).length xm) (.slice Ac (lev ms c r).length cc) (Z2_ c (-1)) (endsU ms c.length) (nearU ms c r) (lev ms c r)∧RowA wx G (.slice Ar far.length cr) far) (fun _ vk _=>far.length - (intOf vk).toNat)
    case atStart=>exact ⟨0,_,rfl,Nat.zero_le _,T.out,zw.out⟩
    case round =>
     obtain ⟨k,x2,rfl,uc,Z,xf⟩:=hrel;have D:=hid Z;have S:=hid xf;clear Z xf;by_cases V:k<far.length
     ·have ue:(k:Int)<(far.length:Int):=by omega
      have yf:=xw.out _ (Q6_ 0 V);obtain ⟨x,B⟩:∃ x:Nat,far.getD k 0=(x:Int):=⟨(far.getD k 0).toNat,k29_⟩;rw [B] at yf;have xv:x<c.length:=k29_;have ye:x<N:=by have:=O.out;omega
      have un:(x:Int)<(N:Int):=k29_;have v8:(x:Int)<(c.length:Int):=k29_;obtain ⟨af,hA,xb⟩:=Row.nth S.out.1 V;subst hA;have g0:=xb _ (Below.refl _ _);rw [B] at g0;have HX:=hid B;obtain ⟨k1,k2,k3,M,k5,k6⟩:=x0.out _ D.out.bel;have b0:=M.cell 0;have b1:=M.cell 1;have Hu:=hid (Xq1 E ms I (some R) L K c x _ k1 Hs.out k2 x7 uf xv k3);clear k1 k2 k3 M k5 k6 xb B
      go_wp2_with fail
      refine Hu.out.mono ?_;rintro e w7 ⟨vq,rfl,xs,y5,zb⟩;have X:=Zr3 (f:=J3_ ms c) (pp:=pp) V;rw [HX.out,Int.toNat_natCast] at X;obtain ⟨q,hq⟩:∃ q,J3_ ms c (x:Int)=q:=⟨_,rfl⟩;rw [hq] at xs X;have HQ:=hid hq;have xy:=hid X;have u9:=D.out.adj.blk.lt;have zx:Hid (RowA w7 G vq q):=hid ⟨xs,fun g o=>Nat.lt_of_lt_of_le u9 (zb g o)⟩;have yo:=hid (D.out.up y5);have zv:=hid (S.out.up y5);have HS8:=hid (yo.out.put (i:=x) zx.out);have HR8:=hid (zv.out.put (i:=x) (u:=vq));rw [← xy.out] at HS8;obtain ⟨A9,c9,n1,n2⟩:=yo.out.adj.nth (i:=x) (by rw [H5_,Q.out.len,O.out];exact ye);obtain ⟨k1,k2,k3,M,k5,k6⟩:=x0.out _ HS8.out.bel;have e1:=k6 x xv;have e2:=M.cell 0;have e3:=M.cell 1;obtain ⟨z,hz⟩:∃ z,c.getD x 0=z:=⟨_,rfl⟩;rw [hz] at e1;have HZ:=hid hz;obtain ⟨Aq,cq,rfl,_⟩:=id xs;clear k1 k2 k3 M k5 k6 hz xs y5 zb hq X Hu;by_cases zn:z=-1
      ·subst zn
       by_cases xo:q=[]
       ·have uk:¬ (0:Int)<(q.length:Int):=by rw [xo];simp
        clear xo;exact j11_
       ·have v6:0<q.length:=List.length_pos_iff.2 xo
        have uk:(0:Int)<(q.length:Int):=k29_
        go_wp2_with fail
        go_meet
        refine ⟨_,_,HS8.out,HR8.out,?_⟩;have h:=Ym9 j.out P.out Q.out (k:=k) (x:=x) (by rw [x9.out];exact V) (by rw [x9.out];exact HX.out) HZ.out (by rw [HQ.out];exact xo);rw [x9.out] at h;exact h
      ·have v9:(z==-1)=false:=by simpa using zn
       exact j11_
     ·have y8:k=far.length:=by omega
      subst y8;rw [List.take_length] at D
      go_wp2_with fail
      go_meet
      have h:=Ym8 j.out P.out Q.out;rw [x9.out] at h;exact ⟨_,_,D.out,S.out,h⟩
   case rest =>
    obtain ⟨x2,C,Z,xf,xr⟩:=hcut;have D:=hid Z;have S:=hid xf;have xj:=hid xr;have xe:C.length=N:=by rw [xr.len,Q.out.len,O.out]
    have x1:=Z.adj.rows k29_;rw [xe] at x1;have z5:=xr.dig j.out Q.out;have zj:PtsP C.length (Z2_ c (-1)):=by rw [xe,← O.out,← C3_];exact H6_ j.out
    have zk:PtsP C.length (endsU ms c.length):=by rw [xe,← O.out];exact Yd2 j.out x7
    have yv:=hid (Zh0 _ _ _ C (Z2_ c (-1)) (endsU ms c.length) _ x1 Z.rf.1 Z.rt.1 z5 zj zk);clear Z xf xr x1 z5 zj zk
    go_wp2_with fail
    refine yv.out.mono ?_;rintro e w9 ⟨u,l,b,rfl,hu,xn,zd,uj⟩;have z4:Below w.heap.size w w9:=Z0_ y0.out (le_refl _) (by rw [HG.out];exact (D.out.up xn).bel);have ux:w.heap.size≤G:=by rw [← HG.out];exact y0.out.size
    have ze:∀ g,u.ownBlock=some g→w.heap.size≤g:=fun g o=>by
     have h1:=zd g o;have h2:=D.out.adj.blk.lt;omega
    have yt:=hid ze;have u2:=hid z4;replace D:=hid (D.out.up xn);replace S:=hid (S.out.up xn);have HU:=hid hu;obtain ⟨Au,cu,rfl,_⟩:=id hu;have xk:=hid fun B=>xj.out.way j.out P.out Q.out B;clear hu xn zd z4 ze yv;rcases uj with ⟨rfl,nn,x,l',rfl,xc⟩ | ⟨rfl,rfl,zg⟩
    ·have u4:Hid (∃ d,Greedy (adjU ms c) (endsU ms c.length) (Z2_ c (-1)) d (x :: l')):=hid (by
      by_cases B:∃ x:Nat,Lev ms c r (x:Int)∧J3_ ms c (x:Int)≠[]
      ·obtain ⟨d,l0,h1,h2⟩:=xk.out B
       rw [xc.unique h2];exact ⟨d,h1⟩
      ·have ui:=(xj.out.none j.out P.out Q.out fun y hy=>Classical.byContradiction fun hn=>B ⟨y,hy,hn⟩).2
       have hl:=xc.length;exact (ui nn _ xc.first (by simpa using xc.near 0 k29_)).elim)
     clear xc xk
     go_wp2_with fail
     refine bodyPost_ret (v:=.tuple #[.slice Au (x :: l').length cu,.slice none 0 0]) z34_ rfl ?_;exact ⟨_,_,_,[],rfl,HU.out,Row.nil_ _ _,u2.out,yt.out,.inl u4.out⟩
    ·have zs:Hid (B1_ ms c r):=hid (xj.out.none j.out P.out Q.out fun y hy=>Classical.byContradiction fun hn=>by
      obtain ⟨d,l0,_,h2⟩:=xk.out ⟨y,hy,hn⟩;have hl:=h2.length;exact zg _ h2.first d (by simpa using h2.near 0 k29_)).1
     clear zg xk HU yt
     go_wp2_with fail
     go_loopw [16,84] (fun _ vk wx=>∃ (k:Nat) (x2:List Value),vk=.int .i64 k∧k≤far.length∧WayS W1 wx G x2 (putsU (rowU ms c r) (far.take k) C) (.slice Af (Z2_ c (-1)).length cf) (.slice x8 (endsU ms c.length).length ct) (.slice xh (nearU ms c r).length xm) (.slice Ac (lev ms c r).length cc) (Z2_ c (-1)) (endsU ms c.length) (nearU ms c r) (lev ms c r)∧RowA wx G (.slice Ar far.length cr) far) (fun _ vk _=>far.length - (intOf vk).toNat)
     case atStart=>exact ⟨0,_,rfl,Nat.zero_le _,D.out,S.out⟩
     case round =>
      obtain ⟨k,vd,rfl,uc,zm,xg⟩:=hrel;have F:=hid zm;have yl:=hid xg;clear zm xg D S;by_cases V:k<far.length
      ·have ue:(k:Int)<(far.length:Int):=by omega
       have yf:=xw.out _ (Q6_ 0 V);obtain ⟨x,B⟩:∃ x:Nat,far.getD k 0=(x:Int):=⟨(far.getD k 0).toNat,k29_⟩;rw [B] at yf;have xv:x<c.length:=k29_;have ye:x<N:=by have:=O.out;omega
       have un:(x:Int)<(N:Int):=k29_;obtain ⟨af,hA,xb⟩:=Row.nth yl.out.1 V;subst hA;have g0:=xb _ (Below.refl _ _);rw [B] at g0;have X:=Zr3 (f:=rowU ms c r) (pp:=C) V;rw [B,Int.toNat_natCast] at X;have xy:=hid X;have u7:=hid (Xa3 j.out (r:=r) x7 (x:Int));have u5:Hid ((Z7_ (allL (c.length:Int)) (lev ms c r)).length≤64):=hid (by have:=T1_ (allL (c.length:Int)) (lev ms c r);have:=xz.out;omega);have zi:x<(putsU (rowU ms c r) (far.take k) C).length:=by rw [H5_,xe];exact ye
       have u6:=hid zi;clear xb B X zi;have y6:Below wr.heap.size wr wr.drew:=(Below.refl _ wr).drew;have J:=hid (F.out.up y6);have ym:=hid (yl.out.up y6);have s:Hid (Below wr.drew.heap.size wr.drew wr.drew):=hid (Below.refl _ _);have K1:Hid (∀ W,Below G W1 W→W.cell? ⟨w.heap.size,0,none⟩=some (.slice I ms.length L)∧W.cell? ⟨w.heap.size,1,none⟩=some (.slice (some R) c.length K)):=hid fun W U=>by
        obtain ⟨_,_,_,M,_⟩:=x0.out _ U;exact ⟨M.cell 0,M.cell 1⟩
       clear y6
       go_wp2_with fail
       go_region_held3 (fun W=>W.cell? ⟨w.heap.size,0,none⟩=some (.slice I ms.length L)∧W.cell? ⟨w.heap.size,1,none⟩=some (.slice (some R) c.length K))
        (first | exact K1.out _ (J.out.up s.out).bel | exact K1.out _ ((J.out.up s.out).bel.setCell (p:=⟨G,x,none⟩) (le_refl _) _))
        (first
        | (go_at_call 64;refine (I3_ _ _ (allL (c.length:Int)) (lev ms c r) _ (x0.out _ (J.out.up s.out).bel).2.2.2.2.1 (J.out.up s.out).rc.1 (by rw [xz.out];omega) (by have:=yu.out;omega)).mono ?_;rintro e w3 ⟨v3,rfl,xg,x4,_⟩;replace s:=hid (Z0_ s.out (le_refl _) x4);have zq:=hid xg;clear xg x4)
        | (go_at_call 67;refine (Yx2 E ms I (some R) L K c x _ (Z7_ (allL (c.length:Int)) (lev ms c r)) _ (x0.out _ (J.out.up s.out).bel).1 Hs.out (x0.out _ (J.out.up s.out).bel).2.1 zq.out x7 xv u5.out (Vq8 j.out x7) (x0.out _ (J.out.up s.out).bel).2.2.1).mono ?_;rintro e w4 ⟨v4,rfl,xp,x5,z8⟩;rw [u7.out] at xp;have yy:=(J.out.up s.out).adj.blk.lt;have zo:=hid (show RowA _ G v4 (rowU ms c r (x:Int)) from ⟨xp,fun g o=>Nat.lt_of_lt_of_le yy (z8 g o)⟩);replace s:=hid (Z0_ s.out (le_refl _) x5);obtain ⟨A9,c9,n1,n2⟩:=(J.out.up s.out).adj.nth (i:=x) u6.out;obtain ⟨Aq,cq,rfl,_⟩:=id xp;clear xp x5 z8 yy))
       all_goals
        have yp:=hid ((J.out.up s.out).put (i:=x) zo.out);have ut:=hid ((ym.out.up s.out).put (i:=x) (u:=.slice (some ⟨G,0,none⟩) 0 0));rw [← xy.out] at yp
        go_wp2_with fail
        go_roundw
        case rel=>exact ⟨k+1,_,y31_,k29_,yp.out,(ym.out.up s.out).put⟩
        exact mz_
      ·have y8:k=far.length:=by omega
       subst y8;rw [List.take_length] at F;have xd:=Xa2 j.out P.out Q.out xj.out;rw [x9.out] at xd;have y9:∀ k,k<r+1→B1_ ms c k:=fun k hk=>by
        by_cases e:k=r
        ·rw [e];exact zs.out
        ·exact P.out k k29_
       have zh:(putsU (rowU ms c r) far C).length=N:=by rw [H5_,xe]
       have z6:=xd.dig j.out;have zl:PtsP (putsU (rowU ms c r) far C).length (Z2_ c (-1)):=by rw [zh,← O.out,← C3_];exact H6_ j.out
       have x1:=F.out.adj.rows k29_;rw [zh] at x1;have y3:=hid (Zh1 _ _ (putsU (rowU ms c r) far C) (Z2_ c (-1)) _ x1 F.out.rf.1 z6 zl);rw [xd.come j.out y9] at y3;have zt:=hid xd;have zr:=hid y9;clear xd y9 z6 zl x1
       go_wp2_with fail
       refine y3.out.mono ?_;rintro e ur ⟨uo,rfl,ya,z1,z7⟩;have yx:=F.out.adj.blk.lt;have zu:Hid (RowA ur G uo (lev ms c (r+1))):=hid ⟨ya,fun g o=>Nat.lt_of_lt_of_le yx (z7 g o)⟩;replace F:=hid (F.out.up z1);obtain ⟨us,uw,rfl,_⟩:=id ya;clear ya z1 z7 yx y3
       go_wp2_with fail
       go_roundg (80 - (lev ms c r).length)
       case measure=>omega
       case rel=>exact ⟨r+1,_,_,by show (lev ms c r).length+_=80;have:=yu.out;omega,⟨F.out.adj,F.out.rf,F.out.rt,F.out.rc,zu.out,F.out.bel⟩,zt.out,zr.out⟩
  ·have ub:¬ ((nearU ms c r).length:Int)<((lev ms c r).length:Int):=by omega
   have yw:=hid (Zr4 j.out P.out k29_);have u1:Hid (Below w.heap.size w wr):=hid (Z0_ y0.out (le_refl _) (by rw [HG.out];exact T.out.bel))
   go_wp2_with fail
   refine bodyPost_ret (v:=.tuple #[.slice none 0 0,.slice xh (nearU ms c r).length xm]) z34_ rfl ?_;exact ⟨_,_,rfl,[],Row.nil_ _ _,nearU ms c r,T.out.rn.1,u1.out,(fun g o=>by cases o),.inr ⟨rfl,yw.out.2,yw.out.1.symm⟩⟩
end Go.Proofs.YtheeajnkiniopaaGreatDoor.Wp
