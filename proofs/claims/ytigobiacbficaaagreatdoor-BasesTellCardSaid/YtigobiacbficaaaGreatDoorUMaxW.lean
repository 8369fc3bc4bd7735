/- union's way, walked (written by gen_uway.py). -/
import Derived.Test.YtigobiacbficaaaGreatDoorURMay
import Derived.Test.YtigobiacbficaaaGreatDoorUSev
import Derived.Test.YtigobiacbficaaaGreatDoorVI10C
import Derived.Test.YtigobiacbficaaaGreatDoorYB
import Derived.Deep.CutBlock
import Derived.Deep.LoopGhost
import Derived.Deep.RegionHeld3
import Derived.Test.YtigobiacbficaaaGreatDoorX0A
import Derived.Test.YtigobiacbficaaaGreatDoorX0B
set_option maxHeartbeats 16000000
set_option maxRecDepth 100000
open Go.Lib (hid)
open Nat (le_refl)
namespace Go.Proofs.YtigobiacbficaaaGreatDoor.Wp
private theorem z46_ {P:Prop} (h:P:=by simp [results,Tryz.results45,go_sem]):P:=h
open Go Go.RowKit
def RowA (w:World) (G:Nat) (v:Value) (zs:List Int):Prop:=Row w w.heap.size v zs∧∀ g,v.ownBlock=some g→G<g
theorem RowA.up {w w':World} {G:Nat} {v:Value} {zs:List Int} (h:RowA w G v zs) (hb:Below w.heap.size w w'):RowA w' G v zs:=⟨h.1.up hb,h.2⟩
theorem RowA.put {w:World} {G i:Nat} {u v:Value} {zs:List Int} (h:RowA w G v zs):RowA (w.setCell ⟨G,i,none⟩ u) G v zs:=by
 refine ⟨?_,h.2⟩;rw [show (w.setCell ⟨G,i,none⟩ u).heap.size=w.heap.size by simp];exact Yl5 h.1 (fun g c e=>by have:=h.2 g c;have e:g=G:=e;omega) u
structure WayS (W1 w:World) (G:Nat) (vs:List Value) (pp:List (List Int)) (vf vt vn vc:Value) (f t n c:List Int):Prop where
 adj:AdjR w G vs pp
 rf:RowA w G vf f
 rt:RowA w G vt t
 rn:RowA w G vn n
 rc:RowA w G vc c
 bel:Below G W1 w
section
variable {W1 w w':World} {G:Nat} {vs:List Value} {pp:List (List Int)} {vf vt vn vc:Value} {f t n c:List Int}
theorem WayS.up (h:WayS W1 w G vs pp vf vt vn vc f t n c) (hb:Below w.heap.size w w'):WayS W1 w' G vs pp vf vt vn vc f t n c :=
 ⟨h.adj.up hb,h.rf.up hb,h.rt.up hb,h.rn.up hb,h.rc.up hb,h.bel.trans (hb.mono (Nat.le_of_lt h.adj.blk.lt))⟩
theorem WayS.put {i:Nat} {u:Value} {q:List Int} (h:WayS W1 w G vs pp vf vt vn vc f t n c) (d:RowA w G u q):WayS W1 (w.setCell ⟨G,i,none⟩ u) G (vs.set i u) (pp.set i q) vf vt vn vc f t n c :=
 ⟨h.adj.put d.1 d.2,h.rf.put,h.rt.put,h.rn.put,h.rc.put,h.bel.setCell (p:=⟨G,i,none⟩) (le_refl _) _⟩
end
theorem Vc6 (E:Nat→Addr) (ms:List Mat) (I Ao:Option Addr) (L K:Nat) (c:List Int) (w:World) (h:Cls ms c) (uh:0<c.length) (hl:MatL w w.heap.size (.slice I ms.length L) ms) (hs:∀ m∈ms,Sml m) (ho:Row w w.heap.size (.slice Ao c.length K) c) (hE:Env E w) :
  Calls Tryz.prog 45 #[.agg #[.slice I ms.length L,.slice Ao c.length K]] w fun e w'=>∃ (vw vb:Value) (l t:List Int),e=.returned (.tuple #[vw,vb])∧Row w' w'.heap.size vw l∧Row w' w'.heap.size vb t∧Below w.heap.size w w'∧(∀ g,vw.ownBlock=some g→w.heap.size≤g)∧((∃ d,Greedy (adjU ms c) (endsU ms c.length) (Z3_ c (-1)) d l)∨(l=[]∧StopU ms c∧t=comeU ms c)):=by
 obtain ⟨R,ua,_⟩:=Row.nth ho uh;subst ua;have x7:=h.n64;have uf:=h.many.2;have v5:(c.length:Int)≤64:=y40_;have v2:(ms.length:Int)≤8:=y40_;obtain ⟨W0,hW0⟩:∃ W0,W0=w.alloc (.cells #[.slice I ms.length L,.slice (some R) c.length K] 59):=⟨_,rfl⟩;have zy:=hid hW0;have xa:Below w.heap.size w W0:=y42_;have z3:Blk W0 w.heap.size 59 #[.slice I ms.length L,.slice (some R) c.length K]:=y44_;have zz:=hid xa;have H:=hid z3;have HL:=hid (hl.up xa);have HO:=hid (ho.up xa);have HE:=hid (hE.up xa);have Hs:=hid hs;have j:=hid h;clear xa z3 hl ho hE hs h;have b0:=H.out.cell 0;have b1:=H.out.cell 1;rw [hW0] at b0 b1;clear hW0
 go_enter Tryz.func45,Tryz.ntmps45
 go_wp2_with fail
 rw [← zy.out];refine (D0_ (c.length:Int) W0).mono ?_;rintro e W1 ⟨va,rfl,yb,x3⟩;have HA:=hid yb;have y0:=hid (Z0_ zz.out (le_refl _) x3);replace H:=hid (H.out.below x3 H.out.lt);replace HL:=hid (HL.out.up x3);replace HO:=hid (HO.out.up x3);replace HE:=hid (HE.out.up x3);obtain ⟨Aa,ca,rfl,_⟩:=id yb;have z0:(allL (c.length:Int)).length=c.length:=by have:=(C8_ (c.length:Int)).2 y40_ y40_;omega
 have xz:=hid z0;obtain ⟨N,hN⟩:∃ N:Nat,c.length+ms.length=N:=⟨_,rfl⟩;have O:=hid hN;have uz:(N:Int)≤72:=y40_;have uy:(1:Int)≤(N:Int):=y40_;have v7:IntKind.i64.wrap ((c.length:Int)+(ms.length:Int))=(N:Int):=y41_;clear b0 b1 yb x3 z0 hN;have b0:=H.out.cell 0;have b1:=H.out.cell 1;have ug:=run_make_row' 22 28 (.slice none 0 0) 24 Tryz.underlying22 Zs2 rfl .i64 .i64 N y40_ y40_ W1;obtain ⟨Y,hY⟩:∃ Y,W1.alloc (.cells (madeCells #[.slice none 0 0] N) 28)=Y:=⟨_,rfl⟩;obtain ⟨G,hG⟩:∃ G,W1.heap.size=G:=⟨_,rfl⟩;have HY:=hid hY;have HG:=hid hG;have x6:Below W1.heap.size W1 Y:=by rw [← hY];exact (Below.refl _ W1).alloc (le_refl _) _
 have xi:Hid (AdjR Y G (List.replicate N (.slice none 0 0)) (List.replicate N [])):=hid (AdjR.made (by rw [← hY,← hG];exact Blk.new W1 _ _));have yz:G<Y.heap.size:=by rw [← hY,← hG];simp
 have uu:=hid x6;have zp:Hid ((allL (N:Int)).length=N):=hid (by have:=(C8_ (N:Int)).2 y40_ y40_;omega);have u3:Hid (Z8_ (allL (N:Int)) (allL (c.length:Int))=endsU ms c.length):=hid (by rw [← O.out];exact Zn9 j.out x7);have yj:=hid (HO.out.up x6);have yg:=hid (HA.out.up x6);have yh:=hid (H.out.below x6 H.out.lt);have yr:=hid x6;have y1:=yh.out.cell 1;rw [← hY] at y1;clear hY x6
 go_wp2_with fail
 rw [HY.out];refine (D6_ _ c (-1) Y yj.out y40_).mono ?_;rintro e w3 ⟨vf,rfl,yc,x4,z9⟩;have HF:=hid yc;have xx:Hid (∀ g,vf.ownBlock=some g→G<g):=hid fun g o=>Nat.lt_of_lt_of_le yz (z9 g o);have u0:=hid x4;obtain ⟨Af,cf,rfl,_⟩:=id yc;clear y1 yc z9 ug b0 b1
 go_wp2_with fail
 refine (D0_ (N:Int) w3).mono ?_;rintro e w4 ⟨vn,rfl,yd,x5⟩;have yi:=hid yd;have xl:=hid (Z0_ x4 (le_refl _) x5);replace HF:=hid (HF.out.up x5);obtain ⟨An,cn,rfl,_⟩:=id yd;clear yd x4 x5 u0
 go_wp2_with fail
 refine (N5_ _ _ (allL (N:Int)) (allL (c.length:Int)) w4 yi.out (yg.out.up xl.out) (by rw [zp.out];omega) (by rw [xz.out];omega)).mono ?_;rintro e w5 ⟨vt,rfl,xt,y4,zc⟩;rw [u3.out] at xt;have HT:=hid xt;have yq:Hid (∀ g,vt.ownBlock=some g→G<g):=hid fun g o=>Nat.lt_of_lt_of_le (Nat.lt_of_lt_of_le yz xl.out.size) (zc g o);have y2:=hid (Z0_ xl.out (le_refl _) y4);replace HF:=hid (HF.out.up y4);replace xi:=hid (xi.out.up y2.out);obtain ⟨x8,ct,rfl,_⟩:=id xt;have uv:Hid ((endsU ms c.length).length=ms.length):=hid (by unfold endsU upTo;simp);clear xt y4 zc yi xl;have yn:Hid (WayS W1 w5 G (List.replicate N (.slice none 0 0)) (List.replicate N []) (.slice Af (Z3_ c (-1)).length cf) (.slice x8 (endsU ms c.length).length ct) (.slice none 0 0) (.slice Af (Z3_ c (-1)).length cf) (Z3_ c (-1)) (endsU ms c.length) (nearU ms c 0) (lev ms c 0)):=hid ⟨xi.out,⟨HF.out,xx.out⟩,⟨HT.out,yq.out⟩,⟨Row.nil_ _ _,fun g o=>by cases o⟩,⟨HF.out,xx.out⟩,by rw [← HG.out];exact Z0_ yr.out (le_refl _) y2.out⟩;have yk:Hid (Part ms c 0 (List.replicate N [])):=hid (by rw [← O.out];exact Part.start);have x0:Hid (∀ W,Below G W1 W→MatL W W.heap.size (.slice I ms.length L) ms∧Row W W.heap.size (.slice (some R) c.length K) c∧Env E W∧Blk W w.heap.size 59 #[.slice I ms.length L,.slice (some R) c.length K]∧Row W W.heap.size (.slice Aa (allL (c.length:Int)).length ca) (allL (c.length:Int))∧∀ x,x<c.length→W.cell? (R.add x)=some (.int .i64 (c.getD x 0))):=hid (by
  rw [← HG.out];intro W U;refine ⟨HL.out.up U,HO.out.up U,HE.out.up U,H.out.below U H.out.lt,HA.out.up U,fun x B=>?_⟩;obtain ⟨a2,h2,h3⟩:=Row.nth HO.out B;obtain rfl:=Option.some.inj h2;exact h3 W U)
 clear xi HF HT xx yq yj yg yh yr y2
 go_wp2_with fail
 clear HY
 go_loopg [8,9] 80 (fun k vn vc wr=>∃ (r:Nat) (vs:List Value) (pp:List (List Int)),(nearU ms c r).length+k=80∧WayS W1 wr G vs pp (.slice Af (Z3_ c (-1)).length cf) (.slice x8 (endsU ms c.length).length ct) vn vc (Z3_ c (-1)) (endsU ms c.length) (nearU ms c r) (lev ms c r)∧Part ms c r pp∧∀ k,k<r→E7_ ms c k)
 case atStart=>exact ⟨0,_,_,rfl,yn.out,yk.out,fun k hk=>absurd hk (Nat.not_lt_zero _)⟩
 case round =>
  obtain ⟨r,vs,pp,hk,xu,hp,zf⟩:=hrel;obtain ⟨xh,xm,um,_⟩:=id xu.rn.1;obtain ⟨Ac,cc,ul,_⟩:=id xu.rc.1;subst um ul;have T:=hid xu;have Q:=hid hp;have P:=hid zf;have ud:(lev ms c r).length≤72:=by have:=X0_ (H8_ j.out r);rw [E2_] at this;omega
  have yu:=hid ud;clear xu hp zf yn yk;by_cases v1:(nearU ms c r).length<(lev ms c r).length
  ·have ub:((nearU ms c r).length:Int)<((lev ms c r).length:Int):=by omega
   go_wp2_with fail
   refine (N5_ _ _ (lev ms c r) (nearU ms c r) wr T.out.rc.1 T.out.rn.1 y40_ y40_).mono ?_;rintro e w6 ⟨uq,rfl,xq,z2,za⟩;have ys:Hid ((Z8_ (lev ms c r) (nearU ms c r)).length≤72):=hid (by have:=Zx6 (lev ms c r) (nearU ms c r);omega);have xw:=hid (Yw1 j.out P.out);obtain ⟨far,y7⟩:∃ far,Z8_ (lev ms c r) (nearU ms c r)=far:=⟨_,rfl⟩;have x9:=hid y7;rw [y7] at xq ys xw;clear y7;have u8:G<wr.heap.size:=T.out.adj.blk.lt;have zw:Hid (RowA w6 G uq far):=hid ⟨xq,fun g o=>Nat.lt_of_lt_of_le u8 (za g o)⟩;replace T:=hid (T.out.up z2);obtain ⟨Ar,cr,rfl,_⟩:=id xq;clear xq z2 za;have v0:(far.length:Int)≤72:=by have:=ys.out;omega
   go_upto_block 2 with fail
   go_cut [] from 38 to 101 (fun wx=>∃ (x2:List Value) (C:List (List Int)),WayS W1 wx G x2 C (.slice Af (Z3_ c (-1)).length cf) (.slice x8 (endsU ms c.length).length ct) (.slice xh (nearU ms c r).length xm) (.slice Ac (lev ms c r).length cc) (Z3_ c (-1)) (endsU ms c.length) (nearU ms c r) (lev ms c r)∧RowA wx G (.slice Ar far.length cr) far∧Roomed ms c r pp C)
   case first =>
    go_wp2_with fail
    go_loopw [12,48] (fun _ vk wx=>∃ (k:Nat) (x2:List Value),vk=.int .i64 k∧k≤far.length∧WayS W1 wx G x2 (putsU (A3_ ms c) (far.take k) pp) (.slice Af (Z3_ c (-1)).length cf) (.slice x8 (endsU ms c.length).length ct) (.slice xh (nearU ms c r).length xm) (.slice Ac (lev ms c r).length cc) (Z3_ c (-1)) (endsU ms c.length) (nearU ms c r) (lev ms c r)∧RowA wx G (.slice Ar far.length cr) far) (fun _ vk _=>far.length - (intOf vk).toNat)
    case atStart=>exact ⟨0,_,rfl,Nat.zero_le _,T.out,zw.out⟩
    case round =>
     obtain ⟨k,x2,rfl,uc,Z,xf⟩:=hrel;have D:=hid Z;have S:=hid xf;clear Z xf;by_cases V:k<far.length
     ·have ue:(k:Int)<(far.length:Int):=by omega
      have yf:=xw.out _ (Q7_ 0 V);obtain ⟨x,B⟩:∃ x:Nat,far.getD k 0=(x:Int):=⟨(far.getD k 0).toNat,y40_⟩;rw [B] at yf;have xv:x<c.length:=y40_;have ye:x<N:=by have:=O.out;omega
      have un:(x:Int)<(N:Int):=y40_;have v8:(x:Int)<(c.length:Int):=y40_;obtain ⟨af,hA,xb⟩:=Row.nth S.out.1 V;subst hA;have g0:=xb _ (Below.refl _ _);rw [B] at g0;have HX:=hid B;obtain ⟨k1,k2,k3,M,k5,k6⟩:=x0.out _ D.out.bel;have b0:=M.cell 0;have b1:=M.cell 1;have Hu:=hid (Xo9 E ms I (some R) L K c x _ k1 Hs.out k2 x7 uf xv k3);clear k1 k2 k3 M k5 k6 xb B
      go_wp2_with fail
      refine Hu.out.mono ?_;rintro e w7 ⟨vq,rfl,xs,y5,zb⟩;have X:=Yc7 (f:=A3_ ms c) (pp:=pp) V;rw [HX.out,Int.toNat_natCast] at X;obtain ⟨q,hq⟩:∃ q,A3_ ms c (x:Int)=q:=⟨_,rfl⟩;rw [hq] at xs X;have HQ:=hid hq;have xy:=hid X;have u9:=D.out.adj.blk.lt;have zx:Hid (RowA w7 G vq q):=hid ⟨xs,fun g o=>Nat.lt_of_lt_of_le u9 (zb g o)⟩;have yo:=hid (D.out.up y5);have zv:=hid (S.out.up y5);have HS8:=hid (yo.out.put (i:=x) zx.out);have HR8:=hid (zv.out.put (i:=x) (u:=vq));rw [← xy.out] at HS8;obtain ⟨A9,c9,n1,n2⟩:=yo.out.adj.nth (i:=x) (by rw [M8_,Q.out.len,O.out];exact ye);obtain ⟨k1,k2,k3,M,k5,k6⟩:=x0.out _ HS8.out.bel;have e1:=k6 x xv;have e2:=M.cell 0;have e3:=M.cell 1;obtain ⟨z,hz⟩:∃ z,c.getD x 0=z:=⟨_,rfl⟩;rw [hz] at e1;have HZ:=hid hz;obtain ⟨Aq,cq,rfl,_⟩:=id xs;clear k1 k2 k3 M k5 k6 hz xs y5 zb hq X Hu;by_cases zn:z=-1
      ·subst zn
       by_cases xo:q=[]
       ·have uk:¬ (0:Int)<(q.length:Int):=by rw [xo];simp
        clear xo;exact k15_
       ·have v6:0<q.length:=List.length_pos_iff.2 xo
        have uk:(0:Int)<(q.length:Int):=y40_
        go_wp2_with fail
        go_meet
        refine ⟨_,_,HS8.out,HR8.out,?_⟩;have h:=Xc7 j.out P.out Q.out (k:=k) (x:=x) (by rw [x9.out];exact V) (by rw [x9.out];exact HX.out) HZ.out (by rw [HQ.out];exact xo);rw [x9.out] at h;exact h
      ·have v9:(z==-1)=false:=by simpa using zn
       exact k15_
     ·have y8:k=far.length:=by omega
      subst y8;rw [List.take_length] at D
      go_wp2_with fail
      go_meet
      have h:=Xc6 j.out P.out Q.out;rw [x9.out] at h;exact ⟨_,_,D.out,S.out,h⟩
   case rest =>
    obtain ⟨x2,C,Z,xf,xr⟩:=hcut;have D:=hid Z;have S:=hid xf;have xj:=hid xr;have xe:C.length=N:=by rw [xr.len,Q.out.len,O.out]
    have x1:=Z.adj.rows y40_;rw [xe] at x1;have z5:=xr.dig j.out Q.out;have zj:PtsP C.length (Z3_ c (-1)):=by rw [xe,← O.out,← E2_];exact K5_ j.out
    have zk:PtsP C.length (endsU ms c.length):=by rw [xe,← O.out];exact Zw2 j.out x7
    have yv:=hid (Zt8 _ _ _ C (Z3_ c (-1)) (endsU ms c.length) _ x1 Z.rf.1 Z.rt.1 z5 zj zk);clear Z xf xr x1 z5 zj zk
    go_wp2_with fail
    refine yv.out.mono ?_;rintro e w9 ⟨u,l,b,rfl,hu,xn,zd,uj⟩;have z4:Below w.heap.size w w9:=Z0_ y0.out (le_refl _) (by rw [HG.out];exact (D.out.up xn).bel);have ux:w.heap.size≤G:=by rw [← HG.out];exact y0.out.size
    have ze:∀ g,u.ownBlock=some g→w.heap.size≤g:=fun g o=>by
     have h1:=zd g o;have h2:=D.out.adj.blk.lt;omega
    have yt:=hid ze;have u2:=hid z4;replace D:=hid (D.out.up xn);replace S:=hid (S.out.up xn);have HU:=hid hu;obtain ⟨Au,cu,rfl,_⟩:=id hu;have xk:=hid fun B=>xj.out.way j.out P.out Q.out B;clear hu xn zd z4 ze yv;rcases uj with ⟨rfl,nn,x,l',rfl,xc⟩ | ⟨rfl,rfl,zg⟩
    ·have u4:Hid (∃ d,Greedy (adjU ms c) (endsU ms c.length) (Z3_ c (-1)) d (x :: l')):=hid (by
      by_cases B:∃ x:Nat,Lev ms c r (x:Int)∧A3_ ms c (x:Int)≠[]
      ·obtain ⟨d,l0,h1,h2⟩:=xk.out B
       rw [xc.unique h2];exact ⟨d,h1⟩
      ·have ui:=(xj.out.none j.out P.out Q.out fun y hy=>Classical.byContradiction fun hn=>B ⟨y,hy,hn⟩).2
       have hl:=xc.length;exact (ui nn _ xc.first (by simpa using xc.near 0 y40_)).elim)
     clear xc xk
     go_wp2_with fail
     refine bodyPost_ret (v:=.tuple #[.slice Au (x :: l').length cu,.slice none 0 0]) z46_ rfl ?_;exact ⟨_,_,_,[],rfl,HU.out,Row.nil_ _ _,u2.out,yt.out,.inl u4.out⟩
    ·have zs:Hid (E7_ ms c r):=hid (xj.out.none j.out P.out Q.out fun y hy=>Classical.byContradiction fun hn=>by
      obtain ⟨d,l0,_,h2⟩:=xk.out ⟨y,hy,hn⟩;have hl:=h2.length;exact zg _ h2.first d (by simpa using h2.near 0 y40_)).1
     clear zg xk HU yt
     go_wp2_with fail
     go_loopw [16,84] (fun _ vk wx=>∃ (k:Nat) (x2:List Value),vk=.int .i64 k∧k≤far.length∧WayS W1 wx G x2 (putsU (rowU ms c r) (far.take k) C) (.slice Af (Z3_ c (-1)).length cf) (.slice x8 (endsU ms c.length).length ct) (.slice xh (nearU ms c r).length xm) (.slice Ac (lev ms c r).length cc) (Z3_ c (-1)) (endsU ms c.length) (nearU ms c r) (lev ms c r)∧RowA wx G (.slice Ar far.length cr) far) (fun _ vk _=>far.length - (intOf vk).toNat)
     case atStart=>exact ⟨0,_,rfl,Nat.zero_le _,D.out,S.out⟩
     case round =>
      obtain ⟨k,vd,rfl,uc,zm,xg⟩:=hrel;have F:=hid zm;have yl:=hid xg;clear zm xg D S;by_cases V:k<far.length
      ·have ue:(k:Int)<(far.length:Int):=by omega
       have yf:=xw.out _ (Q7_ 0 V);obtain ⟨x,B⟩:∃ x:Nat,far.getD k 0=(x:Int):=⟨(far.getD k 0).toNat,y40_⟩;rw [B] at yf;have xv:x<c.length:=y40_;have ye:x<N:=by have:=O.out;omega
       have un:(x:Int)<(N:Int):=y40_;obtain ⟨af,hA,xb⟩:=Row.nth yl.out.1 V;subst hA;have g0:=xb _ (Below.refl _ _);rw [B] at g0;have X:=Yc7 (f:=rowU ms c r) (pp:=C) V;rw [B,Int.toNat_natCast] at X;have xy:=hid X;have u7:=hid (Xt0 j.out (r:=r) x7 (x:Int));have u5:Hid ((Z8_ (allL (c.length:Int)) (lev ms c r)).length≤64):=hid (by have:=Zx6 (allL (c.length:Int)) (lev ms c r);have:=xz.out;omega);have zi:x<(putsU (rowU ms c r) (far.take k) C).length:=by rw [M8_,xe];exact ye
       have u6:=hid zi;clear xb B X zi;have y6:Below wr.heap.size wr wr.drew:=(Below.refl _ wr).drew;have J:=hid (F.out.up y6);have ym:=hid (yl.out.up y6);have s:Hid (Below wr.drew.heap.size wr.drew wr.drew):=hid (Below.refl _ _);have K1:Hid (∀ W,Below G W1 W→W.cell? ⟨w.heap.size,0,none⟩=some (.slice I ms.length L)∧W.cell? ⟨w.heap.size,1,none⟩=some (.slice (some R) c.length K)):=hid fun W U=>by
        obtain ⟨_,_,_,M,_⟩:=x0.out _ U;exact ⟨M.cell 0,M.cell 1⟩
       clear y6
       go_wp2_with fail
       go_region_held3 (fun W=>W.cell? ⟨w.heap.size,0,none⟩=some (.slice I ms.length L)∧W.cell? ⟨w.heap.size,1,none⟩=some (.slice (some R) c.length K))
        (first | exact K1.out _ (J.out.up s.out).bel | exact K1.out _ ((J.out.up s.out).bel.setCell (p:=⟨G,x,none⟩) (le_refl _) _))
        (first
        | (go_at_call 65;refine (N5_ _ _ (allL (c.length:Int)) (lev ms c r) _ (x0.out _ (J.out.up s.out).bel).2.2.2.2.1 (J.out.up s.out).rc.1 (by rw [xz.out];omega) (by have:=yu.out;omega)).mono ?_;rintro e w3 ⟨v3,rfl,xg,x4,_⟩;replace s:=hid (Z0_ s.out (le_refl _) x4);have zq:=hid xg;clear xg x4)
        | (go_at_call 68;refine (Yk6 E ms I (some R) L K c x _ (Z8_ (allL (c.length:Int)) (lev ms c r)) _ (x0.out _ (J.out.up s.out).bel).1 Hs.out (x0.out _ (J.out.up s.out).bel).2.1 zq.out x7 xv u5.out (Vw1 j.out x7) (x0.out _ (J.out.up s.out).bel).2.2.1).mono ?_;rintro e w4 ⟨v4,rfl,xp,x5,z8⟩;rw [u7.out] at xp;have yy:=(J.out.up s.out).adj.blk.lt;have zo:=hid (show RowA _ G v4 (rowU ms c r (x:Int)) from ⟨xp,fun g o=>Nat.lt_of_lt_of_le yy (z8 g o)⟩);replace s:=hid (Z0_ s.out (le_refl _) x5);obtain ⟨A9,c9,n1,n2⟩:=(J.out.up s.out).adj.nth (i:=x) u6.out;obtain ⟨Aq,cq,rfl,_⟩:=id xp;clear xp x5 z8 yy))
       all_goals
        have yp:=hid ((J.out.up s.out).put (i:=x) zo.out);have ut:=hid ((ym.out.up s.out).put (i:=x) (u:=.slice (some ⟨G,0,none⟩) 0 0));rw [← xy.out] at yp
        go_wp2_with fail
        go_roundw
        case rel=>exact ⟨k+1,_,j41_,y40_,yp.out,(ym.out.up s.out).put⟩
        exact mz_
      ·have y8:k=far.length:=by omega
       subst y8;rw [List.take_length] at F;have xd:=Xs9 j.out P.out Q.out xj.out;rw [x9.out] at xd;have y9:∀ k,k<r+1→E7_ ms c k:=fun k hk=>by
        by_cases e:k=r
        ·rw [e];exact zs.out
        ·exact P.out k y40_
       have zh:(putsU (rowU ms c r) far C).length=N:=by rw [M8_,xe]
       have z6:=xd.dig j.out;have zl:PtsP (putsU (rowU ms c r) far C).length (Z3_ c (-1)):=by rw [zh,← O.out,← E2_];exact K5_ j.out
       have x1:=F.out.adj.rows y40_;rw [zh] at x1;have y3:=hid (Zt9 _ _ (putsU (rowU ms c r) far C) (Z3_ c (-1)) _ x1 F.out.rf.1 z6 zl);rw [xd.come j.out y9] at y3;have zt:=hid xd;have zr:=hid y9;clear xd y9 z6 zl x1
       go_wp2_with fail
       refine y3.out.mono ?_;rintro e ur ⟨uo,rfl,ya,z1,z7⟩;have yx:=F.out.adj.blk.lt;have zu:Hid (RowA ur G uo (lev ms c (r+1))):=hid ⟨ya,fun g o=>Nat.lt_of_lt_of_le yx (z7 g o)⟩;replace F:=hid (F.out.up z1);obtain ⟨us,uw,rfl,_⟩:=id ya;clear ya z1 z7 yx y3
       go_wp2_with fail
       go_roundg (80 - (lev ms c r).length)
       case measure=>omega
       case rel=>exact ⟨r+1,_,_,by show (lev ms c r).length+_=80;have:=yu.out;omega,⟨F.out.adj,F.out.rf,F.out.rt,F.out.rc,zu.out,F.out.bel⟩,zt.out,zr.out⟩
  ·have ub:¬ ((nearU ms c r).length:Int)<((lev ms c r).length:Int):=by omega
   have yw:=hid (Yc8 j.out P.out y40_);have u1:Hid (Below w.heap.size w wr):=hid (Z0_ y0.out (le_refl _) (by rw [HG.out];exact T.out.bel))
   go_wp2_with fail
   refine bodyPost_ret (v:=.tuple #[.slice none 0 0,.slice xh (nearU ms c r).length xm]) z46_ rfl ?_;exact ⟨_,_,rfl,[],Row.nil_ _ _,nearU ms c r,T.out.rn.1,u1.out,(fun g o=>by cases o),.inr ⟨rfl,yw.out.2,yw.out.1.symm⟩⟩
open Go Go.RowKit
theorem Vc7 {w:World} {g base n:Nat} {f:Nat→Int} (h:w.rowIs g 3 n fun i=>.int .i64 (f i)) (hb:base≤g) (k:n≤maxLen):w.ownsRow base 3 1 (.slice (some ⟨g,0,none⟩) n n) n (ints ((List.range n).map f)):=by
 obtain ⟨c,d,h2,h3⟩:=h;refine ⟨by simp [ints],.inr ⟨g,n,c,rfl,hb,d,le_refl _,k,y40_,?_⟩⟩;apply List.ext_getElem
 ·simp [ints,h2]
 ·intro i m e
  have j:i<n:=by simpa [ints] using e
  have:=h3 i j;rw [List.getElem_take];rw [Array.getElem?_eq_getElem y40_] at this;injection this with this;simp [ints,this]
theorem Yb3 {ms:List Mat} {c l:List Int} {p:Nat→Nat} {m K:Nat} (f:WayU ms c l p m K):m+1≤c.length:=by
 have g:((List.range (m+1)).map p).Nodup:=by
  refine List.pairwise_map.2 (List.pairwise_iff_getElem.2 fun i j d h o=>?_);rw [List.getElem_range,List.getElem_range];rw [List.length_range] at d h;exact fun e=>by have:=f.inj i j y40_ y40_ e;omega
 have h2:(List.range (m+1)).map p ⊆ List.range c.length:=fun x k=>by
  obtain ⟨i,d,rfl⟩:=List.mem_map.1 k;rw [List.mem_range] at d ⊢;exact (f.el i y40_).1
 have h3:=Wp.K.nodup_le g h2;simpa using h3
theorem Vc8 (x j:Option Addr) (m z q:Nat) (w:World) (x2:1≤m) (x3:m≤8) (K:Row w w.heap.size (.slice j 0 q) []) :
  Calls Tryz.prog 45 #[.agg #[.slice x m z,.slice j 0 q]] w fun e w'=>e=.returned (.tuple #[.slice none 0 0,.slice none 0 0])∧Below w.heap.size w w':=by
 obtain ⟨g,hW0⟩:∃ g,g=w.alloc (.cells #[.slice x m z,.slice j 0 q] 59):=⟨_,rfl⟩;have R:=hid hW0;have B:Below w.heap.size w g:=y42_;have J:Blk g w.heap.size 59 #[.slice x m z,.slice j 0 q]:=y44_;have U:=hid B;have c:=hid J;have y:=hid (K.up B);have x4:(m:Int)≤8:=y40_;clear B J K;have o:=c.out.cell 0;have p:=c.out.cell 1;rw [hW0] at o p;clear hW0
 go_enter Tryz.func45,Tryz.ntmps45
 go_wp2_with fail
 rw [← R.out];refine (D0_ 0 g).mono ?_;rintro e W1 ⟨va,rfl,E,s⟩;have N:=hid E;have V:=hid (Z0_ U.out (le_refl _) s);replace c:=hid (c.out.below s c.out.lt);replace y:=hid (y.out.up s);obtain ⟨Aa,ca,rfl,_⟩:=id E;have x6:IntKind.i64.wrap (0+(m:Int))=(m:Int):=y41_;have x5:(0:Int)+(m:Int)=(m:Int):=y40_;clear o p E s;have o:=c.out.cell 0;have p:=c.out.cell 1;have x0:=run_make_row' 22 28 (.slice none 0 0) 24 Tryz.underlying22 Zs2 rfl .i64 .i64 m y40_ y40_ W1;obtain ⟨Y,r⟩:∃ Y,W1.alloc (.cells (madeCells #[.slice none 0 0] m) 28)=Y:=⟨_,rfl⟩;have S:=hid r;have h:Below W1.heap.size W1 Y:=by rw [← r];exact (Below.refl _ W1).alloc (le_refl _) _
 have Q:=hid (y.out.up h);have d:=hid (N.out.up h);have O:=hid (c.out.below h c.out.lt);have Z:=hid (Z0_ V.out (le_refl _) h);have L:=O.out.cell 1;rw [← r] at L;clear r h
 go_wp2_with fail
 rw [S.out];refine (D6_ _ [] (-1) Y Q.out k40_).mono ?_;rintro e G ⟨vf,rfl,u,C,_⟩;have u:Row G G.heap.size vf []:=u;have H:=hid (Z0_ Z.out (le_refl _) C);replace d:=hid (d.out.up C);obtain ⟨M,cf,rfl,_⟩:=id u;clear L u x0 o p C
 go_wp2_with fail
 refine (D0_ (m:Int) G).mono ?_;rintro e w4 ⟨vn,rfl,F,D⟩;have P:=hid F;have W:=hid (Z0_ H.out (le_refl _) D);replace d:=hid (d.out.up D);obtain ⟨An,cn,rfl,_⟩:=id F;clear F D H
 go_wp2_with fail
 refine (N5_ _ _ (allL (m:Int)) (allL 0) w4 P.out d.out (by have:=(C8_ (m:Int)).1;omega) (by have:=(C8_ 0).1;omega)).mono ?_;rintro e w5 ⟨vt,rfl,x1,I,_⟩;have X:=hid (Z0_ W.out (le_refl _) I);clear x1 I
 go_wp2_with fail
 go_loopg [8,9] 0 (fun k vn vc wr=>vn=.slice none 0 0∧vc=.slice M 0 cf∧Below w.heap.size w wr)
 case atStart=>exact ⟨rfl,rfl,X.out⟩
 case round =>
  obtain ⟨rfl,rfl,hb⟩:=hrel;have T:=hid hb
  go_wp2_with fail
  refine bodyPost_ret (v:=.tuple #[.slice none 0 0,.slice none 0 0]) z46_ rfl ?_;exact ⟨rfl,T.out⟩
theorem Vc9 (E:Nat→Addr) (ms:List Mat) (v:Value) (w:World) (hl:MatL w w.heap.size v ms) (hs:∀ m∈ms,Sml m) (d:Env E w) (h:sevB ms=false) :
  Calls Tryz.prog 28 #[v] w fun e w'=>e=.returned (.tuple #[.slice none 0 0,.slice none 0 0,.int .i64 1])∧Below w.heap.size w w':=by
 have c:=hid (Zh3 E ms v w hl hs d);rw [h] at c;obtain ⟨j,k,rfl,_⟩:=id hl;clear hl hs d
 go_enter Tryz.func28,Tryz.ntmps28
 go_wp2_with fail
 refine c.out.mono ?_;rintro e o ⟨rfl,hb⟩;have g:=hid hb;clear hb
 go_wp2_with fail
 refine bodyPost_ret (v:=.tuple #[.slice none 0 0,.slice none 0 0,.int .i64 1]) (by simp [results,Tryz.results28,go_sem]) rfl ?_;exact ⟨rfl,g.out⟩
theorem Vt2 (E:Nat→Addr) (ms:List Mat) (v:Value) (w:World) (hl:MatL w w.heap.size v ms) (hs:∀ m∈ms,Sml m) (hE:Env E w) (x8:sevB ms=true) :
  Calls Tryz.prog 28 #[v] w fun e w'=>∃ (vc vu:Value) (c u:List Int),e=.returned (.tuple #[vc,vu,.int .i64 0])∧Row w' w'.heap.size vc c∧Row w' w'.heap.size vu u∧Below w.heap.size w w'∧MaxU ms (nN (ms.getD 0 default)) c u:=by
 have xi:=hid (Zh3 E ms v w hl hs hE);rw [x8] at xi;have D:=hid (sev_iff.1 x8).1;obtain ⟨x7,yi⟩:=D.out.many;obtain ⟨o,s,lv,iv,rfl,_,xq⟩:=MatL.one hl x7;have xh:=hid xq;have HL:=hid hl;have Hs:=hid hs;have HE:=hid hE;obtain ⟨n,V⟩:∃ n,nN (ms.getD 0 default)=n:=⟨_,rfl⟩;have yj:=D.out.n64;rw [V] at D yj;have ye:(ms.getD 0 default).n=(n:Int):=by
  have x:=(Y0_ (D.out.may 0 x7).1).1;rw [← V];omega
 have yu:(0:Int)<(ms.length:Int):=y40_;rw [V];clear hl hs hE xq x8 V
 go_enter Tryz.func28,Tryz.ntmps28
 go_wp2_with fail
 refine xi.out.mono ?_;rintro e y ⟨rfl,hb⟩;have Hb:=hid hb;clear hb;obtain ⟨X,z⟩:∃ X,X=y.alloc (.cells #[.int .i64 (-1)] 3):=⟨_,rfl⟩;have HX:=hid z;have xp:Below y.heap.size y X:=by rw [z];exact (Below.refl _ y).alloc (le_refl _) _
 have O:=hid (Z0_ Hb.out (le_refl _) xp);have q1:=(xh.out X O.out).2.1;rw [show o.add (0 * 6)=o by obtain ⟨x1,x2,x3⟩:=o;cases x3<;>simp [Addr.add],ye,z] at q1;have xy:X.cell? ⟨y.heap.size,0,none⟩=some (.int .i64 (-1)):=by rw [z];exact (Blk.new y 3 #[.int .i64 (-1)]).cell 0
 have xz:y.heap.size<X.heap.size:=by rw [z];simp
 clear z xp
 go_wp2_with fail
 rw [← HX.out];refine (R.repeat_any y.heap.size n X xy xz y40_).mono ?_;rintro e p ⟨rfl,W,xn⟩;obtain ⟨g,B⟩:∃ g,X.heap.size=g:=⟨_,rfl⟩;rw [B] at W;have xs:w.heap.size≤g:=by rw [← B];exact O.out.size
 have yo:g<p.heap.size:=World.rowIs.lt W;have ya:=hid (Z0_ O.out (le_refl _) xn);have xw:(List.range n).map (fun _=>(-1:Int))=List.replicate n (-1):=by
  refine List.ext_getElem k40_ fun i x h2=>by simp
 have x9:=Vc7 (base:=w.heap.size) W xs z41_;rw [xw] at x9;have xd:=hid x9;have Hg:=hid B;clear q1 xy xz W xn B xw x9;obtain ⟨P,Q⟩:∃ P,P=p.alloc (.cells #[.slice (some o) ms.length s,.slice (some ⟨g,0,none⟩) n n] 59):=⟨_,rfl⟩;have xg:=hid Q;have x4:Below p.heap.size p P:=by rw [Q];exact (Below.refl _ p).alloc (le_refl _) _
 have yc:Hid (Blk P p.heap.size 59 #[.slice (some o) ms.length s,.slice (some ⟨g,0,none⟩) n n]):=hid (by rw [Q];exact Blk.new p _ _);have y4:=hid (I6_ xd.out x4);have yb:=hid (Z0_ ya.out (le_refl _) x4);have yf:p.heap.size≠g:=y40_;clear Q x4 xd xh
 go_wp2_with fail
 rw [Hg.out,← xg.out];clear xg Hg HX O
 go_loopg [6,7] (n+1) (fun k _ _ wr=>∃ (c:List Int) (j:Nat),ChainU ms n j c∧j+k=n+1∧wr.ownsRow w.heap.size 3 1 (.slice (some ⟨g,0,none⟩) n n) n (ints c)∧Blk wr p.heap.size 59 #[.slice (some o) ms.length s,.slice (some ⟨g,0,none⟩) n n]∧Below w.heap.size w wr)
 case atStart=>exact ⟨List.replicate n (-1),0,.zero,y40_,y4.out,yc.out,yb.out⟩
 case round =>
  obtain ⟨c,j,x5,yr,Y,T,S⟩:=hrel;obtain ⟨U,I,yn⟩:=Zg4 D.out x5;have x0:=hid x5;have y7:=hid Y;have xc:=hid T;have y1:=hid S;have ym:=hid U;have C:=hid I;have J:Row wr wr.heap.size (.slice (some ⟨g,0,none⟩) n n) c:=Row.of_own Y I.symm;have y8:=hid J;have yp:g<wr.heap.size:=(Y.lt g rfl).2;have xm:Hid (Calls Tryz.prog 45 #[.agg #[.slice (some o) ms.length s,.slice (some ⟨g,0,none⟩) n n]] wr fun e w'=>∃ (M vb:Value) (l t:List Int),e=.returned (.tuple #[M,vb])∧Row w' w'.heap.size M l∧Row w' w'.heap.size vb t∧Below wr.heap.size wr w'∧(∀ g,M.ownBlock=some g→wr.heap.size≤g)∧((∃ d,Greedy (adjU ms c) (endsU ms n) (Z3_ c (-1)) d l)∨(l=[]∧StopU ms c∧t=comeU ms c))):=hid (by
   by_cases xu:n=0
   ·have hc:c=[]:=List.length_eq_zero_iff.1 y40_
    have L:=Yc8 U (r:=0) (fun k H=>absurd H (Nat.not_lt_zero _)) (by rw [hc];exact le_refl _);rw [xu,hc] at J;rw [xu];refine (Vc8 (some o) (some ⟨g,0,none⟩) ms.length s 0 wr x7 yi J).mono ?_;rintro e w' ⟨rfl,hb⟩;exact ⟨_,_,[],[],rfl,Row.nil_ _ _,Row.nil_ _ _,hb,(fun g B=>by cases B),.inr ⟨rfl,L.2,L.1.symm⟩⟩
   ·have h:=Vc6 E ms (some o) (some ⟨g,0,none⟩) s n c wr U y40_ (HL.out.up S) Hs.out (by rw [I];exact J) (HE.out.up S)
    rw [I] at h;exact h)
  have b0:=T.cell 0;have b1:=T.cell 1;clear x5 Y T S U I J
  go_wp2_with fail
  refine xm.out.mono ?_;rintro e w5 ⟨M,vb,l,t,rfl,xb,xa,G,xr,yk⟩;have N:=hid (xc.out.below G xc.out.lt);have y5:=hid (I6_ y7.out G);have xe:=hid (y8.out.up G);have Z:=hid (Z0_ y1.out (le_refl _) G);have y9:=hid xb;have xf:=hid xa;have y3:Hid (∀ k,M.ownBlock=some k→k≠g):=hid fun k H=>by have:=xr k H;omega
  obtain ⟨Aw,cw,rfl,_⟩:=id xb;obtain ⟨Ab,cb,rfl,_⟩:=id xa;clear b0 b1 xb xa G xr xm;have b0:=N.out.cell 0;have b1:=N.out.cell 1;rcases yk with ⟨d,x6⟩ | ⟨rfl,L,xx⟩
  ·obtain ⟨q,m,K,hw⟩:=Yt1 (c:=c) (by rw [C.out];exact x6)
   have yl:=Yb3 hw;have yh:=hw.len;have hpt:=hw.pt;have hK:=hw.hK;have yg:=C.out;have yd:=hid (show Greedy (adjU ms c) (endsU ms c.length) (Z3_ c (-1)) d l by rw [C.out];exact x6);have F:∀ i,i<l.length→(i≤m∧q i<c.length∧l.getD i 0=(q i:Int))∨(i=m+1∧l.getD i 0=(c.length:Int)+(K:Int)):=fun i hi=>z16_;have xl:=hid (Xt1 (some o) s ms.length g n w.heap.size c l _ w5 xs (by rw [C.out];exact y5.out) y9.out y3.out y40_ y40_ y40_
    (fun i k yq H e=>by
     rcases F i y40_ with ⟨x,h2,h3⟩ | ⟨x,h3⟩<;>rcases F k H with ⟨h4,h5,h6⟩ | ⟨h4,h6⟩
     ·have:=hw.inj i k x h4 y40_
      omega
     ·omega
     ·omega
     ·omega)
    (fun i hi=>by
     rcases F i y40_ with ⟨x,h2,h3⟩ | ⟨x,h3⟩
     ·omega
     ·omega)
    (fun i hi=>by
     rcases F i hi with ⟨x,h2,h3⟩ | ⟨x,h3⟩
     ·omega
     ·omega))
   rw [C.out] at xl;have yt:¬ (l.length:Int)=0:=y40_;have ys:j≤n:=y40_;clear x6 hw F yh hpt hK yl yg
   go_wp2_with fail
   refine xl.out.mono ?_;rintro e w6 ⟨rfl,xv,xo,xt⟩;have y6:=hid xv;have y0:=hid (Z.out.trans xo);have y2:Hid (Blk w6 p.heap.size 59 #[.slice (some o) ms.length s,.slice (some ⟨g,0,none⟩) n n]):=hid ((xt _ N.out.lt yf).trans N.out);clear xv xo xt
   go_wp2_with fail
   go_roundg (n - j)
   case measure=>omega
   case rel=>exact ⟨V9_ c l c,j+1,.succ x0.out yd.out,y40_,y6.out,y2.out,y0.out⟩
  ·have xj:=hid L
   have xk:=hid xx;clear L xx
   go_wp2_with fail
   refine bodyPost_ret (v:=.tuple #[.slice (some ⟨g,0,none⟩) n n,.slice Ab t.length cb,.int .i64 0]) (by simp [results,Tryz.results28,go_sem]) rfl ?_
   first
   | exact ⟨_,_,c,t,rfl,xe.out,xf.out,Z.out,⟨j,x0.out⟩,xj.out,xk.out⟩
   | exact ⟨_,_,rfl,c,xe.out,t,xf.out,Z.out,⟨j,x0.out⟩,xj.out,xk.out⟩
end Go.Proofs.YtigobiacbficaaaGreatDoor.Wp
