/- The program's grow, walked (written by gen_ygrow.py). -/
import Derived.Test.YtnaebbjodfnooaaGreatDoorYMin
import Derived.Test.YtnaebbjodfnooaaGreatDoorVI10C
import Derived.Test.YtnaebbjodfnooaaGreatDoorTTurn
import Derived.Deep.LoopGhost
import Derived.Test.YtnaebbjodfnooaaGreatDoorZR
import Derived.Deep.RegionHeld3
import Derived.Test.YtnaebbjodfnooaaGreatDoorX0A
import Derived.Test.YtnaebbjodfnooaaGreatDoorX0C
set_option maxHeartbeats 16000000
set_option maxRecDepth 100000
open Go.Lib (hid)
open Nat (le_refl)
namespace Go.Proofs.YtnaebbjodfnooaaGreatDoor.Wp
open Go Go.RowKit
theorem Rows2F.low {w:World} {lo d:Nat} {v:Value} {pp:List (List Int)} (h:Rows2F w lo v pp) (hl:d≤lo):Rows2F w d v pp:=by
 obtain ⟨A,c,y,x,r⟩:=h;refine ⟨A,c,y,x,fun k s=>?_⟩;obtain ⟨e,u,f,j,h3,m,o,p⟩:=r k s;exact ⟨e,u,f,Nat.le_trans hl j,h3,m,o,fun g q=>Nat.le_trans hl (p g q)⟩
theorem Yv8 {adj:List (List Int)} {dst src:List Int} (hd:DigP adj) (d:PtsP adj.length src) {n:Nat} {x:Int} {l:List Int} (h:Greedy adj dst src n (x :: l)):(x :: l).length≤adj.length+1:=by
 have c:x∈src:=by cases h<;>assumption
 have e:=d.2 x c;obtain ⟨m,f,g,h3⟩:=Zf1 hd e (h.near 0 j37_);have:=h.length;by_cases hc:m<n
 ·exact absurd h3 (h.none x c m hc)
 ·omega
def Vj8 (a b:Mat) (ws:List Int) (lo hi p:Nat) (av bv:Value) (s A B:List Int) (D:Int) (w:World) (e:Ending) (w':World):Prop :=
 ∃ r,e=.returned (.bool r)∧Mdw lo hi w w'∧((r=true∧∃ sv' s' A' B',Xn2 a b s A B s' A' B'∧SpM w' lo hi p sv' av bv s' A' B'∧Sp a b ws s' A' B'∧s'.length=s.length+1∧(∀ i,i<nN a→-(D+72567767433216)≤A'.getD i 0∧A'.getD i 0≤2147483648)∧∀ g,sv'.ownBlock=some g→w.heap.size≤g)∨(r=false∧Ends a b s A B))
set_option maxHeartbeats 16000000
set_option maxRecDepth 100000
theorem Xk4 (E:Nat→Addr) (lo hi p:Nat) (a b:Mat) (va vb sv av bv:Value) (s A B ws:List Int) (D:Int) (w:World) (xz:MatV w lo va a) (y0:MatV w lo vb b) (yu:Sml a) (yv:Sml b) (hE:∀ W,Below lo w W→Env E W) (F:lo≤hi)
  (C:SpM w lo hi p sv av bv s A B) (xx:Sp a b ws s A B) (hw:∀ i,i<nN a→-2147483648≤ws.getD i 0∧ws.getD i 0≤2147483648) (hA:∀ i,i<nN a→-D≤A.getD i 0∧A.getD i 0≤2147483648) (hD:0≤D∧D≤288230376151711744) :
  Calls Tryz.prog 19 #[va,vb,.pointer (some ⟨p,0,none⟩)] w (Vj8 a b ws lo hi p av bv s A B D w):=by
 have hC:=xx.com;have yp:=hC.n64;have ud:=Y1_ hC.set;have HC:=hid hC;have z9:=hid xx;have Hw:=hid hw;have yw:=hid hA;have xa:=hid hD;have zn:=hid yu;have zo:=hid yv;have z:=C.hs;obtain ⟨la,ia,u1,zx,zv⟩:=xz.open;obtain ⟨lb,ib,u2,zy,zw⟩:=y0.open;obtain ⟨Al,cl,rfl,_⟩:=zx;obtain ⟨Ai,ci,rfl,_⟩:=zv;obtain ⟨Bl,dl,rfl,_⟩:=zy;obtain ⟨Bi,di,rfl,_⟩:=zw;subst u1 u2;obtain ⟨I,cs,zz,_⟩:=id C.srow;subst zz;obtain ⟨Z,ca,zq⟩:=V8_ C.aown;obtain ⟨Ab,cb,zr⟩:=V8_ C.bown;subst zq zr;obtain ⟨X,hX⟩:∃ X,(w.alloc (.cells #[.int .i64 a.t,.int .i64 a.n,.int .i64 a.a,.int .i64 a.b,.slice Al a.l.length cl,.slice Ai a.i.length ci] 25)).alloc (.cells #[.int .i64 b.t,.int .i64 b.n,.int .i64 b.a,.int .i64 b.b,.slice Bl b.l.length dl,.slice Bi b.i.length di] 25)=X:=⟨_,rfl⟩;have HX:=hid hX;have yh:Below w.heap.size w X:=by rw [← hX];exact ((Below.refl _ w).alloc (le_refl _) _).alloc j37_ _
 have yc:Blk X w.heap.size 25 #[.int .i64 a.t,.int .i64 a.n,.int .i64 a.a,.int .i64 a.b,.slice Al a.l.length cl,.slice Ai a.i.length ci]:=z40_;have yd:Blk X (w.heap.size+1) 25 #[.int .i64 b.t,.int .i64 b.n,.int .i64 b.a,.int .i64 b.b,.slice Bl b.l.length dl,.slice Bi b.i.length di]:=j4_;have zd:=hid (fun W (o:Below lo w W)=>(xz.bel o).mono (Nat.le_trans (Nat.le_trans F z) o.size));have ze:=hid (fun W (o:Below lo w W)=>(y0.bel o).mono (Nat.le_trans (Nat.le_trans F z) o.size));have HE:=hid hE;have HM:=hid C;have xl:=hid yc;have xm:=hid yd;have q:=hid yh;have K1:Hid (∀ W,Below X.heap.size X W→W.cell? ⟨w.heap.size,0,none⟩=some (.int .i64 a.t)∧W.cell? ⟨w.heap.size,1,none⟩=some (.int .i64 a.n)∧W.cell? ⟨w.heap.size,2,none⟩=some (.int .i64 a.a)∧W.cell? ⟨w.heap.size,3,none⟩=some (.int .i64 a.b)∧W.cell? ⟨w.heap.size,4,none⟩=some (.slice Al a.l.length cl)∧W.cell? ⟨w.heap.size,5,none⟩=some (.slice Ai a.i.length ci)∧W.cell? ⟨w.heap.size+1,0,none⟩=some (.int .i64 b.t)∧W.cell? ⟨w.heap.size+1,1,none⟩=some (.int .i64 b.n)∧W.cell? ⟨w.heap.size+1,2,none⟩=some (.int .i64 b.a)∧W.cell? ⟨w.heap.size+1,3,none⟩=some (.int .i64 b.b)∧W.cell? ⟨w.heap.size+1,4,none⟩=some (.slice Bl b.l.length dl)∧W.cell? ⟨w.heap.size+1,5,none⟩=some (.slice Bi b.i.length di)∧W.cell? ⟨p,0,none⟩=some (.slice I s.length cs)):=hid fun W o=>by
  have r:=xl.out.below o xl.out.lt;have v:=xm.out.below o xm.out.lt;have h3:=(HM.out.box.below q.out HM.out.box.lt).below o (Nat.lt_of_lt_of_le HM.out.box.lt q.out.size);exact ⟨r.cell 0,r.cell 1,r.cell 2,r.cell 3,r.cell 4,r.cell 5,v.cell 0,v.cell 1,v.cell 2,v.cell 3,v.cell 4,v.cell 5,h3.cell 0⟩
 have c:=hid (Below.refl X.heap.size X).drew;clear xz y0 yu yv hE xx hC hw hA hD hX yh yc yd
 go_enter Tryz.func19,Tryz.ntmps19
 go_wp2;rw [HX.out]
 go_region_held3 (fun W=>W.cell? ⟨w.heap.size,0,none⟩=some (.int .i64 a.t)∧W.cell? ⟨w.heap.size,1,none⟩=some (.int .i64 a.n)∧W.cell? ⟨w.heap.size,2,none⟩=some (.int .i64 a.a)∧W.cell? ⟨w.heap.size,3,none⟩=some (.int .i64 a.b)∧W.cell? ⟨w.heap.size,4,none⟩=some (.slice Al a.l.length cl)∧W.cell? ⟨w.heap.size,5,none⟩=some (.slice Ai a.i.length ci)∧W.cell? ⟨w.heap.size+1,0,none⟩=some (.int .i64 b.t)∧W.cell? ⟨w.heap.size+1,1,none⟩=some (.int .i64 b.n)∧W.cell? ⟨w.heap.size+1,2,none⟩=some (.int .i64 b.a)∧W.cell? ⟨w.heap.size+1,3,none⟩=some (.int .i64 b.b)∧W.cell? ⟨w.heap.size+1,4,none⟩=some (.slice Bl b.l.length dl)∧W.cell? ⟨w.heap.size+1,5,none⟩=some (.slice Bi b.i.length di)∧W.cell? ⟨p,0,none⟩=some (.slice I s.length cs)) (first | exact K1.out _ c.out)
  ((go_at_call 29;refine (Yg4 E a b _ _ _ s _ (zd.out _ ((Z0_ q.out (le_refl _) c.out).mono (Nat.le_trans F z))) (ze.out _ ((Z0_ q.out (le_refl _) c.out).mono (Nat.le_trans F z))) zn.out zo.out (HM.out.srow.up (Z0_ q.out (le_refl _) c.out)) (HE.out _ ((Z0_ q.out (le_refl _) c.out).mono (Nat.le_trans F z))) HC.out).mono ?_;rintro e V ⟨gv,fv,tv,rfl,H,hf,ht,yf,yj,yk⟩;have HG:=hid (H.low (Nat.le_trans z (Z0_ q.out (le_refl _) c.out).size));have HF:=hid hf;have HT:=hid ht;have z1:=hid fun g h=>Nat.le_trans (Nat.le_trans z (Z0_ q.out (le_refl _) c.out).size) (yj g h);have zb:=hid fun g h=>Nat.le_trans (Nat.le_trans z (Z0_ q.out (le_refl _) c.out).size) (yk g h);replace c:=hid (Z0_ c.out (le_refl _) yf);clear H hf ht yf yj yk))
 all_goals
  have y1:=hid (Z0_ q.out (le_refl _) c.out);obtain ⟨M,S,zu,_⟩:=id HG.out;obtain ⟨L,R,zs,_⟩:=id HF.out;obtain ⟨N,T,u0,_⟩:=id HT.out;subst zu zs u0;obtain ⟨G,hG⟩:∃ G,V.heap.size=G:=⟨_,rfl⟩;obtain ⟨J,U⟩:∃ J,V.alloc (.cells #[.slice M (adjG a b s).length S,.slice L (addG a s).length R,.slice N (addG b s).length T] 56)=J:=⟨_,rfl⟩;have zf:=hid U;have x3:Below V.heap.size V J:=by rw [← U];exact (Below.refl _ V).alloc (le_refl _) _
  have ya:Blk J G 56 #[.slice M (adjG a b s).length S,.slice L (addG a s).length R,.slice N (addG b s).length T]:=by rw [← U,← hG];exact Blk.new V _ _
  have z4:=hid ya;have zp:hi≤G:=by rw [← hG];exact Nat.le_trans z y1.out.size
  have x7:=hid (Z0_ y1.out (le_refl _) x3);have z6:=hid (HM.out.up x7.out);have z3:=hid (HG.out.up x3);have yy:=hid (HF.out.up x3);have za:=hid (HT.out.up x3);have z2:=hid hG;clear c K1 xl xm q U x3 ya HG HF HT C;go_wp2;rw [zf.out];clear hG z2;have Hadl:=hid (B0_ (a:=a) (b:=b) (s:=s))
  go_loopg [] 66 (fun k wr=>∃ j A' B',At a b ws s A B D j A' B'∧j+k=66∧SpM wr lo hi p (.slice I s.length cs) (.slice Z A.length ca) (.slice Ab B.length cb) s A' B'∧Mdw lo hi J wr)
  case atStart=>exact ⟨0,A,B,At.start z9.out yw.out,rfl,z6.out,Mdw.refl _ _ _⟩
  case round =>
   obtain ⟨j,A',B',x2,uc,C,x6⟩:=hrel;obtain ⟨wa,u3⟩:∃ wa,wa=wr:=⟨_,rfl⟩;have xg:=x2.small Hw.out ⟨xa.out.1,by have:=xa.out.2;omega⟩ x37_;have hc:=HC.out;have xv:A'.length=nN a:=x2.sp.la;have ym:B'.length=nN a:=x2.sp.lb;have x0:=hid x2;have m:=hid C;have x1:=hid x6;have y5:=hid (x6.rows z3.out);have y3:=hid (x6.row yy.out z1.out);have y8:=hid (x6.row za.out zb.out);have xi:=hid (Row.of_own C.aown rfl);have xj:=hid (Row.of_own C.bown rfl);have y9:=hid (Zx0 (b:=b) (s:=s) yp);have xq:=hid (E1_ (A:=A') (B:=B') hc);have xp:=hid (M5_ (A:=A') (B:=B') hc);have xh:InN (nN a) (addG a s):=B1_ yp;have x5:=hc.dstIn;have zj:Hid (PtsP (A9_ a b s A' B').length (topL B' (addG b s))):=hid (by rw [E0_];exact Yf2 x5);have zm:=hid xh;have zi:=hid x5;have ua:=Y1_ xh;have ue:=Y1_ x5;have zg:Hid (WIn A' (addG a s)):=hid ⟨fun x K=>by rw [xv];exact xh.2 x K,fun x K=>by have:=xg.1 x K;omega⟩;have zh:Hid (WIn B' (addG b s)):=hid ⟨fun x K=>by rw [ym];exact x5.2 x K,fun x K=>by have:=xg.2 x K;omega⟩;have Q:=hid xg;have yb:=x1.out.blk z4.out (.inr zp);have y4:=hid yb;have K3:Hid (∀ W,Below wr.heap.size wr W→W.cell? ⟨G,0,none⟩=some (.slice M (adjG a b s).length S)∧W.cell? ⟨G,1,none⟩=some (.slice L (addG a s).length R)∧W.cell? ⟨G,2,none⟩=some (.slice N (addG b s).length T)∧W.cell? ⟨p,0,none⟩=some (.slice I s.length cs)∧W.cell? ⟨p,1,none⟩=some (.slice Z A.length ca)∧W.cell? ⟨p,2,none⟩=some (.slice Ab B.length cb)):=hid fun W o=>by
    have r:=y4.out.below o y4.out.lt;have v:=m.out.box.below o m.out.box.lt;exact ⟨r.cell 0,r.cell 1,r.cell 2,v.cell 0,v.cell 1,v.cell 2⟩
   have c:=hid (Below.refl wr.heap.size wr).drew;clear x2 C x6 xg hc xh x5 yb u3;go_wp2
   go_region_held3 (fun W=>W.cell? ⟨G,0,none⟩=some (.slice M (adjG a b s).length S)∧W.cell? ⟨G,1,none⟩=some (.slice L (addG a s).length R)∧W.cell? ⟨G,2,none⟩=some (.slice N (addG b s).length T)∧W.cell? ⟨p,0,none⟩=some (.slice I s.length cs)∧W.cell? ⟨p,1,none⟩=some (.slice Z A.length ca)∧W.cell? ⟨p,2,none⟩=some (.slice Ab B.length cb)) (first | exact K3.out _ c.out)
    (first | (go_at_call 30;refine (Xk2 _ _ _ _ _ _ (adjG a b s) s A' B' _ (y5.out.up c.out).rows (m.out.srow.up c.out) (xi.out.up c.out) (xj.out.up c.out) y9.out k43_ k43_ k43_ x37_).mono ?_;rintro e w5 ⟨vT,rfl,hT,yg⟩;have xb:=hid hT;replace c:=hid (Z0_ c.out (le_refl _) yg);clear hT yg) | (go_at_call 31;refine (Zv8 _ _ A' (addG a s) _ (xi.out.up c.out) (y3.out.up c.out) x37_ zg.out).mono ?_;rintro e Y ⟨vF,rfl,hF,xr⟩;have y2:=hid hF;replace xb:=hid (xb.out.up xr);replace c:=hid (Z0_ c.out (le_refl _) xr);clear hF xr))
   all_goals
    replace c:=hid c.out.drew;have P:Hid (Rows2 Y.drew Y.drew.heap.size vT (A9_ a b s A' B')):=hid (xb.out.up (Below.refl _ Y).drew);have O:Hid (Row Y.drew Y.drew.heap.size vF (topL A' (addG a s))):=hid (y2.out.up (Below.refl _ Y).drew);have u6:=hid c.out;clear xb y2;go_wp2
    go_region_held3 (fun W=>W.cell? ⟨G,0,none⟩=some (.slice M (adjG a b s).length S)∧W.cell? ⟨G,1,none⟩=some (.slice L (addG a s).length R)∧W.cell? ⟨G,2,none⟩=some (.slice N (addG b s).length T)∧W.cell? ⟨p,0,none⟩=some (.slice I s.length cs)∧W.cell? ⟨p,1,none⟩=some (.slice Z A.length ca)∧W.cell? ⟨p,2,none⟩=some (.slice Ab B.length cb)) (first | exact K3.out _ c.out)
     (first | (go_at_call 31;refine (Zv8 _ _ B' (addG b s) _ (xj.out.up c.out) (y8.out.up c.out) x37_ zh.out).mono ?_;rintro e w7 ⟨uf,rfl,hF,xd⟩;have zc:=hid hF;replace P:=hid (P.out.up xd);replace O:=hid (O.out.up xd);replace c:=hid (Z0_ c.out (le_refl _) xd);clear hF xd) | (go_at_call 32;refine (Xi5 _ _ _ (A9_ a b s A' B') (topL A' (addG a s)) (topL B' (addG b s)) _ P.out O.out zc.out xq.out xp.out zj.out).mono ?_;rintro e w8 ⟨u,l,bb,rfl,hu,xe,yr⟩;have HU:=hid hu;have xo:=hid yr;replace P:=hid (P.out.up xe);replace O:=hid (O.out.up xe);replace c:=hid (Z0_ c.out (le_refl _) xe);clear hu xe yr))
    all_goals
     have q0:=(K3.out _ c.out).2.2.2.1;have y7:Hid (Mdw lo hi w J):=hid (Mdw.of_below x7.out (Nat.le_trans F z));have U:lo≤J.heap.size:=Nat.le_trans (Nat.le_trans F z) x7.out.size;have h8:hi≤w8.heap.size:=Nat.le_trans m.out.hs c.out.size;rcases xo.out with ⟨rfl,n,x,l',rfl,xu⟩ | ⟨rfl,rfl,yq⟩
     ·have zt:=Yv8 xq.out xp.out xu
      rw [E0_] at zt;have z5:=hid xu;clear xu xo
      go_wp2_with fail
      refine (Xx5 _ _ s (x :: l') w8 (m.out.srow.up c.out) HU.out x37_ x37_).mono ?_;rintro e w9 ⟨v9,rfl,xw,x4,xt⟩;have z7:=hid xw;have yz:=hid fun g H=>Nat.le_trans h8 (xt g H);have yx:=hid fun g H=>Nat.le_trans (Nat.le_trans (Nat.le_trans x7.out.size x1.out.size) c.out.size) (xt g H);obtain ⟨A9,c9,rfl,_⟩:=id xw;have x8:=hid (Z0_ c.out (le_refl _) x4);have q9:=(m.out.box.below x8.out m.out.box.lt).cell 0;have f9:=(m.out.box.below x8.out m.out.box.lt).frozen 0;clear xw x4 xt q0;go_wp2;go_ret;have ye:=(m.out.up x8.out).anew z7.out yz.out;have xy:=x0.out.turn z5.out;exact ⟨true,rfl,((y7.out.trans x1.out).trans (Mdw.of_below x8.out (Nat.le_trans F m.out.hs))).trans ye.2,.inl ⟨rfl,_,_,A',B',xy.1,ye.1,xy.2.1,xy.2.2,fun i hi=>by have:=x0.out.low i hi;omega,yx.out⟩⟩
     ·have xn:Hid (NoWay a b s A' B'):=hid yq
      clear yq xo q0
      go_wp2_with fail
      refine (Zp6 _ _ (A9_ a b s A' B') (topL A' (addG a s)) w8 P.out O.out xq.out xp.out).mono ?_;rintro e w9 ⟨vC,rfl,ys,x4,yi⟩;have x9:Hid (Row w9.drew w9.drew.heap.size vC (comeS a b s A' B')):=hid ys;have z0:=hid fun g H=>Nat.le_trans h8 (yi g H);replace c:=hid (Z0_ c.out (le_refl _) x4).drew;have xc:=hid (G5_ (A:=A') (B:=B') HC.out);have u7:=Y1_ xc.out;obtain ⟨gs,yl⟩:∃ gs,gapsL s A' B' (adjG a b s) (addG a s) (addG b s) (comeS a b s A' B')=gs:=⟨_,rfl⟩;have xk:=hid yl;clear ys x4 yi yl;go_wp2
      go_region_held3 (fun W=>W.cell? ⟨G,0,none⟩=some (.slice M (adjG a b s).length S)∧W.cell? ⟨G,1,none⟩=some (.slice L (addG a s).length R)∧W.cell? ⟨G,2,none⟩=some (.slice N (addG b s).length T)∧W.cell? ⟨p,0,none⟩=some (.slice I s.length cs)∧W.cell? ⟨p,1,none⟩=some (.slice Z A.length ca)∧W.cell? ⟨p,2,none⟩=some (.slice Ab B.length cb)) (first | exact K3.out _ c.out)
       ((go_at_call 35;refine (Vj5 _ _ _ _ _ _ _ (adjG a b s) s A' B' (addG a s) (addG b s) (comeS a b s A' B') _ (y5.out.up c.out).rows (y3.out.up c.out) (y8.out.up c.out) (m.out.srow.up c.out) (xi.out.up c.out) (xj.out.up c.out) x9.out y9.out k43_ k43_ k43_ x37_ (by rw [Hadl.out];exact zm.out) (by rw [Hadl.out];exact zi.out) (by rw [Hadl.out];exact xc.out) Q.out.1 Q.out.2).mono ?_;rintro e u4 ⟨vG,rfl,xf,xs⟩;rw [xk.out] at xf;obtain ⟨AG,cG,rfl,_⟩:=id xf;have z8:=hid xf;replace x9:=hid (x9.out.up xs);replace c:=hid (Z0_ c.out (le_refl _) xs);clear xf xs))
      all_goals
       rcases gs with _ | ⟨g0,gt⟩
       ·go_wp2
        go_ret;exact ⟨false,rfl,(y7.out.trans x1.out).trans (Mdw.of_below c.out (Nat.le_trans F m.out.hs)),.inr ⟨rfl,j,A',B',x0.out.sh,xn.out,xk.out⟩⟩
       ·have ub:¬ ((gt.length:Int)+1=0):=by omega
        go_wp2_with fail
        refine (Vj7 _ (g0 :: gt) u4 z8.out (List.cons_ne_nil _ _)).mono ?_;rintro e u5 ⟨⟨d,rfl,yo⟩,rfl⟩;have y6:Hid (MinIs d (gapsS a b s A' B')):=hid (by unfold gapsS;rw [xk.out];exact yo);have u8:=Xx6 HC.out xv ym Q.out.1 Q.out.2 y6.out.1;clear yo
        go_wp2_with fail
        refine (Xk1 lo hi p _ _ _ _ s A' B' (comeS a b s A' B') d u5 (m.out.up c.out) x9.out z0.out xc.out.1 (fun y hy=>by rw [xv];exact xc.out.2 y hy) x37_ x37_ (fun i hi=>by
         have r:=Q.out.1 _ (Y9_ 0 hi);have v:=Q.out.2 (B'.getD i 0) (Y9_ 0 x37_);omega)).mono ?_
        rintro e ug ⟨rfl,yt,yn⟩;have zl:=hid yt;have zk:=hid yn;have u9:=x0.out.few xn.out;clear yt yn;go_wp2
        go_roundg (65 - j)
        case measure=>omega
        case rel=>exact ⟨j+1,_,_,x0.out.next Hw.out ⟨xa.out.1,by have:=xa.out.2;omega⟩ xn.out y6.out,x37_,zl.out,(x1.out.next c.out U).trans zk.out⟩
open Go Go.RowKit
abbrev Trip:=List Int × List Int × List Int
def flat3 (S:Nat→List Value) (n:Nat):List Value:=(List.range n).flatMap S
theorem Zy5 (S:Nat→List Value) (n:Nat):flat3 S (n+1)=flat3 S n ++ S n:=by
 unfold flat3;rw [List.range_succ,List.flatMap_append];simp
theorem W3_ {S:Nat→List Value} (h3:∀ k,(S k).length=3):∀ n,(flat3 S n).length=n * 3
 | 0=>rfl
 | n+1=>by rw [Zy5,List.length_append,W3_ h3 n,h3];omega
theorem Yo8 {S:Nat→List Value} (h3:∀ k,(S k).length=3):∀ (n k j:Nat),k<n→j<3→(flat3 S n)[k * 3+j]?=(S k)[j]?
 | n+1,k,j,hk,hj=>by
  rw [Zy5];by_cases e:k=n
  ·subst e
   rw [List.getElem?_append_right (by rw [W3_ h3];omega),W3_ h3];congr 1;omega
  ·rw [List.getElem?_append_left (by rw [W3_ h3];omega)]
   exact Yo8 h3 n k j x37_ hj
theorem Yv9 (a:Addr) (p j:Nat) (c:j≠0):(⟨(a.add p).block,(a.add p).off+j,none⟩:Addr)=a.add (p+j):=by
 unfold Addr.add;by_cases d:p=0
 ·subst d;simp [c]
 ·simp [d,c,Nat.add_assoc]
def FarRow (w:World) (hi:Nat) (v:Value) (zs:List Int):Prop:=w.ownsRow hi 3 1 v zs.length (ints zs)
theorem FarRow.up {w w':World} {hi:Nat} {v:Value} {zs:List Int} (h:FarRow w hi v zs) (hb:Below w.heap.size w w'):FarRow w' hi v zs:=D1_ h hb
theorem FarRow.mdw {w w':World} {lo hi:Nat} {v:Value} {zs:List Int} (h:FarRow w hi v zs) (m:Mdw lo hi w w'):FarRow w' hi v zs:=m.own h (le_refl _)
theorem FarRow.grown {w w':World} {hi base k n:Nat} {v u:Value} {m:List Value} {zs:List Int} (h:FarRow w hi v zs) (j:w.ownsRow base 36 k u n m) (d:w.grownBy w' u.ownBlock):FarRow w' hi v zs:=by
 refine World.ownsRow.kept h d ?_;rcases j.2 with ⟨rfl,_⟩ | ⟨g,o,c,rfl,_,f,_⟩
 ·cases hv:v.ownBlock with
  | none=>exact .inl rfl
  | some x=>exact .inr (by intro e;cases e)
 ·cases hv:v.ownBlock with
  | none=>exact .inl rfl
  | some x =>
   refine .inr fun e=>?_;cases e;exact Zp9 h (show Blk w g 36 c from f) q38_ g hv rfl
def TriM (w:World) (hi:Nat) (S:Nat→List Value) (L:List Trip):Prop :=
 (∀ k,(S k).length=3)∧∀ k,k<L.length→∃ x0 x1 x2,S k=[x0,x1,x2]∧FarRow w hi x0 (L.getD k default).1∧FarRow w hi x1 (L.getD k default).2.1∧FarRow w hi x2 (L.getD k default).2.2
theorem TriM.nil (w:World) (hi:Nat):TriM w hi (fun _=>[.nilIface,.nilIface,.nilIface]) []:=⟨fun _=>rfl,fun k c=>absurd c j37_⟩
theorem TriM.up {w w':World} {hi:Nat} {S:Nat→List Value} {L:List Trip} (h:TriM w hi S L) (hb:Below w.heap.size w w'):TriM w' hi S L:=⟨h.1,fun k g=>by
 obtain ⟨j,m,o,e,c,d,f⟩:=h.2 k g;exact ⟨j,m,o,e,c.up hb,d.up hb,f.up hb⟩⟩
theorem TriM.mdw {w w':World} {lo hi:Nat} {S:Nat→List Value} {L:List Trip} (h:TriM w hi S L) (m:Mdw lo hi w w'):TriM w' hi S L:=⟨h.1,fun k g=>by
 obtain ⟨j,o,p,e,c,d,f⟩:=h.2 k g;exact ⟨j,o,p,e,c.mdw m,d.mdw m,f.mdw m⟩⟩
theorem TriM.grown {w w':World} {hi base k n:Nat} {u:Value} {r:List Value} {S:Nat→List Value} {L:List Trip} (h:TriM w hi S L) (d:w.ownsRow base 36 k u n r) (c:w.grownBy w' u.ownBlock):TriM w' hi S L:=⟨h.1,fun k m=>by
 obtain ⟨o,p,q,e,f,g,j⟩:=h.2 k m;exact ⟨o,p,q,e,f.grown d c,g.grown d c,j.grown d c⟩⟩
theorem TriM.more {w:World} {hi:Nat} {S:Nat→List Value} {L:List Trip} (h:TriM w hi S L) (c d f:Value) (x:Trip) (p:FarRow w hi c x.1) (q:FarRow w hi d x.2.1) (r:FarRow w hi f x.2.2) :
  ∃ o,TriM w hi o (L ++ [x])∧flat3 o (L.length+1)=flat3 S L.length ++ [c,d,f]:=by
 refine ⟨fun k=>if k<L.length then S k else [c,d,f],⟨fun k=>?_,fun k j=>?_⟩,?_⟩
 ·show (if k<L.length then S k else [c,d,f]).length=3
  split
  ·exact h.1 k
  ·rfl
 ·by_cases m:k<L.length
  ·obtain ⟨u,v,y,e,g⟩:=h.2 k m
   refine ⟨u,v,y,(if_pos m).trans e,?_⟩;rw [show (L ++ [x]).getD k default=L.getD k default by simp [List.getD,List.getElem?_append_left m]];exact g
  ·have s:k=L.length:=by rw [List.length_append] at j;simp at j;omega
   subst s;refine ⟨c,d,f,if_neg m,?_⟩;rw [show (L ++ [x]).getD L.length default=x by simp [List.getD]];exact ⟨p,q,r⟩
 ·rw [Zy5]
  congr 1
  ·unfold flat3
   rw [List.flatMap_def,List.flatMap_def];congr 1;exact List.map_congr_left fun k j=>if_pos (List.mem_range.1 j)
  ·exact if_neg x37_
theorem Yg6 {w:World} {base hi:Nat} {v:Value} {S:Nat→List Value} {L:List Trip} (h:w.ownsRow base 36 3 v L.length (flat3 S L.length)) (d:TriM w hi S L):SplL w w.heap.size v L:=by
 rcases h.2 with ⟨rfl,c⟩ | ⟨g,f,A,rfl,hb,B,p,q,_⟩
 ·have:L=[]:=List.eq_nil_of_length_eq_zero c
  subst this;exact j6_
 ·refine ⟨some ⟨g,0,none⟩,f,rfl,⟨p,q,fun e=>by cases e⟩,fun k hk=>?_⟩
  obtain ⟨x,y,z,e,c,m,o⟩:=d.2 k hk;have hc:∀ j u,j<3→(S k)[j]?=some u→w.cell? ((⟨g,0,none⟩:Addr).add (k * 3+j))=some u:=fun j u r s =>
   h.cells (g:=g) rfl (k * 3+j) u (by rw [Yo8 d.1 _ _ _ hk r];exact s)
  rw [e] at hc;refine ⟨⟨g,0,none⟩,x,y,z,rfl,(h.lt g rfl).2,hc 0 _ q38_ rfl,?_,?_,Row.of_own c rfl,Row.of_own m rfl,Row.of_own o rfl⟩
  ·rw [Yv9 _ _ 1 q38_];exact hc 1 _ q38_ rfl
  ·rw [Yv9 _ _ 2 q38_];exact hc 2 _ q38_ rfl
theorem SpM.grown {w w':World} {lo hi p base k n:Nat} {d o q u:Value} {s A B:List Int} {D:List Value} (h:SpM w lo hi p d o q s A B) (C:w.ownsRow base 36 k u n D) (hb:hi≤base) (c:w.grownBy w' u.ownBlock) (z:∀ g,d.ownBlock=some g→s≠[]→some g≠u.ownBlock):SpM w' lo hi p d o q s A B:=by
 have j:∀ g,u.ownBlock=some g→hi≤g:=fun g e=>Nat.le_trans hb (C.lt g e).1;have f:∀ {v:Value} {m:Nat} {zs:List Int},w.ownsRow lo 3 1 v m (ints zs)→(∀ g,v.ownBlock=some g→g<hi)→w'.ownsRow lo 3 1 v m (ints zs):=fun {v} {m} {zs} ho hl=>by
  refine World.ownsRow.kept ho c ?_;cases hv:v.ownBlock with
  | none=>exact .inl rfl
  | some x =>
   refine .inr fun e=>?_;have r:=hl x hv;have y:=j x e.symm;omega
 exact ⟨h.box.grown c (fun e=>by have r:=j p e.symm;have y:=h.ph;omega),h.pl,h.ph,Nat.le_trans h.hs c.size,h.srow.keep c z,h.sfar,f h.aown (fun g e=>(h.ahi g e).1),f h.bown (fun g e=>(h.bhi g e).1),h.ahi,h.bhi,h.ne⟩
inductive SChain (a b:Mat) (ws:List Int):List Trip→Prop
 | one {A B:List Int}:Sp a b ws [] A B→A=ws→B=List.replicate ws.length 0→SChain a b ws [([],A,B)]
 | more {L:List Trip} {s A B s' A' B':List Int}:SChain a b ws (L ++ [(s,A,B)])→Xn2 a b s A B s' A' B'→Sp a b ws s' A' B'→s'.length=s.length+1→SChain a b ws (L ++ [(s,A,B)] ++ [(s',A',B')])
theorem Zl2 {a b:Mat} {ws:List Int} {M:List Trip} (h:SChain a b ws M):∀ k,k<M.length→Sp a b ws (M.getD k default).1 (M.getD k default).2.1 (M.getD k default).2.2∧(M.getD k default).1.length=k:=by
 induction h with
 | one h _ _ =>
  intro k c;have:k=0:=by simp at c;omega
  subst this;exact ⟨h,rfl⟩
 | @more L s A B s' A' B' hc _ hs hl ih =>
  intro k c;by_cases e:k<(L ++ [(s,A,B)]).length
  ·rw [show (L ++ [(s,A,B)] ++ [(s',A',B')]).getD k default=(L ++ [(s,A,B)]).getD k default by simp only [List.getD,List.getElem?_append_left e]]
   exact ih k e
  ·have f:k=L.length+1:=by simp at c e;omega
   subst f;have d:=ih L.length j37_;rw [show (L ++ [(s,A,B)]).getD L.length default=(s,A,B) by simp [List.getD]] at d;rw [show (L ++ [(s,A,B)] ++ [(s',A',B')]).getD (L.length+1) default=(s',A',B') by simp [List.getD]];exact ⟨hs,by have:=d.2;simp only at this ⊢;omega⟩
open Go Go.RowKit
theorem Yo9 {m:Mat} (h:chk m=0):indT m []=true:=by
 have d:mayI m []=true:=mayI_iff.2 ⟨h,⟨List.Pairwise.nil,fun _ c=>by cases c⟩,fun _ c=>by cases c⟩;rw [E4_ d,Zq8,(rk_ok 4 m h (chk_ok.1 h).1).zero];rfl
theorem snil {a b:Mat} {ws:List Int} (h:may15 a b ws=true):Common a b []∧ws.length=nN a∧∀ i,i<nN a→-2147483648≤ws.getD i 0∧ws.getD i 0≤2147483648:=by
 unfold may15 at h;simp only [Bool.and_eq_true,decide_eq_true_iff,beq_iff_eq,Bool.not_eq_true'] at h;obtain ⟨e,hl,f,ha,hb⟩:=h;have d:ws.length=nN a:=by unfold nN;omega
 refine ⟨⟨e,Yo9 ha,Yo9 hb⟩,d,fun i hi=>?_⟩;have g:ws.getD i 0∈ws:=Y9_ 0 x37_;have c:=List.any_eq_false.1 f _ g;unfold outS at c;simp only [Bool.or_eq_true,decide_eq_true_iff,not_or] at c;omega
theorem Jx5 {a b:Mat} {ws:List Int} (h:may15 a b ws=true):Sp a b ws [] ws (List.replicate ws.length 0):=by
 obtain ⟨hc,hl,_⟩:=snil h;refine ⟨hc,hl,by rw [List.length_replicate];exact hl,fun i hi=>?_,fun y x _ _ c=>?_,fun y x _ _ c=>?_⟩
 ·simp [List.getD,List.getElem?_replicate]
  split<;>simp
 ·simp [memP] at c
 ·simp [memP] at c
theorem Xx7 (n:Nat):(madeCells #[Value.int .i64 0] n).toList=ints (List.replicate n 0):=by
 refine List.ext_getElem? fun j=>?_;unfold madeCells ints;by_cases c:j<n
 ·simp [c,Nat.mod_one]
 ·simp [c]
theorem Xk5 {W:World} {lo G n:Nat} (c:Blk W G 3 (madeCells #[.int .i64 0] n)) (hl:lo≤G) (d:n≤1048576):W.ownsRow lo 3 1 (.slice (some ⟨G,0,none⟩) n n) n (ints (List.replicate n 0)):=by
 refine ⟨by rw [Z9_,List.length_replicate,Nat.mul_one],.inr ⟨G,n,_,rfl,hl,c,le_refl _,by unfold maxLen;omega,by unfold madeCells;simp,?_⟩⟩;rw [Xx7,Nat.mul_one];exact List.take_of_length_le (by rw [Z9_,List.length_replicate];exact le_refl _)
theorem SpM.start {W:World} {lo p G c1:Nat} {d:Option Addr} {ws:List Int} (e:Blk W p 36 #[.slice none 0 0,.slice d ws.length c1,.slice (some ⟨G,0,none⟩) ws.length ws.length]) (r:lo≤p) (m:Blk W G 3 (madeCells #[.int .i64 0] ws.length)) (q:lo≤G)
  (f:W.ownsRow lo 3 1 (.slice d ws.length c1) ws.length (ints ws)) (j:∀ g,(Value.slice d ws.length c1).ownBlock=some g→g≠G) (s:ws.length≤1048576) :
  SpM W lo W.heap.size p (.slice none 0 0) (.slice d ws.length c1) (.slice (some ⟨G,0,none⟩) ws.length ws.length) [] ws (List.replicate ws.length 0):=by
 have h:=Xk5 m q s;refine ⟨e,r,e.lt,le_refl _,Row.nil_ _ _,fun g c=>(by cases c),f,?_,fun g c=>⟨(f.lt g c).2,Zp9 f e q38_ g c⟩,fun g c=>⟨(h.lt g c).2,Zp9 h e q38_ g c⟩,fun g k c o=>?_⟩
 ·rw [List.length_replicate];exact h
 ·cases o
  exact j g c
theorem Zr0 {W:World} {p:Nat} {t:TypeId} {f g j:Value} (h:Blk W p t #[f,g,j]) (c d e:Value):Blk (((W.setCell ⟨p,0,none⟩ c).setCell ⟨p,1,none⟩ d).setCell ⟨p,2,none⟩ e) p t #[c,d,e]:=by
 have:=((h.set_ 0 c).set_ 1 d).set_ 2 e;simpa using this
theorem Zr1 {W:World} {p k:Nat} {t:TypeId} {cs:Array Value} (h:Blk W k t cs) (c:k≠p) (d e f:Value):Blk (((W.setCell ⟨p,0,none⟩ d).setCell ⟨p,1,none⟩ e).setCell ⟨p,2,none⟩ f) k t cs:=((h.far (p:=⟨p,0,none⟩) c _).far (p:=⟨p,1,none⟩) c _).far (p:=⟨p,2,none⟩) c _
theorem Zr2 {W:World} {p base n:Nat} {v:Value} {d:List Value} (h:W.ownsRow base 3 1 v n d) (c:∀ g,v.ownBlock=some g→g≠p) (e f j:Value):(((W.setCell ⟨p,0,none⟩ e).setCell ⟨p,1,none⟩ f).setCell ⟨p,2,none⟩ j).ownsRow base 3 1 v n d:=K2_ (K2_ (K2_ h (p:=⟨p,0,none⟩) c _) (p:=⟨p,1,none⟩) c _) (p:=⟨p,2,none⟩) c _
theorem Zy6 {B p:Nat} {w W:World} (h:Below B w W) (c:B≤p) (d e f:Value):Below B w (((W.setCell ⟨p,0,none⟩ d).setCell ⟨p,1,none⟩ e).setCell ⟨p,2,none⟩ f):=((h.setCell (p:=⟨p,0,none⟩) c _).setCell (p:=⟨p,1,none⟩) c _).setCell (p:=⟨p,2,none⟩) c _
theorem Xk6:(Tryz.prog.info? 36).map (fun i=>(i.zero,i.size,i.bytes))=some (some (.agg #[.slice none 0 0,.slice none 0 0,.slice none 0 0]),3,72):=y37_
theorem Vj9 (w:World) (t:TypeId) (c d e:Value):∀ (j:Nat) (v:Value),[c,d,e][j]?=some v→(w.alloc (.cells #[c,d,e] t)).cell? ((⟨w.heap.size,0,none⟩:Addr).add j)=some v:=fun j v h=>by
 rw [add_g,(Blk.new w t #[c,d,e]).cell,← h];simp
theorem Vq0 (w:World) (base:Nat) (c d e:Value) (hb:base≤w.heap.size):(w.alloc (.cells #[c,d,e] 36)).ownsRow base 36 3 (.slice (some ⟨w.heap.size,0,none⟩) 1 1) 1 [c,d,e] :=
 ⟨rfl,.inr ⟨w.heap.size,1,_,rfl,hb,heap_alloc_new w _,le_refl _,q38_,rfl,rfl⟩⟩
theorem Vo5 {w:World} {base n m:Nat} {v:Value} {c:List Value} (h:w.ownsRow base 3 1 v n c) (e:n=m):w.ownsRow base 3 1 v m c:=e▸h
def Vo6 (a b:Mat) (ws:List Int) (w:World) (e:Ending) (w':World):Prop :=
 ∃ v er L,e=.returned (.tuple #[v,.int .i64 er])∧SplL w' w'.heap.size v L∧Below w.heap.size w w' ∧
  ((may15 a b ws=false∧er=1∧L=[])∨(may15 a b ws=true∧er=0∧∃ M s A B,L=M ++ [(s,A,B)]∧SChain a b ws L∧Ends a b s A B))
set_option maxHeartbeats 16000000
set_option maxRecDepth 100000
theorem Yp0 (E:Nat→Addr) (a b:Mat) (va vb sv:Value) (ws:List Int) (w:World) (xj:MatV w w.heap.size va a) (xk:MatV w w.heap.size vb b) (xv:Sml a) (xw:Sml b) (hr:Row w w.heap.size sv ws) (u2:ws.length≤1048576) (hE:∀ W,Below w.heap.size w W→Env E W) :
  Calls Tryz.prog 7 #[va,vb,sv] w (Vo6 a b ws w):=by
 obtain ⟨la,ia,u3,zx,zv⟩:=xj.open;obtain ⟨lb,ib,u4,zy,zw⟩:=xk.open;obtain ⟨Al,cl,rfl,_⟩:=zx;obtain ⟨Ai,ci,rfl,_⟩:=zv;obtain ⟨Bl,dl,rfl,_⟩:=zy;obtain ⟨Bi,di,rfl,_⟩:=zw;obtain ⟨As,cs,rfl,_⟩:=id hr;subst u3 u4;obtain ⟨X,hX⟩:∃ X,(w.alloc (.cells #[.int .i64 a.t,.int .i64 a.n,.int .i64 a.a,.int .i64 a.b,.slice Al a.l.length cl,.slice Ai a.i.length ci] 25)).alloc (.cells #[.int .i64 b.t,.int .i64 b.n,.int .i64 b.a,.int .i64 b.b,.slice Bl b.l.length dl,.slice Bi b.i.length di] 25)=X:=⟨_,rfl⟩;have HX:=hid hX;have Q:Below w.heap.size w X:=by rw [← hX];exact ((Below.refl _ w).alloc (le_refl _) _).alloc j37_ _
 have yf:Blk X w.heap.size 25 #[.int .i64 a.t,.int .i64 a.n,.int .i64 a.a,.int .i64 a.b,.slice Al a.l.length cl,.slice Ai a.i.length ci]:=z40_;have yg:Blk X (w.heap.size+1) 25 #[.int .i64 b.t,.int .i64 b.n,.int .i64 b.a,.int .i64 b.b,.slice Bl b.l.length dl,.slice Bi b.i.length di]:=j4_;have z8:=hid (fun W (K:Below w.heap.size w W)=>xj.bel K);have z9:=hid (fun W (K:Below w.heap.size w W)=>xk.bel K);have zi:=hid xv;have zj:=hid xw;have HR:=hid hr;have HE:=hid hE;have x8:=hid yf;have x9:=hid yg;have C:=hid Q;have yb:=hid (Zs8 E a b _ _ _ ws X (xj.up Q) (xk.up Q) xv xw (hr.up Q) u2 (hE X Q));have K1:Hid (∀ W,Below X.heap.size X W→W.cell? ⟨w.heap.size,0,none⟩=some (.int .i64 a.t)∧W.cell? ⟨w.heap.size,1,none⟩=some (.int .i64 a.n)∧W.cell? ⟨w.heap.size,2,none⟩=some (.int .i64 a.a)∧W.cell? ⟨w.heap.size,3,none⟩=some (.int .i64 a.b)∧W.cell? ⟨w.heap.size,4,none⟩=some (.slice Al a.l.length cl)∧W.cell? ⟨w.heap.size,5,none⟩=some (.slice Ai a.i.length ci)∧W.cell? ⟨w.heap.size+1,0,none⟩=some (.int .i64 b.t)∧W.cell? ⟨w.heap.size+1,1,none⟩=some (.int .i64 b.n)∧W.cell? ⟨w.heap.size+1,2,none⟩=some (.int .i64 b.a)∧W.cell? ⟨w.heap.size+1,3,none⟩=some (.int .i64 b.b)∧W.cell? ⟨w.heap.size+1,4,none⟩=some (.slice Bl b.l.length dl)∧W.cell? ⟨w.heap.size+1,5,none⟩=some (.slice Bi b.i.length di)):=hid fun W K=>by
  have h1:=x8.out.below K x8.out.lt;have D:=x9.out.below K x9.out.lt;exact ⟨h1.cell 0,h1.cell 1,h1.cell 2,h1.cell 3,h1.cell 4,h1.cell 5,D.cell 0,D.cell 1,D.cell 2,D.cell 3,D.cell 4,D.cell 5⟩
 obtain ⟨c0,c1,c2,c3,c4,c5,d0,d1,d2,d3,d4,d5⟩:=K1.out X (Below.refl _ _);clear xj xk xv xw hr hE hX Q yf yg
 go_enter Tryz.func7,Tryz.ntmps7
 go_wp2_with fail
 rw [HX.out]
 go_wp2_with fail
 refine yb.out.mono ?_;rintro e c ⟨rfl,yl⟩;have xz:=hid yl;clear yl c0 c1 c2 c3 c4 c5 d0 d1 d2 d3 d4 d5 yb;rcases hmy:may15 a b ws with _ | _
 ·go_wp2
  refine bodyPost_ret (v:=.tuple #[.slice none 0 0,.int .i64 1]) (by simp [results,Tryz.results7,go_sem]) rfl ?_;exact ⟨_,_,[],rfl,⟨none,0,rfl,⟨le_refl _,q38_,fun _=>rfl⟩,fun k hk=>absurd hk j37_⟩,Z0_ C.out (le_refl _) xz.out,.inl ⟨hmy,rfl,rfl⟩⟩
 ·have xp:=hid hmy
  have xg:=(snil hmy).1.n64;have um:ws.length≤64:=by rw [(snil hmy).2.1];exact xg
  have zz:=fun W=>run_make_row' 26 3 (.int .i64 0) 8 Tryz.underlying26 info3 rfl .i64 .i64 ws.length x37_ x37_ W;have x:=hid xz.out.drew;have x1:=hid (fun W (K:Below w.heap.size w W)=>HR.out.up K);clear hmy;go_wp2
  go_region_held3 (fun _=>True) (exact trivial)
   ((go_at_call 17;first
    | (refine (R.clone_any _ ws _ (c.drew) (x1.out _ (Z0_ C.out (le_refl _) x.out)) x37_).mono ?_;rintro e d ⟨v1,rfl,o,z⟩;rw [Z9_] at o;obtain ⟨j,c1,rfl⟩:=V8_ o;have p:=hid o;have y:=hid z;have m:Hid (Blk ((d.alloc (.cells #[.slice none 0 0,.slice none 0 0,.slice none 0 0] 36)).alloc (.cells (madeCells #[.int .i64 0] ws.length) 3)) (d.heap.size) 36 #[.slice none 0 0,.slice none 0 0,.slice none 0 0]):=hid ((Blk.new d _ _).alloc _);have xl:=m.out.cell 0;have xm:=m.out.cell 1;have xn:=m.out.cell 2;have xb:=m.out.frozen 0;have xc:=m.out.frozen 1;have xd:=m.out.frozen 2;have F:Hid (Blk ((d.alloc (.cells (madeCells #[.int .i64 0] ws.length) 3)).alloc (.cells #[.slice none 0 0,.slice none 0 0,.slice none 0 0] 36)) (d.heap.size+1) 36 #[.slice none 0 0,.slice none 0 0,.slice none 0 0]):=hid (by have h:=Blk.new (d.alloc (.cells (madeCells #[.int .i64 0] ws.length) 3)) 36 #[.slice none 0 0,.slice none 0 0,.slice none 0 0];rwa [show (d.alloc (.cells (madeCells #[.int .i64 0] ws.length) 3)).heap.size=d.heap.size+1 by simp] at h);have u8:=F.out.cell 0;have u9:=F.out.cell 1;have ua:=F.out.cell 2;have zo:=F.out.frozen 0;have zp:=F.out.frozen 1;have zq:=F.out.frozen 2;clear o z)
    | (refine (R.clone_any _ ws _ (c.drew.alloc (.cells #[.slice none 0 0,.slice none 0 0,.slice none 0 0] 36)) (x1.out _ ((Z0_ C.out (le_refl _) x.out).alloc (Nat.le_trans C.out.size x.out.size) _)) x37_).mono ?_;rintro e d ⟨v1,rfl,o,z⟩;rw [Z9_] at o;obtain ⟨j,c1,rfl⟩:=V8_ o;have p:=hid o;have y:=hid z;have m:Hid (Blk (d) (c.heap.size) 36 #[.slice none 0 0,.slice none 0 0,.slice none 0 0]):=hid ((Blk.new c.drew _ _).below z (Blk.new c.drew _ _).lt);have xl:=m.out.cell 0;have xm:=m.out.cell 1;have xn:=m.out.cell 2;have xb:=m.out.frozen 0;have xc:=m.out.frozen 1;have xd:=m.out.frozen 2;have F:Hid (Blk (d.alloc (.cells (madeCells #[.int .i64 0] ws.length) 3)) (c.heap.size) 36 #[.slice none 0 0,.slice none 0 0,.slice none 0 0]):=hid (m.out.alloc _);have u8:=F.out.cell 0;have u9:=F.out.cell 1;have ua:=F.out.cell 2;have zo:=F.out.frozen 0;have zp:=F.out.frozen 1;have zq:=F.out.frozen 2;clear o z)
    | (refine (R.clone_any _ ws _ (c.drew.alloc (.cells (madeCells #[.int .i64 0] ws.length) 3)) (x1.out _ ((Z0_ C.out (le_refl _) x.out).alloc (Nat.le_trans C.out.size x.out.size) _)) x37_).mono ?_;rintro e d ⟨v1,rfl,o,z⟩;rw [Z9_] at o;obtain ⟨j,c1,rfl⟩:=V8_ o;have p:=hid o;have y:=hid z;have m:Hid (Blk (d.alloc (.cells #[.slice none 0 0,.slice none 0 0,.slice none 0 0] 36)) (d.heap.size) 36 #[.slice none 0 0,.slice none 0 0,.slice none 0 0]):=hid (Blk.new d _ _);have xl:=m.out.cell 0;have xm:=m.out.cell 1;have xn:=m.out.cell 2;have xb:=m.out.frozen 0;have xc:=m.out.frozen 1;have xd:=m.out.frozen 2;clear o z)
    | (refine (R.clone_any _ ws _ ((c.drew.alloc (.cells #[.slice none 0 0,.slice none 0 0,.slice none 0 0] 36)).alloc (.cells (madeCells #[.int .i64 0] ws.length) 3)) (x1.out _ (((Z0_ C.out (le_refl _) x.out).alloc (Nat.le_trans C.out.size x.out.size) _).alloc (Nat.le_trans (Nat.le_trans C.out.size x.out.size) j37_) _)) x37_).mono ?_;rintro e d ⟨v1,rfl,o,z⟩;rw [Z9_] at o;obtain ⟨j,c1,rfl⟩:=V8_ o;have p:=hid o;have y:=hid z;have m:Hid (Blk (d) (c.heap.size) 36 #[.slice none 0 0,.slice none 0 0,.slice none 0 0]):=hid (((Blk.new c.drew _ _).alloc _).below z ((Blk.new c.drew _ _).alloc _).lt);have xl:=m.out.cell 0;have xm:=m.out.cell 1;have xn:=m.out.cell 2;have xb:=m.out.frozen 0;have xc:=m.out.frozen 1;have xd:=m.out.frozen 2;clear o z)
    | (refine (R.clone_any _ ws _ ((c.drew.alloc (.cells (madeCells #[.int .i64 0] ws.length) 3)).alloc (.cells #[.slice none 0 0,.slice none 0 0,.slice none 0 0] 36)) (x1.out _ (((Z0_ C.out (le_refl _) x.out).alloc (Nat.le_trans C.out.size x.out.size) _).alloc (Nat.le_trans (Nat.le_trans C.out.size x.out.size) j37_) _)) x37_).mono ?_;rintro e d ⟨v1,rfl,o,z⟩;rw [Z9_] at o;obtain ⟨j,c1,rfl⟩:=V8_ o;have p:=hid o;have y:=hid z;have m:Hid (Blk (d) (c.heap.size+1) 36 #[.slice none 0 0,.slice none 0 0,.slice none 0 0]):=hid (by have h:=Blk.new (c.drew.alloc (.cells (madeCells #[.int .i64 0] ws.length) 3)) 36 #[.slice none 0 0,.slice none 0 0,.slice none 0 0];rw [show (c.drew.alloc (.cells (madeCells #[.int .i64 0] ws.length) 3)).heap.size=c.heap.size+1 by simp] at h;exact h.below z h.lt);have xl:=m.out.cell 0;have xm:=m.out.cell 1;have xn:=m.out.cell 2;have xb:=m.out.frozen 0;have xc:=m.out.frozen 1;have xd:=m.out.frozen 2;clear o z)))
  all_goals
   have HB0:w.heap.size≤c.heap.size:=Nat.le_trans C.out.size x.out.size;have xo:X.heap.size≤c.heap.size:=x.out.size;have J:Below X.heap.size X d:=by first | exact Z0_ x.out (le_refl _) y.out | exact Z0_ (x.out.alloc xo _) (le_refl _) y.out | exact Z0_ ((x.out.alloc xo _).alloc k37_ _) (le_refl _) y.out
   have u1:=J.size;have yv:=y.out.size;simp at yv
   first
   | (show Exit.then _ _ _ _ ((d.alloc (.cells (madeCells #[.int .i64 0] ws.length) 3)).alloc (.cells #[.slice none 0 0,.slice j ws.length c1,.slice (some ⟨d.heap.size,0,none⟩) ws.length ws.length] 36));have H:SpM ((d.alloc (.cells (madeCells #[.int .i64 0] ws.length) 3)).alloc (.cells #[.slice none 0 0,.slice j ws.length c1,.slice (some ⟨d.heap.size,0,none⟩) ws.length ws.length] 36)) X.heap.size ((d.alloc (.cells (madeCells #[.int .i64 0] ws.length) 3)).alloc (.cells #[.slice none 0 0,.slice j ws.length c1,.slice (some ⟨d.heap.size,0,none⟩) ws.length ws.length] 36)).heap.size (d.heap.size+1) (.slice none 0 0) (.slice j ws.length c1) (.slice (some ⟨d.heap.size,0,none⟩) ws.length ws.length) [] ws (List.replicate ws.length 0):=SpM.start (by have h:=Blk.new (d.alloc (.cells (madeCells #[.int .i64 0] ws.length) 3)) 36 #[.slice none 0 0,.slice j ws.length c1,.slice (some ⟨d.heap.size,0,none⟩) ws.length ws.length];rwa [show (d.alloc (.cells (madeCells #[.int .i64 0] ws.length) 3)).heap.size=d.heap.size+1 by simp] at h) x37_ ((Blk.new d _ _).alloc _) x37_ (((F9_ p.out z42_).alloc _).alloc _) (fun g q=>by have h1:=(p.out.lt g q);simp at h1;omega) x37_;have hB:Below X.heap.size X ((d.alloc (.cells (madeCells #[.int .i64 0] ws.length) 3)).alloc (.cells #[.slice none 0 0,.slice j ws.length c1,.slice (some ⟨d.heap.size,0,none⟩) ws.length ws.length] 36)):=(J.alloc x37_ _).alloc k37_ _;clear p y;generalize x5:(d.alloc (.cells (madeCells #[.int .i64 0] ws.length) 3)).alloc (.cells #[.slice none 0 0,.slice j ws.length c1,.slice (some ⟨d.heap.size,0,none⟩) ws.length ws.length] 36)=W at *;generalize x4:d.heap.size+1=P at *;generalize x3:d.heap.size=G at *)
   | (show Exit.then _ _ _ _ ((d.alloc (.cells #[.slice none 0 0,.slice j ws.length c1,.slice (some ⟨d.heap.size+1,0,none⟩) ws.length ws.length] 36)).alloc (.cells (madeCells #[.int .i64 0] ws.length) 3));have H:SpM ((d.alloc (.cells #[.slice none 0 0,.slice j ws.length c1,.slice (some ⟨d.heap.size+1,0,none⟩) ws.length ws.length] 36)).alloc (.cells (madeCells #[.int .i64 0] ws.length) 3)) X.heap.size ((d.alloc (.cells #[.slice none 0 0,.slice j ws.length c1,.slice (some ⟨d.heap.size+1,0,none⟩) ws.length ws.length] 36)).alloc (.cells (madeCells #[.int .i64 0] ws.length) 3)).heap.size (d.heap.size) (.slice none 0 0) (.slice j ws.length c1) (.slice (some ⟨d.heap.size+1,0,none⟩) ws.length ws.length) [] ws (List.replicate ws.length 0):=SpM.start ((Blk.new d _ _).alloc _) x37_ (by have h:=Blk.new (d.alloc (.cells #[.slice none 0 0,.slice j ws.length c1,.slice (some ⟨d.heap.size+1,0,none⟩) ws.length ws.length] 36)) 3 (madeCells #[.int .i64 0] ws.length);rwa [show (d.alloc (.cells #[.slice none 0 0,.slice j ws.length c1,.slice (some ⟨d.heap.size+1,0,none⟩) ws.length ws.length] 36)).heap.size=d.heap.size+1 by simp] at h) x37_ (((F9_ p.out z42_).alloc _).alloc _) (fun g q=>by have h1:=(p.out.lt g q);simp at h1;omega) x37_;have hB:Below X.heap.size X ((d.alloc (.cells #[.slice none 0 0,.slice j ws.length c1,.slice (some ⟨d.heap.size+1,0,none⟩) ws.length ws.length] 36)).alloc (.cells (madeCells #[.int .i64 0] ws.length) 3)):=(J.alloc x37_ _).alloc k37_ _;clear p y;generalize x5:(d.alloc (.cells #[.slice none 0 0,.slice j ws.length c1,.slice (some ⟨d.heap.size+1,0,none⟩) ws.length ws.length] 36)).alloc (.cells (madeCells #[.int .i64 0] ws.length) 3)=W at *;generalize x3:d.heap.size+1=G at *;generalize x4:d.heap.size=P at *)
   | (show Exit.then _ _ _ _ (d.alloc (.cells #[.slice none 0 0,.slice j ws.length c1,.slice (some ⟨c.heap.size,0,none⟩) ws.length ws.length] 36));have H:SpM (d.alloc (.cells #[.slice none 0 0,.slice j ws.length c1,.slice (some ⟨c.heap.size,0,none⟩) ws.length ws.length] 36)) X.heap.size (d.alloc (.cells #[.slice none 0 0,.slice j ws.length c1,.slice (some ⟨c.heap.size,0,none⟩) ws.length ws.length] 36)).heap.size (d.heap.size) (.slice none 0 0) (.slice j ws.length c1) (.slice (some ⟨c.heap.size,0,none⟩) ws.length ws.length) [] ws (List.replicate ws.length 0):=SpM.start (Blk.new d _ _) x37_ (((Blk.new c.drew _ _).below y.out (Blk.new c.drew _ _).lt).alloc _) x37_ ((F9_ p.out z42_).alloc _) (fun g q=>by have h1:=(p.out.lt g q);simp at h1;omega) x37_;have hB:Below X.heap.size X (d.alloc (.cells #[.slice none 0 0,.slice j ws.length c1,.slice (some ⟨c.heap.size,0,none⟩) ws.length ws.length] 36)):=J.alloc x37_ _;clear p y;generalize x5:d.alloc (.cells #[.slice none 0 0,.slice j ws.length c1,.slice (some ⟨c.heap.size,0,none⟩) ws.length ws.length] 36)=W at *;generalize x4:d.heap.size=P at *;generalize x3:c.heap.size=G at *)
   | (show Exit.then _ _ _ _ (((((d).setCell ⟨c.heap.size+1,0,none⟩ (.slice none 0 0)).setCell ⟨c.heap.size+1,1,none⟩ (.slice j ws.length c1)).setCell ⟨c.heap.size+1,2,none⟩ (.slice (some ⟨c.heap.size,0,none⟩) ws.length ws.length)));have H:SpM (((((d).setCell ⟨c.heap.size+1,0,none⟩ (.slice none 0 0)).setCell ⟨c.heap.size+1,1,none⟩ (.slice j ws.length c1)).setCell ⟨c.heap.size+1,2,none⟩ (.slice (some ⟨c.heap.size,0,none⟩) ws.length ws.length))) X.heap.size (((((d).setCell ⟨c.heap.size+1,0,none⟩ (.slice none 0 0)).setCell ⟨c.heap.size+1,1,none⟩ (.slice j ws.length c1)).setCell ⟨c.heap.size+1,2,none⟩ (.slice (some ⟨c.heap.size,0,none⟩) ws.length ws.length))).heap.size (c.heap.size+1) (.slice none 0 0) (.slice j ws.length c1) (.slice (some ⟨c.heap.size,0,none⟩) ws.length ws.length) [] ws (List.replicate ws.length 0):=SpM.start (Zr0 m.out _ _ _) x37_ (Zr1 (((Blk.new c.drew _ _).alloc _).below y.out ((Blk.new c.drew _ _).alloc _).lt) (show c.heap.size≠c.heap.size+1 by omega) _ _ _) x37_ (Zr2 (F9_ p.out z42_) (fun g q=>by have h1:=(p.out.lt g q);simp at h1;omega) _ _ _) (fun g q=>by have h1:=(p.out.lt g q);simp at h1;omega) x37_;have hB:Below X.heap.size X (((((d).setCell ⟨c.heap.size+1,0,none⟩ (.slice none 0 0)).setCell ⟨c.heap.size+1,1,none⟩ (.slice j ws.length c1)).setCell ⟨c.heap.size+1,2,none⟩ (.slice (some ⟨c.heap.size,0,none⟩) ws.length ws.length))):=Zy6 J x37_ _ _ _;clear p y;generalize x5:((((d).setCell ⟨c.heap.size+1,0,none⟩ (.slice none 0 0)).setCell ⟨c.heap.size+1,1,none⟩ (.slice j ws.length c1)).setCell ⟨c.heap.size+1,2,none⟩ (.slice (some ⟨c.heap.size,0,none⟩) ws.length ws.length))=W at *;generalize x4:c.heap.size+1=P at *;generalize x3:c.heap.size=G at *)
   | (show Exit.then _ _ _ _ (((((d.alloc (.cells (madeCells #[.int .i64 0] ws.length) 3)).setCell ⟨c.heap.size,0,none⟩ (.slice none 0 0)).setCell ⟨c.heap.size,1,none⟩ (.slice j ws.length c1)).setCell ⟨c.heap.size,2,none⟩ (.slice (some ⟨d.heap.size,0,none⟩) ws.length ws.length)));have H:SpM (((((d.alloc (.cells (madeCells #[.int .i64 0] ws.length) 3)).setCell ⟨c.heap.size,0,none⟩ (.slice none 0 0)).setCell ⟨c.heap.size,1,none⟩ (.slice j ws.length c1)).setCell ⟨c.heap.size,2,none⟩ (.slice (some ⟨d.heap.size,0,none⟩) ws.length ws.length))) X.heap.size (((((d.alloc (.cells (madeCells #[.int .i64 0] ws.length) 3)).setCell ⟨c.heap.size,0,none⟩ (.slice none 0 0)).setCell ⟨c.heap.size,1,none⟩ (.slice j ws.length c1)).setCell ⟨c.heap.size,2,none⟩ (.slice (some ⟨d.heap.size,0,none⟩) ws.length ws.length))).heap.size (c.heap.size) (.slice none 0 0) (.slice j ws.length c1) (.slice (some ⟨d.heap.size,0,none⟩) ws.length ws.length) [] ws (List.replicate ws.length 0):=SpM.start (Zr0 F.out _ _ _) x37_ (Zr1 (Blk.new d _ _) x37_ _ _ _) x37_ (Zr2 ((F9_ p.out z42_).alloc _) (fun g q=>by have h1:=(p.out.lt g q);simp at h1;omega) _ _ _) (fun g q=>by have h1:=(p.out.lt g q);simp at h1;omega) x37_;have hB:Below X.heap.size X (((((d.alloc (.cells (madeCells #[.int .i64 0] ws.length) 3)).setCell ⟨c.heap.size,0,none⟩ (.slice none 0 0)).setCell ⟨c.heap.size,1,none⟩ (.slice j ws.length c1)).setCell ⟨c.heap.size,2,none⟩ (.slice (some ⟨d.heap.size,0,none⟩) ws.length ws.length))):=Zy6 (J.alloc x37_ _) x37_ _ _ _;clear p y;generalize x5:((((d.alloc (.cells (madeCells #[.int .i64 0] ws.length) 3)).setCell ⟨c.heap.size,0,none⟩ (.slice none 0 0)).setCell ⟨c.heap.size,1,none⟩ (.slice j ws.length c1)).setCell ⟨c.heap.size,2,none⟩ (.slice (some ⟨d.heap.size,0,none⟩) ws.length ws.length))=W at *;generalize x4:c.heap.size=P at *;generalize x3:d.heap.size=G at *)
   | (show Exit.then _ _ _ _ (((((d).setCell ⟨c.heap.size,0,none⟩ (.slice none 0 0)).setCell ⟨c.heap.size,1,none⟩ (.slice j ws.length c1)).setCell ⟨c.heap.size,2,none⟩ (.slice (some ⟨c.heap.size+1,0,none⟩) ws.length ws.length)));have H:SpM (((((d).setCell ⟨c.heap.size,0,none⟩ (.slice none 0 0)).setCell ⟨c.heap.size,1,none⟩ (.slice j ws.length c1)).setCell ⟨c.heap.size,2,none⟩ (.slice (some ⟨c.heap.size+1,0,none⟩) ws.length ws.length))) X.heap.size (((((d).setCell ⟨c.heap.size,0,none⟩ (.slice none 0 0)).setCell ⟨c.heap.size,1,none⟩ (.slice j ws.length c1)).setCell ⟨c.heap.size,2,none⟩ (.slice (some ⟨c.heap.size+1,0,none⟩) ws.length ws.length))).heap.size (c.heap.size) (.slice none 0 0) (.slice j ws.length c1) (.slice (some ⟨c.heap.size+1,0,none⟩) ws.length ws.length) [] ws (List.replicate ws.length 0):=SpM.start (Zr0 m.out _ _ _) x37_ (Zr1 (by have h:=Blk.new (c.drew.alloc (.cells #[.slice none 0 0,.slice none 0 0,.slice none 0 0] 36)) 3 (madeCells #[.int .i64 0] ws.length);rw [show (c.drew.alloc (.cells #[.slice none 0 0,.slice none 0 0,.slice none 0 0] 36)).heap.size=c.heap.size+1 by simp] at h;exact h.below y.out h.lt) x37_ _ _ _) x37_ (Zr2 (F9_ p.out z42_) (fun g q=>by have h1:=(p.out.lt g q);simp at h1;omega) _ _ _) (fun g q=>by have h1:=(p.out.lt g q);simp at h1;omega) x37_;have hB:Below X.heap.size X (((((d).setCell ⟨c.heap.size,0,none⟩ (.slice none 0 0)).setCell ⟨c.heap.size,1,none⟩ (.slice j ws.length c1)).setCell ⟨c.heap.size,2,none⟩ (.slice (some ⟨c.heap.size+1,0,none⟩) ws.length ws.length))):=Zy6 J x37_ _ _ _;clear p y;generalize x5:((((d).setCell ⟨c.heap.size,0,none⟩ (.slice none 0 0)).setCell ⟨c.heap.size,1,none⟩ (.slice j ws.length c1)).setCell ⟨c.heap.size,2,none⟩ (.slice (some ⟨c.heap.size+1,0,none⟩) ws.length ws.length))=W at *;generalize x3:c.heap.size+1=G at *;generalize x4:c.heap.size=P at *)
   have x0:=hid H;have z1:=hid hB;have yd:=hid (Jx5 xp.out);have y9:=hid (snil xp.out).2.2;have yk:X.heap.size≤W.heap.size:=by
    have h1:=H.pl;have D:=H.ph;omega
   have xx:=C.out.size;have q0:=H.box.cell 0;have q1:=H.box.cell 1;have q2:=H.box.cell 2;have yr:(List.replicate ws.length (0:Int)).length≤4096:=by rw [List.length_replicate];omega
   have Hz:=hid (List.length_replicate (n:=ws.length) (a:=(0:Int)));obtain ⟨zs,xy⟩:∃ zs,List.replicate ws.length (0:Int)=zs:=⟨_,rfl⟩;have za:=hid xy.symm;rw [xy] at x0 yd yr Hz;obtain ⟨i0,zu,u5,u6,u7⟩:=info_parts Xk6;clear H hB u1 yv J xy zz HB0 xo x
   try clear F k0z k1z k2z f0z f1z f2z
   try clear m k0y k1y k2y f0y f1y f2y
   go_wp2_with fail
   refine (Zl1 _ _ _ [] ws zs W x0.out.srow (Row.of_own x0.out.aown rfl) (Row.of_own (Vo5 x0.out.bown Hz.out) Hz.out.symm) (Nat.zero_le _) x37_ yr).mono ?_;rintro e Z ⟨s1,a1,b1,rfl,o,xt,xu,xe⟩;obtain ⟨S1,k1,rfl⟩:=V8_ o;obtain ⟨Sa,ka,rfl⟩:=V8_ xt;obtain ⟨Sb,kb,rfl⟩:=V8_ xu;obtain ⟨Y,hY⟩:∃ Y,Z.alloc (.cells #[.slice S1 0 k1,.slice Sa ws.length ka,.slice Sb zs.length kb] 36)=Y:=⟨_,rfl⟩;have T:Below Z.heap.size Z Y:=by rw [← hY];exact (Below.refl _ Z).alloc (le_refl _) _
   obtain ⟨S0,yj,yn⟩:=(TriM.nil Y W.heap.size).more _ _ _ ([],ws,zs) (D1_ o T) (D1_ xt T) (D1_ xu T);have yt:Y.ownsRow W.heap.size 36 3 (.slice (some ⟨Z.heap.size,0,none⟩) 1 1) 1 (flat3 S0 1):=by
    rw [← hY,show flat3 S0 1=_ from yn];exact Vq0 Z _ _ _ _ xe.size
   have HY:=hid hY;have y7:=hid yj;have y4:=hid yt;have y3:=hid (x0.out.up (Z0_ (Below.refl _ W) (le_refl _) (Z0_ xe (le_refl _) T)));have y0:=hid (Z0_ z1.out (le_refl _) (Z0_ xe (le_refl _) T));clear o xt xu xe T yj yn yt hY q0 q1 q2;go_wp2;rw [HY.out]
   go_loopg [9] 65 (fun k v9 wr=>∃ (M:List Trip) (s A B:List Int) (S:Nat→List Value) (yy:Value) (A9:Option Addr) (c9:Nat),v9=.slice A9 (M.length+1) c9∧SpM wr X.heap.size W.heap.size P yy (.slice j ws.length c1) (.slice (some ⟨G,0,none⟩) ws.length ws.length) s A B∧SChain a b ws (M ++ [(s,A,B)])∧s.length+k=65∧(∀ i,i<nN a→-(2147483648+72567767433216 * (s.length:Int))≤A.getD i 0∧A.getD i 0≤2147483648)∧M.length=s.length∧wr.ownsRow W.heap.size 36 3 (.slice A9 (M.length+1) c9) (M.length+1) (flat3 S (M.length+1))∧TriM wr W.heap.size S (M ++ [(s,A,B)])∧Below X.heap.size X wr)
   case atStart=>exact ⟨[],[],ws,zs,S0,_,_,_,rfl,y3.out,.one yd.out rfl za.out,rfl,fun i hi=>by have:=y9.out i hi;rw [List.length_nil];omega,rfl,y4.out,y7.out,y0.out⟩
   case round =>
    obtain ⟨M,s,A,B,S,yy,A9,c9,rfl,hm,xq,hk,xs,yh,ys,yx,x6⟩:=hrel;have xh:Sp a b ws s A B:=by
     have h:=Zl2 xq M.length j37_;rw [show (M ++ [(s,A,B)]).getD M.length default=(s,A,B) by simp [List.getD]] at h;exact h.1
    have uk:s.length≤64:=Nat.le_trans (Y1_ xh.com.set) xg;have Hm:=hid hm;have ya:=hid xq;have yc:=hid ys;have zl:=hid yx;have zb:=hid x6;have ue:=hid xh;have uc:=hid xs;have z4:=hid yh;have Hk:=hid hk;have ug:1≤gk:=x37_;have ul:M.length≤64:=x37_;have xf:=Z0_ C.out (le_refl _) x6;have HG:=hid (Xk4 E X.heap.size W.heap.size P a b _ _ _ _ _ s A B ws (2147483648+72567767433216 * (s.length:Int)) wr ((z8.out wr xf).mono xx) ((z9.out wr xf).mono xx) zi.out zj.out (fun W' zr=>HE.out W' (xf.trans (zr.mono xx))) yk hm xh y9.out xs ⟨x37_,x37_⟩);have h1:=x8.out.below x6 x8.out.lt;have D:=x9.out.below x6 x9.out.lt;have c0:=h1.cell 0;have zm:=h1.cell 1;have c2:=h1.cell 2;have c3:=h1.cell 3;have c4:=h1.cell 4;have c5:=h1.cell 5;have d0:=D.cell 0;have d1:=D.cell 1;have d2:=D.cell 2;have d3:=D.cell 3;have d4:=D.cell 4;have d5:=D.cell 5;clear yh hk hm xq ys yx x6 xh xs xf h1 D y4 y7 y3 y0
    go_wp2_with fail
    refine HG.out.mono ?_;rintro e w7 ⟨r,rfl,x7,u0⟩;have ud:=hid x7;have y1:=hid (zb.out.trans x7.below);have y5:=hid (x7.own yc.out (le_refl _));have y8:=hid (zl.out.mdw x7);clear c0 zm c2 c3 c4 c5 d0 d1 d2 d3 d4 d5 HG x7;rcases u0 with ⟨rfl,un,V,A',B',yp,U,xi,yq,ye,yo⟩ | ⟨rfl,ym⟩
    ·obtain ⟨ub,uf,rfl,_⟩:=id U.srow
     have x2:=hid U;have zk:=hid xi;have ze:=hid yp;have yz:=hid ye;have zd:=hid yo;have xa:=hid yq;have uj:V.length≤65:=x37_;have q0:=U.box.cell 0;have q1:=U.box.cell 1;have q2:=U.box.cell 2;have uh:A'.length≤64:=by rw [xi.la];exact xg
     have ui:B'.length≤64:=by rw [xi.lb];exact xg
     clear U xi yp ye yo yq
     go_wp2_with fail
     refine (Zl1 _ _ _ V A' B' w7 x2.out.srow (Row.of_own x2.out.aown rfl) (Row.of_own x2.out.bown rfl) x37_ x37_ x37_).mono ?_;rintro e w8 ⟨s2,a2,b2,rfl,o1,o2,o3,O⟩;obtain ⟨S2,k2,rfl⟩:=V8_ o1;obtain ⟨Sc,kc,rfl⟩:=V8_ o2;obtain ⟨Sd,kd,rfl⟩:=V8_ o3;have h7:W.heap.size≤w7.heap.size:=x2.out.hs;have zf:=hid (F9_ o1 h7);have zg:=hid (F9_ o2 h7);have zh:=hid (F9_ o3 h7);have h8:=O.size;have y6:=hid (D1_ y5.out O);have z7:=hid (y8.out.up O);have z2:=hid (x2.out.up O);have y2:=hid (Z0_ y1.out (le_refl _) O);clear o1 o2 o3 O q0 q1 q2
     go_wp2_with (at_builtin;refine wpList_append_lies _ rfl _ _ 30 rfl W.heap.size 36 i0 (.agg #[.slice none 0 0,.slice none 0 0,.slice none 0 0]) 3 72 y37_ zu u5 u6 u7 rfl q38_ _ (M.length+1) (flat3 S (M.length+1)) rfl (y6.out.alloc _) _ 1 1 [.slice S2 V.length k2,.slice Sc A'.length kc,.slice Sd B'.length kd] rfl rfl (Vj9 _ _ _ _ _) (by intro u hu;simp at hu;rcases hu with rfl | rfl | rfl<;>rfl) q38_ z38_ x37_ k37_ _ rfl ?_)
     intro g9 zn w9 yu L zt _;have I:Below w8.heap.size w8 (w8.alloc (.cells #[.slice S2 V.length k2,.slice Sc A'.length kc,.slice Sd B'.length kd] 36)):=(Below.refl _ w8).alloc (le_refl _) _;have N:=D1_ y6.out I;have z3:=hid ((z2.out.up I).grown N (le_refl _) L (fun g q _ e=>by
      have h1:=zd.out g q;have D:=(yc.out.lt g e.symm).2;omega))
     have yw:=(z7.out.up I).grown N L;obtain ⟨S',yi,xr⟩:=yw.more _ _ _ (V,A',B') (FarRow.grown (FarRow.up zf.out I) N L) (FarRow.grown (FarRow.up zg.out I) N L) (FarRow.grown (FarRow.up zh.out I) N L);have eL:(M ++ [(s,A,B)]).length=M.length+1:=j37_;rw [eL] at xr;have EL:=hid eL;clear eL;have z6:=hid yi;have z5:Hid (w9.ownsRow W.heap.size 36 3 (.slice (some ⟨g9,0,none⟩) (M.length+1+1) zn) (M.length+1+1) (flat3 S' (M.length+1+1))):=hid (by rw [xr];exact yu);have z0:=hid ((Z0_ y2.out (le_refl _) I).grown L (Nat.le_trans y2.out.size I.size) (fun g q=>Nat.le_trans yk (N.lt g q).1));clear yu L zt I N yw yi xr;go_wp2
     go_roundg (64 - s.length)
     case measure=>have:=Hk.out;omega
     case rel=>exact ⟨M ++ [(s,A,B)],V,A',B',S',_,_,_,by rw [EL.out],z3.out,.more ya.out ze.out zk.out xa.out,by have:=Hk.out;have:=xa.out;omega,fun i hi=>by have:=yz.out i hi;have:=xa.out;omega,by have:=z4.out;have:=xa.out;rw [EL.out];omega,by rw [EL.out];exact z5.out,z6.out,z0.out⟩
    ·have zc:=hid ym
     clear ym;go_wp2;refine bodyPost_ret (v:=.tuple #[.slice A9 (M.length+1) c9,.int .i64 0]) (by simp [results,Tryz.results7,go_sem]) rfl ?_;have eL:(M ++ [(s,A,B)]).length=M.length+1:=j37_;exact ⟨_,_,M ++ [(s,A,B)],rfl,Yg6 (by rw [eL];exact y5.out) y8.out,Z0_ C.out (le_refl _) y1.out,.inr ⟨xp.out,rfl,M,s,A,B,rfl,ya.out,zc.out⟩⟩
open Go Go.RowKit
theorem Yj0 {a b:Mat} {w s A B A' B':List Int} {D:Int} {k:Nat} (d:∀ i,i<nN a→-2147483648≤w.getD i 0∧w.getD i 0≤2147483648) (h:Sp a b w s A B) (hA:∀ i,i<nN a→-D≤A.getD i 0∧A.getD i 0≤2147483648) (c:0≤D∧D≤1152921504606846976) (hs:Shifts a b s A B k A' B'):At a b w s A B D k A' B'∧k≤nN a+1:=by
 induction hs with
 | zero=>exact ⟨At.start h hA,Nat.zero_le _⟩
 | succ _ hno hd ih=>exact ⟨ih.1.next d c hno hd,by have:=ih.1.few hno;omega⟩
theorem Zl3 {a b:Mat} {ws:List Int} {L:List Trip} (g:∀ i,i<nN a→-2147483648≤ws.getD i 0∧ws.getD i 0≤2147483648) (h:SChain a b ws L):∀ M s A B,L=M ++ [(s,A,B)]→Sp a b ws s A B∧s.length=M.length∧∀ i,i<nN a→-(2147483648+72567767433216 * (s.length:Int))≤A.getD i 0∧A.getD i 0≤2147483648:=by
 induction h with
 | @one A0 B0 h eA eB =>
  intro M s A B e;obtain ⟨d,c⟩:=List.append_inj' (s₁:=[]) (t₁:=[(([]:List Int),A0,B0)]) e rfl;simp only [List.cons.injEq,Prod.mk.injEq,and_true] at c;obtain ⟨rfl,rfl,rfl⟩:=c;subst d;refine ⟨h,rfl,fun i hi=>?_⟩;have:=g i hi;rw [eA,List.length_nil];omega
 | @more L s A B s' A' B' hc hg hs hl ih =>
  intro M v o B2 e;obtain ⟨d,c⟩:=List.append_inj' e rfl;simp only [List.cons.injEq,Prod.mk.injEq,and_true] at c;obtain ⟨rfl,rfl,rfl⟩:=c;subst d;obtain ⟨f,u,low⟩:=ih L s A B rfl;obtain ⟨k,n,x,l,m,_,_⟩:=hg;have r:=Y1_ f.com.set;have q:=f.com.n64;obtain ⟨j,p⟩:=Yj0 g f low ⟨x37_,x37_⟩ m;refine ⟨hs,by rw [List.length_append,List.length_singleton];omega,fun i hi=>?_⟩;have:=j.low i hi;omega
theorem Vq1 {a b:Mat} {ws:List Int} {M:List Trip} {s A B:List Int} (g:may15 a b ws=true) (hc:SChain a b ws (M ++ [(s,A,B)])) (e:Ends a b s A B):Stop a b s∧s.length=M.length:=by
 have d:=(snil g).2.2;obtain ⟨c,hl,low⟩:=Zl3 d hc M s A B rfl;obtain ⟨k,A',B',hs,j,f⟩:=e;have m:=Y1_ c.com.set;have h:=c.com.n64;exact ⟨(Yj0 d c low ⟨x37_,x37_⟩ hs).1.sp.stop f,hl⟩
def setK (L:List Trip) (k:Nat):List Int:=(L.getD k default).1
structure Told (a b:Mat) (ws:List Int) (L:List Trip):Prop where
 pos:0<L.length
 sp:∀ k,k<L.length→∃ A B,Sp a b ws (setK L k) A B
 len:∀ k,k<L.length→(setK L k).length=k
 top:∀ t,Common a b t→t.length<L.length
theorem Vo7 {a b:Mat} {ws:List Int} {L M:List Trip} {s A B:List Int} (e:may15 a b ws=true) (c:L=M ++ [(s,A,B)]) (hc:SChain a b ws L) (g:Ends a b s A B):Told a b ws L:=by
 have f:=Zl2 hc;refine ⟨by rw [c];simp,fun k d=>⟨_,_,(f k d).1⟩,fun k d=>(f k d).2,fun t j=>?_⟩;obtain ⟨hs,hl⟩:=Vq1 e (c▸hc) g;have h:=(Zl3 (snil e).2.2 hc M s A B c).1;have:=Zp0 h.com hs j;rw [c,List.length_append,List.length_singleton];omega
section
variable {a b:Mat} {ws:List Int} {L:List Trip}
theorem Told.com (h:Told a b ws L) {k:Nat} (c:k<L.length):Common a b (setK L k):=by
 obtain ⟨_,_,hs⟩:=h.sp k c;exact hs.com
theorem Told.best (h:Told a b ws L) {t:List Int} (d:Common a b t):sumW ws t≤sumW ws (setK L t.length):=by
 have c:=h.top t d;obtain ⟨_,_,hs⟩:=h.sp _ c;exact hs.best d (h.len _ c).symm
end
theorem Yj1 {n:Nat} {w s:List Int} (h:n≤64) (hl:w.length=n) (e:∀ x∈w,-1099511627776≤x∧x≤1099511627776) (hs:InN n s):addW w s=sumW w s∧-70368744177664≤sumW w s∧sumW w s≤70368744177664:=by
 have g:s.length≤64:=by have:=Y1_ hs;omega
 obtain ⟨d,f,h3⟩:=Yp5 w (c:=1099511627776) x37_ e s 0 x37_ x37_;refine ⟨?_,x37_,x37_⟩;unfold addW;rw [d];omega
theorem Xx8 {n:Nat} {w s:List Int} (c:n≤64) (hl:w.length=n) (d:∀ x∈w,-1099511627776≤x∧x≤1099511627776) (hs:InN n s):J3_ w s=sumW w s:=by
 rw [← (Yj1 c hl d hs).1];unfold J3_;rw [if_pos ⟨I9_ hs.1,fun x e=>by have:=hs.2 x e;omega⟩]
theorem Vf6 {n:Nat} {w s:List Int} (c:n≤64) (hl:w.length=n) (d:∀ x∈w,-1099511627776≤x∧x≤1099511627776) (hs:InN n s):rwT w s=sumW w s:=by
 rw [← (Yj1 c hl d hs).1];unfold rwT;rw [if_pos];rw [hl,T0_ x37_ x37_];exact (P3_ x37_ x37_).2 (by rw [Int.toNat_natCast];exact hs)
theorem Zr3 {a b:Mat} {ws:List Int} (h:may15 a b ws=true):∀ x∈ws,-1099511627776≤x∧x≤1099511627776:=fun x d=>by
 obtain ⟨_,hl,c⟩:=snil h;obtain ⟨i,hi,rfl⟩:=List.mem_iff_getElem.1 d;have:=c i x37_;rw [show ws.getD i 0=ws[i] by simp [List.getD,hi]] at this;omega
theorem Xk7 (E:Nat→Addr) (a b:Mat) (o p m:Value) (ws:List Int) (w:World) (J:MatV w w.heap.size o a) (K:MatV w w.heap.size p b) (G:Sml a) (H:Sml b) (F:Row w w.heap.size m ws) (y:Env E w) (g:may15 a b ws=true) :
  Calls Tryz.prog 7 #[o,p,m] w (fun e w'=>∃ A c L,e=.returned (.tuple #[.slice A L.length c,.int .i64 0])∧SplL w' w'.heap.size (.slice A L.length c) L∧Told a b ws L∧L.length≤65∧Below w.heap.size w w'):=by
 have I:ws.length≤1048576:=by have x:=(snil g).2.1;have j:=(snil g).1.n64;omega
 refine (Yp0 E a b o p m ws w J K G H F I (fun W C=>y.up C)).mono ?_;rintro e w' ⟨v,N,L,rfl,q,hb,h⟩;rcases h with ⟨r,_,_⟩ | ⟨_,rfl,M,s,A,B,z,hc,D⟩
 ·rw [g] at r;cases r
 ·have d:=Vo7 g z hc D
  obtain ⟨u,c,rfl,_⟩:=id q;refine ⟨u,c,L,rfl,q,d,?_,hb⟩;have x:=d.len (L.length - 1) (by have:=d.pos;omega);have j:=d.com (k:=L.length - 1) (by have:=d.pos;omega);have h3:=Y1_ j.set;have O:=j.n64;omega
theorem Vq2 (E:Nat→Addr) (a b:Mat) (g j d:Value) (ws:List Int) (w:World) (z:MatV w w.heap.size g a) (B:MatV w w.heap.size j b) (u:Sml a) (x:Sml b) (s:Row w w.heap.size d ws) (y:ws.length≤1048576) (o:Env E w) (r:may15 a b ws=false) :
  Calls Tryz.prog 7 #[g,j,d] w (fun e w'=>∃ A c,e=.returned (.tuple #[.slice A 0 c,.int .i64 1])∧Below w.heap.size w w'):=by
 refine (Yp0 E a b g j d ws w z B u x s y (fun W q=>o.up q)).mono ?_;rintro e w' ⟨v,C,L,rfl,p,hb,h⟩;rcases h with ⟨_,rfl,rfl⟩ | ⟨k,_⟩
 ·obtain ⟨m,c,rfl,_⟩:=id p
  exact ⟨m,c,rfl,hb⟩
 ·rw [r] at k;cases k
theorem SplL.nth {w:World} {v:Value} {L:List Trip} (h:SplL w w.heap.size v L) {k:Nat} (s:k<L.length):∃ (e:Addr) (S:Option Addr) (c:Nat) (g j:Value),(∃ d,v=.slice (some e) L.length d) ∧
  (∀ W,Below w.heap.size w W→W.cell? (e.add (k * 3))=some (.slice S (setK L k).length c)∧W.cell? ⟨(e.add (k * 3)).block,(e.add (k * 3)).off+1,none⟩=some g∧W.cell? ⟨(e.add (k * 3)).block,(e.add (k * 3)).off+2,none⟩=some j) ∧
  Row w w.heap.size (.slice S (setK L k).length c) (setK L k):=by
 obtain ⟨A,d,rfl,_,u⟩:=h;obtain ⟨e,x,g,j,rfl,hab,o,q,r,m,_,_⟩:=u k s;have f:(e.add (k * 3)).block<w.heap.size:=j38_;obtain ⟨S,c,rfl,_⟩:=id m;exact ⟨e,S,c,g,j,⟨d,rfl⟩,fun W hb=>⟨(hb.cell f).trans o,(hb.cell (p:=⟨(e.add (k * 3)).block,(e.add (k * 3)).off+1,none⟩) f).trans q,(hb.cell (p:=⟨(e.add (k * 3)).block,(e.add (k * 3)).off+2,none⟩) f).trans r⟩,m⟩
theorem SplL.one {w:World} {f:Addr} {n d:Nat} {L:List Trip} (h:SplL w w.heap.size (.slice (some f) n d) L) {k:Nat} (o:k<L.length):∃ (S:Option Addr) (c:Nat),(∀ W,Below w.heap.size w W→W.cell? (f.add (k * 3))=some (.slice S (setK L k).length c))∧Row w w.heap.size (.slice S (setK L k).length c) (setK L k):=by
 obtain ⟨g,S,c,_,_,⟨e,m⟩,hc,p⟩:=h.nth o;obtain rfl:f=g:=Option.some.inj (Value.slice.inj m).1;exact ⟨S,c,fun W j=>(hc W j).1,p⟩
section
variable {a b:Mat} {ws:List Int} {L:List Trip}
theorem Told.weighs (h:Told a b ws L) (d:may15 a b ws=true) {k:Nat} (e:k<L.length) (c v:Value) (W:World) (m:Row W W.heap.size c ws) (j:Row W W.heap.size v (setK L k)):Calls Tryz.prog 10 #[c,v] W (Tells W (sumW ws (setK L k))):=by
 have hc:=h.com e;have hs:=hc.set;have hl:=(snil d).2.1;have g:=hc.n64;have p:=Y1_ hs;rw [← Vf6 g hl (Zr3 d) hs];exact Zf3 c v ws (setK L k) W m j x37_ fun _ x o=>by have:=hs.2 x o;omega
end
open Go Go.RowKit
def un15:Mat:=.mk 0 2 1 0 [] []
theorem Xk8 (s:List Int):rankT un15 s=if mayI un15 s then ((min 1 (cnt (memP s) 2):Nat):Int) else -1:=by
 unfold rankT;rw [rkP_0 rfl];rfl
theorem Yp1 (s:List Int):indT un15 s=(mayI un15 s && decide (min 1 (cnt (memP s) 2)=s.length)):=by
 unfold indT;rw [Xk8];cases mayI un15 s
 ·simp
 ·simp
  omega
theorem Xk9:may15 un15 un15 [3,5]=true:=k38_
theorem Vo8:may15 un15 un15 [5]=false:=k38_
theorem Vo9:may15 un15 un15 [1,2147483649]=false:=k38_
theorem Vf7:indT un15 [1]=true:=by rw [Yp1];decide +kernel
theorem Jx6 {L:List Trip} (h:Told un15 un15 [3,5] L):L.length=2∧setK L 0=[]∧setK L 1=[1]:=by
 have hc:Common un15 un15 [1]:=⟨rfl,Vf7,Vf7⟩;have d:=h.top _ hc;have e:L.length=2:=by
  by_cases h3:2<L.length
  ·have f:=(h.com h3).ia
   rw [Yp1,Bool.and_eq_true,decide_eq_true_iff,h.len 2 h3] at f;omega
  ·simp at d;omega
 refine ⟨e,List.eq_nil_of_length_eq_zero (h.len 0 x37_),?_⟩;have hl:=h.len 1 x37_;have hi:=(h.com (k:=1) x37_).set;obtain ⟨x,c⟩:∃ x,setK L 1=[x]:=List.length_eq_one_iff.1 hl;have hb:=h.best hc;rw [show ([1]:List Int).length=1 from rfl,c] at hb;rw [c] at hi;have j:0≤x∧x<((nN un15:Nat):Int):=hi.2 x (List.mem_singleton.2 rfl);have g:((nN un15:Nat):Int)=2:=rfl;rw [c];rcases (show x=0∨x=1 by omega) with rfl | rfl
 ·exact absurd hb q38_
 ·rfl
theorem Vp0 {L:List Trip} (h:L.length=2∧setK L 0=[]∧setK L 1=[1]):(V4_ [3,5] L L.length).1=1:=z21_
theorem Vp1 {L:List Trip} (h:L.length=2∧setK L 0=[]∧setK L 1=[1]):(V4_ [-3,-5] L L.length).1=0:=z21_
theorem Jx7 {w:World} {B:Nat} (h:Row w w.heap.size (.slice (some ⟨B,0,none⟩) 2 2) [3,5]):Row w w.heap.size (.slice (some ⟨B,1,none⟩) 1 1) [5]:=by
 obtain ⟨A,c,g,_,d⟩:=h;obtain ⟨j,rfl,e,f⟩:=d 1 q38_;cases g;refine ⟨_,1,rfl,⟨le_refl _,q38_,fun h=>z46_⟩,fun k d=>⟨⟨B,1,none⟩,rfl,e,?_⟩⟩;obtain rfl:k=0:=by simp at d;omega
 exact f
theorem Jx8 (w:World) (B:Nat):SplL w B (.slice none 0 0) []:=⟨none,0,rfl,⟨le_refl _,q38_,fun _=>rfl⟩,fun k c=>absurd c j37_⟩
theorem cS15 (u v:Value) (l:List Int) (W:World) (c:Row W W.heap.size u l) (d:Row W W.heap.size v l) (hl:l.length≤1000):Calls Tryz.prog 12 #[u,v] W (Says W true) :=
 Vp7 u v l l W c d x37_ x37_ (by unfold sameB;simp)
theorem Vp2:(V4_ [3,5] [] ([]:List Trip).length).1=-1:=rfl
theorem M6_ (E:Nat→Addr) (w:World) (hE:Env E w):Calls Tryz.prog 4 #[] w (Truly w):=by
 obtain ⟨I,hW2⟩:∃ I,I=(w.alloc (.cells #[.int .i64 0,.int .i64 2,.int .i64 1,.int .i64 0,.slice none 0 0,.slice none 0 0] 25)).alloc (.cells #[.int .i64 3,.int .i64 5] 3):=⟨_,rfl⟩;have x5:=hid hW2;have X:Below w.heap.size w I:=by rw [hW2];exact ((Below.refl _ w).alloc (le_refl _) _).alloc j37_ _
 have d:Hid (Blk I w.heap.size 25 #[.int .i64 0,.int .i64 2,.int .i64 1,.int .i64 0,.slice none 0 0,.slice none 0 0]):=hid j40_;have j:Hid (Row I I.heap.size (.slice (some ⟨w.heap.size+1,0,none⟩) 2 2) [3,5]):=hid (by
  rw [hW2];have h:=Row.here (Row.lit2 (w.alloc (.cells #[.int .i64 0,.int .i64 2,.int .i64 1,.int .i64 0,.slice none 0 0,.slice none 0 0] 25)) 3 5)
  rwa [show (w.alloc (.cells #[.int .i64 0,.int .i64 2,.int .i64 1,.int .i64 0,.slice none 0 0,.slice none 0 0] 25)).heap.size=w.heap.size+1 by simp] at h)
 have Hb0:=hid X;have m:=hid (hE.up X);clear hE hW2 X;have B:=d.out.cell 0;have C:=d.out.cell 1;have D:=d.out.cell 2;have F:=d.out.cell 3;have G:=d.out.cell 4;have H:=d.out.cell 5
 go_enter Tryz.func4,Tryz.ntmps4
 go_wp2_with fail
 rw [← x5.out];refine (Xk7 E un15 un15 _ _ _ [3,5] _ (F2_ _ _ 0 2 1 0) (F2_ _ _ 0 2 1 0) (F3_ ..) (F3_ ..) j.out m.out Xk9).mono ?_;rintro e q ⟨A,c,L,rfl,V,ht,_,M⟩;have Z:=Jx6 ht;have x:=hid Z;rw [Z.1] at V ⊢;have o:=hid V;clear V ht Z x5;clear B C D F G H;replace m:=hid (m.out.up M);replace j:=hid (j.out.up M);replace d:=hid (d.out.below M d.out.lt);replace Hb0:=hid (Z0_ Hb0.out (le_refl _) M);clear M;have B:=d.out.cell 0;have C:=d.out.cell 1;have D:=d.out.cell 2;have F:=d.out.cell 3;have G:=d.out.cell 4;have H:=d.out.cell 5;have x3:Hid (∀ W,Below q.drew.heap.size q.drew W→W.cell? ⟨w.heap.size,0,none⟩=some (.int .i64 0)∧W.cell? ⟨w.heap.size,1,none⟩=some (.int .i64 2)∧W.cell? ⟨w.heap.size,2,none⟩=some (.int .i64 1)∧W.cell? ⟨w.heap.size,3,none⟩=some (.int .i64 0)∧W.cell? ⟨w.heap.size,4,none⟩=some (.slice none 0 0)∧W.cell? ⟨w.heap.size,5,none⟩=some (.slice none 0 0)):=hid fun W hW=>by have h:=(d.out.below (Below.refl _ q).drew d.out.lt).below hW (d.out.below (Below.refl _ q).drew d.out.lt).lt;exact ⟨h.cell 0,h.cell 1,h.cell 2,h.cell 3,h.cell 4,h.cell 5⟩
 have K:Hid (Below q.drew.heap.size q.drew q.drew):=hid (Below.refl _ _);clear B C D F G H;go_wp2
 go_region_held3 (fun W=>W.cell? ⟨w.heap.size,0,none⟩=some (.int .i64 0)∧W.cell? ⟨w.heap.size,1,none⟩=some (.int .i64 2)∧W.cell? ⟨w.heap.size,2,none⟩=some (.int .i64 1)∧W.cell? ⟨w.heap.size,3,none⟩=some (.int .i64 0)∧W.cell? ⟨w.heap.size,4,none⟩=some (.slice none 0 0)∧W.cell? ⟨w.heap.size,5,none⟩=some (.slice none 0 0)) (exact x3.out _ K.out)
  ((go_at_call 7;refine (Vq2 E un15 un15 _ _ _ [5] _ (F2_ _ _ 0 2 1 0) (F2_ _ _ 0 2 1 0) (F3_ ..) (F3_ ..) (Jx7 (j.out.up (Below.refl _ q).drew)) q38_ (m.out.up (Below.refl _ q).drew) Vo8).mono ?_;rintro e r ⟨A4,c4,rfl,s⟩;replace K:=hid (Z0_ K.out (le_refl _) s);clear s))
 have s:=Z0_ (Below.refl _ q).drew (le_refl _) K.out;clear x3 K;replace m:=hid (m.out.up s);replace j:=hid (j.out.up s);replace o:=hid (o.out.up s);replace d:=hid (d.out.below s d.out.lt);replace Hb0:=hid (Z0_ Hb0.out (le_refl _) s);clear s;obtain ⟨S,S0,c0,x0,y0,⟨d0,T⟩,Y,x6⟩:=SplL.nth o.out (k:=0) (by rw [x.out.1];decide);obtain ⟨x7,S1,c1,x1,y1,⟨d1,U⟩,P,x2⟩:=SplL.nth o.out (k:=1) (by rw [x.out.1];decide);rw [x.out.1] at T U;obtain rfl:A=some S:=(Value.slice.inj T).1;obtain rfl:S=x7:=Option.some.inj (Value.slice.inj U).1;rw [x.out.2.1] at Y x6;rw [x.out.2.2] at P x2;have q0:=(Y r (Below.refl _ _)).1;rw [Nat.zero_mul,add_zero] at q0;obtain ⟨g,f,x9⟩:=S;obtain rfl:x9=none:=by simpa [Addr.add] using World.cell?_spot q0
 have q1:r.cell? ⟨g,f+3,none⟩=some (.slice S1 1 c1):=by have:=(P r (Below.refl _ _)).1;simpa [Addr.add] using this
 have x8:(r.alloc (.cells #[.int .i64 1] 3)).cell? ⟨g,f+3,none⟩=some (.slice S1 1 c1):=by have:=(P (r.alloc (.cells #[.int .i64 1] 3)) ((Below.refl _ r).alloc (le_refl _) _)).1;simpa [Addr.add] using this
 have x4:=hid x2;clear Y P x6 x2 T U;have u:=hid (Row.here (Row.lit1 r 1));have p:Hid (Below r.heap.size r (r.alloc (.cells #[.int .i64 1] 3))):=hid ((Below.refl _ _).alloc (le_refl _) _)
 go_wp2_with fail
 refine (cS15 _ _ [1] _ (x4.out.up p.out) u.out q38_).mono ?_;rintro e w5 ⟨rfl,v⟩;replace v:=Z0_ p.out (le_refl _) v;clear u p q0 q1 x8 x4;replace m:=hid (m.out.up v);replace j:=hid (j.out.up v);replace o:=hid (o.out.up v);replace d:=hid (d.out.below v d.out.lt);replace Hb0:=hid (Z0_ Hb0.out (le_refl _) v);clear v
 go_wp2_with fail
 refine (W5_ _ _ L [3,5] _ o.out j.out).mono ?_;rintro e Q ⟨rfl,J⟩;rw [Vp0 x.out];replace m:=hid (m.out.up J);replace j:=hid (j.out.up J);replace o:=hid (o.out.up J);replace d:=hid (d.out.below J d.out.lt);replace Hb0:=hid (Z0_ Hb0.out (le_refl _) J);clear J;have u:=hid (Row.here (Row.lit2 Q (-3) (-5)));have p:Hid (Below Q.heap.size Q (Q.alloc (.cells #[.int .i64 (-3),.int .i64 (-5)] 3))):=hid ((Below.refl _ _).alloc (le_refl _) _)
 go_wp2_with fail
 refine (W5_ _ _ L [-3,-5] _ (o.out.up p.out) u.out).mono ?_;rintro e w7 ⟨rfl,z⟩;rw [Vp1 x.out];replace z:=Z0_ p.out (le_refl _) z;clear u p o;replace m:=hid (m.out.up z);replace j:=hid (j.out.up z);replace d:=hid (d.out.below z d.out.lt);replace Hb0:=hid (Z0_ Hb0.out (le_refl _) z);clear z
 go_wp2_with fail
 refine (W5_ _ _ [] [3,5] _ (Jx8 _ _) j.out).mono ?_;rintro e w8 ⟨rfl,N⟩;rw [Vp2];replace m:=hid (m.out.up N);replace j:=hid (j.out.up N);replace d:=hid (d.out.below N d.out.lt);replace Hb0:=hid (Z0_ Hb0.out (le_refl _) N);clear N;have B:=d.out.cell 0;have C:=d.out.cell 1;have D:=d.out.cell 2;have F:=d.out.cell 3;have G:=d.out.cell 4;have H:=d.out.cell 5
 go_wp2_with fail
 refine (Zs8 E un15 un15 _ _ _ [3,5] _ (F2_ _ _ 0 2 1 0) (F2_ _ _ 0 2 1 0) (F3_ ..) (F3_ ..) j.out q38_ m.out).mono ?_;rintro e R ⟨rfl,O⟩;rw [Xk9];clear B C D F G H;replace m:=hid (m.out.up O);replace j:=hid (j.out.up O);replace d:=hid (d.out.below O d.out.lt);replace Hb0:=hid (Z0_ Hb0.out (le_refl _) O);clear O;have B:=d.out.cell 0;have C:=d.out.cell 1;have D:=d.out.cell 2;have F:=d.out.cell 3;have G:=d.out.cell 4;have H:=d.out.cell 5;have u:=hid (Row.here (Row.lit2 R 1 2147483649));have p:Hid (Below R.heap.size R (R.alloc (.cells #[.int .i64 1,.int .i64 2147483649] 3))):=hid ((Below.refl _ _).alloc (le_refl _) _)
 go_wp2_with fail
 refine (Zs8 E un15 un15 _ _ _ [1,2147483649] _ (F2_ _ _ 0 2 1 0) (F2_ _ _ 0 2 1 0) (F3_ ..) (F3_ ..) u.out q38_ (m.out.up p.out)).mono ?_;rintro e xa ⟨rfl,y⟩;rw [Vo9];replace y:=Z0_ p.out (le_refl _) y;clear B C D F G H;clear u p;replace m:=hid (m.out.up y);replace j:=hid (j.out.up y);replace d:=hid (d.out.below y d.out.lt);replace Hb0:=hid (Z0_ Hb0.out (le_refl _) y);clear y;exact x2_
end Go.Proofs.YtnaebbjodfnooaaGreatDoor.Wp
