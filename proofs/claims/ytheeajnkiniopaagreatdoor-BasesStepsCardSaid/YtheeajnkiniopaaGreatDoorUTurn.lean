/- union's stands, walked (written by gen_ustand.py). -/
import Derived.Test.YtheeajnkiniopaaGreatDoorUCls
import Derived.Test.YtheeajnkiniopaaGreatDoorUTurnP
import Derived.Test.YtheeajnkiniopaaGreatDoorX0A
import Derived.Test.YtheeajnkiniopaaGreatDoorX0B
set_option maxHeartbeats 8000000
set_option maxRecDepth 100000
open Go.Lib (hid)
open Nat (le_refl)
namespace Go.Proofs.YtheeajnkiniopaaGreatDoor.Wp
private theorem x6_ {P:Prop} (h:P:=by
 clear qY qYd at_ eX sl hx hy h1 h2 h3 h4
 go_wp2
 go_region
 all_goals
  go_wp2
  go_roundw
  case rel =>
   have h:=HPut.out _ Hz.out
   exact ⟨k+1,by go_num,by omega,h.1,h.2.1,h.2.2.1,h.2.2.2.1,h.2.2.2.2⟩
  case measure=>simp [intOf];omega):P:=h
open Go Go.RowKit
theorem Zr5 {l:List Int} {P:Int→Bool} {k:Nat} (h:k<l.length):(l.take (k+1)).filter P=(l.take k).filter P ++ if P (l.getD k 0)=true then [l.getD k 0] else []:=by
 rw [List.take_succ_eq_append_getElem h,List.filter_append];congr 1;rw [show l.getD k 0=l[k] by simp [List.getD,h]];cases hp:P l[k]<;>simp [List.filter,hp]
theorem T1_ (a b:List Int):(Z7_ a b).length≤a.length:=by
 unfold Z7_ partL;split
 ·exact List.length_filter_le _ _
 ·exact Nat.zero_le _
theorem Yx2 (E:Nat→Addr) (ms:List Mat) (p H:Option Addr) (r q:Nat) (c:List Int) (x:Nat) (sv:Value) (s:List Int) (w:World) (hl:MatL w w.heap.size (.slice p ms.length r) ms) (hs:∀ m∈ms,Sml m) (ho:Row w w.heap.size (.slice H c.length q) c) (X:Row w w.heap.size sv s) (x9:c.length≤64) (hx:x<c.length) (xw:s.length≤64) (xe:∀ y∈s,(0≤y∧y<(c.length:Int))∧0≤c.getD y.toNat 0∧c.getD y.toNat 0<(ms.length:Int)) (hE:Env E w) :
  Calls Tryz.prog 67 #[.agg #[.slice p ms.length r,.slice H c.length q],.int .i64 (x:Int),sv] w (GivesF w (s.filter fun y=>J6_ ms c (x:Int) y)):=by
 have xy:(x:Int)<(c.length:Int):=k29_;have xu:(c.length:Int)≤64:=k29_;have xx:(s.length:Int)≤64:=k29_;obtain ⟨As,cs,rfl,_⟩:=id X;obtain ⟨o,hW0⟩:∃ o,o=w.alloc (.cells #[.slice p ms.length r,.slice H c.length q] 47):=⟨_,rfl⟩;have xk:=hid hW0;have v:Below w.heap.size w o:=q32_;have x7:Blk o w.heap.size 47 #[.slice p ms.length r,.slice H c.length q]:=z33_;have Hb0:=hid v;have x3:=hid x7;have HL:=hid (hl.up v);have N:=hid (ho.up v);have HE:=hid (hE.up v);have Hs:=hid hs;have HS:=hid (X.up v);have xn:=hid xe;clear hW0 v x7 hl ho hE hs X xe
 go_enter Tryz.func67,Tryz.ntmps67
 go_wp2;rw [← xk.out]
 go_loopw [7,9,10,13] (fun v7 _ _ vk wr=>∃ j:Nat,vk=.int .i64 j∧j≤s.length∧wr.ownsRow o.heap.size 3 1 v7 ((s.take j).filter fun y=>J6_ ms c (x:Int) y).length (ints ((s.take j).filter fun y=>J6_ ms c (x:Int) y))∧Below o.heap.size o wr) (fun _ _ _ vk _=>s.length - (intOf vk).toNat)
 case atStart=>exact ⟨0,rfl,Nat.zero_le _,World.ownsRow_nil _ _ _ _,Below.refl _ _⟩
 case round =>
  obtain ⟨j,rfl,hj,xf,hb⟩:=hrel;have Hown:=hid xf;have Hb:=hid hb;clear xf;by_cases U:j<s.length
  ·have xv:(j:Int)<(s.length:Int):=by omega
   have Hkr:=hid (x3.out.below hb x3.out.lt);obtain ⟨ax,u,xd⟩:=Row.nth HS.out U;subst u;obtain ⟨I,u,xc⟩:=Row.nth N.out hx;subst u;have L:=xn.out _ (Q6_ 0 U);have Hn:=hid (Zr5 (P:=fun y=>J6_ ms c (x:Int) y) U);have xm:Hid (((s.take j).filter fun y=>J6_ ms c (x:Int) y).length≤1048576):=hid (Nat.le_trans (List.length_filter_le _ _) y32_);have O:=xd wr hb;obtain ⟨y,hy⟩:∃ y:Nat,s.getD j 0=(y:Int):=⟨(s.getD j 0).toNat,k29_⟩;rw [hy] at L Hn O;rw [Int.toNat_natCast] at L;have xt:y<c.length:=k29_;have xz:(y:Int)<(c.length:Int):=k29_;obtain ⟨ay,u,S⟩:=Row.nth N.out xt;obtain rfl:=Option.some.inj u;obtain ⟨k,T⟩:∃ k:Nat,c.getD y 0=(k:Int):=⟨(c.getD y 0).toNat,k29_⟩;rw [T] at L S;have xr:k<ms.length:=k29_;have g1:=S wr hb;have g2:=Hkr.out.cell 1;have xi:=hid (HL.out.up hb);have x2:=hid (N.out.up hb);have xh:=hid (HE.out.up hb);have HOc:=hid xc;obtain ⟨z,Y⟩:∃ z,c.getD x 0=z:=⟨_,rfl⟩;have x5:Hid (J6_ ms c (x:Int) (y:Int)=(!((k:Int)==z) && indT (ms.getD k default) (X2_ (Z7_ (Z2_ c (k:Int)) [(y:Int)]) [(x:Int)]))):=hid (by
    unfold J6_;rw [Int.toNat_natCast,Int.toNat_natCast,T,Y,Zj1,decide_eq_true (show (0:Int)≤(k:Int) by omega),Bool.true_and])
   have xb:(Z7_ (Z2_ c (k:Int)) [(y:Int)]).length≤1000:=by have J:=V6_ (V3_ x9 (k:Int));have h2:=T1_ (Z2_ c (k:Int)) [(y:Int)];omega
   have xa:(Z2_ c (k:Int)).length≤1048576:=by have J:=V6_ (V3_ x9 (k:Int));omega
   have xl:=hid xb;have x4:=hid xa;rw [Y] at HOc;have HK:Hid (∀ W,Below wr.drew.heap.size wr.drew W→W.cell? ⟨w.heap.size,0,none⟩=some (.slice p ms.length r)∧W.cell? ⟨w.heap.size,1,none⟩=some (.slice (some I) c.length q)∧W.cell? (I.add x)=some (.int .i64 z)):=hid fun W hW=>q12_;generalize (s.take j).filter (fun y=>J6_ ms c (x:Int) y)=Z at *
   have d:Hid (Below wr.drew.heap.size wr.drew wr.drew):=hid (Below.refl _ _);have xo:=hid xr;clear hb xc xd S Y xb xa hy T L u;by_cases K:(k:Int)=z
   ·have xs:((k:Int) != z)=false:=by rw [K];simp
    have V:((k:Int)==z)=true:=by rw [K];simp
    have hrf:Hid (J6_ ms c (x:Int) (y:Int)=false):=hid (by rw [x5.out,V];rfl);go_wp2;refine Z5_ wr.heap.size wr q30_ q30_ (Below.refl _ _) ?_
    iterate 20 (first
     | go_big_quiet_skip
     | (go_big_quiet_want;apply Exists.intro;refine ⟨fun W hW=>?_,?_⟩;(· have h:=Hkr.out.below hW Hkr.out.lt;have q0:=h.cell 0;have q1:=h.cell 1;have q2:=HOc.out W (Z0_ Hb.out (le_refl _) hW);go_simp;first | exact rfl | exact ⟨rfl,rfl⟩);go_simp;go_big_quiet_on))
    refine wpQuiet_nil ?_;intro w5 Q;have Hb5:=hid (Z0_ Hb.out (le_refl _) Q);have Ho5:=hid (H2_ Hown.out Q);clear Q O g1 g2;exact j9_
   ·have xs:((k:Int) != z)=true:=by simpa using K
    have V:((k:Int)==z)=false:=by simpa using K
    obtain ⟨b,R⟩:∃ b,indT (ms.getD k default) (X2_ (Z7_ (Z2_ c (k:Int)) [(y:Int)]) [(x:Int)])=b:=⟨_,rfl⟩;have HY:=hid R;have hrf:Hid (J6_ ms c (x:Int) (y:Int)=b):=hid (by rw [x5.out,V,R];rfl);have x8:c.length≤1048576:=k29_;have C:Hid (∀ W,Below wr.drew.heap.size wr.drew W→Below wr.heap.size wr W):=hid fun W hW=>Z0_ (Below.refl _ wr).drew (le_refl _) hW;clear R;go_wp2
    go_region_held3 (fun W=>W.cell? ⟨w.heap.size,0,none⟩=some (.slice p ms.length r)∧W.cell? ⟨w.heap.size,1,none⟩=some (.slice (some I) c.length q)∧W.cell? (I.add x)=some (.int .i64 z))
     (first | exact HK.out _ d.out | exact HK.out _ (d.out.alloc d.out.size _))
     (first
     | (go_at_call 18;refine (Q1_ _ c (k:Int) wr.drew (x2.out.up (C.out _ d.out)) x8).mono ?_;rintro e w3 ⟨v3,rfl,F,B,_⟩;replace d:=hid (Z0_ d.out (le_refl _) B);have M:=hid F;clear F B)
     | (go_at_call 18;refine (Q1_ _ c (k:Int) (wr.drew.alloc (.cells #[.int .i64 (y:Int)] 3)) (x2.out.up (C.out _ (d.out.alloc (le_refl _) _))) x8).mono ?_;rintro e w3 ⟨v3,rfl,F,B,_⟩;have xj:=hid ((Row.here (Row.lit1 wr.drew (y:Int))).up B);replace d:=hid (Z0_ (d.out.alloc (le_refl _) _) (le_refl _) B);have M:=hid F;clear F B)
     | (go_at_call 64;refine (I4_ _ _ (Z2_ c (k:Int)) [(y:Int)] _ M.out xj.out x4.out y30_).mono ?_;rintro e w4 ⟨v4,rfl,G,D⟩;replace d:=hid (Z0_ d.out (le_refl _) D);have x1:=hid G;clear G D)
     | (go_at_call 64;refine (I4_ _ _ (Z2_ c (k:Int)) [(y:Int)] _ (M.out.upA _) (Row.here (Row.lit1 _ (y:Int))) x4.out y30_).mono ?_;rintro e w4 ⟨v4,rfl,G,D⟩;replace d:=hid (Z0_ (d.out.alloc d.out.size _) (le_refl _) D);have x1:=hid G;clear G D)
     | (go_at_call 91;refine (Zc0 E ms _ _ _ (Z7_ (Z2_ c (k:Int)) [(y:Int)]) k (x:Int) _ (xi.out.up (C.out _ d.out)) xo.out Hs.out x1.out xl.out (xh.out.up (C.out _ d.out))).mono ?_;rintro e w5 ⟨rfl,x6⟩;rw [HY.out];replace d:=hid (Z0_ d.out (le_refl _) x6);clear x6))
    all_goals
     have x0:=hid (C.out _ d.out);have Hb5:=hid (Z0_ Hb.out (le_refl _) x0.out);have Ho5:=hid (H2_ Hown.out x0.out);clear O g1 g2;cases b
     ·exact j9_
     ·go_wp2_with (at_builtin;refine Z8_ rfl _ _ rfl o.heap.size _ _ _ Z [(y:Int)] rfl rfl (Ho5.out.alloc _) (Row.lit1 _ _) (by have:=xm.out;omega) y30_ y36_ ?_)
      intro v' y0 J h2;have xg:=hid ((Hb5.out.alloc Hb5.out.size _).grown h2 y36_ (fun i hi=>(Ho5.out.lt i hi).1));have xp:=hid J;clear J h2;go_wp2
      go_roundw
      case rel=>exact ⟨j+1,y31_,k29_,by rw [Hn.out,if_pos hrf.out,List.length_append];exact xp.out,xg.out⟩
      exact mz_
  ·have xq:j=s.length:=by omega
   subst xq;rw [List.take_length] at Hown;exact z10_
open Go Go.RowKit
theorem Xn9 {w:World} {base g c n:Nat} {zs:List Int} (h:w.ownsRow base 3 1 (.slice (some ⟨g,0,none⟩) n c) n (ints zs)) (i:Nat) (z:Int):(w.setCell ⟨g,i,none⟩ (.int .i64 z)).ownsRow base 3 1 (.slice (some ⟨g,0,none⟩) n c) n (ints (zs.set i z)):=by
 have:=(h.stored i (.int .i64 z)).1
 rwa [show (ints zs).set i (.int .i64 z)=ints (zs.set i z) by unfold ints;rw [List.map_set]] at this
theorem Zh3 {l:List Int} {i:Nat} (h:i<l.length):(ints l)[i]?=some (.int .i64 (l.getD i 0)):=by
 unfold ints;simp [List.getD,h]
theorem Xa6 (u:Option Addr) (D m g d B:Nat) (c l:List Int) (V:Value) (w:World) (xi:B≤g) (Q:w.ownsRow B 3 1 (.slice (some ⟨g,0,none⟩) c.length d) c.length (ints c)) (hr:Row w w.heap.size V l) (hf:∀ k,V.ownBlock=some k→k≠g) (xn:2≤l.length) (hl:l.length≤100) (xq:c.length≤64)
  (hd:∀ i k,i<k→k<l.length→(l.getD i 0).toNat≠(l.getD k 0).toNat) (x5:∀ i,i+1<l.length→0≤l.getD i 0∧l.getD i 0<(c.length:Int)) (x8:∀ i,i<l.length→0≤l.getD i 0∧l.getD i 0≤100) :
  Calls Tryz.prog 36 #[.agg #[.slice u m D,.slice (some ⟨g,0,none⟩) c.length d],V] w fun e w'=>e=.returned (.tuple #[])∧w'.ownsRow B 3 1 (.slice (some ⟨g,0,none⟩) c.length d) c.length (ints (V5_ c l c))∧Below B w w'∧∀ k,k<w.heap.size→k≠g→w'.heap[k]?=w.heap[k]?:=by
 obtain ⟨r,hW0⟩:∃ r,r=w.alloc (.cells #[.slice u m D,.slice (some ⟨g,0,none⟩) c.length d] 47):=⟨_,rfl⟩;have xc:=hid hW0;have xu:g<w.heap.size:=(Q.lt g rfl).2;have xj:B≤w.heap.size:=k29_;have G:Below w.heap.size w r:=q32_;have xd:Hid (Below B w r):=hid (by rw [hW0];exact (Below.refl B w).alloc xj _);have xf:Hid (Blk r w.heap.size 47 #[.slice u m D,.slice (some ⟨g,0,none⟩) c.length d]):=hid z33_;have HO:=hid (H2_ Q G);obtain ⟨A,cw,rfl,x3,J⟩:=hr;obtain ⟨C,hA,_,_⟩:=J 0 k29_;subst hA;obtain ⟨n,P⟩:∃ n,l.length=n+1:=⟨l.length - 1,k29_⟩;have HN:=hid P;have S:C.block≠g:=hf C.block rfl;have H:Hid (∀ j,j<n+1→C.block<w.heap.size∧w.cell? (C.add j)=some (.int .i64 (l.getD j 0))):=hid fun j s=>by
  obtain ⟨ad,h1,h2,h3⟩:=J j k29_;cases h1;exact ⟨h2,h3⟩
 have xs:¬ cw=1:=k29_;have xt:(1:Int)≤(cw:Int):=k29_;have xx:1≤n:=k29_;have Hd:=hid hd;have x0:=hid x5;have xg:=hid x8;have xp:=hid x3;obtain ⟨b,o,xo⟩:=C;obtain rfl:xo=none:=by simpa [Addr.add] using World.cell?_spot (H.out 0 k29_).2
 have x2:b<w.heap.size:=(H.out 0 k29_).1;have S:b≠g:=S;have HW:Hid (∀ j:Nat,j<n+1→r.cell? ⟨b,o+j,none⟩=some (.int .i64 (l.getD j 0))):=hid fun j s=>by
  have h:=(H.out j s).2;rw [show (⟨b,o,none⟩:Addr).add j=⟨b,o+j,none⟩ by simp [Addr.add]] at h;exact (G.cell (p:=⟨b,o+j,none⟩) x2).trans h
 have xl:w.heap.size≠g:=k29_;have xy:(n:Int)≤100:=k29_;rw [P];have xb:Hid (∀ q,q<w.heap.size→q≠g→r.heap[q]?=w.heap[q]?):=hid fun q R _=>G.block q R;clear hW0 G Q hf hd x5 x8 J x3 P H;have xr:(c.length:Int)≤64:=k29_
 go_enter Tryz.func36,Tryz.ntmps36
 go_wp2;rw [← xc.out]
 go_loopw [4,5,9] (fun _ _ W wr=>∃ k:Nat,W=.int .i64 k∧k≤n∧wr.ownsRow B 3 1 (.slice (some ⟨g,0,none⟩) c.length d) c.length (ints (stepU c l k))∧Blk wr w.heap.size 47 #[.slice u m D,.slice (some ⟨g,0,none⟩) c.length d]∧(∀ j:Nat,j<n+1→wr.cell? ⟨b,o+j,none⟩=some (.int .i64 (l.getD j 0)))∧Below B w wr∧∀ q,q<w.heap.size→q≠g→wr.heap[q]?=w.heap[q]?) (fun _ _ W _=>n - (intOf W).toNat)
 case atStart =>
  refine ⟨0,rfl,Nat.zero_le _,?_,xf.out,HW.out,xd.out,xb.out⟩;obtain ⟨x,L,rfl⟩:∃ x L,l=x :: L:=by
   cases l with
   | nil=>simp at xn
   | cons x L=>exact ⟨x,L,rfl⟩
  rw [Yn1];exact HO.out
 case round =>
  obtain ⟨k,rfl,J,x9,x1,x4,hb,x6⟩:=hrel;have X:=hid x6;clear x6;have E:=hid x9;have N:=hid x1;have O:=hid x4;have M:=hid hb;clear x9 x1 x4 hb;by_cases xv:k<n
  ·have xw:(k:Int)<(n:Int):=by omega
   have g1:=O.out (k+1) k29_;have g0:=O.out k k29_;rw [show o+(k+1)=o+1+k by omega] at g1;have kA:=N.out.cell 1;obtain ⟨h1,h2⟩:=x0.out k j37_;obtain ⟨h3,h4⟩:=xg.out (k+1) j37_;obtain ⟨x,hx⟩:∃ x:Nat,l.getD k 0=(x:Int):=⟨(l.getD k 0).toNat,k29_⟩;obtain ⟨y,hy⟩:∃ y:Nat,l.getD (k+1) 0=(y:Int):=⟨(l.getD (k+1) 0).toNat,k29_⟩;have y0:x<c.length:=k29_;have xz:(x:Int)<(c.length:Int):=k29_;have nx:Hid (stepU c l (k+1)=(stepU c l k).set x (nextU c (y:Int))):=hid (by
    rw [Yn2 c l j37_,hx,hy];rfl)
   have sl:=Xa5 c l k;have at_:y<c.length→(stepU c l k).getD y 0=c.getD y 0:=fun _=>by
    have:=Xn8 (c:=c) (l:=l) (j:=k) j37_ Hd.out (fun i hi=>by have:=x0.out i hi;omega);rw [hy] at this;exact this
   rw [hx] at g0;rw [hy] at g1;have y1:(y:Int)≤100:=k29_;have I:Below wr.heap.size wr wr.drew:=(Below.refl _ wr).drew;have F:=hid (H2_ E.out I);have Y:=hid (N.out.below I N.out.lt);have Z:Hid (∀ j:Nat,j<n+1→wr.drew.cell? ⟨b,o+j,none⟩=some (.int .i64 (l.getD j 0))):=hid fun j s=>(I.cell (p:=⟨b,o+j,none⟩) (Nat.lt_of_lt_of_le x2 M.out.size)).trans (O.out j s);have xe:=hid M.out.drew;have xh:=Z.out k k29_;rw [hx] at xh;have y2:=Y.out.cell 1;have fG:=F.out.frozenAt x;clear I;have HPut:Hid (∀ z:Int,nextU c (y:Int)=z→(wr.drew.setCell ⟨g,x,none⟩ (.int .i64 z)).ownsRow B 3 1 (.slice (some ⟨g,0,none⟩) c.length d) c.length (ints (stepU c l (k+1)))∧Blk (wr.drew.setCell ⟨g,x,none⟩ (.int .i64 z)) w.heap.size 47 #[.slice u m D,.slice (some ⟨g,0,none⟩) c.length d]∧(∀ j:Nat,j<n+1→(wr.drew.setCell ⟨g,x,none⟩ (.int .i64 z)).cell? ⟨b,o+j,none⟩=some (.int .i64 (l.getD j 0)))∧Below B w (wr.drew.setCell ⟨g,x,none⟩ (.int .i64 z))∧∀ q,q<w.heap.size→q≠g→(wr.drew.setCell ⟨g,x,none⟩ (.int .i64 z)).heap[q]?=w.heap[q]?):=hid fun z K=>by
    refine ⟨?_,Y.out.far (p:=⟨g,x,none⟩) xl _,fun j s=>?_,?_,fun q R x7=>?_⟩
    ·rw [nx.out,K]
     exact Xn9 F.out x z
    ·rw [World.cell?_of_block (w:=wr.drew) (Below.heap_setCell _ _ _ _ S)]
     exact Z.out j s
    ·exact xe.out.setCell (p:=⟨g,x,none⟩) xi _
    ·rw [Below.heap_setCell _ _ _ _ x7]
     exact X.out q R x7
   have eX:=Zh3 (l:=stepU c l k) (i:=x) k29_;have qx:=(F.out.cellAt x k29_).trans eX;have qY:=fun T:y<c.length=>((E.out.cellAt y k29_).trans (Zh3 (l:=stepU c l k) (i:=y) k29_)).trans (by rw [at_ T]);have qYd:=fun T:y<c.length=>((F.out.cellAt y k29_).trans (Zh3 (l:=stepU c l k) (i:=y) k29_)).trans (by rw [at_ T]);by_cases xa:y<c.length
   ·have U:(y:Int)<(c.length:Int):=by omega
    have qy:=qY xa;have y3:=qYd xa;have K:nextU c (y:Int)=c.getD y 0:=by unfold nextU;rw [if_pos U];rfl
    generalize c.getD y 0=z at *
    have Hz:=hid K;clear K;exact x6_
   ·have U:¬ (y:Int)<(c.length:Int):=by omega
    have Hz:Hid (nextU c (y:Int)=(y:Int) - (c.length:Int)):=hid (by unfold nextU;rw [if_neg U]);have w1:IntKind.i64.wrap ((y:Int) - (c.length:Int))=(y:Int) - (c.length:Int):=z30_;exact x6_
  ·have xm:k=n:=by omega
   subst xm;have xk:Hid (stepU c l k=V5_ c l c):=hid (by
    have:=Xa4 c l j37_
    rwa [HN.out,Nat.add_sub_cancel] at this)
   rw [xk.out] at E;go_wp2;refine bodyPost_end (v:=.tuple #[]) (by simp [results,Tryz.results36,go_sem]) rfl ?_;exact ⟨rfl,E.out,M.out,X.out⟩
end Go.Proofs.YtheeajnkiniopaaGreatDoor.Wp
