/- SwapStuck, walked: it answers true (written by gen_vstuck.py). -/
import Derived.Test.YteiejkhdonmcdaaGreatDoorVFix
import Derived.Test.YteiejkhdonmcdaaGreatDoorZH
import Derived.Test.YteiejkhdonmcdaaGreatDoorZR
import Derived.Test.YteiejkhdonmcdaaGreatDoorZS
import Derived.Deep.RegionHeld3
import Derived.Test.YteiejkhdonmcdaaGreatDoorX0A
import Derived.Test.YteiejkhdonmcdaaGreatDoorX0B
set_option maxHeartbeats 16000000
set_option maxRecDepth 100000
open Go.Lib (hid)
open Nat (le_refl)
namespace Go.Proofs.YteiejkhdonmcdaaGreatDoor
open Go Go.RowKit
namespace Wp
theorem wk_1 (E:Nat→Addr) (a:Mat) (B:Value) (b:Mat) (C:Value) (z:Value) (s:List Int) (w:World) (q:MatV w w.heap.size B a) (x:Lim a) (r:MatV w w.heap.size C b) (y:Lim b) (p:Row w w.heap.size z s) (u:Env E w) (v:fewB 9 a 8=false):Calls Tryz.prog 5 #[B,C,z] w (Truly w):=by
 have Hfa:=hid v;clear v;have Hla:=hid x;have N:=hid y;obtain ⟨R,P,K,H,F⟩:=q.open;obtain ⟨S,Q,L,I,G⟩:=r.open;obtain ⟨g,cl,rfl,_⟩:=H;obtain ⟨d,k,rfl,_⟩:=F;obtain ⟨j,o,rfl,_⟩:=I;obtain ⟨h,m,rfl,_⟩:=G;obtain ⟨M,O,J,D,_⟩:=id p;subst K L J;obtain ⟨c,hW2⟩:∃ c,c=(w.alloc (.cells #[.int .i64 a.t,.int .i64 a.n,.int .i64 a.a,.int .i64 a.b,.slice g a.l.length cl,.slice d a.i.length k] 25)).alloc (.cells #[.int .i64 b.t,.int .i64 b.n,.int .i64 b.a,.int .i64 b.b,.slice j b.l.length o,.slice h b.i.length m] 25):=⟨_,rfl⟩;have HW2:=hid hW2;have hb2:Below w.heap.size w c:=by rw [hW2];exact ((Below.refl _ w).alloc (le_refl _) _).alloc j39_ _
 have Hka:Hid (Blk c w.heap.size 25 #[.int .i64 a.t,.int .i64 a.n,.int .i64 a.a,.int .i64 a.b,.slice g a.l.length cl,.slice d a.i.length k]):=hid y41_;have Hkb:Hid (Blk c (w.heap.size+1) 25 #[.int .i64 b.t,.int .i64 b.n,.int .i64 b.a,.int .i64 b.b,.slice j b.l.length o,.slice h b.i.length m]):=hid (by
  rw [hW2];have:=Blk.new (w.alloc (.cells #[.int .i64 a.t,.int .i64 a.n,.int .i64 a.a,.int .i64 a.b,.slice g a.l.length cl,.slice d a.i.length k] 25)) 25 #[.int .i64 b.t,.int .i64 b.n,.int .i64 b.a,.int .i64 b.b,.slice j b.l.length o,.slice h b.i.length m];simpa using this)
 have Hb0:=hid hb2;have HVa:=hid (q.up hb2);have HVb:=hid (r.up hb2);have HW:=hid (p.up hb2);have HE:=hid (u.up hb2);clear q r x y u p D hW2 hb2
 go_enter Tryz.func5,Tryz.ntmps5
 exact y1_
theorem wk_2 (E:Nat→Addr) (a:Mat) (C:Value) (b:Mat) (D:Value) (B:Value) (s:List Int) (w:World) (q:MatV w w.heap.size C a) (y:Lim a) (r:MatV w w.heap.size D b) (z:Lim b) (p:Row w w.heap.size B s) (u:Env E w) (v:fewB 9 a 8=true) (x:fewB 9 b 8=false):Calls Tryz.prog 5 #[C,D,B] w (Truly w):=by
 have Hfa:=hid v;have Hfb:=hid x;clear v x;have Hla:=hid y;have Hlb:=hid z;obtain ⟨R,P,L,I,G⟩:=q.open;obtain ⟨S,Q,M,J,H⟩:=r.open;obtain ⟨g,cl,rfl,_⟩:=I;obtain ⟨d,k,rfl,_⟩:=G;obtain ⟨j,o,rfl,_⟩:=J;obtain ⟨h,m,rfl,_⟩:=H;obtain ⟨N,O,K,F,_⟩:=id p;subst L M K;obtain ⟨c,hW2⟩:∃ c,c=(w.alloc (.cells #[.int .i64 a.t,.int .i64 a.n,.int .i64 a.a,.int .i64 a.b,.slice g a.l.length cl,.slice d a.i.length k] 25)).alloc (.cells #[.int .i64 b.t,.int .i64 b.n,.int .i64 b.a,.int .i64 b.b,.slice j b.l.length o,.slice h b.i.length m] 25):=⟨_,rfl⟩;have HW2:=hid hW2;have hb2:Below w.heap.size w c:=by rw [hW2];exact ((Below.refl _ w).alloc (le_refl _) _).alloc j39_ _
 have Hka:Hid (Blk c w.heap.size 25 #[.int .i64 a.t,.int .i64 a.n,.int .i64 a.a,.int .i64 a.b,.slice g a.l.length cl,.slice d a.i.length k]):=hid y41_;have Hkb:Hid (Blk c (w.heap.size+1) 25 #[.int .i64 b.t,.int .i64 b.n,.int .i64 b.a,.int .i64 b.b,.slice j b.l.length o,.slice h b.i.length m]):=hid (by
  rw [hW2];have:=Blk.new (w.alloc (.cells #[.int .i64 a.t,.int .i64 a.n,.int .i64 a.a,.int .i64 a.b,.slice g a.l.length cl,.slice d a.i.length k] 25)) 25 #[.int .i64 b.t,.int .i64 b.n,.int .i64 b.a,.int .i64 b.b,.slice j b.l.length o,.slice h b.i.length m];simpa using this)
 have Hb0:=hid hb2;have HVa:=hid (q.up hb2);have HVb:=hid (r.up hb2);have HW:=hid (p.up hb2);have HE:=hid (u.up hb2);clear q r y z u p F hW2 hb2
 go_enter Tryz.func5,Tryz.ntmps5
 exact j0_
theorem wk_3 (E:Nat→Addr) (a:Mat) (D:Value) (b:Mat) (F:Value) (C:Value) (s:List Int) (w:World) (q:MatV w w.heap.size D a) (y:Lim a) (r:MatV w w.heap.size F b) (z:Lim b) (p:Row w w.heap.size C s) (u:Env E w) (v:fewB 9 a 8=true) (x:fewB 9 b 8=true) (B:mayS a b s=false):Calls Tryz.prog 5 #[D,F,C] w (Truly w):=by
 have Hfa:=hid v;have Hfb:=hid x;have Hm:=hid B;clear v x B;have Hla:=hid y;have Hlb:=hid z;obtain ⟨S,Q,M,J,H⟩:=q.open;obtain ⟨T,R,N,K,I⟩:=r.open;obtain ⟨g,cl,rfl,_⟩:=J;obtain ⟨d,k,rfl,_⟩:=H;obtain ⟨j,o,rfl,_⟩:=K;obtain ⟨h,m,rfl,_⟩:=I;obtain ⟨O,P,L,G,_⟩:=id p;subst M N L;obtain ⟨c,hW2⟩:∃ c,c=(w.alloc (.cells #[.int .i64 a.t,.int .i64 a.n,.int .i64 a.a,.int .i64 a.b,.slice g a.l.length cl,.slice d a.i.length k] 25)).alloc (.cells #[.int .i64 b.t,.int .i64 b.n,.int .i64 b.a,.int .i64 b.b,.slice j b.l.length o,.slice h b.i.length m] 25):=⟨_,rfl⟩;have HW2:=hid hW2;have hb2:Below w.heap.size w c:=by rw [hW2];exact ((Below.refl _ w).alloc (le_refl _) _).alloc j39_ _
 have Hka:Hid (Blk c w.heap.size 25 #[.int .i64 a.t,.int .i64 a.n,.int .i64 a.a,.int .i64 a.b,.slice g a.l.length cl,.slice d a.i.length k]):=hid y41_;have Hkb:Hid (Blk c (w.heap.size+1) 25 #[.int .i64 b.t,.int .i64 b.n,.int .i64 b.a,.int .i64 b.b,.slice j b.l.length o,.slice h b.i.length m]):=hid (by
  rw [hW2];have:=Blk.new (w.alloc (.cells #[.int .i64 a.t,.int .i64 a.n,.int .i64 a.a,.int .i64 a.b,.slice g a.l.length cl,.slice d a.i.length k] 25)) 25 #[.int .i64 b.t,.int .i64 b.n,.int .i64 b.a,.int .i64 b.b,.slice j b.l.length o,.slice h b.i.length m];simpa using this)
 have Hb0:=hid hb2;have HVa:=hid (q.up hb2);have HVb:=hid (r.up hb2);have HW:=hid (p.up hb2);have HE:=hid (u.up hb2);clear q r y z u p G hW2 hb2
 go_enter Tryz.func5,Tryz.ntmps5
 exact x1_
theorem Vk4 (E:Nat→Addr) (a:Mat) (va:Value) (b:Mat) (vb:Value) (sw:Value) (s:List Int) (w:World) (x8:MatV w w.heap.size va a) (xj:Lim a) (x9:MatV w w.heap.size vb b) (xk:Lim b) (x7:Row w w.heap.size sw s) (hE:Env E w) (x4:fewB 9 a 8=true) (x5:fewB 9 b 8=true) (hC:Common a b s):Calls Tryz.prog 5 #[va,vb,sw] w (Truly w):=by
 have hn64:=hC.n64;have hS:=hC.set;have yd:=Y4_ hS;have xi:=(mayI_iff.1 (J5_ hC.ia)).1;have hnn:(nN a:Int)=a.n:=(Z7_ xi).1;have hd:=Zr8 (b:=b) (s:=s) hn64;have x0:PtsP (adjG a b s).length (addG a s):=by rw [A6_];exact A9_ hn64
 have x2:PtsP (adjG a b s).length (addG b s):=q24_;have U:=Yw5 hC;have x1:=G0_ (G1_ hd x0 (adjG a b s).length);rw [A6_] at x1;have yb:=E4_ a.n;have xe:=G0_ x2;rw [A6_] at xe;obtain ⟨L,hL⟩:∃ L,adjG a b s=L:=⟨_,rfl⟩;obtain ⟨FA,hFA⟩:∃ F,addG a s=F:=⟨_,rfl⟩;obtain ⟨FB,hFB⟩:∃ F,addG b s=F:=⟨_,rfl⟩;have hLl:L.length=nN a:=z49_;have y9:((L.length:Int) != a.n)=false:=z48_;rw [hL] at hd x0 x2 U x1;rw [hFA] at x0 U x1;rw [hFB] at x2 U xe;rw [hLl] at U;obtain ⟨S,x3⟩:∃ S,itL L FA (nN a)=S:=⟨_,rfl⟩;obtain ⟨M,hM⟩:∃ M,meetL S FB=M:=⟨_,rfl⟩;obtain ⟨O,hO⟩:∃ O,Z5_ (allL a.n) S=O:=⟨_,rfl⟩;obtain ⟨x,hx⟩:∃ x,rankT a O=x:=⟨_,rfl⟩;obtain ⟨y,hy⟩:∃ y,rankT b S=y:=⟨_,rfl⟩;rw [x3] at U x1;rw [hM,hO,hx,hy] at U;have xr:Hid (∀ (v vf:Value) (W:World),Rows2 W W.heap.size v L→Row W W.heap.size vf FA→Calls Tryz.prog 27 #[v,vf] W (Gives W S)):=hid fun v vf W h1 h2=>by
  have h:=Xz2 v vf L FA hd x0 W h1 h2;rw [hLl,x3] at h;exact h
 have xx:Hid (digB L=true):=hid (Za1 hd);have xd:=hid U;have HM:=hid hM;have HO:=hid hO;have Hsa:=hid (V0_ x4);have Hsb:=hid (V0_ x5);have HG:Hid (∀ (va vb sv:Value) (W:World),MatV W W.heap.size va a→MatV W W.heap.size vb b→Row W W.heap.size sv s→Env E W→Calls Tryz.prog 16 #[va,vb,sv] W (D5_ W L FA FB 0)):=hid fun va vb sv W h1 h2 h3 h4=>z25_;have Hm:Hid (mayS a b s=true):=hid (mayS_iff.2 hC);have xu:Hid (∀ (v sv:Value) (W:World),MatV W W.heap.size v a→Row W W.heap.size sv O→Calls Tryz.prog 31 #[v,sv] W (Tells W x)):=hid fun v sv W h1 h2=>by rw [← hx];exact W5_ a v sv O W h1 Hsa.out h2
 have xv:Hid (∀ (v sv:Value) (W:World),MatV W W.heap.size v b→Row W W.heap.size sv S→Calls Tryz.prog 31 #[v,sv] W (Tells W y)):=hid fun v sv W h1 h2=>by rw [← hy];exact W5_ b v sv S W h1 Hsb.out h2
 have xb:=hid x4;have xc:=hid x5;have yc:(s.length:Int)≤64:=q39_;clear x4 x5 hC hS xi hnn hd x0 x2 hL hFA hFB hLl U x3 hM hO hx hy;have xy:=hid xj;have xz:=hid xk;obtain ⟨l1,i1,y7,y4,y2⟩:=x8.open;obtain ⟨l2,i2,y8,y5,y3⟩:=x9.open;obtain ⟨X,cl,rfl,_⟩:=y4;obtain ⟨V,ci,rfl,_⟩:=y2;obtain ⟨Z,dl,rfl,_⟩:=y5;obtain ⟨Y,di,rfl,_⟩:=y3;obtain ⟨Aw,cw,y6,y1,_⟩:=id x7;subst y7 y8 y6;obtain ⟨W2,hW2⟩:∃ W2,W2=(w.alloc (.cells #[.int .i64 a.t,.int .i64 a.n,.int .i64 a.a,.int .i64 a.b,.slice X a.l.length cl,.slice V a.i.length ci] 25)).alloc (.cells #[.int .i64 b.t,.int .i64 b.n,.int .i64 b.a,.int .i64 b.b,.slice Z b.l.length dl,.slice Y b.i.length di] 25):=⟨_,rfl⟩;have xa:=hid hW2;have k:Below w.heap.size w W2:=by rw [hW2];exact ((Below.refl _ w).alloc (le_refl _) _).alloc j39_ _
 have Hka:Hid (Blk W2 w.heap.size 25 #[.int .i64 a.t,.int .i64 a.n,.int .i64 a.a,.int .i64 a.b,.slice X a.l.length cl,.slice V a.i.length ci]):=hid y41_;have Hkb:Hid (Blk W2 (w.heap.size+1) 25 #[.int .i64 b.t,.int .i64 b.n,.int .i64 b.a,.int .i64 b.b,.slice Z b.l.length dl,.slice Y b.i.length di]):=hid (by
  rw [hW2];have:=Blk.new (w.alloc (.cells #[.int .i64 a.t,.int .i64 a.n,.int .i64 a.a,.int .i64 a.b,.slice X a.l.length cl,.slice V a.i.length ci] 25)) 25 #[.int .i64 b.t,.int .i64 b.n,.int .i64 b.a,.int .i64 b.b,.slice Z b.l.length dl,.slice Y b.i.length di];simpa using this)
 have Hb0:=hid k;have c:=hid (x8.up k);have d:=hid (x9.up k);have j:=hid (x7.up k);have g:=hid (hE.up k);clear x8 x9 xj xk hE x7 y1 hW2 k
 go_enter Tryz.func5,Tryz.ntmps5
 go_wp2_with fail
 rw [← xa.out];refine (Y0_ E _ g.out).mono ?_;rintro e w1 ⟨rfl,P⟩;clear xa;replace g:=hid (g.out.up P);replace c:=hid (c.out.up P);replace d:=hid (d.out.up P);replace j:=hid (j.out.up P);replace Hka:=hid (Hka.out.below P Hka.out.lt);replace Hkb:=hid (Hkb.out.below P Hkb.out.lt);replace Hb0:=hid (Z0_ Hb0.out (le_refl _) P);clear P;have G:=Hka.out.cell 0;have H:=Hka.out.cell 1;have I:=Hka.out.cell 2;have J:=Hka.out.cell 3;have K:=Hka.out.cell 4;have N:=Hka.out.cell 5
 go_wp2_with fail
 refine (X6_ a _ 8 _ c.out xy.out).mono ?_;rintro e w2 ⟨rfl,k⟩;rw [xb.out];clear G H I J K N;replace g:=hid (g.out.up k);replace c:=hid (c.out.up k);replace d:=hid (d.out.up k);replace j:=hid (j.out.up k);replace Hka:=hid (Hka.out.below k Hka.out.lt);replace Hkb:=hid (Hkb.out.below k Hkb.out.lt);replace Hb0:=hid (Z0_ Hb0.out (le_refl _) k);clear k;have n0:=Hkb.out.cell 0;have n1:=Hkb.out.cell 1;have n2:=Hkb.out.cell 2;have n3:=Hkb.out.cell 3;have n4:=Hkb.out.cell 4;have n5:=Hkb.out.cell 5
 go_wp2_with fail
 refine (X6_ b _ 8 _ d.out xz.out).mono ?_;rintro e w3 ⟨rfl,Q⟩;rw [xc.out];clear n0 n1 n2 n3 n4 n5;replace g:=hid (g.out.up Q);replace c:=hid (c.out.up Q);replace d:=hid (d.out.up Q);replace j:=hid (j.out.up Q);replace Hka:=hid (Hka.out.below Q Hka.out.lt);replace Hkb:=hid (Hkb.out.below Q Hkb.out.lt);replace Hb0:=hid (Z0_ Hb0.out (le_refl _) Q);clear Q;have G:=Hka.out.cell 0;have H:=Hka.out.cell 1;have I:=Hka.out.cell 2;have J:=Hka.out.cell 3;have K:=Hka.out.cell 4;have N:=Hka.out.cell 5;have n0:=Hkb.out.cell 0;have n1:=Hkb.out.cell 1;have n2:=Hkb.out.cell 2;have n3:=Hkb.out.cell 3;have n4:=Hkb.out.cell 4;have n5:=Hkb.out.cell 5
 go_wp2_with fail
 refine (C5_ a b _ _ _ s _ c.out d.out (V0_ xb.out) (V0_ xc.out) j.out).mono ?_;rintro e w4 ⟨rfl,R⟩;rw [Hm.out];clear G H I J K N n0 n1 n2 n3 n4 n5;replace g:=hid (g.out.up R);replace c:=hid (c.out.up R);replace d:=hid (d.out.up R);replace j:=hid (j.out.up R);replace Hka:=hid (Hka.out.below R Hka.out.lt);replace Hkb:=hid (Hkb.out.below R Hkb.out.lt);replace Hb0:=hid (Z0_ Hb0.out (le_refl _) R);clear R;have G:=Hka.out.cell 0;have H:=Hka.out.cell 1;have I:=Hka.out.cell 2;have J:=Hka.out.cell 3;have K:=Hka.out.cell 4;have N:=Hka.out.cell 5;have n0:=Hkb.out.cell 0;have n1:=Hkb.out.cell 1;have n2:=Hkb.out.cell 2;have n3:=Hkb.out.cell 3;have n4:=Hkb.out.cell 4;have n5:=Hkb.out.cell 5
 go_wp2_with fail
 refine (HG.out _ _ _ _ c.out d.out j.out g.out).mono ?_;rintro e w5 ⟨vj,vf,vt,rfl,xg,hf,ht,T⟩;clear G H I J K N n0 n1 n2 n3 n4 n5 HG;replace g:=hid (g.out.up T);replace c:=hid (c.out.up T);replace d:=hid (d.out.up T);replace j:=hid (j.out.up T);replace Hka:=hid (Hka.out.below T Hka.out.lt);replace Hkb:=hid (Hkb.out.below T Hkb.out.lt);replace Hb0:=hid (Z0_ Hb0.out (le_refl _) T);clear T;have HJ:=hid xg;have HF:=hid hf;have HT:=hid ht;obtain ⟨Aj,cj,rfl,_,_⟩:=xg;obtain ⟨Af,cf,rfl,_⟩:=hf;obtain ⟨At,ct,rfl,_⟩:=ht;have G:=Hka.out.cell 0;have H:=Hka.out.cell 1;have I:=Hka.out.cell 2;have J:=Hka.out.cell 3;have K:=Hka.out.cell 4;have N:=Hka.out.cell 5
 go_wp2_with fail
 refine (Zg0 _ L _ HJ.out).mono ?_;rintro e w6 ⟨rfl,p⟩;rw [xx.out];clear G H I J K N;replace g:=hid (g.out.up p);replace c:=hid (c.out.up p);replace d:=hid (d.out.up p);replace j:=hid (j.out.up p);replace HJ:=hid (HJ.out.up p);replace HF:=hid (HF.out.up p);replace HT:=hid (HT.out.up p);replace Hka:=hid (Hka.out.below p Hka.out.lt);replace Hkb:=hid (Hkb.out.below p Hkb.out.lt);replace Hb0:=hid (Z0_ Hb0.out (le_refl _) p);clear p
 go_wp2_with fail
 refine (xr.out _ _ _ HJ.out HF.out).mono ?_;rintro e w7 ⟨vS,rfl,xn,B⟩;have q:=hid xn;obtain ⟨AS,cS,rfl,_⟩:=xn;replace g:=hid (g.out.up B);replace c:=hid (c.out.up B);replace d:=hid (d.out.up B);replace j:=hid (j.out.up B);replace HT:=hid (HT.out.up B);replace Hka:=hid (Hka.out.below B Hka.out.lt);replace Hkb:=hid (Hkb.out.below B Hkb.out.lt);replace Hb0:=hid (Z0_ Hb0.out (le_refl _) B);clear B
 go_wp2_with fail
 refine (Zb0 _ _ S FB _ q.out HT.out q39_ q39_).mono ?_;rintro e w8 ⟨vM,rfl,xm,C⟩;rw [HM.out] at xm;obtain ⟨AM,cM,rfl,_⟩:=xm;replace g:=hid (g.out.up C);replace c:=hid (c.out.up C);replace d:=hid (d.out.up C);replace j:=hid (j.out.up C);replace q:=hid (q.out.up C);replace Hka:=hid (Hka.out.below C Hka.out.lt);replace Hkb:=hid (Hkb.out.below C Hkb.out.lt);replace Hb0:=hid (Z0_ Hb0.out (le_refl _) C);clear C;by_cases xf:0<M.length
 ·have ya:(0:Int)<(M.length:Int):=by omega
  exact k2_
 ·have y0:M=[]:=by
   cases M with
   | nil=>rfl
   | cons z l=>exact absurd j39_ xf
  subst y0;have xo:=(xd.out rfl).2;have ye:IntKind.i64.wrap (x+y)=(s.length:Int):=by rw [xo,IntKind.wrap_i64];omega
  have yf:((s.length:Int)==(s.length:Int))=true:=j39_;clear xf xo xd;have G:=Hka.out.cell 0;have H:=Hka.out.cell 1;have I:=Hka.out.cell 2;have J:=Hka.out.cell 3;have K:=Hka.out.cell 4;have N:=Hka.out.cell 5
  go_wp2_with fail
  refine (K6_ a.n _).mono ?_;rintro e w9 ⟨vA,rfl,xl,D⟩;have xp:=hid xl;clear G H I J K N xl;replace g:=hid (g.out.up D);replace c:=hid (c.out.up D);replace d:=hid (d.out.up D);replace j:=hid (j.out.up D);replace q:=hid (q.out.up D);replace Hka:=hid (Hka.out.below D Hka.out.lt);replace Hkb:=hid (Hkb.out.below D Hkb.out.lt);replace Hb0:=hid (Z0_ Hb0.out (le_refl _) D);clear D
  go_wp2_with fail
  refine (C2_ _ _ (allL a.n) S _ xp.out q.out q39_ q39_).mono ?_;rintro e o ⟨vO,rfl,x6,u⟩;rw [HO.out] at x6;have xt:=hid x6;obtain ⟨AO,cO,rfl,_⟩:=x6;replace g:=hid (g.out.up u);replace c:=hid (c.out.up u);replace d:=hid (d.out.up u);replace j:=hid (j.out.up u);replace q:=hid (q.out.up u);replace Hka:=hid (Hka.out.below u Hka.out.lt);replace Hkb:=hid (Hkb.out.below u Hkb.out.lt);replace Hb0:=hid (Z0_ Hb0.out (le_refl _) u);clear u;have HK:Hid (∀ W,Below o.drew.heap.size o.drew W→Below o.heap.size o W):=hid fun W hW=>Z0_ (Below.refl _ o).drew (le_refl _) hW;have xs:Hid (∀ W,Below o.drew.heap.size o.drew W→W.cell? ⟨w.heap.size,0,none⟩=some (.int .i64 a.t)∧W.cell? ⟨w.heap.size,1,none⟩=some (.int .i64 a.n)∧W.cell? ⟨w.heap.size,2,none⟩=some (.int .i64 a.a)∧W.cell? ⟨w.heap.size,3,none⟩=some (.int .i64 a.b)∧W.cell? ⟨w.heap.size,4,none⟩=some (.slice X a.l.length cl)∧W.cell? ⟨w.heap.size,5,none⟩=some (.slice V a.i.length ci)∧W.cell? ⟨w.heap.size+1,0,none⟩=some (.int .i64 b.t)∧W.cell? ⟨w.heap.size+1,1,none⟩=some (.int .i64 b.n)∧W.cell? ⟨w.heap.size+1,2,none⟩=some (.int .i64 b.a)∧W.cell? ⟨w.heap.size+1,3,none⟩=some (.int .i64 b.b)∧W.cell? ⟨w.heap.size+1,4,none⟩=some (.slice Z b.l.length dl)∧W.cell? ⟨w.heap.size+1,5,none⟩=some (.slice Y b.i.length di)):=hid fun W hW=>q13_;have HB:Hid (Below o.drew.heap.size o.drew o.drew):=hid (Below.refl _ _);have xw:Hid (∀ (v sv:Value) (r:Int) (W:World),(v=.agg #[.int .i64 a.t,.int .i64 a.n,.int .i64 a.a,.int .i64 a.b,.slice X a.l.length cl,.slice V a.i.length ci]∧sv=.slice AO O.length cO∧r=x)∨(v=.agg #[.int .i64 b.t,.int .i64 b.n,.int .i64 b.a,.int .i64 b.b,.slice Z b.l.length dl,.slice Y b.i.length di]∧sv=.slice AS S.length cS∧r=y)→Below o.heap.size o W→Calls Tryz.prog 31 #[v,sv] W (Tells W r)):=hid fun v sv r W h hW=>by
   rcases h with ⟨rfl,rfl,rfl⟩ | ⟨rfl,rfl,rfl⟩
   ·exact xu.out _ _ W (c.out.up hW) (xt.out.up hW)
   ·exact xv.out _ _ W (d.out.up hW) (q.out.up hW)
  go_wp2
  go_region_held3 (fun W=>W.cell? ⟨w.heap.size,0,none⟩=some (.int .i64 a.t)∧W.cell? ⟨w.heap.size,1,none⟩=some (.int .i64 a.n)∧W.cell? ⟨w.heap.size,2,none⟩=some (.int .i64 a.a)∧W.cell? ⟨w.heap.size,3,none⟩=some (.int .i64 a.b)∧W.cell? ⟨w.heap.size,4,none⟩=some (.slice X a.l.length cl)∧W.cell? ⟨w.heap.size,5,none⟩=some (.slice V a.i.length ci)∧W.cell? ⟨w.heap.size+1,0,none⟩=some (.int .i64 b.t)∧W.cell? ⟨w.heap.size+1,1,none⟩=some (.int .i64 b.n)∧W.cell? ⟨w.heap.size+1,2,none⟩=some (.int .i64 b.a)∧W.cell? ⟨w.heap.size+1,3,none⟩=some (.int .i64 b.b)∧W.cell? ⟨w.heap.size+1,4,none⟩=some (.slice Z b.l.length dl)∧W.cell? ⟨w.heap.size+1,5,none⟩=some (.slice Y b.i.length di))
   (exact xs.out _ HB.out)
   ((go_at_call 31;refine (xw.out _ _ _ _ (by first | exact .inl ⟨rfl,rfl,rfl⟩ | exact .inr ⟨rfl,rfl,rfl⟩) (HK.out _ HB.out)).mono ?_;rintro e yg ⟨rfl,xh⟩;replace HB:=hid (Z0_ HB.out (le_refl _) xh);clear xh))
  all_goals
   go_simp;have xq:=hid (Z0_ Hb0.out (le_refl _) (HK.out _ HB.out));go_wp2;go_ret;exact ⟨rfl,xq.out⟩
theorem Zs8 (E:Nat→Addr) (a:Mat) (d:Value) (b:Mat) (e:Value) (c:Value) (s:List Int) (w:World) (m:MatV w w.heap.size d a) (h:Lim a) (o:MatV w w.heap.size e b) (j:Lim b) (k:Row w w.heap.size c s) (g:Env E w):Calls Tryz.prog 5 #[d,e,c] w (Truly w):=by
 cases hfa:fewB 9 a 8 with
 | false=>exact wk_1 E a d b e c s w m h o j k g hfa
 | true =>
  cases hfb:fewB 9 b 8 with
  | false=>exact wk_2 E a d b e c s w m h o j k g hfa hfb
  | true =>
   cases hm:mayS a b s with
   | false=>exact wk_3 E a d b e c s w m h o j k g hfa hfb hm
   | true=>exact Vk4 E a d b e c s w m h o j k g hfa hfb (mayS_iff.1 hm)
end Wp
end Go.Proofs.YteiejkhdonmcdaaGreatDoor
