/- bases: so many times a matroid as union tells them, walked (written by gen_ubas.py). -/
import Derived.Test.YtheeajnkiniopaaGreatDoorURepM
import Derived.Test.YtheeajnkiniopaaGreatDoorUFx16
import Derived.Test.YtheeajnkiniopaaGreatDoorUApp
import Derived.Test.YtheeajnkiniopaaGreatDoorX0A
import Derived.Test.YtheeajnkiniopaaGreatDoorX0B
import Derived.Test.YtheeajnkiniopaaGreatDoorX0C
set_option maxHeartbeats 16000000
set_option maxRecDepth 100000
open Go.Lib (hid)
open Nat (le_refl)
namespace Go.Proofs.YtheeajnkiniopaaGreatDoor.Wp
open Go Go.RowKit
theorem Yv0 (E:Nat→Addr) (m:Mat) (v:Value) (w:World) (C:MatV w w.heap.size v m) (hs:Sml m) (H:Env E w):Calls Tryz.prog 55 #[v] w (Tells w (rankT m (allL m.n))):=by
 have L:=hid hs;obtain ⟨o,k,Q,P,O⟩:=C.open;have j:=hid (Z1_ w m o k);have z:=(Below.refl (boxed w m o k).heap.size (boxed w m o k)).drew;have F:=hid ((C.up j.out).up z);have D:=hid ((H.up j.out).up z);have d:=hid (Z3_ w m o k);obtain ⟨s,x,rfl,_⟩:=P;obtain ⟨q,u,rfl,_⟩:=O;subst Q;obtain ⟨X,y⟩:∃ X,boxed w m (.slice s m.l.length x) (.slice q m.i.length u)=X:=⟨_,rfl⟩;rw [y] at j F D d;have G:=hid y;have M:Hid (∀ W,Below X.drew.heap.size X.drew W→W.cell? ⟨w.heap.size,0,none⟩=some (.int .i64 m.t)∧W.cell? ⟨w.heap.size,1,none⟩=some (.int .i64 m.n)∧W.cell? ⟨w.heap.size,2,none⟩=some (.int .i64 m.a)∧W.cell? ⟨w.heap.size,3,none⟩=some (.int .i64 m.b)∧W.cell? ⟨w.heap.size,4,none⟩=some (.slice s m.l.length x)∧W.cell? ⟨w.heap.size,5,none⟩=some (.slice q m.i.length u)):=hid fun W h=>⟨(d.out.drew.below h d.out.lt).cell 0,(d.out.drew.below h d.out.lt).cell 1,(d.out.drew.below h d.out.lt).cell 2,(d.out.drew.below h d.out.lt).cell 3,(d.out.drew.below h d.out.lt).cell 4,(d.out.drew.below h d.out.lt).cell 5⟩;have g:Hid (Below X.drew.heap.size X.drew X.drew):=hid (Below.refl _ _);obtain ⟨r,B⟩:∃ r,rankT m (allL m.n)=r:=⟨_,rfl⟩;have N:=E6_ m.n;have K:Hid (∀ (v p:Value) (W:World),MatV W W.heap.size v m→Row W W.heap.size p (allL m.n)→Env E W→Calls Tryz.prog 43 #[v,p] W (Tells W r)):=hid fun v p W a b c=>by rw [← B];exact Zj6 E m v p _ W a L.out b k29_ c
 rw [B];unfold boxed at G;clear C hs H y B z N d
 go_enter Tryz.func55,Tryz.ntmps55
 go_wp2;rw [G.out]
 go_region_held3 (fun W=>W.cell? ⟨w.heap.size,0,none⟩=some (.int .i64 m.t)∧W.cell? ⟨w.heap.size,1,none⟩=some (.int .i64 m.n)∧W.cell? ⟨w.heap.size,2,none⟩=some (.int .i64 m.a)∧W.cell? ⟨w.heap.size,3,none⟩=some (.int .i64 m.b)∧W.cell? ⟨w.heap.size,4,none⟩=some (.slice s m.l.length x)∧W.cell? ⟨w.heap.size,5,none⟩=some (.slice q m.i.length u))
  (exact M.out _ g.out)
  (first
  | (go_at_call 63;refine (A5_ m.n _).mono ?_;rintro e S ⟨R,rfl,I,hb⟩;replace g:=hid (Z0_ g.out (le_refl _) hb);have J:=hid I;clear I hb)
  | (go_at_call 43;refine (K.out _ _ _ (F.out.up g.out) J.out (D.out.up g.out)).mono ?_;rintro e T ⟨rfl,hb⟩;replace g:=hid (Z0_ g.out (le_refl _) hb);clear hb))
 all_goals
  go_simp;go_wp2;go_ret;exact ⟨rfl,Z0_ j.out.drew (le_refl _) g.out⟩
theorem Xc2 {m:Mat} {k:Nat} (d:1≤k) (e:k≤8):sevB (List.replicate k m)=(chk m==0):=by
 unfold sevB;rw [List.length_replicate,decide_eq_true d,decide_eq_true e,Bool.true_and,Bool.true_and];have c:(List.replicate k m).getD 0 default=m:=by rw [List.getD_eq_getElem?_getD,List.getElem?_replicate,if_pos k29_];rfl
 have f:(List.replicate k m).any (oddM (List.replicate k m))=!(chk m==0):=by
  obtain ⟨j,rfl⟩:∃ j,k=j+1:=⟨k - 1,k29_⟩;cases hb:(chk m==0) with
  | true =>
   rw [List.any_eq_false.2 fun x g=>?_]
   ·rfl
   ·rw [List.eq_of_mem_replicate g]
    unfold oddM;rw [c,hb];simp
  | false =>
   rw [List.any_eq_true.2 ⟨m,y30_,?_⟩]
   ·rfl
   ·unfold oddM
    rw [hb];simp
 rw [f,Bool.not_not]
theorem Xt1 {m:Mat} {k:Nat} (c:1≤k):(List.replicate k m).getD 0 default=m:=by rw [List.getD_eq_getElem?_getD,List.getElem?_replicate,if_pos k29_];rfl
theorem V0_ {m:Mat} {k:Nat} (c:1≤k) (d:k≤8) (hc:chk m=0):Several (List.replicate k m) (nN m):=by
 have h:=(sev_iff.1 (show sevB (List.replicate k m)=true by rw [Xc2 c d,hc];rfl)).1
 rwa [Xt1 c] at h
theorem Zq3 (E:Nat→Addr) (m:Mat) (v:Value) (k:Nat) (w:World) (I:MatV w w.heap.size v m) (hs:Sml m) (Q:Env E w) (F:1≤k) (h8:k≤8) (hc:chk m=0) :
  Calls Tryz.prog 53 #[v,.int .i64 k] w fun e w'=>∃ (vc g:Value) (c u:List Int),e=.returned (.tuple #[vc,g,.int .i64 0])∧Row w' w'.heap.size vc c∧Row w' w'.heap.size g u∧Below w.heap.size w w'∧MaxU (List.replicate k m) (nN m) c u:=by
 have Hs:=hid hs;obtain ⟨lv,iv,x5,x4,x3⟩:=I.open;have y:=hid (Z1_ w m lv iv);have K:=hid (I.up y.out);have J:=hid (Q.up y.out);have d:=hid (Z3_ w m lv iv);obtain ⟨o,q,rfl,_⟩:=x4;obtain ⟨h,p,rfl,_⟩:=x3;subst x5;obtain ⟨X,z⟩:∃ X,boxed w m (.slice o m.l.length q) (.slice h m.i.length p)=X:=⟨_,rfl⟩;have R:X.heap.size=w.heap.size+1:=by rw [← z];unfold boxed;simp
 rw [z] at y K J d;have B:=hid z;have C:=hid R;unfold boxed at B;clear I hs Q z R;have x7:¬ (k:Int)<1:=k29_;have x9:¬ (8:Int)<(k:Int):=k29_;have x8:(1:Int)≤(k:Int):=k29_;have xa:(k:Int)≤8:=k29_;obtain ⟨Y,r⟩:∃ Y,Y=X.alloc (.cells #[.int .i64 m.t,.int .i64 m.n,.int .i64 m.a,.int .i64 m.b,.slice o m.l.length q,.slice h m.i.length p] 37):=⟨_,rfl⟩;have L:=hid r;have U:Below X.heap.size X Y:=by rw [r];exact (Below.refl _ X).alloc (le_refl _) _
 have V:Blk Y (w.heap.size+1) 37 #[.int .i64 m.t,.int .i64 m.n,.int .i64 m.a,.int .i64 m.b,.slice o m.l.length q,.slice h m.i.length p]:=by rw [r,← C.out];exact Blk.new X _ _
 have O:Hid (w.heap.size+1<Y.heap.size):=hid (by rw [r,← C.out];simp);have N:Hid (∀ j v,([.int .i64 m.t,.int .i64 m.n,.int .i64 m.a,.int .i64 m.b,.slice o m.l.length q,.slice h m.i.length p]:List Value)[j]?=some v→Y.cell? ⟨w.heap.size+1,j,none⟩=some v):=hid fun j v hj=>by
  rw [V.cell j];simpa using hj
 have P:Hid (∀ u∈([.int .i64 m.t,.int .i64 m.n,.int .i64 m.a,.int .i64 m.b,.slice o m.l.length q,.slice h m.i.length p]:List Value),u.oneCell'=true):=hid fun u hu=>by
  simp at hu;rcases hu with rfl | rfl | rfl | rfl | rfl | rfl<;>rfl
 have M:=hid U;have c0:=d.out.cell 0;have c1:=d.out.cell 1;have c2:=d.out.cell 2;have c3:=d.out.cell 3;have c4:=d.out.cell 4;have c5:=d.out.cell 5;clear U V r
 go_enter Tryz.func53,Tryz.ntmps53
 go_wp2_with fail
 rw [B.out,← L.out];refine (Yx9 (w.heap.size+1) k _ Y rfl P.out N.out O.out F k29_).mono ?_;rintro e w3 ⟨rfl,G,S⟩;have D:=hid (Z0_ M.out (le_refl _) S);have HM:Hid (MatL w3 w3.heap.size (.slice (some ⟨Y.heap.size,0,none⟩) k k) (List.replicate k m)):=hid (Yn7 G (K.out.up D.out) (le_refl _) k31_ (by obtain ⟨x6,hg,_⟩:=G;exact (Array.getElem?_eq_some_iff.1 hg).1));have x1:Hid (∀ x∈List.replicate k m,Sml x):=hid fun x hx=>by rw [List.eq_of_mem_replicate hx];exact Hs.out
 have x0:=hid (J.out.up D.out);have x2:=hid (Z0_ y.out (le_refl _) D.out);clear G S M P N O L B C d c0 c1 c2 c3 c4 c5
 go_wp2_with fail
 refine (Zh4 E (List.replicate k m) _ _ HM.out x1.out x0.out (by rw [Xc2 F h8,hc];rfl)).mono ?_;rintro e s ⟨vc,g,c,u,rfl,W,Z,T,H⟩;rw [Xt1 F] at H;have HR:=hid (⟨W,Z,Z0_ x2.out (le_refl _) T,H⟩:Row s s.heap.size vc c∧Row s s.heap.size g u∧Below w.heap.size w s∧MaxU (List.replicate k m) (nN m) c u);clear W Z T H;go_wp2;refine bodyPost_ret (v:=.tuple #[vc,g,.int .i64 0]) (by simp [results,Tryz.results53,go_sem]) rfl ?_;exact ⟨vc,g,c,u,rfl,HR.out⟩
theorem Zr9 (m:Mat) (v:Value) (k:Int) (w:World) (c:MatV w w.heap.size v m) (g:k<1∨8<k) :
  Calls Tryz.prog 53 #[v,.int .i64 k] w fun e w'=>e=.returned (.tuple #[.slice none 0 0,.slice none 0 0,.int .i64 1])∧Below w.heap.size w w':=by
 obtain ⟨p,o,j,h,d⟩:=c.open;have Hb0:=hid (Z1_ w m p o);obtain ⟨r,u,rfl,_⟩:=h;obtain ⟨q,s,rfl,_⟩:=d;subst j;unfold boxed at Hb0;clear c;by_cases x:k<1
 ·exact x7_
 ·have y:8<k:=by omega
  clear g;exact x7_
theorem Zc8 (v:Value) (c:List Int) (w:World) (g:Row w w.heap.size v c) (hl:c.length≤1000):Calls Tryz.prog 54 #[v] w (Tells w ((c.length:Int) - ((Z2_ c (-1)).length:Int))):=by
 have h:=hid g;have k:=hid (show c.length≤1048576 by omega);have p:=R3_ c (-1);obtain ⟨A,u,rfl,_⟩:=id g;obtain ⟨o,d⟩:∃ o,(Z2_ c (-1)).length=o:=⟨_,rfl⟩;rw [d] at p ⊢;have m:=hid d;have x:IntKind.i64.wrap ((c.length:Int) - (o:Int))=(c.length:Int) - (o:Int):=z30_;clear g d
 go_enter Tryz.func54,Tryz.ntmps54
 go_wp2_with fail
 refine (Q1_ _ c (-1) _ h.out k.out).mono ?_;rintro e z ⟨y,rfl,q,hb,_⟩;obtain ⟨r,s,rfl,_⟩:=q;rw [m.out];have j:=hid hb;clear hb;go_wp2;go_ret;exact ⟨rfl,j.out⟩
def setsK (c:List Int) (k:Nat):List (List Int):=(List.range k).map fun i:Nat=>Z2_ c ((i:Nat):Int)
def L3_ (c:List Int) (k i:Nat):List (List Int):=setsK c i ++ List.replicate (k - i) []
theorem Yn8 {c:List Int} {k i:Nat} (h:i≤k):(L3_ c k i).length=k:=by simp [L3_,setsK];omega
theorem Yv1 {c:List Int} {k i:Nat} (h:i<k):(L3_ c k i).set i (Z2_ c (i:Int))=L3_ c k (i+1):=by
 unfold L3_ setsK;rw [List.range_succ,List.map_append,show k - i=(k - (i+1))+1 by omega,List.replicate_succ,List.set_append];simp
theorem Yn9 (c:List Int) (k:Nat):L3_ c k k=setsK c k:=by simp [L3_]
theorem Zs0 (v:Value) (c:List Int) (k:Nat) (w:World) (s:Row w w.heap.size v c) (hl:c.length≤1000) (hk:k≤1000):Calls Tryz.prog 56 #[v,.int .i64 k] w fun e w'=>∃ u,e=.returned u∧Rows2 w' w'.heap.size u (setsK c k)∧Below w.heap.size w w':=by
 have Q:=hid (show c.length≤1048576 by omega);have x0:(k:Int)≤1000:=k29_;obtain ⟨A,cp,rfl,_⟩:=id s;have Z:=run_make_row' 35 23 (.slice none 0 0) 24 Tryz.underlying35 Zf4 rfl .i64 .i64 k k29_ k29_ w;obtain ⟨Y,j⟩:∃ Y,w.alloc (.cells (madeCells #[.slice none 0 0] k) 23)=Y:=⟨_,rfl⟩;obtain ⟨G,d⟩:∃ G,w.heap.size=G:=⟨_,rfl⟩;have C:=hid j;have L:=hid d;have r:Below w.heap.size w Y:=by rw [← j];exact (Below.refl _ w).alloc (le_refl _) _
 have B:=hid s;have y:Hid (AdjR Y G (List.replicate k (.slice none 0 0)) (L3_ c k 0)):=hid (by
  have h:=AdjR.made (w:=Y) (G:=G) (n:=k) (by rw [← j,← d];exact Blk.new w _ _);have e:L3_ c k 0=List.replicate k []:=by simp [L3_,setsK]
  rw [e];exact h)
 rw [d] at r B;have D:=hid r;have M:=hid (show G≤w.heap.size by omega);rw [d];clear s j r d hl
 go_enter Tryz.func56,Tryz.ntmps56
 go_wp2_with fail
 rw [C.out,L.out]
 go_loopw [6,11] (fun _ x wr=>∃ (i:Nat) (vs:List Value),x=.int .i64 i∧i≤k∧AdjR wr G vs (L3_ c k i)∧Below G w wr) (fun _ x _=>k - (intOf x).toNat)
 case atStart=>exact ⟨0,_,rfl,Nat.zero_le _,y.out,D.out⟩
 case round =>
  clear y D Z C;obtain ⟨i,vs,rfl,W,ha,m⟩:=hrel;have o:=hid ha;have O:=hid ((B.out.below m).mono (show G≤wr.heap.size by have:=m.size;have:=M.out;omega));have E:=hid m;clear ha m;by_cases I:i<k
  ·have x1:(i:Int)<(k:Int):=by omega
   have H:=Yn8 (c:=c) (k:=k) (i:=i) W;have S:=hid (Yv1 (c:=c) I);have R:=hid H;clear H
   go_wp2_with fail
   refine (Q1_ _ c i _ O.out Q.out).mono ?_;rintro e w1 ⟨vk,rfl,J,q,F⟩;have z:=hid (o.out.up q);have U:G<wr.heap.size:=o.out.blk.lt;have N:=hid (z.out.put (i:=i) J (fun g V=>Nat.lt_of_lt_of_le U (F g V)));obtain ⟨K,T,rfl,_⟩:=J;obtain ⟨A0,c0,q0,f0⟩:=z.out.nth (i:=i) (by rw [R.out];exact I);have P:Hid (Below G w (w1.setCell ⟨G,i,none⟩ (.slice K (Z2_ c (i:Int)).length T))):=hid ((E.out.trans (q.mono k29_)).setCell (p:=⟨G,i,none⟩) (le_refl _) _);clear q F;go_wp2
   go_roundw
   case rel=>exact ⟨i+1,_,y31_,k29_,by have h:=N.out;rw [S.out] at h;exact h,P.out⟩
   exact mz_
  ·have X:i=k:=by omega
   subst X;go_wp2;go_ret;have h:=o.out;rw [Yn9] at h;exact ⟨_,rfl,by have h2:=h.rows (by simp [setsK];omega);simpa [setsK] using h2,E.out⟩
theorem E4_ {m:Mat} (hc:chk m=0):rankT m (allL m.n)=((rkP 4 m (memP (allL m.n)):Nat):Int)∧rkP 4 m (memP (allL m.n))≤nN m∧nN m≤64:=by
 have c:=Y1_ hc;have h2:=Zx7 (n:=m.n) k29_ k29_;have h3:=(rk_of hc).le_cnt (memP (allL m.n));have d:=C9_ (memP (allL m.n)) (nN m);exact ⟨Zr8 (mayI_iff.2 ⟨hc,h2⟩),k29_,c.2⟩
theorem Zz4 (E:Nat→Addr) (m:Mat) (v:Value) (k:Nat) (w:World) (P:MatV w w.heap.size v m) (hs:Sml m) (Z:Env E w) (Y:1≤k) (N:k≤8) (hc:chk m=0) :
  Calls Tryz.prog 27 #[v,.int .i64 k] w fun e w'=>∃ (c u:List Int) (vl j:Value),MaxU (List.replicate k m) (nN m) c u∧Below w.heap.size w w' ∧
   (((c.length:Int) - ((Z2_ c (-1)).length:Int)=(k:Int) * rankT m (allL m.n)∧e=.returned (.tuple #[vl,.slice none 0 0,.int .i64 0])∧Rows2 w' w'.heap.size vl (setsK c k))∨(¬ (c.length:Int) - ((Z2_ c (-1)).length:Int)=(k:Int) * rankT m (allL m.n)∧e=.returned (.tuple #[.slice none 0 0,j,.int .i64 170])∧Row w' w'.heap.size j u)):=by
 have V:=hid hs;obtain ⟨lv,iv,xj,xh,xf⟩:=P.open;have g:=hid (Z1_ w m lv iv);have q:=hid (P.up g.out);have p:=hid (Z.up g.out);have Hblk:=hid (Z3_ w m lv iv);obtain ⟨J,M,rfl,_⟩:=xh;obtain ⟨I,L,rfl,_⟩:=xf;subst xj;obtain ⟨X,D⟩:∃ X,boxed w m (.slice J m.l.length M) (.slice I m.i.length L)=X:=⟨_,rfl⟩;have x1:X.heap.size=w.heap.size+1:=by rw [← D];unfold boxed;simp
 rw [D] at g q p Hblk;have K:=hid D;have xa:=hid x1;unfold boxed at K;clear P hs Z D x1;have U:=hid hc;have x:=hid (⟨Y,N⟩:1≤k∧k≤8);have xk:(k:Int)≤8:=k29_;obtain ⟨G,x3,x4⟩:=E4_ hc;obtain ⟨R,hR⟩:∃ R:Nat,rkP 4 m (memP (allL m.n))=R:=⟨_,rfl⟩;rw [hR] at G x3;have xg:k * R≤8 * 64:=Nat.mul_le_mul N k29_;obtain ⟨z,H⟩:∃ z:Int,(k:Int) * (R:Int)=z:=⟨_,rfl⟩;have hw:IntKind.i64.wrap ((k:Int) * (R:Int))=z:=by
  have:((k * R:Nat):Int)=z:=by rw [Int.natCast_mul];exact H
  rw [H,IntKind.wrap_i64];omega
 have hz:(k:Int) * rankT m (allL m.n)=z:=by rw [G];exact H
 clear H;have T:=hid hz;have xd:=hid G;have xe:=hid x4;have c0:=Hblk.out.cell 0;have c1:=Hblk.out.cell 1;have c2:=Hblk.out.cell 2;have c3:=Hblk.out.cell 3;have c4:=Hblk.out.cell 4;have c5:=Hblk.out.cell 5;clear G x3 x4 hR xg hz hc Y N
 go_enter Tryz.func27,Tryz.ntmps27
 go_wp2_with fail
 rw [K.out];refine (Zq3 E m _ k X q.out V.out p.out x.out.1 x.out.2 U.out).mono ?_;rintro e d ⟨vc,j,c,u,rfl,x5,x6,s,O⟩;have S:=hid O;have HC:=hid x5;have HU:=hid x6;have xi:=(A0_ (V0_ x.out.1 x.out.2 U.out) O).1;have Hl:=hid (show c.length≤1000 by have:=xe.out;omega);obtain ⟨Ac,cc,rfl,_⟩:=x5;obtain ⟨r,x0⟩:∃ r,(c.length:Int) - ((Z2_ c (-1)).length:Int)=r:=⟨_,rfl⟩;have HT0:=hid x0;replace q:=hid (q.out.up s);replace p:=hid (p.out.up s);replace Hblk:=hid (Hblk.out.below s Hblk.out.lt);replace g:=hid (Z0_ g.out (le_refl _) s);have y:Hid (∀ W,Below d.heap.size d W→Calls Tryz.prog 54 #[.slice Ac c.length cc] W fun e w'=>e=.returned (.int .i64 r)∧Below d.heap.size d w'):=hid fun W hW=>q16_;have B:Hid (∀ W,Below d.heap.size d W→Calls Tryz.prog 55 #[.agg #[.int .i64 m.t,.int .i64 m.n,.int .i64 m.a,.int .i64 m.b,.slice J m.l.length M,.slice I m.i.length L]] W fun e w'=>e=.returned (.int .i64 R)∧Below d.heap.size d w'):=hid fun W hW=>by
  refine (Yv0 E m _ W (q.out.up hW) V.out (p.out.up hW)).mono ?_;rintro e w' ⟨rfl,hb⟩;rw [xd.out];exact ⟨rfl,Z0_ hW (le_refl _) hb⟩
 have C:Hid (∀ W,Below d.heap.size d W→(W.cell? ⟨w.heap.size,0,none⟩=some (.int .i64 m.t)∧W.cell? ⟨w.heap.size,1,none⟩=some (.int .i64 m.n)∧W.cell? ⟨w.heap.size,2,none⟩=some (.int .i64 m.a)∧W.cell? ⟨w.heap.size,3,none⟩=some (.int .i64 m.b)∧W.cell? ⟨w.heap.size,4,none⟩=some (.slice J m.l.length M)∧W.cell? ⟨w.heap.size,5,none⟩=some (.slice I m.i.length L))):=hid fun W hW=>y18_;clear O x6 xi s x0 K xa c0 c1 c2 c3 c4 c5;by_cases F:r=z
 ·subst F
  go_wp2;refine Z5_ d.heap.size d q30_ q30_ (Below.refl _ _) ?_
  iterate 7 (first
   | go_big_quiet_skip
   | go_big_quiet_step (with_reducible first | exact y.out _ | exact B.out _)
   | (go_big_quiet_want;apply Exists.intro;refine ⟨fun W hW=>?_,?_⟩;(· obtain ⟨k0,k1,k2,k3,k4,k5⟩:=C.out W hW;go_simp;first | exact rfl | exact ⟨rfl,rfl⟩);go_simp;go_big_quiet_on))
  refine wpQuiet_nil ?_;intro w7 o;have Q:=hid o;clear o y B C
  go_wp2_with fail
  refine (Zs0 _ c k w7 (HC.out.up Q.out) Hl.out k29_).mono ?_;rintro e w8 ⟨us,rfl,x7,x2⟩;have x9:=hid x7;have xc:=hid (Z0_ g.out (le_refl _) (Z0_ Q.out (le_refl _) x2));clear x7 x2;go_wp2;refine bodyPost_ret (v:=.tuple #[us,.slice none 0 0,.int .i64 0]) x35_ rfl ?_;exact ⟨c,u,us,j,S.out,xc.out,.inl ⟨HT0.out.trans T.out.symm,rfl,x9.out⟩⟩
 ·have xl:(r != z)=true:=by simpa using F
  have Hq:=hid F;clear F;go_wp2;refine Z5_ d.heap.size d q30_ q30_ (Below.refl _ _) ?_
  iterate 7 (first
   | go_big_quiet_skip
   | go_big_quiet_step (with_reducible first | exact y.out _ | exact B.out _)
   | (go_big_quiet_want;apply Exists.intro;refine ⟨fun W hW=>?_,?_⟩;(· obtain ⟨k0,k1,k2,k3,k4,k5⟩:=C.out W hW;go_simp;first | exact rfl | exact ⟨rfl,rfl⟩);go_simp;go_big_quiet_on))
  refine wpQuiet_nil ?_;intro w7 o;have xb:=hid (Z0_ g.out (le_refl _) o);have x8:=hid (HU.out.up o);clear o y B C;go_wp2;refine bodyPost_ret (v:=.tuple #[.slice none 0 0,j,.int .i64 170]) x35_ rfl ?_;exact ⟨c,u,j,j,S.out,xb.out,.inr ⟨fun h=>Hq.out (HT0.out.symm.trans (h.trans T.out)),rfl,x8.out⟩⟩
theorem Zq4 (E:Nat→Addr) (m:Mat) (v:Value) (k:Nat) (w:World) (J:MatV w w.heap.size v m) (hs:Sml m) (T:Env E w) (S:1≤k) (G:k≤8) (hc:chk m=0) :
  Calls Tryz.prog 29 #[v,.int .i64 k] w fun e w'=>∃ (c u:List Int) (vl j:Value),MaxU (List.replicate k m) (nN m) c u∧Below w.heap.size w w' ∧
   (((c.length:Int) - ((Z2_ c (-1)).length:Int)=m.n∧e=.returned (.tuple #[vl,.slice none 0 0,.int .i64 0])∧Rows2 w' w'.heap.size vl (setsK c k))∨(¬ (c.length:Int) - ((Z2_ c (-1)).length:Int)=m.n∧e=.returned (.tuple #[.slice none 0 0,j,.int .i64 171])∧Row w' w'.heap.size j u)):=by
 have Hs:=hid hs;obtain ⟨lv,iv,xg,xd,xb⟩:=J.open;have g:=hid (Z1_ w m lv iv);have y:=hid (J.up g.out);have x:=hid (T.up g.out);have Hblk:=hid (Z3_ w m lv iv);obtain ⟨L,Q,rfl,_⟩:=xd;obtain ⟨K,P,rfl,_⟩:=xb;subst xg;obtain ⟨X,C⟩:∃ X,boxed w m (.slice L m.l.length Q) (.slice K m.i.length P)=X:=⟨_,rfl⟩;have Y:X.heap.size=w.heap.size+1:=by rw [← C];unfold boxed;simp
 rw [C] at g y x Hblk;have D:=hid C;have x7:=hid Y;unfold boxed at D;clear J hs T C Y;have O:=hid hc;have s:=hid (⟨S,G⟩:1≤k∧k≤8);have xi:(k:Int)≤8:=k29_;obtain ⟨I,x0,x1⟩:=E4_ hc;obtain ⟨R,U⟩:∃ R:Nat,rkP 4 m (memP (allL m.n))=R:=⟨_,rfl⟩;rw [U] at I x0;have xc:k * R≤8 * 64:=Nat.mul_le_mul G k29_;have hz:True:=trivial;have HZ:=hid hz;have xh:=hid I;have xa:=hid x1;have c0:=Hblk.out.cell 0;have c1:=Hblk.out.cell 1;have c2:=Hblk.out.cell 2;have c3:=Hblk.out.cell 3;have c4:=Hblk.out.cell 4;have c5:=Hblk.out.cell 5;clear I x0 x1 U xc hz hc S G
 go_enter Tryz.func29,Tryz.ntmps29
 go_wp2_with fail
 rw [D.out];refine (Zq3 E m _ k X y.out Hs.out x.out s.out.1 s.out.2 O.out).mono ?_;rintro e d ⟨vc,j,c,u,rfl,x2,x3,r,H⟩;have N:=hid H;have HC:=hid x2;have HU:=hid x3;have xe:=(A0_ (V0_ s.out.1 s.out.2 O.out) H).1;have Hl:=hid (show c.length≤1000 by have:=xa.out;omega);obtain ⟨Ac,cc,rfl,_⟩:=x2;obtain ⟨o,V⟩:∃ o,(c.length:Int) - ((Z2_ c (-1)).length:Int)=o:=⟨_,rfl⟩;have HT0:=hid V;replace y:=hid (y.out.up r);replace x:=hid (x.out.up r);replace Hblk:=hid (Hblk.out.below r Hblk.out.lt);replace g:=hid (Z0_ g.out (le_refl _) r);have z:Hid (∀ W,Below d.heap.size d W→Calls Tryz.prog 54 #[.slice Ac c.length cc] W fun e w'=>e=.returned (.int .i64 o)∧Below d.heap.size d w'):=hid fun W hW=>q16_;have B:Hid (∀ W,Below d.heap.size d W→(W.cell? ⟨w.heap.size,0,none⟩=some (.int .i64 m.t)∧W.cell? ⟨w.heap.size,1,none⟩=some (.int .i64 m.n)∧W.cell? ⟨w.heap.size,2,none⟩=some (.int .i64 m.a)∧W.cell? ⟨w.heap.size,3,none⟩=some (.int .i64 m.b)∧W.cell? ⟨w.heap.size,4,none⟩=some (.slice L m.l.length Q)∧W.cell? ⟨w.heap.size,5,none⟩=some (.slice K m.i.length P))):=hid fun W hW=>y18_;clear H x3 xe r V D x7 c0 c1 c2 c3 c4 c5;by_cases q:o=m.n
 ·have F:=hid q
  have xf:(o != m.n)=false:=by simp [q]
  clear q;go_wp2;refine Z5_ d.heap.size d q30_ q30_ (Below.refl _ _) ?_
  iterate 5 (first
   | go_big_quiet_skip
   | go_big_quiet_step (with_reducible first | exact z.out _)
   | (go_big_quiet_want;apply Exists.intro;refine ⟨fun W hW=>?_,?_⟩;(· obtain ⟨k0,k1,k2,k3,k4,k5⟩:=B.out W hW;go_simp;first | exact rfl | exact ⟨rfl,rfl⟩);go_simp;go_big_quiet_on))
  refine wpQuiet_nil ?_;intro w7 p;have M:=hid p;clear p z B
  go_wp2_with fail
  refine (Zs0 _ c k w7 (HC.out.up M.out) Hl.out k29_).mono ?_;rintro e w8 ⟨us,rfl,x4,Z⟩;have x6:=hid x4;have x9:=hid (Z0_ g.out (le_refl _) (Z0_ M.out (le_refl _) Z));clear x4 Z;go_wp2;refine bodyPost_ret (v:=.tuple #[us,.slice none 0 0,.int .i64 0]) (by simp [results,Tryz.results29,go_sem]) rfl ?_;exact ⟨c,u,us,j,N.out,x9.out,.inl ⟨HT0.out.trans F.out,rfl,x6.out⟩⟩
 ·have xf:(o != m.n)=true:=by simpa using q
  have F:=hid q;clear q;go_wp2;refine Z5_ d.heap.size d q30_ q30_ (Below.refl _ _) ?_
  iterate 5 (first
   | go_big_quiet_skip
   | go_big_quiet_step (with_reducible first | exact z.out _)
   | (go_big_quiet_want;apply Exists.intro;refine ⟨fun W hW=>?_,?_⟩;(· obtain ⟨k0,k1,k2,k3,k4,k5⟩:=B.out W hW;go_simp;first | exact rfl | exact ⟨rfl,rfl⟩);go_simp;go_big_quiet_on))
  refine wpQuiet_nil ?_;intro w7 p;have x8:=hid (Z0_ g.out (le_refl _) p);have x5:=hid (HU.out.up p);clear p z B;go_wp2;refine bodyPost_ret (v:=.tuple #[.slice none 0 0,j,.int .i64 171]) (by simp [results,Tryz.results29,go_sem]) rfl ?_;exact ⟨c,u,j,j,N.out,x8.out,.inr ⟨fun h=>F.out (HT0.out.symm.trans (h)),rfl,x5.out⟩⟩
theorem Xc3 (m:Mat) (v:Value) (k:Int) (w:World) (h:MatV w w.heap.size v m) (q:k<1∨8<k) :
  Calls Tryz.prog 27 #[v,.int .i64 k] w fun e w'=>e=.returned (.tuple #[.slice none 0 0,.slice none 0 0,.int .i64 1])∧Below w.heap.size w w':=by
 obtain ⟨s,r,E,D,C⟩:=h.open;have d:=hid (Z1_ w m s r);have j:=hid (h.up d.out);have c:=hid (Z3_ w m s r);obtain ⟨x,B,rfl,_⟩:=D;obtain ⟨u,z,rfl,_⟩:=C;subst E;obtain ⟨X,g⟩:∃ X,boxed w m (.slice x m.l.length B) (.slice u m.i.length z)=X:=⟨_,rfl⟩;rw [g] at d j c;have o:=hid g;unfold boxed at o;have F:=c.out.cell 0;have c1:=c.out.cell 1;have c2:=c.out.cell 2;have c3:=c.out.cell 3;have c4:=c.out.cell 4;have c5:=c.out.cell 5;clear h g
 go_enter Tryz.func27,Tryz.ntmps27
 go_wp2_with fail
 rw [o.out];refine (Zr9 m _ k X j.out q).mono ?_;rintro e G ⟨rfl,p⟩;have y:=hid (Z0_ d.out (le_refl _) p);clear p q;go_wp2;refine bodyPost_ret (v:=.tuple #[.slice none 0 0,.slice none 0 0,.int .i64 1]) x35_ rfl ?_;exact ⟨rfl,y.out⟩
end Go.Proofs.YtheeajnkiniopaaGreatDoor.Wp
