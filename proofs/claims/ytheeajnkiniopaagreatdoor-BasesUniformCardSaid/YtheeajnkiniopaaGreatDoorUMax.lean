/- Several matroids together, plain: what is come to bounds all classes; what Max of layer 16 tells, and that it is one and the same whoever tells it. Nothing of the program here. -/
import Derived.Test.YtheeajnkiniopaaGreatDoorUPure
import Derived.Test.YtheeajnkiniopaaGreatDoorUAdj
import Derived.Test.YtheeajnkiniopaaGreatDoorX0A
namespace Go.Proofs.YtheeajnkiniopaaGreatDoor.Wp
open Go Go.RowKit
def sumTo (g:Nat→Nat):Nat→Nat
 | 0=>0
 | k+1=>sumTo g k+g k
theorem W8_ {g f:Nat→Nat}:∀ {K:Nat},(∀ k,k<K→g k≤f k)→sumTo g K≤sumTo f K
 | 0,_=>Nat.le_refl _
 | K+1,h=>by
  have d:=W8_ (g:=g) (f:=f) (K:=K) fun k c=>h k k29_;have:=h K k29_;show sumTo g K+g K≤sumTo f K+f K;omega
theorem Zg5 {g f:Nat→Nat} {K:Nat} (h:∀ k,k<K→g k=f k):sumTo g K=sumTo f K :=
 Nat.le_antisymm (W8_ fun k c=>Nat.le_of_eq (h k c)) (W8_ fun k c=>Nat.le_of_eq (h k c).symm)
theorem Zp2 (g f:Nat→Nat):∀ K,sumTo (fun k=>g k+f k) K=sumTo g K+sumTo f K
 | 0=>rfl
 | K+1=>by
  show sumTo (fun k=>g k+f k) K+(g K+f K)=sumTo g K+g K+(sumTo f K+f K);rw [Zp2 g f K];omega
theorem Zp3 {x:Int} (e:x≠-1) (d:-1≤x):∀ K:Nat,sumTo (fun k=>if x=(k:Int) then 1 else 0) K=if x<(K:Int) then 1 else 0
 | 0=>by show 0=_;rw [if_neg k29_]
 | K+1=>by
  show sumTo (fun k=>if x=(k:Int) then 1 else 0) K+(if x=(K:Int) then 1 else 0)=_;rw [Zp3 e d K];by_cases c:x<(K:Int)
  ·rw [if_pos c,if_neg k29_,if_pos k29_]
  ·by_cases h2:x=(K:Int)
   ·rw [if_neg c,if_pos h2,if_pos k29_]
   ·rw [if_neg c,if_neg h2,if_neg k29_]
theorem S8_ (K:Nat):sumTo (fun _=>0) K=0:=by
 induction K with
 | zero=>rfl
 | succ K ih=>show sumTo (fun _=>0) K+0=0;rw [ih]
section
variable {ms:List Mat} {c:List Int}
theorem C4_ {K:Nat} (j:∀ x,x<c.length→-1≤c.getD x 0∧c.getD x 0<(K:Int)) (P:Nat→Bool):∀ m,m≤c.length→sumTo (fun k=>cnt (andP (memP (Z2_ c (k:Int))) P) m) K+cnt (andP (memP (Z2_ c (-1))) P) m=cnt P m
 | 0,_=>by
  have:∀ Q:Nat→Bool,cnt Q 0=0:=fun Q=>rfl;simp only [this];rw [S8_]
 | m+1,hm=>by
  have p:=C4_ j P m k29_;have o:=j m k29_;have d:∀ k:Int,andP (memP (Z2_ c k)) P m=(decide (c.getD m 0=k) && P m):=fun k=>by
   unfold andP;congr 1;rw [Bool.eq_iff_iff,class_at,decide_eq_true_iff];exact ⟨fun h=>h.2,fun h=>⟨k29_,h⟩⟩
  rw [Zg5 (f:=fun k=>cnt (andP (memP (Z2_ c (k:Int))) P) m+if (decide (c.getD m 0=(k:Int)) && P m)=true then 1 else 0) fun k _=>by rw [Y7_,d],Zp2,Y7_,Y7_,d,← p];cases hp:P m
  ·simp only [Bool.and_false,Bool.false_eq_true,if_false]
   rw [S8_];omega
  ·simp only [Bool.and_true,decide_eq_true_iff,if_true]
   by_cases e:c.getD m 0=-1
   ·rw [if_pos e,Zg5 (g:=fun k=>if c.getD m 0=(k:Int) then 1 else 0) (f:=fun _=>0) (K:=K) (fun k _=>if_neg k29_),S8_]
    omega
   ·rw [if_neg e,Zp3 e o.1,if_pos o.2]
    omega
noncomputable def Zp4 (ms:List Mat) (u:List Int):Nat:=sumTo (fun k=>rkP 4 (ms.getD k default) (memP u)) ms.length
theorem Xs7 (h:Cls ms c) {u:List Int} (m:InN c.length u):u.length≤Zp4 ms u+(Z2_ c (-1)).length:=by
 have j:=C4_ h.rng (memP u) c.length (Nat.le_refl _);rw [X1_ m,X1_ (V3_ h.n64 (-1)),← j];have h2:=(I8_ c.length).mono (P:=andP (memP (Z2_ c (-1))) (memP u)) (Q:=memP (Z2_ c (-1))) fun i _ d=>by unfold andP at d;rw [Bool.and_eq_true] at d;exact d.1
 have h3:sumTo (fun k=>cnt (andP (memP (Z2_ c (k:Int))) (memP u)) c.length) ms.length≤Zp4 ms u:=W8_ fun k f=>by
  have g:=rk_of (h.may k f).1;rw [(h.may k f).2] at g;have e:=g.part (P:=andP (memP (Z2_ c (k:Int))) (memP u)) (Q:=memP (Z2_ c (k:Int))) (fun i _ d=>by unfold andP at d;rw [Bool.and_eq_true] at d;exact d.1) (h.cnt_class f);rw [← e];exact g.mono fun i _ d=>by unfold andP at d;rw [Bool.and_eq_true] at d;exact d.2
 have o:cnt (andP (memP (Z2_ c (-1))) (memP u)) c.length≤cnt (memP (Z2_ c (-1))) c.length:=h2;omega
theorem J7_ (h:Cls ms c):DigP (adjU ms c):=by
 have j:=h.n64;have p:=h.many.2;refine ⟨by rw [C3_];omega,fun x=>?_⟩;have f:∀ y∈(adjU ms c).getD x [],0≤y∧y<((adjU ms c).length:Int):=fun y d=>by
  rw [C3_];rcases (Zg3 d).2 with ⟨z,g,rfl,_⟩ | ⟨k,e,rfl,_⟩<;>omega
 refine ⟨⟨?_,fun y d=>by have:=f y d;rw [C3_] at this;exact ⟨k29_,k29_⟩⟩,f⟩;by_cases m:x<c.length
 ·rw [Zj3 m]
  unfold arcsU;rw [List.pairwise_append];refine ⟨(D4_ j).1.filter _,?_,fun y d z g=>?_⟩
  ·exact j19_
  ·have o:=mem_upTo.1 (List.mem_filter.1 d).1
   obtain ⟨k,e,rfl⟩:=List.mem_map.1 g;have h2:=mem_upTo.1 (List.mem_filter.1 e).1;omega
 ·rw [Xj2 k29_]
  exact List.Pairwise.nil
theorem H6_ (h:Cls ms c):InN (adjU ms c).length (Z2_ c (-1)):=by
 have d:=V3_ h.n64 (-1);refine ⟨d.1,fun x e=>?_⟩;have:=d.2 x e;rw [C3_];omega
def StopU (ms:List Mat) (c:List Int):Prop:=∀ y∈Z2_ c (-1),∀ k,¬ Near (adjU ms c) (endsU ms c.length) k y
noncomputable def comeU (ms:List Mat) (c:List Int):List Int:=itL (adjU ms c) (Z2_ c (-1)) (adjU ms c).length
theorem W9_ (h:Cls ms c) (hs:StopU ms c):InN c.length (comeU ms c):=by
 have d:=Q9_ (J7_ h) (H6_ h) (adjU ms c).length;refine ⟨d.1,fun x e=>?_⟩;have h2:=d.2 x e;refine ⟨h2.1,Int.not_le.1 fun j=>?_⟩;rw [C3_] at h2;have hd:x∈endsU ms c.length:=mem_ends.2 ⟨(x - c.length).toNat,k29_,k29_⟩;obtain ⟨y,g,f⟩:=(Zj0 (J7_ h) (adjU ms c).length _ (H6_ h)).1 ⟨x,e,hd⟩;exact hs y g _ f
theorem Xj6 (h:Cls ms c) (hs:StopU ms c):(comeU ms c).length=Zp4 ms (comeU ms c)+(Z2_ c (-1)).length:=by
 have C:=W9_ h hs;have v:=C4_ h.rng (memP (comeU ms c)) c.length (Nat.le_refl _);have B:∀ i,i<c.length→andP (memP (Z2_ c (-1))) (memP (comeU ms c)) i=memP (Z2_ c (-1)) i:=fun i _=>by
  unfold andP;cases e:memP (Z2_ c (-1)) i
  ·rfl
  ·rw [Bool.true_and,memP_iff]
   exact Zg0 (J7_ h) (H6_ h) _ _ (memP_iff.1 e)
 have w:∀ x y:Nat,x<c.length→y<c.length→memP (comeU ms c) x=true→memP (comeU ms c) y=false→¬ J6_ ms c (x:Int) (y:Int)=true:=fun x y d g h2 h3 o=>by
  have p:=L9_ (J7_ h) (H6_ h) (x:=(x:Int)) (y:=(y:Int)) (memP_iff.1 h2) (by rw [Int.toNat_natCast];exact (Zg4 d g).2 o);rw [show memP (comeU ms c) y=true from memP_iff.2 p] at h3;cases h3
 have A:∀ x k:Nat,x<c.length→k<ms.length→memP (comeU ms c) x=true→¬ roomB ms c (x:Int) (k:Int)=true:=fun x k d f h2 o=>by
  have p:=L9_ (J7_ h) (H6_ h) (x:=(x:Int)) (y:=(c.length:Int)+(k:Int)) (memP_iff.1 h2) (by rw [Int.toNat_natCast];exact (Yy3 d f).2 o);have F:=(W9_ h hs).2 _ p;omega
 rw [X1_ C,X1_ (V3_ h.n64 (-1)),← v,(I8_ c.length).ext B];congr 1;refine Zg5 fun k f=>?_;have m:=rk_of (h.may k f).1;rw [(h.may k f).2] at m;refine (Yl9 m (h.cnt_class f) (Y:=notP (memP (comeU ms c))) (fun i _ z=>by unfold notP;rw [z];rfl) (fun x d r j=>?_) (fun x d r j y g s u=>?_) (fun i _ _ g=>by unfold notP at g;rwa [Bool.not_eq_false'] at g)).symm
 ·have q:c.getD x 0≠(k:Int):=fun e=>by rw [class_at.2 ⟨d,e⟩] at j;cases j
  have h2:¬ rkP 4 (ms.getD k default) (insP (memP (Z2_ c (k:Int))) x)=cnt (memP (Z2_ c (k:Int))) c.length+1:=fun e=>A x k d f r ((Zg2 h d f).2 ⟨q,e⟩);have H:=m.up' (memP (Z2_ c (k:Int))) d;have I:=m.one' (memP (Z2_ c (k:Int))) d;have J:=h.cnt_class f;omega
 ·have q:c.getD x 0≠(k:Int):=fun e=>by rw [class_at.2 ⟨d,e⟩] at j;cases j
  have D:=(class_at.1 s).2;have E:memP (comeU ms c) y=false:=by unfold notP at u;rwa [Bool.not_eq_true'] at u
  have h2:¬ rkP 4 (ms.getD k default) (insP (remP (memP (Z2_ c (k:Int))) y) x)=cnt (memP (Z2_ c (k:Int))) c.length:=fun e=>w x y d g r E ((Zj2 h d g).2 ⟨k,f,D,q,e⟩);have G:=m.le_cnt (insP (remP (memP (Z2_ c (k:Int))) y) x);have c1:=H1_ g s;have c2:=J8_ d (P:=remP (memP (Z2_ c (k:Int))) y) (by unfold remP;rw [j];rfl);omega
theorem Xj7 (h:Cls ms c) (hs:StopU ms c) {c':List Int} (d:Cls ms c') (hl:c'.length=c.length):(Z2_ c (-1)).length≤(Z2_ c' (-1)).length:=by
 have e:=Xj6 h hs;have h2:=Xs7 d (u:=comeU ms c) (by rw [hl];exact W9_ h hs);omega
end
structure Several (ms:List Mat) (n:Nat):Prop where
 many:0<ms.length∧ms.length≤8
 may:∀ k,k<ms.length→chk (ms.getD k default)=0∧nN (ms.getD k default)=n
inductive ChainU (ms:List Mat) (n:Nat):Nat→List Int→Prop
 | zero:ChainU ms n 0 (List.replicate n (-1))
 | succ {k d:Nat} {c l:List Int}:ChainU ms n k c→Greedy (adjU ms c) (endsU ms c.length) (Z2_ c (-1)) d l→ChainU ms n (k+1) (V5_ c l c)
structure MaxU (ms:List Mat) (n:Nat) (c u:List Int):Prop where
 ch:∃ k,ChainU ms n k c
 stop:StopU ms c
 up:u=comeU ms c
section
variable {ms:List Mat} {n:Nat} {c u:List Int}
theorem Several.n64 (h:Several ms n):n≤64:=by
 have c:=h.may 0 h.many.1;have h2:=(Y1_ c.1).2;omega
theorem Xj8 {k:Int} (e:k≠-1):Z2_ (List.replicate n (-1)) k=[]:=by
 unfold Z2_;rw [List.filter_eq_nil_iff];intro x c;rw [List.length_replicate] at c;have d:=mem_upTo.1 c;rw [List.getD_eq_getElem?_getD,List.getElem?_replicate,if_pos k29_];simp;omega
theorem Zg6:(Z2_ (List.replicate n (-1)) (-1)).length=n:=by
 unfold Z2_;rw [List.filter_eq_self.2,List.length_replicate,X5_];intro x c;rw [List.length_replicate] at c;have d:=mem_upTo.1 c;rw [List.getD_eq_getElem?_getD,List.getElem?_replicate,if_pos k29_];rfl
theorem Xj9 (h:Several ms n):Cls ms (List.replicate n (-1)):=by
 refine ⟨h.many,fun k c=>by rw [List.length_replicate];exact h.may k c,fun x d=>?_,fun k c=>?_⟩
 ·rw [List.length_replicate] at d
  rw [List.getD_eq_getElem?_getD,List.getElem?_replicate,if_pos d];show -1≤(-1:Int)∧(-1:Int)<_;omega
 ·rw [Xj8 k29_]
  exact Vq1 (h.may k c).1
theorem Zp5 (h:Several ms n) {k:Nat} (hc:ChainU ms n k c):Cls ms c∧c.length=n∧(Z2_ c (-1)).length+k=n:=by
 induction hc with
 | zero=>exact ⟨Xj9 h,List.length_replicate,by rw [Zg6];rfl⟩
 | succ _ hg ih =>
  obtain ⟨p,m,K,e⟩:=Xj3 hg;obtain ⟨d,h2⟩:=Xj5 ih.1 e;exact ⟨d,by rw [M0_];exact ih.2.1,by have:=ih.2.2;omega⟩
theorem P4_ {k:Nat} {c2:List Int} (h:ChainU ms n k c) (h2:ChainU ms n k c2):c=c2:=by
 induction h generalizing c2 with
 | zero=>cases h2;rfl
 | succ _ hg ih =>
  cases h2 with
  | succ hc hg2 =>
   have e:=ih hc;subst e;rw [hg.unique hg2]
theorem Xm9 (h:StopU ms c) {d:Nat} {l:List Int} (e:Greedy (adjU ms c) (endsU ms c.length) (Z2_ c (-1)) d l):False:=by
 have hl:=e.length;exact h _ e.first d (by simpa using e.near 0 k29_)
theorem Ym2 {k:Nat} (h:ChainU ms n k c):∀ {m:Nat},m<k→∃ (t l:List Int) (d:Nat),ChainU ms n m t∧Greedy (adjU ms t) (endsU ms t.length) (Z2_ t (-1)) d l:=by
 induction h with
 | zero=>intro m f;omega
 | succ hc hg ih =>
  rename_i k d c l
  intro m f;by_cases e:m=k
  ·subst e;exact ⟨c,l,d,hc,hg⟩
  ·exact ih k29_
theorem Zp6 {k m:Nat} {t:List Int} (h:ChainU ms n k c) (h2:ChainU ms n m t) (hs:StopU ms t):k≤m:=by
 rcases Nat.lt_or_ge m k with g | f
 ·obtain ⟨j,l,d,hc,e⟩:=Ym2 h g
  rw [P4_ hc h2] at e;exact (Xm9 hs e).elim
 ·exact f
theorem Yy4 {c2 j:List Int} (d:MaxU ms n c u) (h2:MaxU ms n c2 j):c=c2∧u=j:=by
 obtain ⟨k,f⟩:=d.ch;obtain ⟨m,g⟩:=h2.ch;have e:k=m:=Nat.le_antisymm (Zp6 f g h2.stop) (Zp6 g f d.stop);subst e;have h:=P4_ f g;refine ⟨h,?_⟩;rw [d.up,h2.up,h]
theorem P5_ (h:Several ms n) (d:MaxU ms n c u):Cls ms c∧c.length=n∧InN n u∧u.length=Zp4 ms u+(Z2_ c (-1)).length∧∀ c',Cls ms c'→c'.length=n→(Z2_ c (-1)).length≤(Z2_ c' (-1)).length:=by
 obtain ⟨k,g⟩:=d.ch;obtain ⟨e,h2,_⟩:=Zp5 h g;refine ⟨e,h2,?_,?_,fun c' f hl=>Xj7 e d.stop f (hl.trans h2.symm)⟩
 ·rw [d.up,← h2]
  exact W9_ e d.stop
 ·rw [d.up]
  exact Xj6 e d.stop
end
end Go.Proofs.YtheeajnkiniopaaGreatDoor.Wp
