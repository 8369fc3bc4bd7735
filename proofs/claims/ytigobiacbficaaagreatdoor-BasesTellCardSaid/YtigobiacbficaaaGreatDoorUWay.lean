/- Several matroids together, plain: what is come to bounds all classes; what Max of layer 16 tells, and that it is one and the same whoever tells it. Nothing of the program here. -/
import Derived.Test.YtigobiacbficaaaGreatDoorUPure
import Derived.Test.YtigobiacbficaaaGreatDoorZI
import Derived.Test.YtigobiacbficaaaGreatDoorX0A
open Nat (le_refl)
namespace Go.Proofs.YtigobiacbficaaaGreatDoor.Wp
open Go Go.RowKit
def sumTo (g:Nat→Nat):Nat→Nat
 | 0=>0
 | k+1=>sumTo g k+g k
theorem Za7 {g f:Nat→Nat}:∀ {K:Nat},(∀ k,k<K→g k≤f k)→sumTo g K≤sumTo f K
 | 0,_=>le_refl _
 | K+1,h=>by
  have d:=Za7 (g:=g) (f:=f) (K:=K) fun k c=>h k y40_;have:=h K y40_;show sumTo g K+g K≤sumTo f K+f K;omega
theorem Zt2 {g f:Nat→Nat} {K:Nat} (h:∀ k,k<K→g k=f k):sumTo g K=sumTo f K :=
 Nat.le_antisymm (Za7 fun k c=>Nat.le_of_eq (h k c)) (Za7 fun k c=>Nat.le_of_eq (h k c).symm)
theorem Ya5 (g f:Nat→Nat):∀ K,sumTo (fun k=>g k+f k) K=sumTo g K+sumTo f K
 | 0=>rfl
 | K+1=>by
  show sumTo (fun k=>g k+f k) K+(g K+f K)=sumTo g K+g K+(sumTo f K+f K);rw [Ya5 g f K];omega
theorem Ya6 {x:Int} (e:x≠-1) (d:-1≤x):∀ K:Nat,sumTo (fun k=>if x=(k:Int) then 1 else 0) K=if x<(K:Int) then 1 else 0
 | 0=>by show 0=_;rw [if_neg y40_]
 | K+1=>by
  show sumTo (fun k=>if x=(k:Int) then 1 else 0) K+(if x=(K:Int) then 1 else 0)=_;rw [Ya6 e d K];by_cases c:x<(K:Int)
  ·rw [if_pos c,if_neg y40_,if_pos y40_]
  ·by_cases h2:x=(K:Int)
   ·rw [if_neg c,if_pos h2,if_pos y40_]
   ·rw [if_neg c,if_neg h2,if_neg y40_]
theorem Zx4 (K:Nat):sumTo (fun _=>0) K=0:=by
 induction K with
 | zero=>rfl
 | succ K ih=>show sumTo (fun _=>0) K+0=0;rw [ih]
section
variable {ms:List Mat} {c:List Int}
theorem G1_ {K:Nat} (j:∀ x,x<c.length→-1≤c.getD x 0∧c.getD x 0<(K:Int)) (P:Nat→Bool):∀ m,m≤c.length→sumTo (fun k=>cnt (andP (memP (Z3_ c (k:Int))) P) m) K+cnt (andP (memP (Z3_ c (-1))) P) m=cnt P m
 | 0,_=>by
  have:∀ Q:Nat→Bool,cnt Q 0=0:=fun Q=>rfl;simp only [this];rw [Zx4]
 | m+1,hm=>by
  have p:=G1_ j P m y40_;have o:=j m y40_;have d:∀ k:Int,andP (memP (Z3_ c k)) P m=(decide (c.getD m 0=k) && P m):=fun k=>by
   unfold andP;congr 1;rw [Bool.eq_iff_iff,class_at,decide_eq_true_iff];exact ⟨fun h=>h.2,fun h=>⟨y40_,h⟩⟩
  rw [Zt2 (f:=fun k=>cnt (andP (memP (Z3_ c (k:Int))) P) m+if (decide (c.getD m 0=(k:Int)) && P m)=true then 1 else 0) fun k _=>by rw [X4_,d],Ya5,X4_,X4_,d,← p];cases hp:P m
  ·simp only [Bool.and_false,Bool.false_eq_true,if_false]
   rw [Zx4];omega
  ·simp only [Bool.and_true,decide_eq_true_iff,if_true]
   by_cases e:c.getD m 0=-1
   ·rw [if_pos e,Zt2 (g:=fun k=>if c.getD m 0=(k:Int) then 1 else 0) (f:=fun _=>0) (K:=K) (fun k _=>if_neg y40_),Zx4]
    omega
   ·rw [if_neg e,Ya6 e o.1,if_pos o.2]
    omega
noncomputable def Ya7 (ms:List Mat) (u:List Int):Nat:=sumTo (fun k=>rkP 4 (ms.getD k default) (memP u)) ms.length
theorem Vi4 (h:Cls ms c) {u:List Int} (m:InN c.length u):u.length≤Ya7 ms u+(Z3_ c (-1)).length:=by
 have j:=G1_ h.rng (memP u) c.length (le_refl _);rw [Y9_ m,Y9_ (J4_ h.n64 (-1)),← j];have h2:=(C0_ c.length).mono (P:=andP (memP (Z3_ c (-1))) (memP u)) (Q:=memP (Z3_ c (-1))) fun i _ d=>by unfold andP at d;rw [Bool.and_eq_true] at d;exact d.1
 have h3:sumTo (fun k=>cnt (andP (memP (Z3_ c (k:Int))) (memP u)) c.length) ms.length≤Ya7 ms u:=Za7 fun k f=>by
  have g:=rk_of (h.may k f).1;rw [(h.may k f).2] at g;have e:=g.part (P:=andP (memP (Z3_ c (k:Int))) (memP u)) (Q:=memP (Z3_ c (k:Int))) (fun i _ d=>by unfold andP at d;rw [Bool.and_eq_true] at d;exact d.1) (h.cnt_class f);rw [← e];exact g.mono fun i _ d=>by unfold andP at d;rw [Bool.and_eq_true] at d;exact d.2
 have o:cnt (andP (memP (Z3_ c (-1))) (memP u)) c.length≤cnt (memP (Z3_ c (-1))) c.length:=h2;omega
theorem A2_ (h:Cls ms c):DigP (adjU ms c):=by
 have j:=h.n64;have p:=h.many.2;refine ⟨by rw [E2_];omega,fun x=>?_⟩;have f:∀ y∈(adjU ms c).getD x [],0≤y∧y<((adjU ms c).length:Int):=fun y d=>by
  rw [E2_];rcases (Zt0 d).2 with ⟨z,g,rfl,_⟩ | ⟨k,e,rfl,_⟩<;>omega
 refine ⟨⟨?_,fun y d=>by have:=f y d;rw [E2_] at this;exact ⟨y40_,y40_⟩⟩,f⟩;by_cases m:x<c.length
 ·rw [Zg2 m]
  unfold arcsU;rw [List.pairwise_append];refine ⟨(H2_ j).1.filter _,?_,fun y d z g=>?_⟩
  ·exact y26_
  ·have o:=mem_upTo.1 (List.mem_filter.1 d).1
   obtain ⟨k,e,rfl⟩:=List.mem_map.1 g;have h2:=mem_upTo.1 (List.mem_filter.1 e).1;omega
 ·rw [Xn7 y40_]
  exact List.Pairwise.nil
theorem K5_ (h:Cls ms c):InN (adjU ms c).length (Z3_ c (-1)):=by
 have d:=J4_ h.n64 (-1);refine ⟨d.1,fun x e=>?_⟩;have:=d.2 x e;rw [E2_];omega
def StopU (ms:List Mat) (c:List Int):Prop:=∀ y∈Z3_ c (-1),∀ k,¬ Near (adjU ms c) (endsU ms c.length) k y
noncomputable def comeU (ms:List Mat) (c:List Int):List Int:=itL (adjU ms c) (Z3_ c (-1)) (adjU ms c).length
theorem Za8 (h:Cls ms c) (hs:StopU ms c):InN c.length (comeU ms c):=by
 have d:=Q2_ (A2_ h) (K5_ h) (adjU ms c).length;refine ⟨d.1,fun x e=>?_⟩;have h2:=d.2 x e;refine ⟨h2.1,Int.not_le.1 fun j=>?_⟩;rw [E2_] at h2;have hd:x∈endsU ms c.length:=mem_ends.2 ⟨(x - c.length).toNat,y40_,y40_⟩;obtain ⟨y,g,f⟩:=(K2_ (A2_ h) (adjU ms c).length _ (K5_ h)).1 ⟨x,e,hd⟩;exact hs y g _ f
theorem Xo0 (h:Cls ms c) (hs:StopU ms c):(comeU ms c).length=Ya7 ms (comeU ms c)+(Z3_ c (-1)).length:=by
 have C:=Za8 h hs;have v:=G1_ h.rng (memP (comeU ms c)) c.length (le_refl _);have B:∀ i,i<c.length→andP (memP (Z3_ c (-1))) (memP (comeU ms c)) i=memP (Z3_ c (-1)) i:=fun i _=>by
  unfold andP;cases e:memP (Z3_ c (-1)) i
  ·rfl
  ·rw [Bool.true_and,memP_iff]
   exact Zs7 (A2_ h) (K5_ h) _ _ (memP_iff.1 e)
 have w:∀ x y:Nat,x<c.length→y<c.length→memP (comeU ms c) x=true→memP (comeU ms c) y=false→¬ J3_ ms c (x:Int) (y:Int)=true:=fun x y d g h2 h3 o=>by
  have p:=P9_ (A2_ h) (K5_ h) (x:=(x:Int)) (y:=(y:Int)) (memP_iff.1 h2) (by rw [Int.toNat_natCast];exact (Zt1 d g).2 o);rw [show memP (comeU ms c) y=true from memP_iff.2 p] at h3;cases h3
 have A:∀ x k:Nat,x<c.length→k<ms.length→memP (comeU ms c) x=true→¬ roomB ms c (x:Int) (k:Int)=true:=fun x k d f h2 o=>by
  have p:=P9_ (A2_ h) (K5_ h) (x:=(x:Int)) (y:=(c.length:Int)+(k:Int)) (memP_iff.1 h2) (by rw [Int.toNat_natCast];exact (Yk1 d f).2 o);have F:=(Za8 h hs).2 _ p;omega
 rw [Y9_ C,Y9_ (J4_ h.n64 (-1)),← v,(C0_ c.length).ext B];congr 1;refine Zt2 fun k f=>?_;have m:=rk_of (h.may k f).1;rw [(h.may k f).2] at m;refine (Xq3 m (h.cnt_class f) (Y:=notP (memP (comeU ms c))) (fun i _ z=>by unfold notP;rw [z];rfl) (fun x d r j=>?_) (fun x d r j y g s u=>?_) (fun i _ _ g=>by unfold notP at g;rwa [Bool.not_eq_false'] at g)).symm
 ·have q:c.getD x 0≠(k:Int):=fun e=>by rw [class_at.2 ⟨d,e⟩] at j;cases j
  have h2:¬ rkP 4 (ms.getD k default) (insP (memP (Z3_ c (k:Int))) x)=cnt (memP (Z3_ c (k:Int))) c.length+1:=fun e=>A x k d f r ((Zs9 h d f).2 ⟨q,e⟩);have H:=m.up' (memP (Z3_ c (k:Int))) d;have I:=m.one' (memP (Z3_ c (k:Int))) d;have J:=h.cnt_class f;omega
 ·have q:c.getD x 0≠(k:Int):=fun e=>by rw [class_at.2 ⟨d,e⟩] at j;cases j
  have D:=(class_at.1 s).2;have E:memP (comeU ms c) y=false:=by unfold notP at u;rwa [Bool.not_eq_true'] at u
  have h2:¬ rkP 4 (ms.getD k default) (insP (remP (memP (Z3_ c (k:Int))) y) x)=cnt (memP (Z3_ c (k:Int))) c.length:=fun e=>w x y d g r E ((Zg1 h d g).2 ⟨k,f,D,q,e⟩);have G:=m.le_cnt (insP (remP (memP (Z3_ c (k:Int))) y) x);have c1:=M2_ g s;have c2:=A4_ d (P:=remP (memP (Z3_ c (k:Int))) y) (by unfold remP;rw [j];rfl);omega
theorem Xo1 (h:Cls ms c) (hs:StopU ms c) {c':List Int} (d:Cls ms c') (hl:c'.length=c.length):(Z3_ c (-1)).length≤(Z3_ c' (-1)).length:=by
 have e:=Xo0 h hs;have h2:=Vi4 d (u:=comeU ms c) (by rw [hl];exact Za8 h hs);omega
end
structure Several (ms:List Mat) (n:Nat):Prop where
 many:0<ms.length∧ms.length≤8
 may:∀ k,k<ms.length→chk (ms.getD k default)=0∧nN (ms.getD k default)=n
inductive ChainU (ms:List Mat) (n:Nat):Nat→List Int→Prop
 | zero:ChainU ms n 0 (List.replicate n (-1))
 | succ {k d:Nat} {c l:List Int}:ChainU ms n k c→Greedy (adjU ms c) (endsU ms c.length) (Z3_ c (-1)) d l→ChainU ms n (k+1) (V9_ c l c)
structure MaxU (ms:List Mat) (n:Nat) (c u:List Int):Prop where
 ch:∃ k,ChainU ms n k c
 stop:StopU ms c
 up:u=comeU ms c
section
variable {ms:List Mat} {n:Nat} {c u:List Int}
theorem Several.n64 (h:Several ms n):n≤64:=by
 have c:=h.may 0 h.many.1;have h2:=(Y0_ c.1).2;omega
theorem Xo2 {k:Int} (e:k≠-1):Z3_ (List.replicate n (-1)) k=[]:=by
 unfold Z3_;rw [List.filter_eq_nil_iff];intro x c;rw [List.length_replicate] at c;have d:=mem_upTo.1 c;rw [List.getD_eq_getElem?_getD,List.getElem?_replicate,if_pos y40_];simp;omega
theorem Zt3:(Z3_ (List.replicate n (-1)) (-1)).length=n:=by
 unfold Z3_;rw [List.filter_eq_self.2,List.length_replicate,Y8_];intro x c;rw [List.length_replicate] at c;have d:=mem_upTo.1 c;rw [List.getD_eq_getElem?_getD,List.getElem?_replicate,if_pos y40_];rfl
theorem Xo3 (h:Several ms n):Cls ms (List.replicate n (-1)):=by
 refine ⟨h.many,fun k c=>by rw [List.length_replicate];exact h.may k c,fun x d=>?_,fun k c=>?_⟩
 ·rw [List.length_replicate] at d
  rw [List.getD_eq_getElem?_getD,List.getElem?_replicate,if_pos d];show -1≤(-1:Int)∧(-1:Int)<_;omega
 ·rw [Xo2 y40_]
  exact Vt6 (h.may k c).1
theorem Zg4 (h:Several ms n) {k:Nat} (hc:ChainU ms n k c):Cls ms c∧c.length=n∧(Z3_ c (-1)).length+k=n:=by
 induction hc with
 | zero=>exact ⟨Xo3 h,List.length_replicate,by rw [Zt3];rfl⟩
 | succ _ hg ih =>
  obtain ⟨p,m,K,e⟩:=Yt1 hg;obtain ⟨d,h2⟩:=Xn9 ih.1 e;exact ⟨d,by rw [K3_];exact ih.2.1,by have:=ih.2.2;omega⟩
theorem W6_ {k:Nat} {c2:List Int} (h:ChainU ms n k c) (h2:ChainU ms n k c2):c=c2:=by
 induction h generalizing c2 with
 | zero=>cases h2;rfl
 | succ _ hg ih =>
  cases h2 with
  | succ hc hg2 =>
   have e:=ih hc;subst e;rw [hg.unique hg2]
theorem Vc2 (h:StopU ms c) {d:Nat} {l:List Int} (e:Greedy (adjU ms c) (endsU ms c.length) (Z3_ c (-1)) d l):False:=by
 have hl:=e.length;exact h _ e.first d (by simpa using e.near 0 y40_)
theorem Xq4 {k:Nat} (h:ChainU ms n k c):∀ {m:Nat},m<k→∃ (t l:List Int) (d:Nat),ChainU ms n m t∧Greedy (adjU ms t) (endsU ms t.length) (Z3_ t (-1)) d l:=by
 induction h with
 | zero=>intro m f;omega
 | succ hc hg ih =>
  rename_i k d c l
  intro m f;by_cases e:m=k
  ·subst e;exact ⟨c,l,d,hc,hg⟩
  ·exact ih y40_
theorem Ya8 {k m:Nat} {t:List Int} (h:ChainU ms n k c) (h2:ChainU ms n m t) (hs:StopU ms t):k≤m:=by
 rcases Nat.lt_or_ge m k with g | f
 ·obtain ⟨j,l,d,hc,e⟩:=Xq4 h g
  rw [W6_ hc h2] at e;exact (Vc2 hs e).elim
 ·exact f
theorem Yk2 {c2 j:List Int} (d:MaxU ms n c u) (h2:MaxU ms n c2 j):c=c2∧u=j:=by
 obtain ⟨k,f⟩:=d.ch;obtain ⟨m,g⟩:=h2.ch;have e:k=m:=Nat.le_antisymm (Ya8 f g h2.stop) (Ya8 g f d.stop);subst e;have h:=W6_ f g;refine ⟨h,?_⟩;rw [d.up,h2.up,h]
theorem Zg5 (h:Several ms n) (d:MaxU ms n c u):Cls ms c∧c.length=n∧InN n u∧u.length=Ya7 ms u+(Z3_ c (-1)).length∧∀ c',Cls ms c'→c'.length=n→(Z3_ c (-1)).length≤(Z3_ c' (-1)).length:=by
 obtain ⟨k,g⟩:=d.ch;obtain ⟨e,h2,_⟩:=Zg4 h g;refine ⟨e,h2,?_,?_,fun c' f hl=>Xo1 e d.stop f (hl.trans h2.symm)⟩
 ·rw [d.up,← h2]
  exact Za8 e d.stop
 ·rw [d.up]
  exact Xo0 e d.stop
end
open Go Go.RowKit
section
variable {adj adj':List (List Int)} {dst S S' src:List Int}
theorem Ya9:∀ {l:List Int} {x:Int},(∀ i,i+1<(x :: l).length→(x :: l).getD (i+1) 0∈adj.getD ((x :: l).getD i 0).toNat [])→(x :: l).getD l.length 0∈dst→Near adj dst l.length x
 | [],x,_,h=>h
 | y :: l,x,ha,h=>by
  have h1:=ha 0 k40_;refine .inr ⟨y,z50_,Ya9 (l:=l) (x:=y) (fun i hi=>?_) k44_⟩;have:=ha (i+1) y48_;simpa using this
theorem Xq5 (o:∀ x,∀ y∈adj'.getD x [],y∈adj.getD x []) {m:Nat} {l:List Int} (e:Greedy adj dst S m l):∀ {S':List Int},(∀ y∈S',y∈S)→l.getD 0 0∈S'→(∀ i,i+1<l.length→l.getD (i+1) 0∈adj'.getD (l.getD i 0).toNat [])→Greedy adj' dst S' m l:=by
 have p:∀ k x,Near adj' dst k x→Near adj dst k x:=by
  intro k
  induction k with
  | zero=>exact fun x h=>h
  | succ k ih =>
   rintro x (h | ⟨y,c,h⟩)
   ·exact .inl (ih x h)
   ·exact .inr ⟨y,o _ _ c,ih y h⟩
 induction e with
 | stop S x hx hd hl =>
  intro S' d h0 _;exact .stop _ _ y50_ hd fun y c f=>hl y (d y c) f
 | step S x n l hx hn hno hl e ih =>
  intro S' d h0 ha;have j:=e.length;have q:=e.last;have r:∀ i,i+1<l.length→l.getD (i+1) 0∈adj'.getD (l.getD i 0).toNat []:=fun i hi=>by
   have:=ha (i+1) y48_;simpa using this
  have g:=ha 0 x41_;rw [List.getD_cons_zero,List.getD_cons_succ] at g;refine .step _ _ _ _ y50_ ?_ (fun y c h=>hno y (d y c) (p _ _ h)) (fun y c f h=>hl y (d y c) f (p _ _ h)) (ih (fun y c=>o _ _ c) g r);have:=Ya9 (adj:=adj') (dst:=dst) (l:=l) (x:=x) ha (by rw [j,List.getD_cons_succ];exact q)
  rwa [j] at this
theorem Zg6 (hd:DigP adj) (hs:PtsP adj.length src) {P:Int→Prop} (c:∀ x∈src,P x) (hc:∀ x,P x→∀ y∈adj.getD x.toNat [],P y):∀ k,∀ x∈itL adj src k,P x
 | 0=>c
 | k+1=>fun x d=>by
  rcases ((B0_ hd (Q2_ hd hs k)).2 x).1 d with h | ⟨y,e,h⟩
  ·exact Zg6 hd hs c hc k x h
  ·exact hc y (Zg6 hd hs c hc k y e) x h
theorem W7_ (hd:DigP adj) (hs:PtsP adj.length src) {k:Nat}:∀ (j:Nat) {z:Int},z∈itL adj src j→Near adj dst k z→∃ y∈src,Near adj dst (j+k) y
 | 0,z,hz,hn=>⟨z,hz,by rwa [Nat.zero_add]⟩
 | j+1,z,hz,hn=>by
  rcases ((B0_ hd (Q2_ hd hs j)).2 z).1 hz with h | ⟨y,c,h⟩
  ·obtain ⟨y,c,d⟩:=W7_ hd hs j h hn
   exact ⟨y,c,C4_ y40_ d⟩
  ·obtain ⟨f,e,d⟩:=W7_ (k:=k+1) hd hs j c (.inr ⟨z,h,hn⟩)
   exact ⟨f,e,by rwa [show j+1+k=j+(k+1) by omega]⟩
theorem Yt2 (hd:DigP adj) (hs:PtsP adj.length src) {x:Int} {j:Nat}:∀ {k:Nat},j≤k→x∈itL adj src j→x∈itL adj src k
 | 0,h,hx=>by rw [show j=0 by omega] at hx;exact hx
 | k+1,h,hx=>by
  by_cases e:j=k+1
  ·rw [← e];exact hx
  ·exact Ys9 hd hs k _ (Yt2 hd hs (k:=k) y40_ hx)
end
section
variable {ms:List Mat} {c:List Int}
noncomputable def lev (ms:List Mat) (c:List Int) (k:Nat):List Int:=itL (adjU ms c) (Z3_ c (-1)) k
noncomputable def rowU (ms:List Mat) (c:List Int) (k:Nat) (x:Int):List Int:=(upTo c.length).filter fun y=>!memP (lev ms c k) y.toNat && J3_ ms c x y
noncomputable def A3_ (ms:List Mat) (c:List Int) (x:Int):List Int:=((upTo ms.length).filter fun k=>roomB ms c x k).map fun k=>(c.length:Int)+k
def Lev (ms:List Mat) (c:List Int) (k:Nat) (x:Int):Prop:=x∈lev ms c k∧∀ j,j<k→x∉lev ms c j
theorem lev_ex {k:Nat} {x:Int} (h:x∈lev ms c k):∃ j,j≤k∧Lev ms c j x:=by
 induction k with
 | zero=>exact ⟨0,le_refl _,h,fun j d=>absurd d (Nat.not_lt_zero j)⟩
 | succ k ih =>
  by_cases h2:x∈lev ms c k
  ·obtain ⟨j,d,hl⟩:=ih h2
   exact ⟨j,y40_,hl⟩
  ·by_cases h3:∃ j,j<k+1∧x∈lev ms c j
   ·obtain ⟨j,d,e⟩:=h3
    have:∀ m,m≤j→x∈lev ms c m→∃ i,i≤m∧Lev ms c i x:=by
     intro m
     induction m using Nat.strongRecOn with
     | ind m ihm =>
      intro r e;by_cases o:∃ i,i<m∧x∈lev ms c i
      ·obtain ⟨i,f,g⟩:=o
       obtain ⟨p,q,hl⟩:=ihm i f y40_ g;exact ⟨p,y40_,hl⟩
      ·exact ⟨m,le_refl _,e,fun i f g=>o ⟨i,f,g⟩⟩
    obtain ⟨i,f,hl⟩:=this j (le_refl _) e;exact ⟨i,y40_,hl⟩
   ·exact ⟨k+1,le_refl _,h,fun j d e=>h3 ⟨j,d,e⟩⟩
section
theorem H8_ (h:Cls ms c) (k:Nat):InN (adjU ms c).length (lev ms c k):=Q2_ (A2_ h) (K5_ h) k
theorem W8_ (h:Cls ms c) {j k:Nat} (d:j≤k) {x:Int} (e:x∈lev ms c j):x∈lev ms c k:=Yt2 (A2_ h) (K5_ h) d e
theorem Zt4 (h:Cls ms c) {k:Nat} {x y:Int} (d:x∈lev ms c k) (e:y∈(adjU ms c).getD x.toNat []):y∈lev ms c (k+1):=((B0_ (A2_ h) (H8_ h k)).2 y).2 (.inr ⟨x,d,e⟩)
theorem Yt3 (h:Cls ms c) {k:Nat} {y:Int} (f:Lev ms c (k+1) y):∃ x,Lev ms c k x∧y∈(adjU ms c).getD x.toNat []:=by
 rcases ((B0_ (A2_ h) (H8_ h k)).2 y).1 f.1 with d | ⟨x,d,ha⟩
 ·exact absurd d (f.2 k y40_)
 ·obtain ⟨j,g,hl⟩:=lev_ex d
  by_cases e:j=k
  ·subst e;exact ⟨x,hl,ha⟩
  ·exact absurd (Zt4 h hl.1 ha) (f.2 (j+1) y40_)
def E7_ (ms:List Mat) (c:List Int) (r:Nat):Prop:=∀ x∈lev ms c r,A3_ ms c x=[]
theorem W9_ {x:Nat} (d:x<c.length) {z:Int}:z∈(adjU ms c).getD x []↔z∈(upTo c.length).filter (fun y=>J3_ ms c (x:Int) y)∨z∈A3_ ms c (x:Int):=by
 rw [Zg2 d];unfold arcsU;rw [List.mem_append];rfl
theorem Zz0 (h:Cls ms c) {r:Nat} (j:∀ k,k<r→E7_ ms c k):∀ x∈lev ms c r,0≤x∧x<(c.length:Int):=by
 induction r with
 | zero=>exact fun x d=>(J4_ h.n64 (-1)).2 x d
 | succ r g =>
  intro y m;have g:=g fun k o=>j k y40_;rcases ((B0_ (A2_ h) (H8_ h r)).2 y).1 m with d | ⟨x,d,ha⟩
  ·exact g y d
  ·have p:=g x d
   have e:((x.toNat:Nat):Int)=x:=y40_;rcases (W9_ y40_).1 ha with f | f
   ·exact mem_upTo.1 (List.mem_filter.1 f).1
   ·rw [e,j r y40_ x d] at f
    cases f
end
structure Part (ms:List Mat) (c:List Int) (r:Nat) (adj:List (List Int)):Prop where
 len:adj.length=c.length+ms.length
 on:∀ x:Nat,∀ k,k<r→Lev ms c k (x:Int)→adj.getD x []=rowU ms c k (x:Int)
 off:∀ x:Nat,(∀ k,k<r→¬ Lev ms c k (x:Int))→adj.getD x []=[]
section
variable {r:Nat} {adj:List (List Int)}
theorem Part.start:Part ms c 0 (List.replicate (c.length+ms.length) []):=⟨List.length_replicate,fun _ _ d=>absurd d (Nat.not_lt_zero _),fun x _=>by
 rw [List.getD_eq_getElem?_getD,List.getElem?_replicate];split<;>rfl⟩
theorem Vs6 {k:Nat} {x:Nat} (e:x<c.length):∀ y∈rowU ms c k (x:Int),y∈(adjU ms c).getD x []:=fun y d=>by
 unfold rowU at d;rw [List.mem_filter,Bool.and_eq_true] at d;exact (W9_ e).2 (.inl (List.mem_filter.2 ⟨d.1,d.2.2⟩))
theorem Part.sub (h:Cls ms c) (m:∀ k,k<r→E7_ ms c k) (f:Part ms c r adj):∀ x,∀ y∈adj.getD x [],y∈(adjU ms c).getD x []:=fun x y d=>by
 by_cases g:∃ k,k<r∧Lev ms c k (x:Int)
 ·obtain ⟨k,e,hl⟩:=g
  have p:=Zz0 h (r:=k) (fun j o=>m j y40_) _ hl.1;rw [f.on x k e hl] at d;exact Vs6 y40_ y d
 ·rw [f.off x fun k e hl=>g ⟨k,e,hl⟩] at d
  cases d
theorem Vi5 (h:Cls ms c) (k:Nat) (x:Int):InN c.length (rowU ms c k x):=by
 have e:=H2_ h.n64;unfold rowU;exact ⟨⟨e.1.filter _,fun y d=>e.2 y (List.mem_filter.1 d).1⟩,fun y d=>mem_upTo.1 (List.mem_filter.1 d).1⟩
theorem Part.dig (h:Cls ms c) (d:Part ms c r adj):DigP adj:=by
 have j:=h.n64;have m:=h.many.2;refine ⟨by rw [d.len];omega,fun x=>?_⟩;by_cases g:∃ k,k<r∧Lev ms c k (x:Int)
 ·obtain ⟨k,e,hl⟩:=g
  rw [d.on x k e hl,d.len];have:=Vi5 h k (x:Int);exact ⟨this.1,fun y f=>by have:=this.2 y f;omega⟩
 ·rw [d.off x fun k e hl=>g ⟨k,e,hl⟩]
  exact ⟨J0_,fun y f=>by cases f⟩
theorem Part.come (h:Cls ms c) (m:∀ k,k<r→E7_ ms c k) (g:Part ms c r adj):itL adj (Z3_ c (-1)) adj.length=lev ms c r:=by
 have hd:=g.dig h;have o:InN adj.length (Z3_ c (-1)):=by have:=K5_ h;rwa [E2_,← g.len] at this
 have v:=Q2_ hd o adj.length;have h2:=H8_ h r;refine v.1.ext h2.1 fun y=>⟨fun d=>?_,fun d=>?_⟩
 ·refine Zg6 hd o (P:=fun y=>y∈lev ms c r) (fun x f=>W8_ h (Nat.zero_le _) f) (fun x f y d=>?_) _ y d
  by_cases s:∃ k,k<r∧Lev ms c k ((x.toNat:Nat):Int)
  ·obtain ⟨k,p,hl⟩:=s
   have hs:=g.sub h m _ y d;have:=Zt4 h hl.1 (y:=y) (by rw [Int.toNat_natCast];exact hs);exact W8_ h y40_ this
  ·rw [g.off x.toNat fun k p hl=>s ⟨k,p,hl⟩] at d
   cases d
 ·have:∀ k,k≤r→∀ y,y∈lev ms c k→y∈itL adj (Z3_ c (-1)) adj.length:=by
   intro k
   induction k with
   | zero=>exact fun _ y d=>Zs7 hd o _ _ d
   | succ k ih =>
    intro p y d;obtain ⟨j,z,hl⟩:=lev_ex d;by_cases e:j=k+1
    ·subst e
     obtain ⟨x,f,ha⟩:=Yt3 h hl;have A:=Zz0 h (r:=k) (fun i w=>m i y40_) x f.1;have B:=Zz0 h (r:=k+1) (fun i w=>m i y40_) y hl.1;have q:((x.toNat:Nat):Int)=x:=y40_;have u:((y.toNat:Nat):Int)=y:=y40_;refine P9_ hd o (ih y40_ x f.1) ?_;rw [g.on x.toNat k y40_ (by rw [q];exact f)];unfold rowU;rw [List.mem_filter,Bool.and_eq_true,Bool.not_eq_true',← Bool.not_eq_true,memP_iff,u];rcases (W9_ y40_).1 ha with h3 | h3
     ·exact ⟨(List.mem_filter.1 h3).1,hl.2 k y40_,(List.mem_filter.1 h3).2⟩
     ·rw [q,m k y40_ x f.1] at h3
      cases h3
    ·exact ih y40_ y (W8_ h y40_ hl.1)
  exact this r (le_refl _) y d
end
structure Roomed (ms:List Mat) (c:List Int) (r:Nat) (adj adj2:List (List Int)):Prop where
 len:adj2.length=adj.length
 on:∀ x:Nat,Lev ms c r (x:Int)→adj2.getD x []=A3_ ms c (x:Int)∨(adj2.getD x []=[]∧r=0∧∃ y:Nat,y<x∧Lev ms c 0 (y:Int)∧A3_ ms c (y:Int)≠[])
 off:∀ x:Nat,¬ Lev ms c r (x:Int)→adj2.getD x []=adj.getD x []
theorem Xo4 {j k:Nat} {x:Int} (d:Lev ms c j x) (h2:Lev ms c k x):j=k:=by
 rcases Nat.lt_trichotomy j k with h | h | h
 ·exact absurd d.1 (h2.2 j h)
 ·exact h
 ·exact absurd h2.1 (d.2 k h)
theorem Yb0 {adj:List (List Int)} {dst S:List Int} {m:Nat} {x:Int} {l:List Int} (c:Greedy adj dst S m (x :: l)):∀ y∈S,y<x→¬ Near adj dst m y:=by
 cases c with
 | stop _ _ _ _ hl=>exact hl
 | step _ _ _ _ _ _ _ hl _=>exact hl
section
variable {r:Nat} {adj adj2:List (List Int)}
theorem Yt4 {x:Int} {z:Int} (f:z∈A3_ ms c x):∃ k:Nat,k<ms.length∧z=(c.length:Int)+(k:Int)∧roomB ms c x (k:Int)=true:=by
 unfold A3_ at f;obtain ⟨k,d,rfl⟩:=List.mem_map.1 f;rw [List.mem_filter,mem_upTo] at d;have e:((k.toNat:Nat):Int)=k:=y40_;exact ⟨k.toNat,y40_,by rw [e],by rw [e];exact d.2⟩
theorem Roomed.sub (h:Cls ms c) (g:∀ k,k<r→E7_ ms c k) (m:Part ms c r adj) (j:Roomed ms c r adj adj2):∀ x,∀ y∈adj2.getD x [],y∈(adjU ms c).getD x []:=fun x y d=>by
 by_cases f:Lev ms c r (x:Int)
 ·have o:=Zz0 h g _ f.1
  rcases j.on x f with e | ⟨e,_,_⟩
  ·rw [e] at d
   exact (W9_ y40_).2 (.inr d)
  ·rw [e] at d;cases d
 ·rw [j.off x f] at d
  exact m.sub h g x y d
theorem Roomed.dig (h:Cls ms c) (f:Part ms c r adj) (d:Roomed ms c r adj adj2):DigP adj2:=by
 have hd:=f.dig h;refine ⟨by rw [d.len];exact hd.1,fun x=>?_⟩;rw [d.len];by_cases m:Lev ms c r (x:Int)
 ·rcases d.on x m with e | ⟨e,_,_⟩
  ·rw [e]
   have q:=h.many.2;have p:=h.n64;have j:∀ z∈A3_ ms c (x:Int),0≤z∧z<(adj.length:Int):=fun z g=>by
    obtain ⟨k,s,rfl,_⟩:=Yt4 g;rw [f.len];omega
   refine ⟨⟨?_,fun z g=>by have:=j z g;rw [f.len] at this;exact ⟨y40_,y40_⟩⟩,j⟩;unfold A3_;exact y26_
  ·rw [e];exact ⟨J0_,fun y o=>by cases o⟩
 ·rw [d.off x m]
  exact hd.2 x
theorem Roomed.way (h:Cls ms c) (o:∀ k,k<r→E7_ ms c k) (I:Part ms c r adj) (D:Roomed ms c r adj adj2) (V:∃ x:Nat,Lev ms c r (x:Int)∧A3_ ms c (x:Int)≠[]):∃ d l,Greedy (adjU ms c) (endsU ms c.length) (Z3_ c (-1)) d l∧Greedy adj2 (endsU ms c.length) (Z3_ c (-1)) d l:=by
 have hd:=A2_ h;have hs:=K5_ h;have M:∀ x:Nat,x<c.length→A3_ ms c (x:Int)≠[]→Near (adjU ms c) (endsU ms c.length) 1 (x:Int):=fun x J C=>by
  obtain ⟨z,L⟩:=List.exists_mem_of_ne_nil _ C;obtain ⟨k,R,e,_⟩:=Yt4 L;exact .inr ⟨z,by rw [Int.toNat_natCast];exact (W9_ J).2 (.inr L),mem_ends.2 ⟨k,R,e⟩⟩
 obtain ⟨x,F,C⟩:=V;have J:=Zz0 h o _ F.1;obtain ⟨y,A,H⟩:=W7_ hd hs r F.1 (M x y40_ C);obtain ⟨d,a,l,f⟩:∃ n x l,Greedy (adjU ms c) (endsU ms c.length) (Z3_ c (-1)) n (x :: l):=(Ya3 (dst:=endsU ms c.length) hd hs).resolve_right fun o=>o y A _ H;have Y:d≤r+1:=Nat.not_lt.1 fun w=>f.none y A (r+1) w H;obtain ⟨p,m,K,hw⟩:=Yt1 f;have x0:=f.length;have x1:=hw.len;have Q:d=m+1:=y40_;have E:∀ i,i≤m→(p i:Int)∈lev ms c i:=by
  intro i
  induction i with
  | zero =>
   intro g;have:=f.first;rw [(hw.el 0 g).2] at this;exact this
  | succ i ih =>
   intro g;have P:=hw.el i y40_;refine Zt4 h (ih y40_) ?_;rw [Int.toNat_natCast];exact (Zt1 P.1 (hw.el (i+1) g).1).2 (hw.arc i y40_)
 have S:m=r:=by
  refine Nat.le_antisymm y40_ (Nat.not_lt.1 fun w=>?_);have s:=o m w _ (E m (le_refl _));have:(c.length:Int)+(K:Int)∈A3_ ms c (p m:Int):=x22_;rw [s] at this;cases this
 subst S;have u:∀ i,i≤m→Lev ms c i (p i:Int):=fun i g=>⟨E i g,fun j Z W=>by
  have s:=f.near i y40_;rw [(hw.el i g).2] at s;obtain ⟨B,X,T⟩:=W7_ hd hs j W s;exact f.none B X _ y40_ T⟩
 refine ⟨d,a :: l,f,Xq5 (D.sub h o I) f (fun _ A=>A) f.first fun i g=>?_⟩;by_cases v:i<m
 ·have q:=hw.el i y40_
  have O:=hw.el (i+1) y40_;rw [q.2,O.2,Int.toNat_natCast,D.off (p i) fun hl=>by have:=Xo4 hl (u i y40_);omega,I.on (p i) i v (u i y40_)];unfold rowU;rw [List.mem_filter,Bool.and_eq_true,Bool.not_eq_true',← Bool.not_eq_true,memP_iff,Int.toNat_natCast];exact ⟨mem_upTo.2 ⟨y40_,y40_⟩,(u (i+1) y40_).2 i y40_,hw.arc i v⟩
 ·have v:i=m:=by omega
  subst v;have q:=hw.el i (le_refl _);rw [q.2,hw.pt,Int.toNat_natCast];rcases D.on (p i) (u i (le_refl _)) with e | ⟨_,N,B,w,G,U⟩
  ·rw [e]
   exact x22_
  ·subst N
   have ha:a=(p 0:Int):=by simpa using q.2
   have x2:=Zz0 h (r:=0) o _ G.1;have:=Yb0 f (B:Int) G.1 y40_;rw [Q] at this;exact absurd (M B y40_ U) this
theorem Roomed.none (h:Cls ms c) (o:∀ k,k<r→E7_ ms c k) (p:Part ms c r adj) (q:Roomed ms c r adj adj2) (s:∀ x:Nat,Lev ms c r (x:Int)→A3_ ms c (x:Int)=[]):E7_ ms c r∧∀ k,∀ y∈Z3_ c (-1),¬ Near adj2 (endsU ms c.length) k y:=by
 have v:∀ k,k<r+1→E7_ ms c k:=fun k f x B=>by
  obtain ⟨j,D,hl⟩:=lev_ex B;by_cases e:j<r
  ·exact o j e x hl.1
  ·have u:j=r:=by omega
   subst u;have E:=Zz0 h o _ hl.1;have m:((x.toNat:Nat):Int)=x:=y40_;have:=s x.toNat (by rw [m];exact hl)
   rwa [m] at this
 refine ⟨v r y40_,?_⟩;have A:∀ x y,y∈adj2.getD x []→y<(c.length:Int):=fun x y d=>by
  by_cases hl:Lev ms c r (x:Int)
  ·rcases q.on x hl with e | ⟨e,_,_⟩
   ·rw [e,s x hl] at d;cases d
   ·rw [e] at d;cases d
  ·rw [q.off x hl] at d
   by_cases f:∃ k,k<r∧Lev ms c k (x:Int)
   ·obtain ⟨k,f,hl⟩:=f
    rw [p.on x k f hl] at d;exact ((Vi5 h k (x:Int)).2 y d).2
   ·rw [p.off x fun k w hl=>f ⟨k,w,hl⟩] at d
    cases d
 have:∀ k y,y<(c.length:Int)→¬ Near adj2 (endsU ms c.length) k y:=by
  intro k
  induction k with
  | zero=>exact fun y d g=>by obtain ⟨k,_,e⟩:=mem_ends.1 g;omega
  | succ k ih =>
   rintro y d (g | ⟨z,C,g⟩)
   ·exact ih y d g
   ·exact ih z (A _ z C) g
 exact fun k y d=>this k y ((J4_ h.n64 (-1)).2 y d).2
end
theorem Yt5 (h:Cls ms c) {r:Nat} (G:(lev ms c (r+1)).length=(lev ms c r).length) (A:∀ k,k<r+1→E7_ ms c k):comeU ms c=lev ms c r∧StopU ms c:=by
 have hd:=A2_ h;have hs:=K5_ h;have e:lev ms c (r+1)=lev ms c r:=by
  have u:=H8_ h r;have g:=H8_ h (r+1);refine g.1.ext u.1 fun y=>⟨fun d=>?_,fun d=>W8_ h (Nat.le_succ r) d⟩;refine Classical.byContradiction fun o=>?_;obtain ⟨j,rfl⟩:∃ j:Nat,y=(j:Int):=⟨y.toNat,by have:=g.2 y d;omega⟩;have H:=g.2 _ d;have x:=Yy9 (p:=memP (lev ms c r)) (q:=memP (lev ms c (r+1))) (n:=(adjU ms c).length) (fun v _ B=>memP_iff.2 (W8_ h (Nat.le_succ r) (memP_iff.1 B))) ⟨j,y40_,by rw [← Bool.not_eq_true,memP_iff];exact o,memP_iff.2 d⟩;rw [← Y9_ u,← Y9_ g] at x;omega
 have s:∀ m,lev ms c (r+m)=lev ms c r:=Za6 e;have w:comeU ms c=lev ms c r:=by
  have f:=Yk0 hd hs r;rw [show (adjU ms c).length+r=r+(adjU ms c).length by omega] at f;have h2:=s (adjU ms c).length;unfold lev at h2;unfold comeU lev;rw [← f,h2]
 refine ⟨w,fun y d k o=>?_⟩;obtain ⟨z,C,E⟩:=(K2_ (dst:=endsU ms c.length) hd k _ hs).2 ⟨y,d,o⟩;have D:z∈lev ms c r:=by
  have f:z∈lev ms c (r+k):=W8_ h y40_ C
  rwa [s k] at f
 have:=Zz0 h (r:=r) (fun k I=>A k y40_) z D;obtain ⟨J,_,F⟩:=mem_ends.1 E;omega
end
end Go.Proofs.YtigobiacbficaaaGreatDoor.Wp
