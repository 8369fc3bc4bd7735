/- Bases and circuits, plain: a circuit and one of the dual never have just one element in common. What is exchanged along a shortest way, and what a set without a way bounds, plain: of ranks alone. The least of the shortest ways, step by step; what each of its points is: plain. Nothing of the program here. What is exchanged in two matroids, as lists: turned along a shortest way a common set is one of one more; where there is none, what is come to bounds it; plain. -/
import Derived.Test.YtigobiacbficaaaGreatDoorZI
import Derived.Test.YtigobiacbficaaaGreatDoorZA
import Derived.Test.YtigobiacbficaaaGreatDoorX0A
namespace Go.Proofs.YtigobiacbficaaaGreatDoor.Wp
open Go Go.RowKit
def remP (P:Nat→Bool) (y:Nat):Nat→Bool:=fun i=>P i && !(i==y)
theorem O6_ (P:Nat→Bool) (y:Nat):remP P y y=false:=by simp [remP]
theorem T3_ {P:Nat→Bool} {y i:Nat} (h:i≠y):remP P y i=P i:=by simp [remP,h]
theorem Vc0 {P:Nat→Bool} {y:Nat} (h:P y=true):insP (remP P y) y=P:=by
 funext i
 by_cases e:i=y
 ·rw [e,V0_,h]
 ·rw [X8_ e,T3_ e]
theorem M2_ {n:Nat} {P:Nat→Bool} {y:Nat} (c:y<n) (h:P y=true):cnt (remP P y) n+1=cnt P n:=by
 have:=A4_ c (O6_ P y);rw [Vc0 h] at this;omega
section
variable {n:Nat} {f:(Nat→Bool)→Nat}
theorem Rk.part (h:Rk n f) {P Q:Nat→Bool} (hs:∀ i,i<n→P i=true→Q i=true) (j:f Q=cnt Q n):f P=cnt P n:=by
 have c:=h.submod P (fun i=>Q i && !P i);have h2:=h.le_cnt (fun i=>Q i && !P i);have h3:=h.le_cnt P;have e:∀ i,i<n→orP P (fun i=>Q i && !P i) i=Q i:=fun i g=>by
  unfold orP;cases e1:P i
  ·simp [e1]
  ·simp [hs i g e1]
 rw [h.ext e] at c;have d:=Vi6 P (fun i=>Q i && !P i) n;rw [I3_ e,I3_ (P:=andP P (fun i=>Q i && !P i)) (Q:=noneP) (fun i _=>by simp only [andP,noneP];cases P i<;>simp),F9_] at d;omega
end
theorem Zs6 {m:Mat} {s:List Int} (h:indT m s=true):mayI m s=true:=by
 cases hm:mayI m s
 ·unfold indT rankT at h
  rw [hm,if_neg q41_,decide_eq_true_iff] at h;omega
 ·rfl
open Go Go.RowKit
section
variable {n:Nat} {f:(Nat→Bool)→Nat}
def exch (S:Nat→Bool):List (Nat × Nat)→Nat→Bool
 | []=>S
 | (y,x) :: r=>insP (remP (exch S r) y) x
theorem Za5 {S:Nat→Bool}:∀ {r:List (Nat × Nat)},(∀ p∈r,S p.1=true∧S p.2=false)→∀ i,exch S r i=true↔(S i=true∧i∉r.map (·.1))∨i∈r.map (·.2)
 | [],_,i=>by simp [exch]
 | (y,x) :: r,h,i=>by
  have m:=Za5 (S:=S) (r:=r) (fun p g=>h p (by simp [g])) i;have k:=h (y,x) k40_;have j:i∈r.map (·.2)→S i=false:=fun f=>by
   obtain ⟨p,g,rfl⟩:=List.mem_map.1 f;exact (h p (by simp [g])).2
  rw [exch];by_cases e:i=x
  ·rw [e,V0_]
   simp
  ·rw [X8_ e]
   by_cases c:i=y
   ·rw [c,O6_]
    have d:y∉r.map (·.2):=fun f=>by rw [c] at j;have:=j f;rw [k.1] at this;cases this
    constructor
    ·intro h;cases h
    ·rintro (⟨_,h2⟩ | h2)
     ·exact absurd k40_ h2
     ·rw [List.map_cons,List.mem_cons] at h2
      rcases h2 with h2 | h2
      ·exact absurd (c.trans h2) e
      ·exact absurd h2 d
   ·rw [T3_ c,m,List.map_cons,List.map_cons,List.mem_cons,List.mem_cons]
    constructor
    ·rintro (⟨d,h2⟩ | h2)
     ·exact .inl ⟨d,fun h3=>h3.elim c h2⟩
     ·exact .inr (.inr h2)
    ·rintro (⟨d,h2⟩ | h2)
     ·exact .inl ⟨d,fun h3=>h2 (.inr h3)⟩
     ·exact .inr (h2.resolve_left e)
theorem Zf6 (h:Rk n f) {S:Nat→Bool} (m:f S=cnt S n):∀ {r:List (Nat × Nat)},(∀ p∈r,(p.1<n∧p.2<n)∧S p.1=true∧S p.2=false)→(r.map (·.1)).Nodup→(r.map (·.2)).Nodup →
  (∀ p∈r,f (insP (remP S p.1) p.2)=cnt S n)→(r.Pairwise fun p q=>f (insP (remP S p.1) q.2)<cnt S n)→f (exch S r)=cnt S n∧cnt (exch S r) n=cnt S n
 | [],_,_,_,_,_=>⟨m,rfl⟩
 | (y,x) :: r,c,hn1,hn2,hc,hd=>by
  have j:=c (y,x) k40_;have w:y<n:=j.1.1;have v:x<n:=j.1.2;have s:S y=true:=j.2.1;have E:S x=false:=j.2.2;clear j;have u:∀ p∈r,(p.1<n∧p.2<n)∧S p.1=true∧S p.2=false:=fun p h=>c p (by simp [h]);rw [List.map_cons,List.nodup_cons] at hn1 hn2;obtain ⟨G,H⟩:=List.pairwise_cons.1 hd;obtain ⟨K,L⟩:=Zf6 h m u hn1.2 hn2.2 (fun p h=>hc p (by simp [h])) H;have o:=Za5 (S:=S) (r:=r) fun p h=>(u p h).2;have D:exch S r y=true:=(o y).2 (.inl ⟨s,hn1.1⟩);have C:exch S r x=false:=by
   rw [← Bool.not_eq_true,o];rintro (⟨g,_⟩ | g)
   ·rw [E] at g;cases g
   ·exact hn2.1 g
  have M:=M2_ w D;have R:=h.part (P:=remP (exch S r) y) (Q:=exch S r) (fun i _ c=>by
   by_cases e:i=y
   ·rw [e,O6_] at c;cases c
   ·rwa [T3_ e] at c) (K.trans L.symm)
  have N:=M2_ w s;have T:=h.part (P:=remP S y) (Q:=S) (fun i _ c=>by
   by_cases e:i=y
   ·rw [e,O6_] at c;cases c
   ·rwa [T3_ e] at c) m
  have F:=h.closed (remP S y) (remP (exch S r) y) (fun z J k=>by
   have A:z≠y:=fun e=>by rw [e,O6_] at k;cases k
   rw [T3_ A] at k;rcases (o z).1 k with ⟨g,_⟩ | g
   ·rw [I2_ (by rw [T3_ A];exact g)]
   ·obtain ⟨p,I,rfl⟩:=List.mem_map.1 g
    have U:f (insP (remP S y) p.2)<cnt S n:=G p I;have V:=h.up' (remP S y) J;omega) n (Nat.le_refl _)
  rw [E0_ h] at F;have m1:f (insP (remP S y) x)=cnt S n:=hc (y,x) k40_;have m2:=h.mono (P:=insP (remP S y) x) (Q:=insP (orP (remP S y) (remP (exch S r) y)) x) fun i _ hi=>z25_;have d:=h.dim_set (P:=remP (exch S r) y) (Q:=orP (remP S y) (remP (exch S r) y)) (fun i _ hi=>by unfold orP;rw [hi];simp) v;have B:remP (exch S r) y x=false:=by
   unfold remP;rw [C];rfl
  have O:=A4_ v B;have W:=h.le_cnt (insP (remP (exch S r) y) x);rw [exch];omega
theorem Vc1 (h:Rk n f) {S:Nat→Bool} (o:f S=cnt S n) {r:List (Nat × Nat)} (j:∀ p∈r,(p.1<n∧p.2<n)∧S p.1=true∧S p.2=false) (v:(r.map (·.1)).Nodup) (w:(r.map (·.2)).Nodup)
  (hb:∀ p∈r,f (insP S p.2)=f S) (hc:∀ p∈r,f (insP (remP S p.1) p.2)=cnt S n) (hd:r.Pairwise fun p q=>f (insP (remP S p.1) q.2)<cnt S n)
  {x:Nat} (k:x<n) (s:S x=false) (A:x∉r.map (·.2)) (D:f (insP S x)=cnt S n+1):f (insP (exch S r) x)=cnt S n+1∧cnt (insP (exch S r) x) n=cnt S n+1:=by
 obtain ⟨E,F⟩:=Zf6 h o j v w hc hd;have g:=Za5 (S:=S) (r:=r) fun p h=>(j p h).2;have m:exch S r x=false:=by
  rw [← Bool.not_eq_true,g];rintro (⟨c,_⟩ | c)
  ·rw [s] at c;cases c
  ·exact A c
 have u:=h.closed S (exch S r) (fun z _ B=>by
  rcases (g z).1 B with ⟨c,_⟩ | c
  ·rw [I2_ c]
  ·obtain ⟨p,y,rfl⟩:=List.mem_map.1 c
   exact hb p y) n (Nat.le_refl _)
 rw [E0_ h] at u;have m2:=h.mono (P:=insP S x) (Q:=insP (orP S (exch S r)) x) fun i _ hi=>z25_;have d:=h.dim_set (P:=exch S r) (Q:=orP S (exch S r)) (fun i _ hi=>by unfold orP;rw [hi];simp) k;have C:=A4_ k m;have G:=h.le_cnt (insP (exch S r) x);omega
structure Zig (n:Nat) (S:Nat→Bool) (p:Nat→Nat) (k:Nat):Prop where
 lt:∀ i,i≤2 * k→p i<n
 inj:∀ i j,i≤2 * k→j≤2 * k→p i=p j→i=j
 out:∀ i,i≤k→S (p (2 * i))=false
 V3_:∀ i,i<k→S (p (2 * i+1))=true
def pairs (p:Nat→Nat) (k:Nat):List (Nat × Nat):=(List.range k).map fun i=>(p (2 * i+1),p (2 * i+2))
structure Straight (n:Nat) (f:(Nat→Bool)→Nat) (S:Nat→Bool) (p:Nat→Nat) (k:Nat):Prop where
 start:f (insP S (p 0))=cnt S n+1
 noStart:∀ i,i<k→f (insP S (p (2 * i+2)))=f S
 arc:∀ i,i<k→f (insP (remP S (p (2 * i+1))) (p (2 * i+2)))=cnt S n
 noArc:∀ i j,i<j→j<k→f (insP (remP S (p (2 * i+1))) (p (2 * j+2)))<cnt S n
def cutP (S Y:Nat→Bool) (k:Nat):Nat→Bool:=fun i=>S i && !(decide (i<k) && Y i)
theorem Ys7 (h:Rk n f) {S Y:Nat→Bool} (p:f S=cnt S n) {x:Nat} (m:x<n) (o:f (insP S x)=f S) (q:∀ y,y<n→S y=true→Y y=true→f (insP (remP S y) x)<cnt S n) :
  ∀ k,k≤n→f (insP (cutP S Y k) x)=f (cutP S Y k)
 | 0,_=>by
  have e:cutP S Y 0=S:=by funext i;simp [cutP]
  rw [e,o]
 | k+1,hk=>by
  have z:=Ys7 h p m o q k y40_;by_cases d:S k=true∧Y k=true
  ·have g:cutP S Y (k+1)=remP (cutP S Y k) k:=by
    funext i
    unfold cutP remP;by_cases e:i=k
    ·subst e;simp [d.2]
    ·rw [show decide (i<k+1)=decide (i<k) from decide_eq_decide.2 y40_]
     simp [e]
   have r:cutP S Y k k=true:=by simp [cutP,d.1]
   have u:cutP S Y (k+1)=andP (cutP S Y k) (remP S k):=by
    rw [g]
    funext i
    unfold remP andP cutP;cases hs:S i<;>simp [hs]
   have v:orP (cutP S Y k) (remP S k)=S:=by
    funext i
    by_cases e:i=k
    ·subst e;unfold orP;rw [r,d.1];rfl
    ·unfold orP
     rw [T3_ e];unfold cutP;cases S i<;>simp
   have j:k<n:=y40_;have part:∀ {P:Nat→Bool},(∀ i,i<n→P i=true→S i=true)→f P=cnt P n:=fun w=>h.part w p;have E:=part (P:=cutP S Y k) fun i _ c=>by unfold cutP at c;rw [Bool.and_eq_true] at c;exact c.1
   have F:=part (P:=remP S k) fun i _ c=>by unfold remP at c;rw [Bool.and_eq_true] at c;exact c.1
   have G:=part (P:=cutP S Y (k+1)) fun i _ c=>by unfold cutP at c;rw [Bool.and_eq_true] at c;exact c.1
   have s:=M2_ j r;rw [← g] at s;have D:=M2_ j d.1;have hl:=q k j d.1 d.2;have H:=h.up' (remP S k) m;have C:=h.submod (insP (cutP S Y k) x) (insP (remP S k) x);have A:orP (insP (cutP S Y k) x) (insP (remP S k) x)=insP S x:=by
    funext i
    have e:=congrFun v i;simp only [orP] at e;simp only [orP,insP];cases i==x
    ·simpa using e
    ·simp
   have B:andP (insP (cutP S Y k) x) (insP (remP S k) x)=insP (cutP S Y (k+1)) x:=by
    funext i
    have e:=congrFun u i;simp only [andP] at e;simp only [andP,insP];cases i==x
    ·simpa using e.symm
    ·simp
   rw [A,B] at C;have I:=h.up' (cutP S Y (k+1)) m;omega
  ·have g:cutP S Y (k+1)=cutP S Y k:=by
    funext i
    unfold cutP;by_cases e:i=k
    ·subst e
     cases hs:S i
     ·rfl
     ·cases hy:Y i
      ·simp
      ·exact absurd ⟨hs,hy⟩ d
    ·rw [show decide (i<k+1)=decide (i<k) from decide_eq_decide.2 y40_]
   rw [g];exact z
theorem Xq3 (h:Rk n f) {S Y W:Nat→Bool} (m:f S=cnt S n) (q:∀ i,i<n→W i=true→Y i=false) (p:∀ x,x<n→W x=true→S x=false→f (insP S x)=f S)
  (r:∀ x,x<n→W x=true→S x=false→∀ y,y<n→S y=true→Y y=true→f (insP (remP S y) x)<cnt S n) (s:∀ i,i<n→S i=true→Y i=false→W i=true) :
  f W=cnt (andP S W) n:=by
 have e:∀ i,i<n→cutP S Y n i=andP S W i:=fun i c=>by
  unfold cutP andP;rw [decide_eq_true c,Bool.true_and];cases hs:S i
  ·rfl
  ·cases hy:Y i
   ·rw [s i c hs hy];rfl
   ·cases g:W i
    ·rfl
    ·rw [q i c g] at hy;cases hy
 have u:=h.part (P:=andP S W) (Q:=S) (fun i _ c=>by unfold andP at c;rw [Bool.and_eq_true] at c;exact c.1) m;have o:=h.closed (andP S W) W (fun x j g=>by
  cases hs:S x
  ·have k:=Ys7 h m j (p x j g hs) (r x j g hs) n (Nat.le_refl _)
   rw [h.ext (P:=cutP S Y n) (Q:=andP S W) e,h.ext (P:=insP (cutP S Y n) x) (Q:=insP (andP S W) x) fun i c=>by
    by_cases d:i=x
    ·rw [d,V0_,V0_]
    ·rw [X8_ d,X8_ d,e i c]] at k
   exact k
  ·rw [I2_ (by unfold andP;rw [hs,g];rfl)]) n (Nat.le_refl _)
 rw [E0_ h] at o;have d:orP (andP S W) W=W:=by
  funext i
  unfold orP andP;cases W i<;>simp
 rw [d] at o;omega
end
def Near (adj:List (List Int)) (dst:List Int):Nat→Int→Prop
 | 0,x=>x∈dst
 | n+1,x=>Near adj dst n x∨∃ y∈adj.getD x.toNat [],Near adj dst n y
section
variable {adj:List (List Int)} {dst:List Int}
theorem C4_ {x:Int} {n:Nat}:∀ {m:Nat},n≤m→Near adj dst n x→Near adj dst m x
 | 0,h,hn=>by rw [show n=0 by omega] at hn;exact hn
 | m+1,h,hn=>by
  by_cases e:n=m+1
  ·rw [← e];exact hn
  ·exact .inl (C4_ (m:=m) y40_ hn)
inductive Greedy (adj:List (List Int)) (dst:List Int):List Int→Nat→List Int→Prop
 | stop (S:List Int) (x:Int):x∈S→x∈dst→(∀ y∈S,y<x→y∉dst)→Greedy adj dst S 0 [x]
 | step (S:List Int) (x:Int) (n:Nat) (l:List Int):x∈S→Near adj dst (n+1) x→(∀ y∈S,¬ Near adj dst n y)→(∀ y∈S,y<x→¬ Near adj dst (n+1) y)→Greedy adj dst (adj.getD x.toNat []) n l→Greedy adj dst S (n+1) (x :: l)
theorem Greedy.length {S:List Int} {n:Nat} {l:List Int} (h:Greedy adj dst S n l):l.length=n+1:=by
 induction h with
 | stop=>rfl
 | step _ _ _ _ _ _ _ _ _ ih=>rw [List.length_cons,ih]
theorem Greedy.unique {S:List Int} {n:Nat} {l:List Int} (h:Greedy adj dst S n l):∀ {m:Nat} {k:List Int},Greedy adj dst S m k→l=k:=by
 induction h with
 | stop S x hx hd hl =>
  intro m k c;cases c with
  | stop _ y hy hdy hly =>
   have d:=hl y hy;have h2:=hly x hx;rcases Int.lt_trichotomy x y with h | h | h
   ·exact absurd hd (h2 h)
   ·rw [h]
   ·exact absurd hdy (d h)
  | step _ y n l hy hn hno _ _=>exact absurd (C4_ (Nat.zero_le n) hd) (hno x hx)
 | step S x n l hx hn hno hl _ ih =>
  intro m k c;cases c with
  | stop _ y hy hdy hly=>exact absurd (C4_ (Nat.zero_le n) hdy) (hno y hy)
  | step _ y n' l' hy hn' hno' hl' hg' =>
   have e:n=n':=by
    rcases Nat.lt_trichotomy n n' with h | h | h
    ·exact absurd (C4_ y40_ hn) (hno' x hx)
    ·exact h
    ·exact absurd (C4_ y40_ hn') (hno y hy)
   subst e;have f:x=y:=by
    rcases Int.lt_trichotomy x y with h | h | h
    ·exact absurd hn (hl' x hx h)
    ·exact h
    ·exact absurd hn' (hl y hy h)
   subst f;rw [ih hg']
theorem Greedy.mem {S:List Int} {n:Nat} {x:Int} {l:List Int} (h:Greedy adj dst S n (x :: l)):x∈S:=by cases h<;>assumption
theorem Greedy.near {S:List Int} {n:Nat} {l:List Int} (h:Greedy adj dst S n l):∀ k,k<l.length→Near adj dst (n - k) (l.getD k 0):=by
 induction h with
 | stop S x hx hd hl =>
  intro k c;have:k=0:=by simpa using c
  subst this;exact hd
 | step S x n l hx hn hno hl hg ih =>
  intro k c;cases k with
  | zero=>exact hn
  | succ k =>
   have:=ih k (by simpa using c);rw [List.getD_cons_succ,show n+1 - (k+1)=n - k by omega];exact this
theorem Greedy.none {S:List Int} {n:Nat} {l:List Int} (h:Greedy adj dst S n l):∀ y∈S,∀ m,m<n→¬ Near adj dst m y:=by
 cases h with
 | stop=>intro y _ m c;omega
 | step _ x n l hx hn hno hl hg=>exact fun y d m c h=>hno y d (C4_ y40_ h)
theorem Greedy.straight {S:List Int} {n:Nat} {l:List Int} (h:Greedy adj dst S n l):∀ i k,i+2≤k→k<l.length→l.getD k 0∉adj.getD (l.getD i 0).toNat []:=by
 induction h with
 | stop S x hx hd hl =>
  intro i k f h2;have:k<1:=h2;omega
 | step S x n l hx hn hno hl hg ih =>
  intro i k f h2 d;obtain ⟨c,rfl⟩:∃ c,k=c+1:=⟨k - 1,y40_⟩;rw [List.getD_cons_succ] at d;have e:c<l.length:=j50_;have g:=hg.length;cases i with
  | zero =>
   rw [List.getD_cons_zero] at d;exact hg.none _ d (n - c) y40_ (hg.near c e)
  | succ i =>
   rw [List.getD_cons_succ] at d;exact ih i c y40_ e d
end
section
variable {adj:List (List Int)} {dst:List Int}
theorem Greedy.first {S:List Int} {n:Nat} {l:List Int} (h:Greedy adj dst S n l):l.getD 0 0∈S:=by cases h<;>simpa
theorem Greedy.arcs {S:List Int} {n:Nat} {l:List Int} (h:Greedy adj dst S n l):∀ i,i+1<l.length→l.getD (i+1) 0∈adj.getD (l.getD i 0).toNat []:=by
 induction h with
 | stop=>intro i hi;simp at hi
 | step S x n l hx hn hno hl hg ih =>
  intro i hi;cases i with
  | zero =>
   rw [List.getD_cons_succ,List.getD_cons_zero];exact hg.first
  | succ i =>
   rw [List.getD_cons_succ,List.getD_cons_succ];exact ih i y48_
theorem Greedy.last {S:List Int} {n:Nat} {l:List Int} (h:Greedy adj dst S n l):l.getD n 0∈dst:=by
 have c:=h.near n (by rw [h.length];omega);rw [Nat.sub_self] at c;exact c
theorem Greedy.notLast {S:List Int} {n:Nat} {l:List Int} (h:Greedy adj dst S n l):∀ i,i<n→l.getD i 0∉dst:=by
 induction h with
 | stop=>intro i c;omega
 | step S x n l hx hn hno hl hg ih =>
  intro i c hd;cases i with
  | zero =>
   rw [List.getD_cons_zero] at hd;exact hno x hx (C4_ (n:=0) y40_ hd)
  | succ i =>
   rw [List.getD_cons_succ] at hd;exact ih i y40_ hd
theorem Greedy.inj {S:List Int} {n:Nat} {l:List Int} (h:Greedy adj dst S n l):∀ i j,i<j→j<l.length→l.getD i 0≠l.getD j 0:=fun i j d g e=>by
 have hl:=h.length;by_cases f:j=n
 ·subst f
  exact h.notLast i d (by rw [e];exact h.last)
 ·have c:=h.arcs j y40_
  rw [← e] at c;exact h.straight i (j+1) y40_ y40_ c
end
open Go Go.RowKit
noncomputable def Zm1 (m:Mat) (s:List Int) (x y:Int):Bool:=hasB s y && (!hasB s x && indT m (Y1_ (Z8_ s [y]) [x]))
noncomputable def arcsG (a b:Mat) (s:List Int) (p:Int):List Int:=(upTo (nN a)).filter fun q=>Zm1 a s q p || Zm1 b s p q
noncomputable def adjG (a b:Mat) (s:List Int):List (List Int):=(upTo (nN a)).map (arcsG a b s)
noncomputable def addG (m:Mat) (s:List Int):List Int:=(upTo (nN m)).filter fun x=>!hasB s x && indT m (Y1_ s [x])
def turnL (s l:List Int):List Int:=if mayB s=true∧(sortL l).length=l.length then Y1_ (Z8_ s (sortL l)) (Z8_ (sortL l) s) else []
structure Common (a b:Mat) (s:List Int):Prop where
 n:a.n=b.n
 ia:indT a s=true
 ib:indT b s=true
theorem mem_upTo {k:Nat} {x:Int}:x∈upTo k↔0≤x∧x<(k:Int):=by
 unfold upTo;rw [List.mem_map];constructor
 ·rintro ⟨i,c,rfl⟩
  rw [List.mem_range] at c;exact ⟨by show (0:Int)≤(i:Int);omega,by show (i:Int)<_;omega⟩
 ·rintro ⟨d,e⟩
  exact ⟨x.toNat,List.mem_range.2 y40_,by show ((x.toNat:Nat):Int)=x;omega⟩
theorem T4_ {s:List Int} {x:Nat} (hs:IsSet s):hasB s (x:Int)=memP s x:=by
 rw [Bool.eq_iff_iff,Ye2 hs,memP_iff]
section
variable {m:Mat} {s:List Int}
theorem Ys8 {n x:Nat} (d:n≤64) (e:x<n):InN n [(x:Int)]:=⟨⟨k40_,fun z c=>by rw [List.mem_singleton.1 c];exact ⟨y40_,y40_⟩⟩,fun z c=>by rw [List.mem_singleton.1 c];omega⟩
theorem Yq9 (g:indT m s=true) {x y:Nat} (hx:x<nN m) (hy:y<nN m):Zm1 m s x y=true↔memP s y=true∧memP s x=false∧rkP 4 m (insP (remP (memP s) y) x)=cnt (memP s) (nN m):=by
 obtain ⟨hc,c⟩:=mayI_iff.1 (Zs6 g);have f:=(Y0_ hc).2;have d:=Ys8 f hx;have h2:=Ys8 f hy;have hU:InN (nN m) (Y1_ (Z8_ s [(y:Int)]) [(x:Int)]):=E4_ (Xi2 c h2) d;have e:memP (Y1_ (Z8_ s [(y:Int)]) [(x:Int)])=insP (remP (memP s) y) x:=by
  funext i
  rw [Bool.eq_iff_iff,memP_iff,A5_ (G8_ _ _) d.1,X5_ c.1 h2.1];unfold insP remP;rw [Bool.or_eq_true,Bool.and_eq_true,beq_iff_eq,Bool.not_eq_true',memP_iff];simp only [List.mem_singleton,beq_eq_false_iff_ne,Int.natCast_inj,ne_eq];exact Or.comm
 unfold Zm1;rw [Bool.and_eq_true,Bool.and_eq_true,Bool.not_eq_true',T4_ c.1,T4_ c.1,M4_ (mayI_iff.2 ⟨hc,hU⟩),Y9_ hU,e];constructor
 ·exact x18_
 ·exact x18_
theorem Vs3 (g:indT m s=true) {x:Nat}:(x:Int)∈addG m s↔x<nN m∧memP s x=false∧rkP 4 m (insP (memP s) x)=cnt (memP s) (nN m)+1:=by
 obtain ⟨hc,c⟩:=mayI_iff.1 (Zs6 g);have f:=(Y0_ hc).2;unfold addG;rw [List.mem_filter,mem_upTo];constructor
 ·rintro ⟨⟨_,e⟩,h2⟩
  have d:x<nN m:=y40_;have h3:=Ys8 f d;rw [Bool.and_eq_true,Bool.not_eq_true',T4_ c.1,M4_ (mayI_iff.2 ⟨hc,E4_ c h3⟩),Y9_ (E4_ c h3),I9_ c.1 h3.1,Zu2 y40_,Int.toNat_natCast] at h2;rw [A4_ d h2.1] at h2;exact ⟨d,h2.1,h2.2⟩
 ·rintro ⟨d,e,h2⟩
  have h3:=Ys8 f d;refine ⟨⟨y40_,y40_⟩,?_⟩;rw [Bool.and_eq_true,Bool.not_eq_true',T4_ c.1,M4_ (mayI_iff.2 ⟨hc,E4_ c h3⟩),Y9_ (E4_ c h3),I9_ c.1 h3.1,Zu2 y40_,Int.toNat_natCast,A4_ d e];exact ⟨e,h2⟩
theorem Vs4 (c:indT m s=true):rkP 4 m (memP s)=cnt (memP s) (nN m):=by
 obtain ⟨hc,d⟩:=mayI_iff.1 (Zs6 c);rw [← Y9_ d];exact (M4_ (Zs6 c)).1 c
end
section
variable {a b:Mat} {s:List Int}
end
open Go Go.RowKit
def DigP (adj:List (List Int)):Prop:=adj.length≤4096∧∀ x,IsSet (adj.getD x [])∧∀ y∈adj.getD x [],0≤y∧y<(adj.length:Int)
abbrev PtsP (n:Nat) (l:List Int):Prop:=InN n l
def nearK (adj:List (List Int)) (l:List Int):Nat→List Int
 | 0=>l
 | k+1=>Y1_ (nearK adj l k) (adj.getD (l.getD k 0).toNat [])
def nearL (adj:List (List Int)) (l:List Int):List Int:=nearK adj l l.length
def itL (adj:List (List Int)) (l:List Int):Nat→List Int
 | 0=>l
 | k+1=>nearL adj (itL adj l k)
theorem Ya0 {adj:List (List Int)} (l:List Int):∀ k,itL adj (nearL adj l) k=itL adj l (k+1)
 | 0=>rfl
 | k+1=>by
  show nearL adj (itL adj (nearL adj l) k)=nearL adj (itL adj l (k+1));rw [Ya0 l k]
theorem Za6 {adj:List (List Int)} {l:List Int} {k:Nat} (h:itL adj l (k+1)=itL adj l k):∀ m,itL adj l (k+m)=itL adj l k
 | 0=>rfl
 | m+1=>by
  show nearL adj (itL adj l (k+m))=_;rw [Za6 h m];exact h
theorem I4_ {n:Nat} {l:List Int} (h:PtsP n l):l.length≤n:=X0_ h
section
variable {adj:List (List Int)} (hd:DigP adj)
include hd
theorem Zf7 {l:List Int} (hl:PtsP adj.length l):∀ k,k≤l.length→PtsP adj.length (nearK adj l k)∧∀ x,x∈nearK adj l k↔x∈l∨∃ y∈l.take k,x∈adj.getD y.toNat []
 | 0,_=>⟨hl,fun x=>by simp [nearK]⟩
 | k+1,hk=>by
  obtain ⟨d,h2⟩:=Zf7 hl k y40_;have e:=A5_ d.1 (hd.2 (l.getD k 0).toNat).1;have f:l.take (k+1)=l.take k ++ [l.getD k 0]:=by
   rw [List.take_succ_eq_append_getElem (by omega:k<l.length)];simp [List.getD,show k<l.length by omega]
  refine ⟨⟨E3_ _ _,fun x g=>?_⟩,fun x=>?_⟩
  ·rcases (e x).1 g with h | h
   ·exact d.2 x h
   ·exact (hd.2 _).2 x h
  ·show x∈Y1_ (nearK adj l k) (adj.getD (l.getD k 0).toNat [])↔_
   rw [e x,h2 x,f];constructor
   ·rintro ((h | ⟨y,c,h⟩) | h)
    ·exact .inl h
    ·exact .inr ⟨y,List.mem_append.2 (.inl c),h⟩
    ·exact .inr ⟨_,List.mem_append.2 (.inr (List.mem_singleton.2 rfl)),h⟩
   ·rintro (h | ⟨y,c,h⟩)
    ·exact .inl (.inl h)
    ·rcases List.mem_append.1 c with c | c
     ·exact .inl (.inr ⟨y,c,h⟩)
     ·rw [List.mem_singleton] at c
      rw [c] at h;exact .inr h
theorem B0_ {l:List Int} (hl:PtsP adj.length l):PtsP adj.length (nearL adj l)∧∀ x,x∈nearL adj l↔x∈l∨∃ y∈l,x∈adj.getD y.toNat []:=by
 have:=Zf7 hd hl l.length (Nat.le_refl _);rw [List.take_length] at this;exact this
theorem Q2_ {l:List Int} (hl:PtsP adj.length l):∀ k,PtsP adj.length (itL adj l k)
 | 0=>hl
 | k+1=>(B0_ hd (Q2_ hl k)).1
theorem K2_ {dst:List Int}:∀ k l,PtsP adj.length l→((∃ z∈itL adj l k,z∈dst)↔∃ y∈l,Near adj dst k y)
 | 0,l,_=>Iff.rfl
 | k+1,l,hl=>by
  have d:=B0_ hd hl;rw [← Ya0 l k,K2_ k _ d.1];constructor
  ·rintro ⟨y,c,h⟩
   rcases (d.2 y).1 c with c | ⟨z,e,c⟩
   ·exact ⟨y,c,.inl h⟩
   ·exact ⟨z,e,.inr ⟨y,c,h⟩⟩
  ·rintro ⟨y,c,h | ⟨z,e,h⟩⟩
   ·exact ⟨y,(d.2 y).2 (.inl c),h⟩
   ·exact ⟨z,(d.2 z).2 (.inr ⟨y,c,e⟩),h⟩
theorem Ys9 {l:List Int} (hl:PtsP adj.length l) (k:Nat):∀ x,x∈itL adj l k→x∈itL adj l (k+1):=fun x c=>((B0_ hd (Q2_ hd hl k)).2 x).2 (.inl c)
theorem Ya1 {l:List Int} (hl:PtsP adj.length l):∀ k,(∀ m,m<k→itL adj l (m+1)≠itL adj l m)→k≤(itL adj l k).length
 | 0,_=>Nat.zero_le _
 | k+1,h=>by
  have o:=Ya1 hl k fun m c=>h m y40_;have d:=Q2_ hd hl k;have h2:=Q2_ hd hl (k+1);rw [Y9_ d] at o;rw [Y9_ h2];by_cases e:∃ y,y<adj.length∧memP (itL adj l k) y=false∧memP (itL adj l (k+1)) y=true
  ·have:=Yy9 (p:=memP (itL adj l k)) (q:=memP (itL adj l (k+1))) (n:=adj.length) (fun v _ j=>memP_iff.2 (Ys9 hd hl k _ (memP_iff.1 j))) e
   omega
  ·exfalso
   refine h k y40_ (IsSet.ext h2.1 d.1 fun x=>⟨fun f=>?_,Ys9 hd hl k x⟩);have hb:=h2.2 x f;have g:((x.toNat:Nat):Int)=x:=y40_;cases c:memP (itL adj l k) x.toNat
   ·exact absurd ⟨x.toNat,y40_,c,memP_iff.2 (by rw [g];exact f)⟩ e
   ·have:=memP_iff.1 c
    rwa [g] at this
theorem Yk0 {l:List Int} (hl:PtsP adj.length l):∀ m,itL adj l (adj.length+m)=itL adj l adj.length:=by
 by_cases h:∃ k,k≤adj.length∧itL adj l (k+1)=itL adj l k
 ·obtain ⟨k,d,e⟩:=h
  intro m;have c:=Za6 e (adj.length+m - k);have h2:=Za6 e (adj.length - k);rw [show k+(adj.length+m - k)=adj.length+m by omega] at c;rw [show k+(adj.length - k)=adj.length by omega] at h2;rw [c,h2]
 ·exfalso
  have c:=Ya1 hd hl (adj.length+1) fun m f e=>h ⟨m,y40_,e⟩;have h2:=I4_ (Q2_ hd hl (adj.length+1));omega
theorem P9_ {l:List Int} (hl:PtsP adj.length l) {x y:Int} (c:x∈itL adj l adj.length) (d:y∈adj.getD x.toNat []):y∈itL adj l adj.length:=by
 have h:=((B0_ hd (Q2_ hd hl adj.length)).2 y).2 (.inr ⟨x,c,d⟩);have e:itL adj l (adj.length+1)=itL adj l adj.length:=Yk0 hd hl 1;rw [← e];exact h
theorem Zs7 {l:List Int} (hl:PtsP adj.length l):∀ k x,x∈l→x∈itL adj l k
 | 0,_,h=>h
 | k+1,x,h=>Ys9 hd hl k x (Zs7 hl k x h)
theorem Zf8 {dst:List Int} {v:Int} (g:0≤v∧v<(adj.length:Int)) {k:Nat} (e:Near adj dst k v):∃ m,m≤adj.length∧m≤k∧Near adj dst m v:=by
 by_cases f:k≤adj.length
 ·exact ⟨k,f,Nat.le_refl _,e⟩
 ·have hl:PtsP adj.length [v]:=⟨⟨k40_,fun y c=>by rw [List.mem_singleton] at c;have:=hd.1;rw [c];exact ⟨y40_,y40_⟩⟩,fun y c=>by rw [List.mem_singleton] at c;rw [c];exact g⟩
  have d:=(K2_ hd (dst:=dst) k [v] hl).2 ⟨v,k40_,e⟩;rw [show k=adj.length+(k - adj.length) by omega,Yk0 hd hl] at d;obtain ⟨y,c,h2⟩:=(K2_ hd (dst:=dst) adj.length [v] hl).1 d;rw [List.mem_singleton] at c;rw [c] at h2;exact ⟨adj.length,Nat.le_refl _,y40_,h2⟩
end
def I5_ (adj:List (List Int)) (dst:List Int) (v s:Int):Prop :=
 (∃ k:Nat,s=(k:Int)∧Near adj dst k v∧∀ m,m<k→¬ Near adj dst m v)∨(s=-1∧∀ m,¬ Near adj dst m v)
def J7_ (adj:List (List Int)) (dst S:List Int) (i:Nat) (b:Int):Prop :=
 (b=-1∧∀ y∈S.take i,∀ k,¬ Near adj dst k y) ∨
 (∃ k,b∈S.take i∧Near adj dst k b∧(∀ y∈S.take i,∀ m,m<k→¬ Near adj dst m y)∧∀ y∈S.take i,y<b→¬ Near adj dst k y)
section
variable {adj:List (List Int)} {dst S:List Int} {i:Nat} {b s:Int}
theorem Zm2 {v:Int} {k:Nat} (h:I5_ adj dst v s) (c:Near adj dst k v) (f:∀ m,m<k→¬ Near adj dst m v):s=(k:Int):=by
 rcases h with ⟨d,rfl,e,h2⟩ | ⟨_,h⟩
 ·rcases Nat.lt_trichotomy k d with h | h | h
  ·exact absurd c (h2 k h)
  ·rw [h]
  ·exact absurd e (f d h)
 ·exact absurd c (h k)
theorem Zm3:J7_ adj dst S 0 (-1):=.inl ⟨rfl,fun y c=>by simp at c⟩
theorem O7_ (c:i<S.length):S.take (i+1)=S.take i ++ [S.getD i 0]:=by
 rw [List.take_succ_eq_append_getElem c];simp [List.getD,c]
theorem G0_ {p:Int→Prop} (d:i<S.length) (h:∀ y∈S.take i,p y) (h2:p (S.getD i 0)):∀ y∈S.take (i+1),p y:=fun y c=>by
 rw [O7_ d,List.mem_append,List.mem_singleton] at c;rcases c with c | rfl
 ·exact h y c
 ·exact h2
theorem Xn6 (d:S.Pairwise (·<·)) (c:i<S.length):∀ y∈S.take i,y<S.getD i 0:=fun y f=>by
 have h:=d;rw [← List.take_append_drop i S,List.pairwise_append] at h;refine h.2.2 y f _ ?_;have e:S.drop i=S[i] :: S.drop (i+1):=List.drop_eq_getElem_cons c;rw [e];exact List.mem_cons.2 (.inl (by simp [List.getD,c]))
theorem Zf9 (c:i<S.length) (h:J7_ adj dst S i b) (hs:I5_ adj dst (S.getD i 0) s) (j:s<0):J7_ adj dst S (i+1) b:=by
 have d:∀ m,¬ Near adj dst m (S.getD i 0):=by
  rcases hs with ⟨k,rfl,_⟩ | ⟨_,h⟩
  ·omega
  ·exact h
 rcases h with ⟨e,h⟩ | ⟨k,f,h2,h3,g⟩
 ·exact .inl ⟨e,G0_ c h d⟩
 ·exact .inr ⟨k,by rw [O7_ c];exact List.mem_append.2 (.inl f),h2,G0_ c h3 fun m _=>d m,G0_ c g fun _=>d k⟩
theorem Zg0 (c:i<S.length) (h:J7_ adj dst S i b) (hb:b=-1) (j:∀ y∈S.take i,0≤y) (hs:I5_ adj dst (S.getD i 0) s) (p:0≤s):J7_ adj dst S (i+1) (S.getD i 0):=by
 rcases hs with ⟨k,rfl,g,h2⟩ | ⟨e,_⟩
 ·have f:∀ y∈S.take i,∀ k,¬ Near adj dst k y:=by
   rcases h with ⟨_,h⟩ | ⟨_,h,_⟩
   ·exact h
   ·have:=j _ h
    omega
  exact .inr ⟨k,by rw [O7_ c];exact List.mem_append.2 (.inr k40_),g,G0_ c (fun y d m _=>f y d m) h2,G0_ c (fun y d _=>f y d k) (fun o=>by omega)⟩
 ·omega
theorem Zq0 (c:i<S.length) (h:J7_ adj dst S i b) (hb:0≤b) {g:Int} (u:I5_ adj dst b g) (hs:I5_ adj dst (S.getD i 0) s) (z:0≤s) (r:s<g):J7_ adj dst S (i+1) (S.getD i 0):=by
 rcases h with ⟨e,_⟩ | ⟨k,p,h2,h3,v⟩
 ·omega
 ·have w:=Zm2 u h2 (h3 b p)
  rcases hs with ⟨f,rfl,j,o⟩ | ⟨e,_⟩
  ·have q:f<k:=by omega
   exact .inr ⟨f,by rw [O7_ c];exact List.mem_append.2 (.inr k40_),j,G0_ c (fun y d m x=>h3 y d m y40_) o,G0_ c (fun y d _=>h3 y d f q) (fun r=>by omega)⟩
  ·omega
theorem Zm4 (q:S.Pairwise (·<·)) (c:i<S.length) (h:J7_ adj dst S i b) (hb:0≤b) {f:Int} (p:I5_ adj dst b f) (hs:I5_ adj dst (S.getD i 0) s) (x:0≤s) (o:¬ s<f):J7_ adj dst S (i+1) b:=by
 rcases h with ⟨e,_⟩ | ⟨k,d,h2,h3,j⟩
 ·omega
 ·have u:=Zm2 p h2 (h3 b d)
  have v:=Xn6 q c b d;rcases hs with ⟨y,rfl,r,g⟩ | ⟨e,_⟩
  ·exact .inr ⟨k,by rw [O7_ c];exact List.mem_append.2 (.inl d),h2,G0_ c h3 (fun m w=>g m y40_),G0_ c j (fun o=>by omega)⟩
  ·omega
theorem Zq1 {n:Nat} {x:Int} {l:List Int} (c:Greedy adj dst S n (x :: l)) (h:J7_ adj dst S S.length b):b=x:=by
 unfold J7_ at h;rw [List.take_length] at h;have f:=c.near 0 k40_;have e:=c.mem;rcases h with ⟨_,h⟩ | ⟨k,d,h2,h3,g⟩
 ·exact absurd f (h x e _)
 ·have j:k=n:=by
   rcases Nat.lt_trichotomy k n with h | h | h
   ·exact absurd h2 (c.none b d k h)
   ·exact h
   ·exact absurd f (h3 x e n h)
  subst j;rcases Int.lt_trichotomy b x with h | h | h
  ·cases c with
   | stop _ _ _ _ hl=>exact absurd h2 (hl b d h)
   | step _ _ _ _ _ _ _ hl _=>exact absurd h2 (hl b d h)
  ·exact h
  ·exact absurd f (g x e h)
end
open Classical in
theorem Yt0 (adj:List (List Int)) (dst:List Int) (v:Int):∃ s,I5_ adj dst v s:=by
 by_cases h:∃ k,Near adj dst k v
 ·obtain ⟨k,d⟩:=h
  suffices hs:∀ k,Near adj dst k v→∃ m,m≤k∧Near adj dst m v∧∀ j,j<m→¬ Near adj dst j v by
   obtain ⟨m,_,f,h2⟩:=hs k d;exact ⟨m,.inl ⟨m,rfl,f,h2⟩⟩
  intro k
  induction k using Nat.strongRecOn with
  | _ k ih =>
   intro d;by_cases c:∃ j,j<k∧Near adj dst j v
   ·obtain ⟨j,c,e⟩:=c
    obtain ⟨m,f,h2⟩:=ih j c e;exact ⟨m,y40_,h2⟩
   ·exact ⟨k,Nat.le_refl _,d,fun j g e=>c ⟨j,g,e⟩⟩
 ·exact ⟨-1,.inr ⟨rfl,fun m o=>h ⟨m,o⟩⟩⟩
theorem Zs8 (adj:List (List Int)) (dst:List Int) {S:List Int} (m:S.Pairwise (·<·)) (j:∀ y∈S,0≤y):∀ i,i≤S.length→∃ b,J7_ adj dst S i b
 | 0,_=>⟨-1,Zm3⟩
 | i+1,hi=>by
  obtain ⟨b,hb⟩:=Zs8 adj dst m j i y40_;obtain ⟨s,hs⟩:=Yt0 adj dst (S.getD i 0);have g:∀ y∈S.take i,0≤y:=fun y p=>j y (List.mem_of_mem_take p);by_cases o:s<0
  ·exact ⟨b,Zf9 y40_ hb hs o⟩
  ·by_cases d:b=-1
   ·exact ⟨_,Zg0 y40_ hb d g hs y40_⟩
   ·have c:0≤b:=by
     rcases hb with ⟨e,_⟩ | ⟨_,h,_⟩
     ·exact absurd e d
     ·exact g b h
    obtain ⟨q,k⟩:=Yt0 adj dst b;by_cases f:s<q
    ·exact ⟨_,Zq0 y40_ hb c k hs y40_ f⟩
    ·exact ⟨b,Zm4 m y40_ hb c k hs y40_ f⟩
theorem Ya2 {adj:List (List Int)} {dst:List Int} (hd:DigP adj):∀ (k:Nat) {S:List Int} {b:Int},(∀ y∈S,0≤y)→b∈S→Near adj dst k b→(∀ y∈S,∀ m,m<k→¬ Near adj dst m y)→(∀ y∈S,y<b→¬ Near adj dst k y)→∃ l,Greedy adj dst S k (b :: l)
 | 0,S,b,_,hb,hn,_,hl=>⟨[],.stop S b hb hn hl⟩
 | k+1,S,b,hpt,hb,hn,hno,hl=>by
  have f:=hd.2 b.toNat;obtain ⟨c,hc⟩:=Zs8 adj dst f.1.1 (fun y d=>(f.2 y d).1) (adj.getD b.toNat []).length (Nat.le_refl _);unfold J7_ at hc;rw [List.take_length] at hc;obtain ⟨y,d,j⟩:∃ y∈adj.getD b.toNat [],Near adj dst k y:=by
   rcases hn with h | h
   ·exact absurd h (hno b hb k y40_)
   ·exact h
  rcases hc with ⟨_,h⟩ | ⟨e,g,h2,h3,o⟩
  ·exact absurd j (h y d k)
  ·have q:e=k:=by
    rcases Nat.lt_trichotomy e k with h | h | h
    ·exfalso
     have:Near adj dst (e+1) b:=.inr ⟨c,g,h2⟩;exact hno b hb (e+1) y40_ this
    ·exact h
    ·exact absurd j (h3 y d k h)
   subst q;obtain ⟨l,p⟩:=Ya2 hd e (fun y d=>(f.2 y d).1) g h2 h3 o;exact ⟨c :: l,.step S b e _ hb hn (fun y d=>hno y d e y40_) hl p⟩
theorem Ya3 {adj:List (List Int)} {dst S:List Int} (hd:DigP adj) (c:PtsP adj.length S):(∃ n x l,Greedy adj dst S n (x :: l))∨∀ y∈S,∀ k,¬ Near adj dst k y:=by
 obtain ⟨b,hb⟩:=Zs8 adj dst c.1.1 (fun y d=>(c.2 y d).1) S.length (Nat.le_refl _);unfold J7_ at hb;rw [List.take_length] at hb;rcases hb with ⟨_,h⟩ | ⟨k,e,h2,h3,f⟩
 ·exact .inr h
 ·obtain ⟨l,hl⟩:=Ya2 hd k (fun y d=>(c.2 y d).1) e h2 h3 f
  exact .inl ⟨k,b,l,hl⟩
end Go.Proofs.YtigobiacbficaaaGreatDoor.Wp
