/- Duals, and what is restricted or contracted: their ranks, plain. -/
import Derived.Test.YteiejkhdonmcdaaGreatDoorZF
import Derived.Test.YteiejkhdonmcdaaGreatDoorZA
import Derived.Test.YteiejkhdonmcdaaGreatDoorX0A
namespace Go.Proofs.YteiejkhdonmcdaaGreatDoor.Wp
open Go Go.RowKit
theorem rk_of {m:Mat} (h:chk m=0):Rk (nN m) (rkP 4 m):=rk_ok 4 m h (chk_ok.1 h).1
theorem Xf3 (P Q:Nat→Bool):∀ n,cnt (orP P Q) n+cnt (andP P Q) n=cnt P n+cnt Q n
 | 0=>by simp [cnt]
 | n+1=>by
  have c:=Xf3 P Q n;rw [X5_,X5_,X5_,X5_];show _+(if (P n || Q n)=true then 1 else 0)+(_+(if (P n && Q n)=true then 1 else 0))=_;cases P n<;>cases Q n<;>simp<;>omega
theorem Zr4 {m:Mat} {s:List Int} (h:mayI m s=true):rankT m s=(rkP 4 m (memP s):Nat):=if_pos h
def atN (l:List Int) (i:Nat):Nat:=(l.getD i 0).toNat
def plcL (s l:List Int) (k:Nat):List Int:=(upTo k).filter fun i=>s.contains (l.getD i.toNat 0)
def gotL (s l:List Int) (k:Nat):List Int:=(plcL s l k).map fun i=>l.getD i.toNat 0
end Go.Proofs.YteiejkhdonmcdaaGreatDoor.Wp
namespace Go.Proofs.YteiejkhdonmcdaaGreatDoor.Wp
open Go Go.RowKit
theorem Rk.closed {n:Nat} {f:(Nat→Bool)→Nat} (h:Rk n f) (P S:Nat→Bool) (hs:∀ x,x<n→S x=true→f (insP P x)=f P):∀ k,k≤n→f (addK P S k)=f P
 | 0,_=>by rw [H7_]
 | k+1,hk=>by
  have c:=h.closed P S hs k q39_;cases e:S k
  ·rw [S0_ e];exact c
  ·have d:=h.dim_add P S (x:=k) q39_ k q39_
   have g:=hs k q39_ e;have h3:=h.up' (addK P S k) (x:=k) q39_;rw [M2_ e];omega
theorem A8_ {m:Mat} {s:List Int} (h:mayI m s=true):indT m s=true↔rkP 4 m (memP s)=s.length:=by
 unfold indT;rw [show rankT m s=_ from if_pos h,decide_eq_true_iff];omega
theorem Vg6 {m:Mat} (h:chk m=0):indT m []=true:=by
 have c:mayI m []=true:=mayI_iff.2 ⟨h,Yc3 _⟩;rw [A8_ c,Zj8,(rk_ok 4 m h (chk_ok.1 h).1).zero];rfl
theorem Xw5 {m:Mat} {a s:List Int} (ha:mayI m a=true) (hs:mayI m s=true) (d:∀ x∈s,x∈a) (h:indT m a=true):indT m s=true:=by
 obtain ⟨hc,hA⟩:=mayI_iff.1 ha;obtain ⟨_,g⟩:=mayI_iff.1 hs;have c:=rk_ok 4 m hc (chk_ok.1 hc).1;rw [A8_ ha] at h;rw [A8_ hs,X2_ g];rw [X2_ hA] at h;have p:=c.le_cnt (memP s);have f:=c.submod (memP s) (fun i=>memP a i && !memP s i);have h3:=c.le_cnt (fun i=>memP a i && !memP s i);have e:∀ i,i<nN m→orP (memP s) (fun i=>memP a i && !memP s i) i=memP a i:=fun i _=>by
  unfold orP;cases e1:memP s i
  ·simp [e1]
  ·have:memP a i=true:=memP_iff.2 (d _ (memP_iff.1 e1))
   simp [this]
 rw [c.ext e] at f;have q:cnt (memP a) (nN m)=cnt (memP s) (nN m)+cnt (fun i=>memP a i && !memP s i) (nN m):=by
  have:=K.cntP_split (memP a) (memP s) (nN m);have j:K.cntP (nN m) (fun i=>memP a i && memP s i)=cnt (memP s) (nN m):=(D1_ fun i _=>by
   cases e1:memP s i
   ·simp
   ·have:memP a i=true:=memP_iff.2 (d _ (memP_iff.1 e1))
    simp [this])
  have k:K.cntP (nN m) (memP a)=cnt (memP a) (nN m):=rfl;have o:K.cntP (nN m) (fun i=>memP a i && !memP s i)=cnt (fun i=>memP a i && !memP s i) (nN m):=rfl;omega
 omega
theorem Zq3 {x:Int} (h:0≤x) (P:Nat→Bool):orP P (memP [x])=insP P x.toNat:=by
 funext i
 unfold orP insP;have:memP [x] i=(i==x.toNat):=by rw [Bool.eq_iff_iff,memP_iff,beq_iff_eq,List.mem_singleton];omega
 rw [this,Bool.or_comm]
theorem Yl6 {m:Mat} {a b:List Int} (ha:mayI m a=true) (hb:mayI m b=true) (q:indT m a=true) (r:indT m b=true) (D:b.length<a.length):∃ i,i<(Z5_ a b).length∧indT m (Y1_ b [(Z5_ a b).getD i 0])=true:=by
 obtain ⟨hc,hA⟩:=mayI_iff.1 ha;obtain ⟨_,hB⟩:=mayI_iff.1 hb;have c:=rk_ok 4 m hc (chk_ok.1 hc).1;rw [A8_ ha] at q;rw [A8_ hb] at r;by_cases j:∃ i,i<(Z5_ a b).length∧indT m (Y1_ b [(Z5_ a b).getD i 0])=true
 ·exact j
 ·exfalso
  have u:∀ x,x<nN m→memP a x=true→rkP 4 m (insP (memP b) x)=rkP 4 m (memP b):=fun x d s=>by
   cases hbx:memP b x
   ·have B:((x:Nat):Int)∈Z5_ a b:=(Y6_ hA.1 hB.1 _).2 ⟨memP_iff.1 s,fun y=>by rw [memP_iff.2 y] at hbx;cases hbx⟩
    obtain ⟨i,k,w⟩:=List.mem_iff_getElem.1 B;have e:(Z5_ a b).getD i 0=(x:Int):=by simp [List.getD,k,w]
    have g:InN (nN m) [(x:Int)]:=⟨⟨j39_,fun z f=>by rw [List.mem_singleton.1 f];have:=(Z7_ hc).2;exact ⟨q39_,q39_⟩⟩,fun z f=>by rw [List.mem_singleton.1 f];omega⟩;have p:mayI m (Y1_ b [(x:Int)])=true:=mayI_iff.2 ⟨hc,Q3_ hB g⟩;have A:¬ indT m (Y1_ b [(x:Int)])=true:=fun v=>j ⟨i,k,by rw [e];exact v⟩;have o:memP (Y1_ b [(x:Int)])=insP (memP b) x:=by rw [H0_ hB.1 g.1,Zq3 q39_];rfl
    rw [A8_ p,o,X2_ (mayI_iff.1 p).2,o,A4_ d hbx,← X2_ hB] at A;have E:=c.up' (memP b) d;have F:=c.one' (memP b) d;omega
   ·rw [F8_ hbx]
  have h3:=c.closed (memP b) (memP a) u (nN m) (Nat.le_refl _);rw [B5_ c] at h3;have C:=c.mono (P:=memP a) (Q:=orP (memP b) (memP a)) fun i _ h=>by unfold orP;rw [h];simp
  omega
end Go.Proofs.YteiejkhdonmcdaaGreatDoor.Wp
namespace Go.Proofs.YteiejkhdonmcdaaGreatDoor.Wp
open Go Go.RowKit
def remP (P:Nat→Bool) (y:Nat):Nat→Bool:=fun i=>P i && !(i==y)
theorem O3_ (P:Nat→Bool) (y:Nat):remP P y y=false:=by simp [remP]
theorem S5_ {P:Nat→Bool} {y i:Nat} (h:i≠y):remP P y i=P i:=by simp [remP,h]
theorem Xw6 {P:Nat→Bool} {y:Nat} (h:P y=true):insP (remP P y) y=P:=by
 funext i
 by_cases e:i=y
 ·rw [e,V2_,h]
 ·rw [X9_ e,S5_ e]
theorem O4_ {n:Nat} {P:Nat→Bool} {y:Nat} (c:y<n) (h:P y=true):cnt (remP P y) n+1=cnt P n:=by
 have:=A4_ c (O3_ P y);rw [Xw6 h] at this;omega
def Circ (n:Nat) (f:(Nat→Bool)→Nat) (C:Nat→Bool):Prop:=∀ y,y<n→C y=true→f (remP C y)=f C
section
variable {n:Nat} {f:(Nat→Bool)→Nat}
theorem Rk.part (h:Rk n f) {P Q:Nat→Bool} (hs:∀ i,i<n→P i=true→Q i=true) (k:f Q=cnt Q n):f P=cnt P n:=by
 have c:=h.submod P (fun i=>Q i && !P i);have j:=h.le_cnt (fun i=>Q i && !P i);have h3:=h.le_cnt P;have e:∀ i,i<n→orP P (fun i=>Q i && !P i) i=Q i:=fun i g=>by
  unfold orP;cases e1:P i
  ·simp [e1]
  ·simp [hs i g e1]
 rw [h.ext e] at c;have d:=Xf3 P (fun i=>Q i && !P i) n;rw [D1_ e,D1_ (P:=andP P (fun i=>Q i && !P i)) (Q:=noneP) (fun i _=>by simp only [andP,noneP];cases P i<;>simp),E6_] at d;omega
end
def Zl2 (s:List Int) (x:Int):List Int:=sortL (s ++ [x])
noncomputable def baseK (m:Mat) (s:List Int):Nat→List Int
 | 0=>[]
 | k+1=>if indT m (Zl2 (baseK m s k) (s.getD k 0))=true then Zl2 (baseK m s k) (s.getD k 0) else baseK m s k
noncomputable def baseT (m:Mat) (s:List Int):List Int:=if mayI m s=true then baseK m s s.length else []
noncomputable def moreK (m:Mat) (s:List Int) (k:Nat):List Int:=(upTo k).filter fun x=>!hasB s x && decide (rankT m s<rankT m (Zl2 s x))
noncomputable def spanT (m:Mat) (s:List Int):List Int:=if mayI m s=true then Z5_ (allL m.n) (moreK m s m.n.toNat) else []
noncomputable def circB (m:Mat) (s:List Int) (x:Int):Bool:=indT m s && (mayI m [x] && (!hasB s x && !indT m (Zl2 s x)))
noncomputable def circK (m:Mat) (t:List Int) (k:Nat):List Int:=(t.take k).filter fun y=>indT m (Z5_ t [y])
noncomputable def circT (m:Mat) (s:List Int) (x:Int):List Int:=if circB m s x=true then circK m (Zl2 s x) (Zl2 s x).length else []
theorem J5_ {m:Mat} {s:List Int} (h:indT m s=true):mayI m s=true:=by
 cases hm:mayI m s
 ·unfold indT rankT at h
  rw [hm,if_neg x40_,decide_eq_true_iff] at h;omega
 ·rfl
end Go.Proofs.YteiejkhdonmcdaaGreatDoor.Wp
namespace Go.Proofs.YteiejkhdonmcdaaGreatDoor.Wp
open Go Go.RowKit
section
variable {n:Nat} {f:(Nat→Bool)→Nat}
def exch (S:Nat→Bool):List (Nat × Nat)→Nat→Bool
 | []=>S
 | (y,x) :: r=>insP (remP (exch S r) y) x
theorem Zq4 {S:Nat→Bool}:∀ {r:List (Nat × Nat)},(∀ p∈r,S p.1=true∧S p.2=false)→∀ i,exch S r i=true↔(S i=true∧i∉r.map (·.1))∨i∈r.map (·.2)
 | [],_,i=>by simp [exch]
 | (y,x) :: r,h,i=>by
  have o:=Zq4 (S:=S) (r:=r) (fun p j=>h p (by simp [j])) i;have m:=h (y,x) j39_;have k:i∈r.map (·.2)→S i=false:=fun g=>by
   obtain ⟨p,j,rfl⟩:=List.mem_map.1 g;exact (h p (by simp [j])).2
  rw [exch];by_cases e:i=x
  ·rw [e,V2_]
   simp
  ·rw [X9_ e]
   by_cases d:i=y
   ·rw [d,O3_]
    have f:y∉r.map (·.2):=fun g=>by rw [d] at k;have:=k g;rw [m.1] at this;cases this
    constructor
    ·intro h;cases h
    ·rintro (⟨_,c⟩ | c)
     ·exact absurd j39_ c
     ·rw [List.map_cons,List.mem_cons] at c
      rcases c with c | c
      ·exact absurd (d.trans c) e
      ·exact absurd c f
   ·rw [S5_ d,o,List.map_cons,List.map_cons,List.mem_cons,List.mem_cons]
    constructor
    ·rintro (⟨f,c⟩ | c)
     ·exact .inl ⟨f,fun h3=>h3.elim d c⟩
     ·exact .inr (.inr c)
    ·rintro (⟨f,c⟩ | c)
     ·exact .inl ⟨f,fun h3=>c (.inr h3)⟩
     ·exact .inr (c.resolve_left e)
theorem Yx8 (h:Rk n f) {S:Nat→Bool} (m:f S=cnt S n):∀ {r:List (Nat × Nat)},(∀ p∈r,(p.1<n∧p.2<n)∧S p.1=true∧S p.2=false)→(r.map (·.1)).Nodup→(r.map (·.2)).Nodup →
  (∀ p∈r,f (insP (remP S p.1) p.2)=cnt S n)→(r.Pairwise fun p q=>f (insP (remP S p.1) q.2)<cnt S n)→f (exch S r)=cnt S n∧cnt (exch S r) n=cnt S n
 | [],_,_,_,_,_=>⟨m,rfl⟩
 | (y,x) :: r,c,hn1,hn2,hc,hd=>by
  have j:=c (y,x) j39_;have w:y<n:=j.1.1;have v:x<n:=j.1.2;have s:S y=true:=j.2.1;have E:S x=false:=j.2.2;clear j;have u:∀ p∈r,(p.1<n∧p.2<n)∧S p.1=true∧S p.2=false:=fun p h=>c p (by simp [h]);rw [List.map_cons,List.nodup_cons] at hn1 hn2;obtain ⟨G,H⟩:=List.pairwise_cons.1 hd;obtain ⟨K,L⟩:=Yx8 h m u hn1.2 hn2.2 (fun p h=>hc p (by simp [h])) H;have o:=Zq4 (S:=S) (r:=r) fun p h=>(u p h).2;have D:exch S r y=true:=(o y).2 (.inl ⟨s,hn1.1⟩);have C:exch S r x=false:=by
   rw [← Bool.not_eq_true,o];rintro (⟨g,_⟩ | g)
   ·rw [E] at g;cases g
   ·exact hn2.1 g
  have M:=O4_ w D;have R:=h.part (P:=remP (exch S r) y) (Q:=exch S r) (fun i _ c=>by
   by_cases e:i=y
   ·rw [e,O3_] at c;cases c
   ·rwa [S5_ e] at c) (K.trans L.symm)
  have N:=O4_ w s;have T:=h.part (P:=remP S y) (Q:=S) (fun i _ c=>by
   by_cases e:i=y
   ·rw [e,O3_] at c;cases c
   ·rwa [S5_ e] at c) m
  have F:=h.closed (remP S y) (remP (exch S r) y) (fun z J k=>by
   have A:z≠y:=fun e=>by rw [e,O3_] at k;cases k
   rw [S5_ A] at k;rcases (o z).1 k with ⟨g,_⟩ | g
   ·rw [F8_ (by rw [S5_ A];exact g)]
   ·obtain ⟨p,I,rfl⟩:=List.mem_map.1 g
    have U:f (insP (remP S y) p.2)<cnt S n:=G p I;have V:=h.up' (remP S y) J;omega) n (Nat.le_refl _)
  rw [B5_ h] at F;have m1:f (insP (remP S y) x)=cnt S n:=hc (y,x) j39_;have m2:=h.mono (P:=insP (remP S y) x) (Q:=insP (orP (remP S y) (remP (exch S r) y)) x) fun i _ hi=>j23_;have d:=h.dim_set (P:=remP (exch S r) y) (Q:=orP (remP S y) (remP (exch S r) y)) (fun i _ hi=>by unfold orP;rw [hi];simp) v;have B:remP (exch S r) y x=false:=by
   unfold remP;rw [C];rfl
  have O:=A4_ v B;have W:=h.le_cnt (insP (remP (exch S r) y) x);rw [exch];omega
theorem Xw7 (h:Rk n f) {S:Nat→Bool} (o:f S=cnt S n) {r:List (Nat × Nat)} (j:∀ p∈r,(p.1<n∧p.2<n)∧S p.1=true∧S p.2=false) (v:(r.map (·.1)).Nodup) (w:(r.map (·.2)).Nodup)
  (hb:∀ p∈r,f (insP S p.2)=f S) (hc:∀ p∈r,f (insP (remP S p.1) p.2)=cnt S n) (hd:r.Pairwise fun p q=>f (insP (remP S p.1) q.2)<cnt S n)
  {x:Nat} (k:x<n) (s:S x=false) (A:x∉r.map (·.2)) (D:f (insP S x)=cnt S n+1):f (insP (exch S r) x)=cnt S n+1∧cnt (insP (exch S r) x) n=cnt S n+1:=by
 obtain ⟨E,F⟩:=Yx8 h o j v w hc hd;have g:=Zq4 (S:=S) (r:=r) fun p h=>(j p h).2;have m:exch S r x=false:=by
  rw [← Bool.not_eq_true,g];rintro (⟨c,_⟩ | c)
  ·rw [s] at c;cases c
  ·exact A c
 have u:=h.closed S (exch S r) (fun z _ B=>by
  rcases (g z).1 B with ⟨c,_⟩ | c
  ·rw [F8_ c]
  ·obtain ⟨p,y,rfl⟩:=List.mem_map.1 c
   exact hb p y) n (Nat.le_refl _)
 rw [B5_ h] at u;have m2:=h.mono (P:=insP S x) (Q:=insP (orP S (exch S r)) x) fun i _ hi=>j23_;have d:=h.dim_set (P:=exch S r) (Q:=orP S (exch S r)) (fun i _ hi=>by unfold orP;rw [hi];simp) k;have C:=A4_ k m;have G:=h.le_cnt (insP (exch S r) x);omega
structure Zig (n:Nat) (S:Nat→Bool) (p:Nat→Nat) (k:Nat):Prop where
 lt:∀ i,i≤2 * k→p i<n
 inj:∀ i j,i≤2 * k→j≤2 * k→p i=p j→i=j
 out:∀ i,i≤k→S (p (2 * i))=false
 within:∀ i,i<k→S (p (2 * i+1))=true
def turnP (S:Nat→Bool) (p:Nat→Nat) (k:Nat):Nat→Bool:=fun i=>S i != (List.range (2 * k+1)).any fun j=>p j==i
def pairs (p:Nat→Nat) (k:Nat):List (Nat × Nat):=(List.range k).map fun i=>(p (2 * i+1),p (2 * i+2))
theorem Xf4 {S:Nat→Bool} {p:Nat→Nat} {k:Nat} (c:Zig n S p k):∀ i,insP (exch S (pairs p k)) (p 0) i=turnP S p k i:=by
 intro i;have m:=Zq4 (S:=S) (r:=pairs p k) (fun q f=>by
  obtain ⟨j,hj,rfl⟩:=List.mem_map.1 f;rw [List.mem_range] at hj;exact ⟨c.within j hj,c.out (j+1) q39_⟩) i
 have d:((List.range (2 * k+1)).any fun j=>p j==i)=true↔∃ j,j≤2 * k∧p j=i:=by
  rw [List.any_eq_true];constructor
  ·rintro ⟨j,hj,e⟩
   rw [List.mem_range] at hj;exact ⟨j,q39_,by simpa using e⟩
  ·rintro ⟨j,hj,e⟩
   exact ⟨j,List.mem_range.2 q39_,by simpa using e⟩
 have s:i∈(pairs p k).map (·.1)↔∃ j,j<k∧p (2 * j+1)=i:=q15_;have u:i∈(pairs p k).map (·.2)↔∃ j,j<k∧p (2 * j+2)=i:=q15_;rw [s,u] at m;rw [Bool.eq_iff_iff];unfold turnP;have w:insP (exch S (pairs p k)) (p 0) i=true↔i=p 0∨exch S (pairs p k) i=true:=by
  unfold insP;rw [Bool.or_eq_true,beq_iff_eq]
 rw [w,m,bne_iff_ne];cases hS:S i
 ·constructor
  ·intro h
   have:((List.range (2 * k+1)).any fun j=>p j==i)=true:=by
    rw [d];rcases h with h | ⟨h,_⟩ | ⟨j,hj,e⟩
    ·exact ⟨0,q39_,h.symm⟩
    ·cases h
    ·exact ⟨2 * j+2,q39_,e⟩
   rw [this];decide
  ·intro h
   have h3:((List.range (2 * k+1)).any fun j=>p j==i)=true:=by
    cases f:((List.range (2 * k+1)).any fun j=>p j==i)
    ·rw [f] at h;exact absurd rfl h
    ·rfl
   obtain ⟨j,hj,e⟩:=d.1 h3;rcases Nat.mod_two_eq_zero_or_one j with g | g
   ·by_cases v:j=0
    ·subst v;exact .inl e.symm
    ·exact .inr (.inr ⟨(j - 2) / 2,q39_,by rw [show 2 * ((j - 2) / 2)+2=j by omega];exact e⟩)
   ·have:=c.within (j / 2) q39_
    rw [show 2 * (j / 2)+1=j by omega,e,hS] at this;cases this
 ·constructor
  ·intro h
   have:((List.range (2 * k+1)).any fun j=>p j==i)=false:=by
    rw [← Bool.not_eq_true,d];rintro ⟨j,hj,e⟩;rcases h with h | ⟨_,h⟩ | ⟨q,f,o⟩
    ·have:=c.out 0 q39_
     rw [Nat.mul_zero,← h,hS] at this;cases this
    ·rcases Nat.mod_two_eq_zero_or_one j with g | g
     ·have:=c.out (j / 2) q39_
      rw [show 2 * (j / 2)=j by omega,e,hS] at this;cases this
     ·exact h ⟨j / 2,q39_,by rw [show 2 * (j / 2)+1=j by omega];exact e⟩
    ·have:=c.out (q+1) q39_
     rw [show 2 * (q+1)=2 * q+2 by omega,o,hS] at this;cases this
   rw [this];decide
  ·intro h
   refine .inr (.inl ⟨rfl,?_⟩);rintro ⟨j,hj,e⟩;have:((List.range (2 * k+1)).any fun j=>p j==i)=true:=d.2 ⟨2 * j+1,q39_,e⟩;rw [this] at h;exact absurd rfl h
structure Straight (n:Nat) (f:(Nat→Bool)→Nat) (S:Nat→Bool) (p:Nat→Nat) (k:Nat):Prop where
 start:f (insP S (p 0))=cnt S n+1
 noStart:∀ i,i<k→f (insP S (p (2 * i+2)))=f S
 arc:∀ i,i<k→f (insP (remP S (p (2 * i+1))) (p (2 * i+2)))=cnt S n
 noArc:∀ i j,i<j→j<k→f (insP (remP S (p (2 * i+1))) (p (2 * j+2)))<cnt S n
theorem Yx9 (h:Rk n f) {S:Nat→Bool} {p:Nat→Nat} {k:Nat} (o:f S=cnt S n) (g:Zig n S p k) (hs:Straight n f S p k):f (turnP S p k)=cnt S n+1∧cnt (turnP S p k) n=cnt S n+1:=by
 have m:∀ {q:Nat × Nat},q∈pairs p k→∃ j,j<k∧q=(p (2 * j+1),p (2 * j+2)):=fun d=>by
  obtain ⟨j,c,rfl⟩:=List.mem_map.1 d;exact ⟨j,List.mem_range.1 c,rfl⟩
 have s:=Xw7 h o (r:=pairs p k) (x:=p 0) (fun q d=>by
   obtain ⟨j,c,rfl⟩:=m d;exact ⟨⟨g.lt _ q39_,g.lt _ q39_⟩,g.within j c,g.out (j+1) q39_⟩)
  (by
   unfold pairs;rw [List.map_map];refine List.pairwise_map.2 (List.Pairwise.imp_of_mem (fun {i j} hi c hne e=>hne ?_) (List.nodup_range (n:=k)));rw [List.mem_range] at hi c;have:=g.inj _ _ q39_ q39_ e;omega)
  (by
   unfold pairs;rw [List.map_map];refine List.pairwise_map.2 (List.Pairwise.imp_of_mem (fun {i j} hi c hne e=>hne ?_) (List.nodup_range (n:=k)));rw [List.mem_range] at hi c;have:=g.inj _ _ q39_ q39_ e;omega)
  (fun q d=>by
   obtain ⟨j,c,rfl⟩:=m d;exact hs.noStart j c)
  (fun q d=>by
   obtain ⟨j,c,rfl⟩:=m d;exact hs.arc j c)
  (by
   unfold pairs;rw [List.pairwise_map];refine List.Pairwise.imp_of_mem (fun {i j} _ c hij=>?_) List.pairwise_lt_range;exact hs.noArc i j hij (List.mem_range.1 c))
  (g.lt 0 q39_) (g.out 0 q39_)
  (fun d=>by
   obtain ⟨q,d,e⟩:=List.mem_map.1 d;obtain ⟨j,c,rfl⟩:=m d;have:=g.inj (2 * j+2) 0 q39_ q39_ e;omega) hs.start
 rw [← h.ext (P:=insP (exch S (pairs p k)) (p 0)) (Q:=turnP S p k) fun i _=>Xf4 g i,← D1_ (P:=insP (exch S (pairs p k)) (p 0)) (Q:=turnP S p k) fun i _=>Xf4 g i];exact s
def cutP (S Y:Nat→Bool) (k:Nat):Nat→Bool:=fun i=>S i && !(decide (i<k) && Y i)
theorem Yl7 (h:Rk n f) {S Y:Nat→Bool} (p:f S=cnt S n) {x:Nat} (m:x<n) (o:f (insP S x)=f S) (q:∀ y,y<n→S y=true→Y y=true→f (insP (remP S y) x)<cnt S n) :
  ∀ k,k≤n→f (insP (cutP S Y k) x)=f (cutP S Y k)
 | 0,_=>by
  have e:cutP S Y 0=S:=by funext i;simp [cutP]
  rw [e,o]
 | k+1,hk=>by
  have z:=Yl7 h p m o q k q39_;by_cases d:S k=true∧Y k=true
  ·have g:cutP S Y (k+1)=remP (cutP S Y k) k:=by
    funext i
    unfold cutP remP;by_cases e:i=k
    ·subst e;simp [d.2]
    ·rw [show decide (i<k+1)=decide (i<k) from decide_eq_decide.2 q39_]
     simp [e]
   have r:cutP S Y k k=true:=by simp [cutP,d.1]
   have u:cutP S Y (k+1)=andP (cutP S Y k) (remP S k):=by
    rw [g]
    funext i
    unfold remP andP cutP;cases hs:S i<;>simp [hs]
   have v:orP (cutP S Y k) (remP S k)=S:=by
    funext i
    by_cases e:i=k
    ·subst e;unfold orP;rw [r,d.1];rfl
    ·unfold orP
     rw [S5_ e];unfold cutP;cases S i<;>simp
   have j:k<n:=q39_;have part:∀ {P:Nat→Bool},(∀ i,i<n→P i=true→S i=true)→f P=cnt P n:=fun w=>h.part w p;have E:=part (P:=cutP S Y k) fun i _ c=>by unfold cutP at c;rw [Bool.and_eq_true] at c;exact c.1
   have F:=part (P:=remP S k) fun i _ c=>by unfold remP at c;rw [Bool.and_eq_true] at c;exact c.1
   have G:=part (P:=cutP S Y (k+1)) fun i _ c=>by unfold cutP at c;rw [Bool.and_eq_true] at c;exact c.1
   have s:=O4_ j r;rw [← g] at s;have D:=O4_ j d.1;have hl:=q k j d.1 d.2;have H:=h.up' (remP S k) m;have C:=h.submod (insP (cutP S Y k) x) (insP (remP S k) x);have A:orP (insP (cutP S Y k) x) (insP (remP S k) x)=insP S x:=by
    funext i
    have e:=congrFun v i;simp only [orP] at e;simp only [orP,insP];cases i==x
    ·simpa using e
    ·simp
   have B:andP (insP (cutP S Y k) x) (insP (remP S k) x)=insP (cutP S Y (k+1)) x:=by
    funext i
    have e:=congrFun u i;simp only [andP] at e;simp only [andP,insP];cases i==x
    ·simpa using e.symm
    ·simp
   rw [A,B] at C;have I:=h.up' (cutP S Y (k+1)) m;omega
  ·have g:cutP S Y (k+1)=cutP S Y k:=by
    funext i
    unfold cutP;by_cases e:i=k
    ·subst e
     cases hs:S i
     ·rfl
     ·cases hy:Y i
      ·simp
      ·exact absurd ⟨hs,hy⟩ d
    ·rw [show decide (i<k+1)=decide (i<k) from decide_eq_decide.2 q39_]
   rw [g];exact z
theorem Zl3 (h:Rk n f) {S Y W:Nat→Bool} (m:f S=cnt S n) (q:∀ i,i<n→W i=true→Y i=false) (p:∀ x,x<n→W x=true→S x=false→f (insP S x)=f S)
  (r:∀ x,x<n→W x=true→S x=false→∀ y,y<n→S y=true→Y y=true→f (insP (remP S y) x)<cnt S n) (s:∀ i,i<n→S i=true→Y i=false→W i=true) :
  f W=cnt (andP S W) n:=by
 have e:∀ i,i<n→cutP S Y n i=andP S W i:=fun i c=>by
  unfold cutP andP;rw [decide_eq_true c,Bool.true_and];cases hs:S i
  ·rfl
  ·cases hy:Y i
   ·rw [s i c hs hy];rfl
   ·cases g:W i
    ·rfl
    ·rw [q i c g] at hy;cases hy
 have u:=h.part (P:=andP S W) (Q:=S) (fun i _ c=>by unfold andP at c;rw [Bool.and_eq_true] at c;exact c.1) m;have o:=h.closed (andP S W) W (fun x j g=>by
  cases hs:S x
  ·have k:=Yl7 h m j (p x j g hs) (r x j g hs) n (Nat.le_refl _)
   rw [h.ext (P:=cutP S Y n) (Q:=andP S W) e,h.ext (P:=insP (cutP S Y n) x) (Q:=insP (andP S W) x) fun i c=>by
    by_cases d:i=x
    ·rw [d,V2_,V2_]
    ·rw [X9_ d,X9_ d,e i c]] at k
   exact k
  ·rw [F8_ (by unfold andP;rw [hs,g];rfl)]) n (Nat.le_refl _)
 rw [B5_ h] at o;have d:orP (andP S W) W=W:=by
  funext i
  unfold orP andP;cases W i<;>simp
 rw [d] at o;omega
end
end Go.Proofs.YteiejkhdonmcdaaGreatDoor.Wp
namespace Go.Proofs.YteiejkhdonmcdaaGreatDoor.Wp
def Near (adj:List (List Int)) (dst:List Int):Nat→Int→Prop
 | 0,x=>x∈dst
 | n+1,x=>Near adj dst n x∨∃ y∈adj.getD x.toNat [],Near adj dst n y
section
variable {adj:List (List Int)} {dst:List Int}
theorem F3_ {x:Int} {n:Nat}:∀ {m:Nat},n≤m→Near adj dst n x→Near adj dst m x
 | 0,h,hn=>by rw [show n=0 by omega] at hn;exact hn
 | m+1,h,hn=>by
  by_cases e:n=m+1
  ·rw [← e];exact hn
  ·exact .inl (F3_ (m:=m) q39_ hn)
inductive Greedy (adj:List (List Int)) (dst:List Int):List Int→Nat→List Int→Prop
 | stop (S:List Int) (x:Int):x∈S→x∈dst→(∀ y∈S,y<x→y∉dst)→Greedy adj dst S 0 [x]
 | step (S:List Int) (x:Int) (n:Nat) (l:List Int):x∈S→Near adj dst (n+1) x→(∀ y∈S,¬ Near adj dst n y)→(∀ y∈S,y<x→¬ Near adj dst (n+1) y)→Greedy adj dst (adj.getD x.toNat []) n l→Greedy adj dst S (n+1) (x :: l)
theorem Greedy.length {S:List Int} {n:Nat} {l:List Int} (h:Greedy adj dst S n l):l.length=n+1:=by
 induction h with
 | stop=>rfl
 | step _ _ _ _ _ _ _ _ _ ih=>rw [List.length_cons,ih]
theorem Greedy.unique {S:List Int} {n:Nat} {l:List Int} (h:Greedy adj dst S n l):∀ {m:Nat} {k:List Int},Greedy adj dst S m k→l=k:=by
 induction h with
 | stop S x hx hd hl =>
  intro m k c;cases c with
  | stop _ y hy hdy hly =>
   have d:=hl y hy;have e:=hly x hx;rcases Int.lt_trichotomy x y with h | h | h
   ·exact absurd hd (e h)
   ·rw [h]
   ·exact absurd hdy (d h)
  | step _ y n l hy hn hno _ _=>exact absurd (F3_ (Nat.zero_le n) hd) (hno x hx)
 | step S x n l hx hn hno hl _ ih =>
  intro m k c;cases c with
  | stop _ y hy hdy hly=>exact absurd (F3_ (Nat.zero_le n) hdy) (hno y hy)
  | step _ y n' l' hy hn' hno' hl' hg' =>
   have f:n=n':=by
    rcases Nat.lt_trichotomy n n' with h | h | h
    ·exact absurd (F3_ q39_ hn) (hno' x hx)
    ·exact h
    ·exact absurd (F3_ q39_ hn') (hno y hy)
   subst f;have g:x=y:=by
    rcases Int.lt_trichotomy x y with h | h | h
    ·exact absurd hn (hl' x hx h)
    ·exact h
    ·exact absurd hn' (hl y hy h)
   subst g;rw [ih hg']
theorem Greedy.mem {S:List Int} {n:Nat} {x:Int} {l:List Int} (h:Greedy adj dst S n (x :: l)):x∈S:=by cases h<;>assumption
theorem Greedy.one {S:List Int} {n:Nat} {x:Int} {l:List Int} (h:Greedy adj dst S n (x :: l)):Greedy adj dst [x] n (x :: l):=by
 cases h with
 | stop _ _ hx hd hl=>exact .stop _ _ j39_ hd fun y c d=>by rw [List.mem_singleton] at c;omega
 | step _ _ n l hx hn hno hl hg =>
  refine .step _ _ _ _ j39_ hn (fun y c=>?_) (fun y c d=>?_) hg
  ·rw [List.mem_singleton] at c;rw [c];exact hno x hx
  ·rw [List.mem_singleton] at c;omega
theorem Greedy.near {S:List Int} {n:Nat} {l:List Int} (h:Greedy adj dst S n l):∀ k,k<l.length→Near adj dst (n - k) (l.getD k 0):=by
 induction h with
 | stop S x hx hd hl =>
  intro k c;have:k=0:=by simpa using c
  subst this;exact hd
 | step S x n l hx hn hno hl hg ih =>
  intro k c;cases k with
  | zero=>exact hn
  | succ k =>
   have:=ih k (by simpa using c);rw [List.getD_cons_succ,show n+1 - (k+1)=n - k by omega];exact this
theorem Greedy.tail {S:List Int} {n:Nat} {x:Int} {l:List Int} (h:Greedy adj dst S n (x :: l)) (hl:0<l.length):∃ m,n=m+1∧Greedy adj dst (adj.getD x.toNat []) m l:=by
 cases h with
 | stop=>simp at hl
 | step _ _ n l hx hn hno hl hg=>exact ⟨n,rfl,hg⟩
theorem Greedy.none {S:List Int} {n:Nat} {l:List Int} (h:Greedy adj dst S n l):∀ y∈S,∀ m,m<n→¬ Near adj dst m y:=by
 cases h with
 | stop=>intro y _ m c;omega
 | step _ x n l hx hn hno hl hg=>exact fun y d m c h=>hno y d (F3_ q39_ h)
theorem Greedy.straight {S:List Int} {n:Nat} {l:List Int} (h:Greedy adj dst S n l):∀ i k,i+2≤k→k<l.length→l.getD k 0∉adj.getD (l.getD i 0).toNat []:=by
 induction h with
 | stop S x hx hd hl =>
  intro i k g e;have:k<1:=e;omega
 | step S x n l hx hn hno hl hg ih =>
  intro i k g e d;obtain ⟨c,rfl⟩:∃ c,k=c+1:=⟨k - 1,q39_⟩;rw [List.getD_cons_succ] at d;have f:c<l.length:=by simpa using e
  have j:=hg.length;cases i with
  | zero =>
   rw [List.getD_cons_zero] at d;exact hg.none _ d (n - c) q39_ (hg.near c f)
  | succ i =>
   rw [List.getD_cons_succ] at d;exact ih i c q39_ f d
end
section
variable {adj:List (List Int)} {dst:List Int}
theorem Greedy.first {S:List Int} {n:Nat} {l:List Int} (h:Greedy adj dst S n l):l.getD 0 0∈S:=by cases h<;>simpa
theorem Greedy.arcs {S:List Int} {n:Nat} {l:List Int} (h:Greedy adj dst S n l):∀ i,i+1<l.length→l.getD (i+1) 0∈adj.getD (l.getD i 0).toNat []:=by
 induction h with
 | stop=>intro i hi;simp at hi
 | step S x n l hx hn hno hl hg ih =>
  intro i hi;cases i with
  | zero =>
   rw [List.getD_cons_succ,List.getD_cons_zero];exact hg.first
  | succ i =>
   rw [List.getD_cons_succ,List.getD_cons_succ];exact ih i j48_
theorem Greedy.last {S:List Int} {n:Nat} {l:List Int} (h:Greedy adj dst S n l):l.getD n 0∈dst:=by
 have c:=h.near n (by rw [h.length];omega);rw [Nat.sub_self] at c;exact c
theorem Greedy.notFirst {S:List Int} {n:Nat} {l:List Int} (h:Greedy adj dst S n l):∀ i,0<i→i<l.length→l.getD i 0∉S:=fun i e d c=>by
 have:=h.length;exact h.none _ c (n - i) q39_ (h.near i d)
theorem Greedy.notLast {S:List Int} {n:Nat} {l:List Int} (h:Greedy adj dst S n l):∀ i,i<n→l.getD i 0∉dst:=by
 induction h with
 | stop=>intro i c;omega
 | step S x n l hx hn hno hl hg ih =>
  intro i c hd;cases i with
  | zero =>
   rw [List.getD_cons_zero] at hd;exact hno x hx (F3_ (n:=0) q39_ hd)
  | succ i =>
   rw [List.getD_cons_succ] at hd;exact ih i q39_ hd
theorem Greedy.inj {S:List Int} {n:Nat} {l:List Int} (h:Greedy adj dst S n l):∀ i j,i<j→j<l.length→l.getD i 0≠l.getD j 0:=fun i j d g e=>by
 have hl:=h.length;by_cases f:j=n
 ·subst f
  exact h.notLast i d (by rw [e];exact h.last)
 ·have c:=h.arcs j q39_
  rw [← e] at c;exact h.straight i (j+1) q39_ q39_ c
end
end Go.Proofs.YteiejkhdonmcdaaGreatDoor.Wp
namespace Go.Proofs.YteiejkhdonmcdaaGreatDoor.Wp
open Go Go.RowKit
noncomputable def M9_ (m:Mat) (s:List Int) (x y:Int):Bool:=hasB s y && (!hasB s x && indT m (Y1_ (Z5_ s [y]) [x]))
noncomputable def arcsG (a b:Mat) (s:List Int) (p:Int):List Int:=(upTo (nN a)).filter fun q=>M9_ a s q p || M9_ b s p q
noncomputable def adjG (a b:Mat) (s:List Int):List (List Int):=(upTo (nN a)).map (arcsG a b s)
noncomputable def addG (m:Mat) (s:List Int):List Int:=(upTo (nN m)).filter fun x=>!hasB s x && indT m (Y1_ s [x])
def turnL (s l:List Int):List Int:=if mayB s=true∧(sortL l).length=l.length then Y1_ (Z5_ s (sortL l)) (Z5_ (sortL l) s) else []
structure Common (a b:Mat) (s:List Int):Prop where
 n:a.n=b.n
 ia:indT a s=true
 ib:indT b s=true
theorem mem_upTo {k:Nat} {x:Int}:x∈upTo k↔0≤x∧x<(k:Int):=by
 unfold upTo;rw [List.mem_map];constructor
 ·rintro ⟨i,c,rfl⟩
  rw [List.mem_range] at c;exact ⟨by show (0:Int)≤(i:Int);omega,by show (i:Int)<_;omega⟩
 ·rintro ⟨d,e⟩
  exact ⟨x.toNat,List.mem_range.2 q39_,by show ((x.toNat:Nat):Int)=x;omega⟩
theorem Zr5 {s:List Int} {x:Nat} (hs:IsSet s):hasB s (x:Int)=memP s x:=by
 rw [Bool.eq_iff_iff,B7_ hs,memP_iff]
section
variable {m:Mat} {s:List Int}
theorem Zf1 {n x:Nat} (d:n≤64) (e:x<n):InN n [(x:Int)]:=⟨⟨j39_,fun z c=>by rw [List.mem_singleton.1 c];exact ⟨q39_,q39_⟩⟩,fun z c=>by rw [List.mem_singleton.1 c];omega⟩
theorem Yv0 (j:indT m s=true) {x y:Nat} (hx:x<nN m) (hy:y<nN m):M9_ m s x y=true↔memP s y=true∧memP s x=false∧rkP 4 m (insP (remP (memP s) y) x)=cnt (memP s) (nN m):=by
 obtain ⟨hc,c⟩:=mayI_iff.1 (J5_ j);have h:=(Z7_ hc).2;have d:=Zf1 h hx;have f:=Zf1 h hy;have g:InN (nN m) (Y1_ (Z5_ s [(y:Int)]) [(x:Int)]):=Q3_ (Zd1 c f) d;have e:memP (Y1_ (Z5_ s [(y:Int)]) [(x:Int)])=insP (remP (memP s) y) x:=by
  funext i
  rw [Bool.eq_iff_iff,memP_iff,V8_ (J7_ _ _) d.1,Y6_ c.1 f.1];unfold insP remP;rw [Bool.or_eq_true,Bool.and_eq_true,beq_iff_eq,Bool.not_eq_true',memP_iff];simp only [List.mem_singleton,beq_eq_false_iff_ne,Int.natCast_inj,ne_eq];exact Or.comm
 unfold M9_;rw [Bool.and_eq_true,Bool.and_eq_true,Bool.not_eq_true',Zr5 c.1,Zr5 c.1,A8_ (mayI_iff.2 ⟨hc,g⟩),X2_ g,e];constructor
 ·exact x17_
 ·exact x17_
theorem M6_ (h:indT m s=true) {x:Nat}:(x:Int)∈addG m s↔x<nN m∧memP s x=false∧rkP 4 m (insP (memP s) x)=cnt (memP s) (nN m)+1:=by
 obtain ⟨hc,c⟩:=mayI_iff.1 (J5_ h);have g:=(Z7_ hc).2;unfold addG;rw [List.mem_filter,mem_upTo];constructor
 ·rintro ⟨⟨_,f⟩,d⟩
  have e:x<nN m:=q39_;have h3:=Zf1 g e;rw [Bool.and_eq_true,Bool.not_eq_true',Zr5 c.1,A8_ (mayI_iff.2 ⟨hc,Q3_ c h3⟩),X2_ (Q3_ c h3),H0_ c.1 h3.1,Zq3 q39_,Int.toNat_natCast] at d;rw [A4_ e d.1] at d;exact ⟨e,d.1,d.2⟩
 ·rintro ⟨e,f,d⟩
  have h3:=Zf1 g e;refine ⟨⟨q39_,q39_⟩,?_⟩;rw [Bool.and_eq_true,Bool.not_eq_true',Zr5 c.1,A8_ (mayI_iff.2 ⟨hc,Q3_ c h3⟩),X2_ (Q3_ c h3),H0_ c.1 h3.1,Zq3 q39_,Int.toNat_natCast,A4_ e f];exact ⟨f,d⟩
theorem Zf2 (c:indT m s=true):rkP 4 m (memP s)=cnt (memP s) (nN m):=by
 obtain ⟨hc,d⟩:=mayI_iff.1 (J5_ c);rw [← X2_ d];exact (A8_ (J5_ c)).1 c
end
section
variable {a b:Mat} {s:List Int}
theorem Common.nn (h:Common a b s):nN b=nN a:=by unfold nN;rw [h.n]
theorem Zl4 {x:Nat} (c:x<nN a):(adjG a b s).getD x []=arcsG a b s (x:Int):=by
 unfold adjG upTo;simp [List.getD,c]
theorem A6_:(adjG a b s).length=nN a:=by unfold adjG;rw [List.length_map,Q9_]
theorem S6_ (h:Common a b s) {x y:Nat} (c:x<nN a) (d:y<nN a):(y:Int)∈(adjG a b s).getD x [] ↔
  (memP s x=true∧memP s y=false∧rkP 4 a (insP (remP (memP s) x) y)=cnt (memP s) (nN a))∨(memP s y=true∧memP s x=false∧rkP 4 b (insP (remP (memP s) y) x)=cnt (memP s) (nN a)):=by
 rw [Zl4 c];unfold arcsG;rw [List.mem_filter,mem_upTo,Bool.or_eq_true,Yv0 h.ia d c,Yv0 h.ib (by rw [h.nn];exact c) (by rw [h.nn];exact d),h.nn];exact ⟨fun h=>h.2,fun h=>⟨⟨q39_,q39_⟩,h⟩⟩
theorem Vr0 {x:Nat} (d:x<nN a) {y:Int} (c:y∈(adjG a b s).getD x []):0≤y∧y<(nN a:Int):=by
 rw [Zl4 d] at c;exact mem_upTo.1 (List.mem_filter.1 c).1
theorem Xw8 {l:List Int} (d:l.Nodup) (c:∀ x∈l,Fit x):(sortL l).length=l.length:=by
 refine ((List.perm_ext_iff_of_nodup ((V7_ l).1.imp fun h e=>by omega) d).2 fun x=>?_).length_eq;rw [C7_];exact ⟨fun h=>h.1,fun h=>⟨h,c x h⟩⟩
theorem Xf5 (h:Common a b s) {d:Nat} {l:List Int} (r:Greedy (adjG a b s) (addG b s) (addG a s) d l):(turnL s l).length=s.length+1∧indT a (turnL s l)=true∧indT b (turnL s l)=true∧InN (nN a) (turnL s l):=by
 obtain ⟨F,w⟩:=mayI_iff.1 (J5_ h.ia);obtain ⟨O,_⟩:=mayI_iff.1 (J5_ h.ib);have hn:=(Z7_ F).2;have x8:=r.length;have L:=rk_of F;have A:=rk_of O;rw [h.nn] at A;have Y:=Zf2 h.ia;have M:=Zf2 h.ib;rw [h.nn] at M;have K:∀ i,i<l.length→0≤l.getD i 0∧l.getD i 0<(nN a:Int):=by
  intro i
  induction i with
  | zero=>intro _;exact mem_upTo.1 (List.mem_filter.1 r.first).1
  | succ i ih =>
   intro c;have v:=ih q39_;have h1:=r.arcs i c;exact Vr0 q39_ h1
 obtain ⟨p,hp⟩:∃ p:Nat→Nat,∀ i,p i=(l.getD i 0).toNat:=⟨_,fun _=>rfl⟩;have q:∀ i,i<l.length→l.getD i 0=(p i:Int):=fun i c=>by rw [hp];have:=K i c;omega
 have o:∀ i,i<l.length→p i<nN a:=fun i c=>by have:=K i c;have:=q i c;omega
 have E:∀ i,i+1<l.length→(p (i+1):Int)∈(adjG a b s).getD (p i) []:=fun i c=>by
  have:=r.arcs i c
  rwa [q i q39_,q (i+1) c,Int.toNat_natCast] at this
 have V:∀ i j,i+2≤j→j<l.length→¬ (p j:Int)∈(adjG a b s).getD (p i) []:=fun i j z g=>by
  have:=r.straight i j z g
  rwa [q i q39_,q j g,Int.toNat_natCast] at this
 have J:∀ i,i<l.length→memP s (p i)=decide (i % 2=1):=by
  intro i
  induction i with
  | zero =>
   intro c;have h1:=r.first;rw [q 0 c,M6_ h.ia] at h1;rw [h1.2.1];rfl
  | succ i ih =>
   intro c;have v:=ih q39_;rcases (S6_ h (o i q39_) (o (i+1) c)).1 (E i c) with ⟨h1,h2,_⟩ | ⟨h1,h2,_⟩
   ·rw [h1] at v
    have:=of_decide_eq_true v.symm;rw [h2];exact (decide_eq_false q39_).symm
   ·rw [h2] at v
    have:=of_decide_eq_false v.symm;rw [h1];exact (decide_eq_true q39_).symm
 have H:=r.last;rw [q d q39_,M6_ h.ib,h.nn] at H;have x7:d % 2=0:=by
  have h1:=J d q39_;rw [H.2.1] at h1;have:=of_decide_eq_false h1.symm;omega
 obtain ⟨k,rfl⟩:∃ k,d=2 * k:=⟨d / 2,q39_⟩;have U:∀ i j,i≤2 * k→j≤2 * k→p i=p j→i=j:=fun i j c g e=>by
  rcases Nat.lt_trichotomy i j with I | x0 | I
  ·exact absurd (by rw [q i q39_,q j q39_,e]) (r.inj i j I q39_)
  ·exact x0
  ·exact absurd (by rw [q i q39_,q j q39_,e]) (r.inj j i I q39_)
 have u:∀ i,i≤k→memP s (p (2 * i))=false:=fun i c=>by rw [J _ q39_];exact decide_eq_false q39_
 have hwi:∀ i,i<k→memP s (p (2 * i+1))=true:=fun i c=>by rw [J _ q39_];exact decide_eq_true q39_
 have hz:Zig (nN a) (memP s) p k:=⟨fun i c=>o i q39_,U,u,hwi⟩;have one:∀ {f:(Nat→Bool)→Nat},Rk (nN a) f→f (memP s)=cnt (memP s) (nN a)→∀ {x:Nat},x<nN a→¬ f (insP (memP s) x)=cnt (memP s) (nN a)+1→f (insP (memP s) x)=f (memP s):=fun hr hs x hx x3=>by
  have u1:=hr.up' (memP s) hx;have u2:=hr.one' (memP s) hx;omega
 have X:∀ {f:(Nat→Bool)→Nat},Rk (nN a) f→∀ {x y:Nat},x<nN a→y<nN a→memP s y=true→memP s x=false→¬ f (insP (remP (memP s) y) x)=cnt (memP s) (nN a)→f (insP (remP (memP s) y) x)<cnt (memP s) (nN a):=fun hr x y hx hy h1 h2 x3=>j17_;have R:=r.first;rw [q 0 q39_,M6_ h.ia] at R;have x4:Straight (nN a) (rkP 4 a) (memP s) p k:=by
  refine ⟨R.2.2,fun i c=>?_,fun i c=>?_,fun i j z g=>?_⟩
  ·refine one L Y (o _ q39_) fun e=>r.notFirst (2 * i+2) q39_ q39_ ?_
   rw [q _ q39_,M6_ h.ia];exact ⟨o _ q39_,u (i+1) q39_,e⟩
  ·rcases (S6_ h (o (2 * i+1) q39_) (o (2 * i+2) q39_)).1 (E (2 * i+1) q39_) with ⟨_,_,h3⟩ | ⟨h1,_,_⟩
   ·exact h3
   ·have:=u (i+1) q39_
    rw [show 2 * (i+1)=2 * i+2 by omega,h1] at this;cases this
  ·refine X L (o _ q39_) (o _ q39_) (hwi i q39_) (u (j+1) q39_) fun e=>V (2 * i+1) (2 * j+2) q39_ q39_ ?_
   exact (S6_ h (o _ q39_) (o _ q39_)).2 (.inl ⟨hwi i q39_,u (j+1) q39_,e⟩)
 have x6:Zig (nN a) (memP s) (fun i=>p (2 * k - i)) k:=by
  refine ⟨fun i _=>o _ q39_,fun i j c g e=>by have:=U _ _ q39_ q39_ e;omega,fun i c=>?_,fun i c=>?_⟩
  ·show memP s (p (2 * k - 2 * i))=false
   rw [show 2 * k - 2 * i=2 * (k - i) by omega];exact u _ q39_
  ·show memP s (p (2 * k - (2 * i+1)))=true
   exact x27_
 have x5:Straight (nN a) (rkP 4 b) (memP s) (fun i=>p (2 * k - i)) k:=by
  refine ⟨H.2.2,fun i c=>?_,fun i c=>?_,fun i j z g=>?_⟩
  ·show rkP 4 b (insP (memP s) (p (2 * k - (2 * i+2))))=_
   refine one A M (o _ q39_) fun e=>r.notLast (2 * k - (2 * i+2)) q39_ ?_;rw [q _ q39_,M6_ h.ib,h.nn];refine ⟨o _ q39_,?_,e⟩;rw [show 2 * k - (2 * i+2)=2 * (k - i - 1) by omega];exact u _ q39_
  ·show rkP 4 b (insP (remP (memP s) (p (2 * k - (2 * i+1)))) (p (2 * k - (2 * i+2))))=_
   have e1:2 * k - (2 * i+1)=2 * k - (2 * i+2)+1:=q39_;have v:=E (2 * k - (2 * i+2)) q39_;rw [← e1] at v;rcases (S6_ h (o _ q39_) (o _ q39_)).1 v with ⟨h1,_,_⟩ | ⟨_,_,h3⟩
   ·have:=u (k - i - 1) q39_
    rw [show 2 * (k - i - 1)=2 * k - (2 * i+2) by omega,h1] at this;cases this
   ·exact h3
  ·show rkP 4 b (insP (remP (memP s) (p (2 * k - (2 * i+1)))) (p (2 * k - (2 * j+2))))<_
   have hy:memP s (p (2 * k - (2 * i+1)))=true:=x27_;have hx:memP s (p (2 * k - (2 * j+2)))=false:=by
    rw [show 2 * k - (2 * j+2)=2 * (k - j - 1) by omega];exact u _ q39_
   refine X A (o _ q39_) (o _ q39_) hy hx fun e=>V (2 * k - (2 * j+2)) (2 * k - (2 * i+1)) q39_ q39_ ?_;exact (S6_ h (o _ q39_) (o _ q39_)).2 (.inr ⟨hy,hx,e⟩)
 have Z:=Yx9 L Y hz x4;have tb:=Yx9 A M x6 x5;have x1:∀ i:Nat,(i:Int)∈l↔∃ j,j≤2 * k∧p j=i:=fun i=>by
  constructor
  ·intro c
   obtain ⟨j,g,e⟩:=List.mem_iff_getElem.1 c;have:=q j g;rw [show l.getD j 0=l[j] by simp [List.getD,g],e] at this;exact ⟨j,q39_,q39_⟩
  ·rintro ⟨j,g,e⟩
   rw [← e,← q j q39_];exact D2_ 0 q39_
 have T:∀ x∈l,0≤x∧x<(nN a:Int):=fun x hx=>by
  obtain ⟨j,g,e⟩:=List.mem_iff_getElem.1 hx;have:=K j g
  rwa [show l.getD j 0=l[j] by simp [List.getD,g],e] at this
 have S:∀ x∈l,Fit x:=fun x hx=>by have:=T x hx;exact ⟨q39_,q39_⟩
 have x2:l.Nodup:=by
  rw [List.nodup_iff_pairwise_ne,List.pairwise_iff_getElem];intro i j c g z e;refine r.inj i j z g ?_;simp [List.getD,c,g,e]
 have B:InN (nN a) (sortL l):=⟨V7_ l,fun x hx=>T x ((C7_ x l).1 hx).1⟩;have W:turnL s l=Y1_ (Z5_ s (sortL l)) (Z5_ (sortL l) s):=by
  unfold turnL;rw [if_pos ⟨I8_ w.1,Xw8 x2 S⟩]
 have C:InN (nN a) (turnL s l):=by rw [W];exact Q3_ (Zd1 w B) (Zd1 B w)
 have hany:∀ i:Nat,((List.range (2 * k+1)).any fun j=>p j==i)=true↔(i:Int)∈l:=fun i=>by
  rw [List.any_eq_true,x1];constructor
  ·rintro ⟨j,g,e⟩;rw [List.mem_range] at g;exact ⟨j,q39_,by simpa using e⟩
  ·rintro ⟨j,g,e⟩;exact ⟨j,List.mem_range.2 q39_,by simpa using e⟩
 have eT:∀ i,memP (turnL s l) i=turnP (memP s) p k i:=fun i=>by
  rw [Bool.eq_iff_iff,memP_iff,W,V8_ (J7_ _ _) (J7_ _ _),Y6_ w.1 B.1,Y6_ B.1 w.1,C7_];unfold turnP;rw [bne_iff_ne];have Q:(i:Int)∈l→Fit (i:Int):=fun h=>S _ h;rw [← memP_iff];cases h1:memP s i<;>cases h2:((List.range (2 * k+1)).any fun j=>p j==i)
  ·exact q25_
  ·have:=(hany i).1 h2
   simp [this,Q this]
  ·exact q25_
  ·have:=(hany i).1 h2
   simp [this,Q this]
 have N:∀ i,i<nN a→turnP (memP s) (fun i=>p (2 * k - i)) k i=turnP (memP s) p k i:=fun i _=>by
  unfold turnP;congr 1;rw [Bool.eq_iff_iff,List.any_eq_true,List.any_eq_true];constructor
  ·rintro ⟨j,g,e⟩;rw [List.mem_range] at g;exact ⟨2 * k - j,List.mem_range.2 q39_,e⟩
  ·rintro ⟨j,g,e⟩
   rw [List.mem_range] at g;refine ⟨2 * k - j,List.mem_range.2 q39_,?_⟩;show (p (2 * k - (2 * k - j))==i)=true;rw [show 2 * k - (2 * k - j)=j by omega];exact e
 rw [A.ext N,D1_ N] at tb;have D:memP (turnL s l)=turnP (memP s) p k:=funext eT;have G:(turnL s l).length=s.length+1:=by rw [X2_ C,X2_ w,D];exact Z.2
 refine ⟨G,?_,?_,C⟩
 ·rw [A8_ (mayI_iff.2 ⟨F,C⟩),D,G,X2_ w]
  exact Z.1
 ·rw [A8_ (m:=b) (mayI_iff.2 ⟨O,by rw [h.nn];exact C⟩),D,G,X2_ w]
  exact tb.1
theorem Yw0 (h:Common a b s) {W:List Int} (p:InN (nN a) W) (G:∀ x∈addG a s,x∈W) (v:∀ x:Nat,(x:Int)∈W→∀ y∈(adjG a b s).getD x [],y∈W) (F:∀ x∈W,x∉addG b s) :
  rankT a (Z5_ (allL a.n) W)+rankT b W=(s.length:Int):=by
 obtain ⟨q,C⟩:=mayI_iff.1 (J5_ h.ia);obtain ⟨u,_⟩:=mayI_iff.1 (J5_ h.ib);have j:=chk_n q;have k:=rk_of q;have o:=rk_of u;rw [h.nn] at o;have z:=Zf2 h.ia;have r:=Zf2 h.ib;rw [h.nn] at r;have one:∀ {f:(Nat→Bool)→Nat},Rk (nN a) f→f (memP s)=cnt (memP s) (nN a)→∀ {x:Nat},x<nN a→¬ f (insP (memP s) x)=cnt (memP s) (nN a)+1→f (insP (memP s) x)=f (memP s):=fun hr hs x hx E=>by
  have H:=hr.up' (memP s) hx;have I:=hr.one' (memP s) hx;omega
 have w:∀ {f:(Nat→Bool)→Nat},Rk (nN a) f→∀ {x y:Nat},x<nN a→y<nN a→memP s y=true→memP s x=false→¬ f (insP (remP (memP s) y) x)=cnt (memP s) (nN a)→f (insP (remP (memP s) y) x)<cnt (memP s) (nN a):=fun hr x y hx hy h1 h2 E=>j17_;have hb:=Zl3 o (Y:=notP (memP W)) (W:=memP W) r (fun i _ c=>by unfold notP;rw [c];rfl)
  (fun x hx c hs=>one o r hx fun e=>F _ (memP_iff.1 c) (by rw [M6_ h.ib,h.nn];exact ⟨hx,hs,e⟩))
  (fun x hx c hs y hy d g=>w o hx hy d hs fun e=>by
   have h1:=v x (memP_iff.1 c) (y:Int) ((S6_ h hx hy).2 (.inr ⟨d,hs,e⟩));unfold notP at g;rw [memP_iff.2 h1] at g;cases g)
  (fun i _ _ hy=>by unfold notP at hy;simpa using hy)
 have ha:=Zl3 k (Y:=memP W) (W:=notP (memP W)) z (fun i _ c=>by unfold notP at c;simpa using c)
  (fun x hx c hs=>one k z hx fun e=>by
   have h1:=G (x:Int) ((M6_ h.ia).2 ⟨hx,hs,e⟩);unfold notP at c;rw [memP_iff.2 h1] at c;cases c)
  (fun x hx c hs y hy d g=>w k hx hy d hs fun e=>by
   have h1:=v y (memP_iff.1 g) (x:Int) ((S6_ h hy hx).2 (.inl ⟨d,hs,e⟩));unfold notP at c;rw [memP_iff.2 h1] at c;cases c)
  (fun i _ _ hy=>by unfold notP;rw [hy];rfl)
 have B:InN (nN a) (Z5_ (allL a.n) W):=G6_ j.1 j.2 p.1;have A:∀ i,i<nN a→memP (Z5_ (allL a.n) W) i=notP (memP W) i:=fun i D=>U4_ j.1 j.2 p.1 D;rw [Zr4 (mayI_iff.2 ⟨q,B⟩),Zr4 (m:=b) (mayI_iff.2 ⟨u,by rw [h.nn];exact p⟩),k.ext A,ha,hb,X2_ C];have hc:=Xf3 (andP (memP s) (notP (memP W))) (andP (memP s) (memP W)) (nN a);rw [D1_ (P:=orP (andP (memP s) (notP (memP W))) (andP (memP s) (memP W))) (Q:=memP s) (fun i _=>by simp only [orP,andP,notP];cases memP s i<;>cases memP W i<;>rfl),
  D1_ (P:=andP (andP (memP s) (notP (memP W))) (andP (memP s) (memP W))) (Q:=noneP) (fun i _=>by simp only [andP,notP,noneP];cases memP s i<;>cases memP W i<;>rfl),E6_] at hc
 omega
end
end Go.Proofs.YteiejkhdonmcdaaGreatDoor.Wp
