/- What is connected, plain: graphs as lists of pairs, each vertex's least connected one, parts, the rank; the document's labels. Nothing of the program here. The parts of a graph, as lists, and how they come vertex by vertex. Nothing of the program here. Combinations modulo a prime, plain. Ranks, plain: what a rank of properties of numbers below n is; that it is submodular; truncated, turned round, mapped, contracted and added ones are ranks again. Nothing of the program here. Matchings and covers, plain. Ranks of what has none within, plain: of edges, of classes, of columns, of those that go with others. Nothing of the program here. -/
import Derived.Lib.Hide
import Derived.Test.YtheeajnkiniopaaGreatDoorX0A
open Nat (le_refl)
namespace Go.Proofs.YtheeajnkiniopaaGreatDoor.Wp
def cnt (p:Nat→Bool) (n:Nat):Nat:=((List.range n).filter p).length
theorem X4_ (p:Nat→Bool) (n:Nat):cnt p (n+1)=cnt p n+if p n then 1 else 0:=by
 unfold cnt;exact j27_
theorem A3_ (p:Nat→Bool):∀ n,cnt p n≤n
 | 0=>by simp [cnt]
 | n+1=>by
  rw [X4_];have:=A3_ p n;split<;>omega
theorem T5_ {p q:Nat→Bool}:∀ {n:Nat},(∀ v,v<n→p v=true→q v=true)→cnt p n≤cnt q n
 | 0,_=>by simp [cnt]
 | n+1,h=>by
  have e:=T5_ (p:=p) (q:=q) (n:=n) fun v d=>h v q40_;have c:=h n q40_;rw [X4_,X4_];cases hp:p n
  ·simp;omega
  ·simp [c hp];omega
theorem Zu2 {p q:Nat→Bool}:∀ {n:Nat},(∀ v,v<n→p v=true→q v=true)→(∃ y,y<n∧p y=false∧q y=true)→cnt p n<cnt q n
 | 0,_,⟨y,hy,_⟩=>by omega
 | n+1,h,⟨y,hy,hp,hq⟩=>by
  rw [X4_,X4_];by_cases e:y=n
  ·subst e
   have:=T5_ (p:=p) (q:=q) (n:=y) fun v d=>h v q40_;simp [hp,hq];omega
  ·have f:=Zu2 (p:=p) (q:=q) (n:=n) (fun v d=>h v q40_) ⟨y,q40_,hp,hq⟩
   have c:=h n q40_;cases hpn:p n
   ·simp;omega
   ·simp [c hpn];omega
theorem Za5 {p q:Nat→Bool} {y:Nat} (d:p y=true) (e:q y=false) (h:∀ v,v≠y→p v=q v):∀ {n:Nat},cnt p n=cnt q n+if y<n then 1 else 0
 | 0=>by simp [cnt]
 | n+1=>by
  have g:=Za5 d e h (n:=n);rw [X4_,X4_,g];by_cases f:y=n
  ·subst f
   simp [d,e]
  ·rw [h n q40_]
   by_cases c:y<n
   ·rw [if_pos c,if_pos (show y<n+1 by omega)];omega
   ·rw [if_neg c,if_neg (show ¬ y<n+1 by omega)];omega
theorem Yb7 {p:Nat→Bool}:∀ {n:Nat},cnt p n=n→∀ v,v<n→p v=true
 | 0,_,v,hv=>by omega
 | n+1,h,v,hv=>by
  rw [X4_] at h;have hl:=A3_ p n;cases hp:p n
  ·rw [hp] at h;simp at h;omega
  ·rw [hp] at h
   simp at h;by_cases c:v=n
   ·subst c;exact hp
   ·exact Yb7 h v q40_
theorem T6_ {p:Nat→Bool}:∀ {n:Nat},(∀ v,v<n→p v=true)→cnt p n=n
 | 0,_=>by simp [cnt]
 | n+1,h=>by
  rw [X4_,h n q40_,T6_ fun v c=>h v q40_];simp
def Cst (es:List (Nat × Nat)) (g:Nat→Nat):Prop:=∀ e∈es,g e.1=g e.2
def Good (es:List (Nat × Nat)) (f:Nat→Nat):Prop:=Cst es f∧(∀ g,Cst es g→∀ v,g (f v)=g v)∧∀ v,f v≤v
theorem Good.uniq {es j:List (Nat × Nat)} {f f':Nat→Nat} (h:Good es f) (e:Good j f') (k:∀ g,Cst es g↔Cst j g):f=f':=by
 funext v
 have a:=h.2.1 f' ((k f').2 e.1) v;have b:=e.2.1 f ((k f).1 h.1) v;have c:=e.2.2 (f v);have d:=h.2.2 (f' v);omega
theorem Good.idem {es:List (Nat × Nat)} {f:Nat→Nat} (h:Good es f) (v:Nat):f (f v)=f v:=h.2.1 f h.1 v
theorem cst_append {a b:List (Nat × Nat)} {g:Nat→Nat}:Cst (a ++ b) g↔Cst a g∧Cst b g:=by
 unfold Cst;constructor
 ·intro h
  exact ⟨fun e c=>h e (List.mem_append.2 (.inl c)),fun e c=>h e (List.mem_append.2 (.inr c))⟩
 ·rintro ⟨h,k⟩ e c
  rcases List.mem_append.1 c with c | c
  ·exact h e c
  ·exact k e c
theorem cst_one {e:Nat × Nat} {g:Nat→Nat}:Cst [e] g↔g e.1=g e.2:=by simp [Cst]
theorem Vg3 (g:Nat→Nat):Cst [] g:=fun _ h=>absurd h z40_
def R0_ (f:Nat→Nat) (a b:Nat):Nat→Nat:=fun v=>if f v=max a b then min a b else f v
def B9_ (f:Nat→Nat) (e:Nat × Nat):Nat→Nat:=R0_ f (f e.1) (f e.2)
def compF (es:List (Nat × Nat)):Nat→Nat:=es.foldl B9_ id
theorem Zh1 (f:Nat→Nat) (a:Nat):R0_ f a a=f:=by
 funext v
 unfold R0_;split<;>omega
theorem Xr4:Good [] id:=⟨Vg3 _,fun _ _ _=>rfl,fun _=>le_refl _⟩
theorem Xa8 {es:List (Nat × Nat)} {f:Nat→Nat} (h:Good es f) (e:Nat × Nat):Good (es ++ [e]) (B9_ f e):=by
 obtain ⟨a,b⟩:=e;have r:=h.idem a;have s:=h.idem b;refine ⟨?_,?_,?_⟩
 ·rw [cst_append]
  refine ⟨fun e p=>?_,cst_one.2 ?_⟩
  ·unfold B9_ R0_
   rw [h.1 e p]
  ·unfold B9_ R0_
   simp only;rcases Nat.le_total (f a) (f b) with hl | hl
   ·rw [Nat.max_eq_right hl,Nat.min_eq_left hl]
    split<;>simp_all
   ·rw [Nat.max_eq_left hl,Nat.min_eq_right hl]
    split<;>simp_all
 ·intro g c v
  rw [cst_append,cst_one] at c;have k:=h.2.1 g c.1;have m:=k a;have o:=k b;have d:=k v;have j:g a=g b:=c.2;show g (if f v=max (f a) (f b) then min (f a) (f b) else f v)=g v;split
  ·rename_i hm
   rcases Nat.le_total (f a) (f b) with hl | hl
   ·rw [Nat.max_eq_right hl] at hm
    rw [Nat.min_eq_left hl,m,j,← o,← hm,d]
   ·rw [Nat.max_eq_left hl] at hm
    rw [Nat.min_eq_right hl,o,← j,← m,← hm,d]
  ·exact d
 ·intro v
  have q:=h.2.2 v;show (if f v=max (f a) (f b) then min (f a) (f b) else f v)≤v;split<;>omega
theorem Zu3:∀ (es c:List (Nat × Nat)) (f:Nat→Nat),Good c f→Good (c ++ es) (es.foldl B9_ f)
 | [],c,f,h=>by simpa using h
 | e :: es,c,f,h=>by
  have:=Zu3 es (c ++ [e]) _ (Xa8 h e);simpa using this
theorem A9_ (es:List (Nat × Nat)):Good es (compF es):=Zu3 es [] id Xr4
theorem Za6 (es:List (Nat × Nat)) (e:Nat × Nat):compF (es ++ [e])=B9_ (compF es) e:=by
 unfold compF;rw [List.foldl_append];rfl
theorem Zu4 {a b:List (Nat × Nat)} (h:∀ g,Cst a g↔Cst b g):compF a=compF b:=(A9_ a).uniq (A9_ b) h
theorem Xa9 (es:List (Nat × Nat)) (v:Nat):compF es v≤v:=(A9_ es).2.2 v
theorem Zu5 (es:List (Nat × Nat)) (v:Nat):compF es (compF es v)=compF es v:=(A9_ es).idem v
theorem Xb0 {es:List (Nat × Nat)} {e:Nat × Nat} (h:e∈es):compF es e.1=compF es e.2:=(A9_ es).1 e h
theorem Zu6 (a b:List (Nat × Nat)) (v:Nat):compF (a ++ b) (compF a v)=compF (a ++ b) v :=
 (A9_ a).2.1 _ ((cst_append.1 (A9_ (a ++ b)).1).1) v
def rootB (f:Nat→Nat) (r:Nat):Bool:=decide (f r=r)
def G5_ (n:Nat) (es:List (Nat × Nat)):Nat:=cnt (rootB (compF es)) n
theorem Za7 (n:Nat) (es:List (Nat × Nat)):G5_ n es≤n:=A3_ _ _
theorem Yb8 {n:Nat} {a b:List (Nat × Nat)} (h:∀ g,Cst a g↔Cst b g):G5_ n a=G5_ n b:=by unfold G5_;rw [Zu4 h]
theorem Xb1 {n:Nat} {es:List (Nat × Nat)} {e:Nat × Nat} (h:compF es e.1=compF es e.2):G5_ n (es ++ [e])=G5_ n es:=by
 unfold G5_;rw [Za6,B9_,h,Zh1]
theorem Ys5 {n:Nat} {es:List (Nat × Nat)} {e:Nat × Nat} (h:compF es e.1≠compF es e.2) (o:e.1<n) (r:e.2<n):G5_ n es=G5_ n (es ++ [e])+1:=by
 obtain ⟨a,b⟩:=e;unfold G5_;rw [Za6];have g:=A9_ es;generalize compF es=f at *
 have k:=g.idem a;have m:=g.idem b;have u:=g.2.2 a;have w:=g.2.2 b;simp only at h o r;have j:f (max (f a) (f b))=max (f a) (f b):=by
  rcases Nat.le_total (f a) (f b) with hl | hl
  ·rw [Nat.max_eq_right hl];exact m
  ·rw [Nat.max_eq_left hl];exact k
 have lo:f (min (f a) (f b))=min (f a) (f b):=by
  rcases Nat.le_total (f a) (f b) with hl | hl
  ·rw [Nat.min_eq_left hl];exact k
  ·rw [Nat.min_eq_right hl];exact m
 have:=Za5 (n:=n) (p:=rootB f) (q:=rootB (B9_ f (a,b))) (y:=max (f a) (f b)) (by simpa [rootB] using j) ?_ ?_
 ·rw [this,if_pos q40_]
 ·simp only [rootB,B9_,R0_,decide_eq_false_iff_not]
  rw [if_pos j];omega
 ·intro v s
  simp only [rootB,B9_,R0_];rw [decide_eq_decide];by_cases c:f v=max (f a) (f b)
  ·rw [if_pos c]
   constructor
   ·intro d;omega
   ·intro d
    rw [← d,lo] at c;omega
  ·rw [if_neg c]
theorem Ys6 (n:Nat):G5_ n []=n:=T6_ fun v _=>by simp [rootB,compF]
def Lies (n:Nat) (es:List (Nat × Nat)):Prop:=∀ e∈es,e.1<n∧e.2<n
def stepF (f:Nat→Nat) (e:Nat × Nat):Nat→Nat:=fun x=>if x=e.2 then min (f e.1) (f e.2) else if x=e.1 then min (f e.1) (f e.2) else f x
def Vs3 (es:List (Nat × Nat)) (f:Nat→Nat):Nat→Nat:=es.foldl stepF f
def J3_ (es:List (Nat × Nat)):Nat→Nat→Nat
 | 0=>id
 | k+1=>Vs3 es (J3_ es k)
def Inv (es:List (Nat × Nat)) (h:Nat→Nat):Prop:=(∀ g,Cst es g→∀ v,g (h v)=g v)∧∀ v,h v≤v
theorem Xr5 {es:List (Nat × Nat)} {h:Nat→Nat} (c:Inv es h) {e:Nat × Nat} (o:e∈es):Inv es (stepF h e):=by
 refine ⟨fun g d v=>?_,fun v=>?_⟩
 ·have j:=c.1 g d e.1
  have k:=c.1 g d e.2;have f:=d e o;have m:g (min (h e.1) (h e.2))=g e.2:=by
   rcases Nat.le_total (h e.1) (h e.2) with hl | hl
   ·rw [Nat.min_eq_left hl,j,f]
   ·rw [Nat.min_eq_right hl,k]
  unfold stepF;split
  ·rename_i hv;rw [m,hv]
  ·split
   ·rename_i hv;rw [m,hv,f]
   ·exact c.1 g d v
 ·have j:=c.2 e.1
  have k:=c.2 e.2;have f:=c.2 v;unfold stepF;split
  ·omega
  ·split<;>omega
theorem Vg4 (h:Nat→Nat) (e:Nat × Nat) (x:Nat):stepF h e x≤h x:=by
 unfold stepF;split
 ·rename_i hx;rw [hx];omega
 ·split
  ·rename_i hx;rw [hx];omega
  ·exact le_refl _
theorem Yk6 {es:List (Nat × Nat)} {h:Nat→Nat} (c:Inv es h) (v:Nat):compF es v≤h v:=by
 have:=c.1 (compF es) (A9_ es).1 v;have:=Xa9 es (h v);omega
theorem Zn5 {es:List (Nat × Nat)}:∀ (t:List (Nat × Nat)) (h:Nat→Nat),Inv es h→(∀ e∈t,e∈es) →
  Inv es (t.foldl stepF h)∧(∀ v,h v=compF es v→t.foldl stepF h v=compF es v) ∧
   ∀ e∈t,h e.1=compF es e.1∨h e.2=compF es e.2→t.foldl stepF h e.1=compF es e.1∧t.foldl stepF h e.2=compF es e.2
 | [],h,hi,_=>⟨hi,fun _ g=>g,fun e d=>absurd d z40_⟩
 | e :: t,h,hi,hs=>by
  have d:=hs e z40_;have k:=Xr5 hi d;obtain ⟨a,b,c⟩:=Zn5 t (stepF h e) k (fun x hx=>hs x q45_);have j:∀ v,h v=compF es v→stepF h e v=compF es v:=fun v g=>by
   have:=Vg4 h e v;have:=Yk6 k v;omega
  refine ⟨a,fun v g=>b v (j v g),fun x hx f=>?_⟩;rcases List.mem_cons.1 hx with rfl | hx
  ·have q:=Xb0 d
   have o:=Yk6 hi x.1;have p:=Yk6 hi x.2;have m:min (h x.1) (h x.2)=compF es x.2:=by rcases f with f | f<;>omega
   refine ⟨b x.1 ?_,b x.2 ?_⟩
   ·unfold stepF
    rw [if_pos rfl,m];split<;>omega
   ·unfold stepF
    rw [if_pos rfl,m]
  ·exact c x hx (f.imp (j _) (j _))
theorem Zz7 (es:List (Nat × Nat)):∀ k,Inv es (J3_ es k)
 | 0=>⟨fun _ _ _=>rfl,fun _=>le_refl _⟩
 | k+1=>(Zn5 es _ (Zz7 es k) fun _ h=>h).1
theorem Zh2 {n:Nat} {es:List (Nat × Nat)} (hl:Lies n es):∀ k,k≤n→k≤cnt (fun v=>decide (J3_ es k v=compF es v)) n
 | 0,_=>Nat.zero_le _
 | k+1,hk=>by
  have A:=Zh2 hl k q40_;obtain ⟨_,b,c⟩:=Zn5 es _ (Zz7 es k) fun _ h=>h;have o:=Zz7 es k;show k+1≤cnt (fun v=>decide (es.foldl stepF (J3_ es k) v=compF es v)) n;generalize J3_ es k=h at *
  by_cases j:cnt (fun v=>decide (h v=compF es v)) n=n
  ·have ha:=Yb7 j
   rw [T6_ fun v g=>by simpa using b v (by simpa using ha v g)];exact hk
  ·have w:∃ e∈es,(h e.1=compF es e.1∧h e.2≠compF es e.2)∨(h e.2=compF es e.2∧h e.1≠compF es e.1):=by
    refine Classical.byContradiction fun s=>j (T6_ fun v g=>?_);have hc:Cst es (fun v=>if h v=compF es v then 0 else 1):=by
     intro e f;by_cases d:h e.1=compF es e.1
     ·by_cases h2:h e.2=compF es e.2
      ·simp [d,h2]
      ·exact absurd ⟨e,f,.inl ⟨d,h2⟩⟩ s
     ·by_cases h2:h e.2=compF es e.2
      ·exact absurd ⟨e,f,.inr ⟨h2,d⟩⟩ s
      ·simp [d,h2]
    have m:=(A9_ es).2.1 _ hc v;have x:h (compF es v)=compF es (compF es v):=by
     have d:=Yk6 o (compF es v);have h2:=o.2 (compF es v);rw [Zu5] at d ⊢;omega
    rw [if_pos x] at m;by_cases u:h v=compF es v
    ·simpa using u
    ·rw [if_neg u] at m;omega
   obtain ⟨e,f,y⟩:=w;have z:=Zu2 (p:=fun v=>decide (h v=compF es v)) (q:=fun v=>decide (es.foldl stepF h v=compF es v)) (n:=n)
    (fun v _ g=>by simpa using b v (by simpa using g)) (by
     have r:=hl e f;rcases y with ⟨d,h2⟩ | ⟨d,h2⟩
     ·exact ⟨e.2,r.2,j49_,by simpa using (c e f (.inl d)).2⟩
     ·exact ⟨e.1,r.1,j49_,by simpa using (c e f (.inr d)).1⟩)
   omega
theorem Yb9 {n:Nat} {es:List (Nat × Nat)} (hl:Lies n es) (v:Nat) (d:v<n):J3_ es n v=compF es v:=by
 have h:=Zh2 hl n (le_refl _);have c:=A3_ (fun v=>decide (J3_ es n v=compF es v)) n;simpa using Yb7 (Nat.le_antisymm c h) v d
def X2_ (n:Nat) (f:Nat→Nat) (r:Nat):List Nat:=(List.range n).filter fun v=>decide (f v=r)
def C8_ (n:Nat) (f:Nat→Nat):List Nat:=(List.range n).filter (rootB f)
def C0_ (n:Nat) (f:Nat→Nat):List (List Nat):=(C8_ n f).map (X2_ n f)
theorem Q3_ (n:Nat) (f:Nat→Nat):(C0_ n f).length=cnt (rootB f) n:=by simp [C0_,C8_,cnt]
theorem R6_ (n:Nat) (f:Nat→Nat) (r:Nat):X2_ (n+1) f r=X2_ n f r ++ if f n=r then [n] else []:=by
 unfold X2_;rw [List.range_succ,List.filter_append];by_cases h:f n=r<;>simp [h]
theorem L1_ (n:Nat) (f:Nat→Nat):C8_ (n+1) f=C8_ n f ++ if f n=n then [n] else []:=by
 unfold C8_;rw [List.range_succ,List.filter_append];by_cases h:f n=n<;>simp [rootB,h]
theorem mem_rootsL {n:Nat} {f:Nat→Nat} {r:Nat}:r∈C8_ n f↔r<n∧f r=r:=by simp [C8_,rootB]
theorem mem_partAt {n:Nat} {f:Nat→Nat} {r v:Nat}:v∈X2_ n f r↔v<n∧f v=r:=by simp [X2_]
theorem T7_ (n:Nat) (f:Nat→Nat) (r:Nat):(X2_ n f r).length≤n:=by
 have:=List.length_filter_le (fun v=>decide (f v=r)) (List.range n);simpa [X2_] using this
theorem T8_ {f:Nat→Nat} {r:Nat} (c:f r=r):∀ {n:Nat},r<n→(C8_ n f)[cnt (rootB f) r]?=some r
 | 0,h=>by omega
 | n+1,h=>by
  rw [L1_];have hl:(C8_ n f).length=cnt (rootB f) n:=rfl;by_cases g:r=n
  ·subst g
   rw [if_pos c,List.getElem?_append_right q40_,hl];simp
  ·have d:=T8_ c (n:=n) q40_
   have e:=(List.getElem?_eq_some_iff.1 d).1;rw [List.getElem?_append_left e];exact d
theorem Yc0 {f:Nat→Nat} {r n:Nat} (c:f r=r) (h:r<n):cnt (rootB f) r<cnt (rootB f) n:=by
 have:=(List.getElem?_eq_some_iff.1 (T8_ c h)).1;exact this
def X9_ (k:Nat) (f:Nat→Nat):List (List Nat):=if f k=k then C0_ k f ++ [[]] else C0_ k f
theorem Ys7 {f:Nat→Nat} {k:Nat} (c:∀ v,f v≤v):X2_ k f k=[]:=by
 rw [List.eq_nil_iff_forall_not_mem];intro v d;have:=mem_partAt.1 d;have:=c v;omega
theorem Za8 (k:Nat) (f:Nat→Nat):(X9_ k f).length=cnt (rootB f) (k+1):=by
 unfold X9_;rw [X4_];by_cases h:f k=k
 ·simp [h,rootB,Q3_]
 ·simp [h,rootB,Q3_]
theorem Yc1 {f:Nat→Nat} {k:Nat} (c:∀ v,f v≤v) (hid:∀ v,f (f v)=f v):cnt (rootB f) (f k)<(X9_ k f).length:=by
 rw [Za8];exact Yc0 (hid k) (by have:=c k;omega)
theorem Vg5 {f:Nat→Nat} {k:Nat} (c:∀ v,f v≤v) (hid:∀ v,f (f v)=f v):(X9_ k f)[cnt (rootB f) (f k)]?=some (X2_ k f (f k)):=by
 unfold X9_;by_cases h:f k=k
 ·rw [if_pos h,h,List.getElem?_append_right (by rw [Q3_];exact le_refl _),Q3_,Ys7 c]
  simp
 ·have d:f k<k:=by have:=c k;omega
  rw [if_neg h];unfold C0_;rw [List.getElem?_map,T8_ (hid k) d];rfl
theorem Yc2 (n:Nat) (f:Nat→Nat):(C8_ n f).Pairwise (·<·):=List.Pairwise.sublist List.filter_sublist List.pairwise_lt_range
theorem Xr6 {l:List Nat} (h:l.Pairwise (·<·)) {i j:Nat} {r:Nat} (e:l[i]?=some r) (f:l[j]?=some r):i=j:=by
 obtain ⟨a,ha⟩:=List.getElem?_eq_some_iff.1 e;obtain ⟨b,hb⟩:=List.getElem?_eq_some_iff.1 f;rcases Nat.lt_trichotomy i j with c | d | c
 ·have:=List.pairwise_iff_getElem.1 h i j a b c
  omega
 ·exact d
 ·have:=List.pairwise_iff_getElem.1 h j i b a c
  omega
theorem Ys8 {f:Nat→Nat} {k:Nat} (j:∀ v,f v≤v) (hid:∀ v,f (f v)=f v) :
  C0_ (k+1) f=(X9_ k f).set (cnt (rootB f) (f k)) (X2_ k f (f k) ++ [k]):=by
 refine List.ext_getElem? fun i=>?_;have u:(C8_ (k+1) f).length=cnt (rootB f) (k+1):=rfl;by_cases c:i=cnt (rootB f) (f k)
 ·subst c
  rw [List.getElem?_set_self (Yc1 j hid)];unfold C0_;rw [List.getElem?_map,T8_ (hid k) (by have:=j k;omega)];simp [R6_]
 ·rw [List.getElem?_set_ne (fun h=>c h.symm)]
  unfold C0_ X9_;rw [List.getElem?_map,L1_];have o:∀ r,(C8_ k f)[i]?=some r→X2_ (k+1) f r=X2_ k f r:=by
   intro r e;have m:=mem_rootsL.1 (List.mem_of_getElem? e);rw [R6_];by_cases g:f k=r
   ·exfalso
    have q:=T8_ (f:=f) (r:=r) m.2 (n:=k) m.1;exact c (by rw [g];exact Xr6 (Yc2 k f) e q)
   ·simp [g]
  by_cases h:f k=k
  ·rw [if_pos h,if_pos h]
   have s:i≠(C8_ k f).length:=by rw [h] at c;exact c
   have p:(C0_ k f).length=(C8_ k f).length:=by simp [C0_]
   by_cases d:i<(C8_ k f).length
   ·rw [List.getElem?_append_left d,List.getElem?_append_left (by rw [p];exact d)]
    unfold C0_;rw [List.getElem?_map,List.getElem?_eq_getElem d];simp [o _ (List.getElem?_eq_getElem d)]
   ·rw [List.getElem?_eq_none j40_,List.getElem?_eq_none (by simp [p];omega)]
    rfl
  ·rw [if_neg h,if_neg h,List.append_nil]
   unfold C0_;rw [List.getElem?_map];rcases e:(C8_ k f)[i]? with _ | r
   ·rfl
   ·simp [o r e]
end Go.Proofs.YtheeajnkiniopaaGreatDoor.Wp
namespace Go.Proofs.YtheeajnkiniopaaGreatDoor.Wp.L
abbrev Vec:=Nat→Int
def Fld (p:Int):Prop:=∀ c:Int,¬ p ∣ c→∃ d:Int,p ∣ c * d - 1
def InSp (p:Int) (R:Nat):List Vec→Vec→Prop
 | [],v=>∀ r,r<R→p ∣ v r
 | u :: us,v=>∃ c:Int,InSp p R us fun r=>v r - c * u r
variable {p:Int} {R:Nat}
theorem T9_:∀ {us:List Vec} {v w:Vec},InSp p R us v→(∀ r,r<R→p ∣ v r - w r)→InSp p R us w
 | [],v,w,h,e=>fun r d=>by
  have f:=Int.dvd_sub (h r d) (e r d)
  rwa [show v r - (v r - w r)=w r by omega] at f
 | u :: us,v,w,⟨c,h⟩,e=>⟨c,T9_ h fun r d=>by
  have:=e r d
  rwa [show v r - c * u r - (w r - c * u r)=v r - w r by omega]⟩
theorem Q0_ {us:List Vec} {v w:Vec} (h:InSp p R us v) (e:∀ r,r<R→v r=w r):InSp p R us w :=
 T9_ h fun r c=>by rw [e r c];simp
theorem Zz8:∀ {us:List Vec},InSp p R us fun _=>0
 | []=>fun _ _=>Int.dvd_zero p
 | _ :: _=>⟨0,Q0_ Zz8 fun r _=>by simp⟩
theorem Za9:∀ {us:List Vec} {v w:Vec},InSp p R us v→InSp p R us w→InSp p R us fun r=>v r+w r
 | [],_,_,h,k=>fun r e=>Int.dvd_add (h r e) (k r e)
 | u :: us,v,w,⟨c,h⟩,⟨d,k⟩=>⟨c+d,Q0_ (Za9 h k) fun r _=>by dsimp only;rw [Int.add_mul];omega⟩
theorem U0_:∀ {us:List Vec} {v:Vec} (k:Int),InSp p R us v→InSp p R us fun r=>k * v r
 | [],_,k,h=>fun r d=>Int.dvd_trans (h r d) (Int.dvd_mul_left k _)
 | u :: us,v,k,⟨c,h⟩=>⟨k * c,Q0_ (U0_ k h) fun r _=>by rw [Int.mul_sub,Int.mul_assoc]⟩
theorem Yk7 {us:List Vec} {v w:Vec} (h:InSp p R us v) (k:InSp p R us w):InSp p R us fun r=>v r - w r :=
 Q0_ (Za9 h (U0_ (-1) k)) fun r _=>by omega
theorem sp_up {us:List Vec} {u v:Vec} (h:InSp p R us v):InSp p R (u :: us) v:=⟨0,Q0_ h fun r _=>by simp⟩
theorem Yc3 (us:List Vec) (u:Vec):InSp p R (u :: us) u:=⟨1,Q0_ Zz8 fun r _=>by omega⟩
theorem J7_:∀ {us:List Vec} {u:Vec},u∈us→InSp p R us u
 | _ :: us,u,h=>by
  rcases List.mem_cons.1 h with rfl | h
  ·exact Yc3 us _
  ·exact sp_up (J7_ h)
theorem C1_:∀ {us ws:List Vec} {v:Vec},(∀ u∈us,InSp p R ws u)→InSp p R us v→InSp p R ws v
 | [],ws,v,_,h=>T9_ Zz8 fun r f=>by
  have:=h r f;rw [show (0:Int) - v r=-(v r) by omega];exact (Int.dvd_neg).2 this
 | u :: us,ws,v,hs,⟨c,h⟩=>by
  have d:=C1_ (fun x hx=>hs x q45_) h;have e:=U0_ c (hs u z40_);exact Q0_ (Za9 d e) fun r _=>by omega
theorem sp_mono {us ws:List Vec} {v:Vec} (hs:∀ u∈us,u∈ws) (h:InSp p R us v):InSp p R ws v:=C1_ (fun u c=>J7_ (hs u c)) h
theorem Vg6 (f:Fld p) {us:List Vec} {u v:Vec} (h:InSp p R (u :: us) v) (g:¬ InSp p R us v):InSp p R (v :: us) u:=by
 obtain ⟨c,h⟩:=h;by_cases hc:p ∣ c
 ·exact absurd (T9_ h fun r j=>by
   rw [show v r - c * u r - v r=-(c * u r) by omega];exact (Int.dvd_neg).2 (Int.dvd_trans hc (Int.dvd_mul_right c _))) g
 ·obtain ⟨d,hd⟩:=f c hc
  have e:=U0_ (-d) h;refine ⟨d,T9_ e fun r _=>?_⟩;rw [show -d * (v r - c * u r) - (u r - d * v r)=(c * d - 1) * u r by
   rw [Int.mul_sub,Int.sub_mul,Int.neg_mul,Int.neg_mul,← Int.mul_assoc d c,Int.mul_comm d c];omega]
  exact Int.dvd_trans hd (Int.dvd_mul_right _ _)
def Ind (p:Int) (R:Nat):List Vec→Prop
 | []=>True
 | u :: us=>¬ InSp p R us u∧Ind p R us
theorem Yk8 (q:Fld p) {w:Vec} {ws:List Vec}:∀ {us:List Vec},Ind p R us→(∀ u∈us,InSp p R (w :: ws) u) →
  (∀ u∈us,InSp p R ws u)∨∃ e u,Ind p R e∧(∀ x∈e,InSp p R ws x)∧us.length=e.length+1∧(∀ v,InSp p R (u :: e) v→InSp p R us v)∧(∀ x∈us,InSp p R (u :: e) x)∧InSp p R (w :: ws) u∧¬ InSp p R ws u
 | [],_,_=>.inl fun u G=>by cases G
 | h :: t,⟨hi,ht⟩,hs=>by
  have s:=hs h z40_;rcases Yk8 q ht (fun x hx=>hs x q45_) with m | ⟨d,u,E,hs',hl,f,C,B,A⟩
  ·by_cases o:InSp p R ws h
   ·exact .inl fun x hx=>by
     rcases List.mem_cons.1 hx with rfl | hx
     ·exact o
     ·exact m x hx
   ·exact .inr ⟨t,h,ht,m,rfl,fun v j=>j,fun x hx=>J7_ hx,s,o⟩
  ·right
   have H:InSp p R (u :: ws) w:=Vg6 q B A;have D:InSp p R (u :: ws) h:=C1_ (fun x hx=>by
    rcases List.mem_cons.1 hx with rfl | hx
    ·exact H
    ·exact sp_up (J7_ hx)) s
   obtain ⟨c,hc⟩:=D;have g:InSp p R t u:=f u (Yc3 d u);refine ⟨(fun r=>h r - c * u r) :: d,u,⟨fun hb=>hi ?_,E⟩,?_,by simp [hl],?_,?_,B,A⟩
   ·have h3:InSp p R t fun r=>h r - c * u r:=f _ (sp_up hb)
    exact Q0_ (Za9 h3 (U0_ c g)) fun r _=>by omega
   ·intro x hx
    rcases List.mem_cons.1 hx with rfl | hx
    ·exact hc
    ·exact hs' x hx
   ·intro v j
    refine C1_ (fun x hx=>?_) j;rcases List.mem_cons.1 hx with rfl | hx
    ·exact sp_up g
    ·rcases List.mem_cons.1 hx with rfl | hx
     ·exact Yk7 (Yc3 t h) (U0_ c (sp_up g))
     ·exact sp_up (f x (J7_ q45_))
   ·intro x hx
    have F:∀ y,InSp p R (u :: d) y→InSp p R (u :: (fun r=>h r - c * u r) :: d) y:=fun y I=>sp_mono (fun z k=>by
     rcases List.mem_cons.1 k with rfl | k
     ·simp
     ·simp [k]) I
    rcases List.mem_cons.1 hx with rfl | hx
    ·exact Q0_ (Za9 (J7_ (us:=u :: (fun r=>x r - c * u r) :: d) (u:=fun r=>x r - c * u r) z40_) (U0_ c (J7_ (u:=u) z40_))) fun r _=>by omega
    ·exact F x (C x hx)
theorem Yk9 (c:Fld p):∀ {ws us:List Vec},Ind p R us→(∀ u∈us,InSp p R ws u)→us.length≤ws.length
 | [],us,hi,hs=>by
  cases us with
  | nil=>exact le_refl _
  | cons u us =>
   refine absurd ?_ hi.1;exact C1_ (fun x e=>by cases e) (hs u z40_)
 | w :: ws,us,hi,hs=>by
  rcases Yk8 c hi hs with h | ⟨f,u,d,hs',hl,_⟩
  ·have:=Yk9 c hi h
   simp;omega
  ·have:=Yk9 c d hs'
   simp;omega
open Classical in
noncomputable def bs (p:Int) (R:Nat):List Vec→List Vec
 | []=>[]
 | u :: us=>if InSp p R us u then bs p R us else u :: bs p R us
theorem Yl0:∀ {us:List Vec},∀ x∈bs p R us,x∈us
 | u :: us,x,h=>by
  unfold bs at h;split at h
  ·simp [Yl0 x h]
  ·rcases List.mem_cons.1 h with rfl | h
   ·simp
   ·simp [Yl0 x h]
theorem Zb0:∀ {us:List Vec} {v:Vec},InSp p R us v→InSp p R (bs p R us) v
 | [],_,h=>h
 | u :: us,v,h=>by
  unfold bs;split
  ·rename_i hu
   refine C1_ (fun x d=>?_) h;rcases List.mem_cons.1 d with rfl | d
   ·exact Zb0 hu
   ·exact Zb0 (J7_ d)
  ·obtain ⟨c,h⟩:=h
   exact ⟨c,Zb0 h⟩
theorem Xb2:∀ {us:List Vec},Ind p R (bs p R us)
 | []=>trivial
 | u :: us=>by
  unfold bs;split
  ·exact Xb2
  ·rename_i hu
   exact ⟨fun h=>hu (sp_mono Yl0 h),Xb2⟩
noncomputable def rk (p:Int) (R:Nat) (us:List Vec):Nat:=(bs p R us).length
theorem rk_le (c:Fld p) {us ws:List Vec} (h:∀ u∈us,InSp p R ws u):rk p R us≤rk p R ws :=
 Yk9 c Xb2 fun u d=>Zb0 (h u (Yl0 u d))
theorem rk_eq (c:Fld p) {us ws:List Vec} (h:∀ u∈us,InSp p R ws u) (k:∀ w∈ws,InSp p R us w):rk p R us=rk p R ws :=
 Nat.le_antisymm (rk_le c h) (rk_le c k)
theorem rk_nil:rk p R []=0:=rfl
theorem rk_cons_in {us:List Vec} {u:Vec} (h:InSp p R us u):rk p R (u :: us)=rk p R us:=by
 unfold rk;rw [show bs p R (u :: us)=bs p R us from if_pos h]
theorem rk_cons_out {us:List Vec} {u:Vec} (h:¬ InSp p R us u):rk p R (u :: us)=rk p R us+1:=by
 unfold rk;rw [show bs p R (u :: us)=u :: bs p R us from if_neg h];rfl
theorem Va7:∀ {us:List Vec},rk p R us≤us.length
 | []=>le_refl _
 | u :: us=>by
  have:=Va7 (us:=us);by_cases h:InSp p R us u
  ·rw [rk_cons_in h];simp;omega
  ·rw [rk_cons_out h];simp;omega
theorem rk_perm (c:Fld p) {us ws:List Vec} (h:∀ x,x∈us↔x∈ws):rk p R us=rk p R ws :=
 rk_eq c (fun u d=>J7_ ((h u).1 d)) (fun w e=>J7_ ((h w).2 e))
theorem Ys9 (c:Fld p) {us:List Vec} {u:Vec} (h:InSp p R us u):rk p R (us ++ [u])=rk p R us:=by
 rw [← rk_cons_in h];exact rk_perm c fun x=>by simp [or_comm]
theorem Yc4 (c:Fld p) {us:List Vec} {u:Vec} (h:¬ InSp p R us u):rk p R (us ++ [u])=rk p R us+1:=by
 rw [← rk_cons_out h];exact rk_perm c fun x=>by simp [or_comm]
def lin:List Int→List Vec→Vec
 | c :: cs,u :: us=>fun r=>c * u r+lin cs us r
 | _,_=>fun _=>0
theorem Va8:∀ (cs:List Int) (us:List Vec),InSp p R us (lin cs us)
 | [],us=>by cases us<;>exact Zz8
 | c :: cs,[]=>Zz8
 | c :: cs,u :: us=>⟨c,Q0_ (Va8 cs us) fun r _=>by simp only [lin];omega⟩
theorem Yt0 {us:List Vec} {u:Vec} {k:Nat} (g:k<R) (j:¬ p ∣ u k) (d:∀ x∈us,p ∣ x k):¬ InSp p R us u:=by
 have m:∀ {us:List Vec} {v:Vec},(∀ x∈us,p ∣ x k)→InSp p R us v→p ∣ v k:=by
  intro us
  induction us with
  | nil=>intro v _ h;exact h k g
  | cons x us ih =>
   intro v d ⟨c,h⟩;have e:=ih (fun y hy=>d y k44_) h;have f:=Int.dvd_add e (Int.dvd_trans (d x z40_) (Int.dvd_mul_left c _))
   rwa [show v k - c * x k+c * x k=v k by omega] at f
 exact fun h=>j (m d h)
end Go.Proofs.YtheeajnkiniopaaGreatDoor.Wp.L
namespace Go.Proofs.YtheeajnkiniopaaGreatDoor.Wp.L
structure Line where
 place:Nat
 left:List Int
 lead:Nat
 inv:Int
 by_:Nat→Int
def L2_:List Int→Nat→Int
 | [],_=>-1
 | x :: xs,k=>if x=0 then L2_ xs (k+1) else (k:Int)
def leadI (l:List Int):Int:=L2_ l 0
theorem Zx8:∀ {l:List Int} {a i:Nat},i<l.length→l.getD i 0≠0→(∀ j,j<i→l.getD j 0=0)→L2_ l a=((a+i:Nat):Int)
 | x :: xs,a,0,_,hx,_=>by
  unfold L2_;rw [if_neg (by simpa using hx)];rfl
 | x :: xs,a,i+1,hi,hx,hz=>by
  unfold L2_;rw [if_pos (by simpa using hz 0 q40_),Zx8 (i:=i) y48_ (by simpa using hx) (fun j c=>by simpa using hz (j+1) q40_)];congr 1;omega
theorem U1_:∀ {l:List Int} {a:Nat},(∀ j,j<l.length→l.getD j 0=0)→L2_ l a=-1
 | [],_,_=>rfl
 | x :: xs,a,hz=>by
  unfold L2_;rw [if_pos (by simpa using hz 0 z40_),U1_ (fun j hj=>by simpa using hz (j+1) x49_)]
theorem Zu7 {l:List Int} {i:Nat} (c:i<l.length) (d:l.getD i 0≠0) (e:∀ j,j<i→l.getD j 0=0):leadI l=(i:Int):=by
 unfold leadI;rw [Zx8 c d e];congr 1;omega
theorem Zz9 {l:List Int} (c:∀ j,j<l.length→l.getD j 0=0):leadI l=-1:=U1_ c
theorem R7_:∀ (l:List Int),(leadI l=-1∧∀ j,l.getD j 0=0)∨∃ i,i<l.length∧leadI l=(i:Int)∧l.getD i 0≠0∧∀ j,j<i→l.getD j 0=0:=by
 intro l;by_cases h:∀ j,j<l.length→l.getD j 0=0
 ·refine .inl ⟨Zz9 h,fun j=>?_⟩
  by_cases c:j<l.length
  ·exact h j c
  ·simp [List.getD,List.getElem?_eq_none (Nat.le_of_not_lt c)]
 ·right
  have:∃ i,i<l.length∧l.getD i 0≠0∧∀ j,j<i→l.getD j 0=0:=by
   apply Classical.byContradiction;intro m;apply h;intro j
   induction j using Nat.strongRecOn with
   | ind j ih =>
    intro c;apply Classical.byContradiction;intro o;exact m ⟨j,c,o,fun k g=>ih k g q40_⟩
  obtain ⟨i,d,e,f⟩:=this;exact ⟨i,d,Zu7 d e f,e,f⟩
def upd (f:Nat→Int) (a:Nat) (t:Int):Nat→Int:=fun x=>if x=a then t else f x
def subU (p:Int) (left:List Int) (l:Line) (t:Int) (k:Nat):List Int :=
 (List.range left.length).map fun r=>if l.lead≤r∧r<k then (left.getD r 0 - t * l.left.getD r 0) % p else left.getD r 0
def tOf (p:Int) (left:List Int) (l:Line):Int:=(left.getD l.lead 0 * l.inv) % p
def stepT (p:Int) (s:List Int × (Nat→Int)) (l:Line):List Int × (Nat→Int) :=
 if tOf p s.1 l=0 then s else (subU p s.1 l (tOf p s.1 l) s.1.length,upd s.2 l.place (tOf p s.1 l))
def takeT (p:Int) (ls:List Line) (col:List Int):List Int × (Nat→Int):=ls.foldl (stepT p) (col,fun _=>0)
def addL (p:Int) (inv:Int→Int) (ls:List Line) (i:Nat) (col:List Int):List Line :=
 if leadI (takeT p ls col).1<0 then ls
 else ls ++ [⟨i,(takeT p ls col).1,(leadI (takeT p ls col).1).toNat,inv ((takeT p ls col).1.getD (leadI (takeT p ls col).1).toNat 0),(takeT p ls col).2⟩]
def R1_ (p:Int) (inv:Int→Int) (cols:List (List Int)):Nat→List Line
 | 0=>[]
 | k+1=>addL p inv (R1_ p inv cols k) k (cols.getD k [])
theorem R2_ {n r:Nat} (f:Nat→Int):((List.range n).map f).getD r 0=if r<n then f r else 0:=by
 by_cases h:r<n
 ·simp [List.getD,h]
 ·simp [List.getD,h]
theorem Q4_ {p:Int} {left:List Int} {l:Line} {t:Int} {k:Nat}:(subU p left l t k).length=left.length:=by simp [subU]
theorem N6_ {p:Int} {left:List Int} {l:Line} {t:Int} {k r:Nat} (h:r<left.length) :
  (subU p left l t k).getD r 0=if l.lead≤r∧r<k then (left.getD r 0 - t * l.left.getD r 0) % p else left.getD r 0:=by
 unfold subU;rw [R2_,if_pos h]
theorem Zn6 {l:List Int} {r:Nat} (h:l.length≤r):l.getD r 0=0:=by simp [List.getD,List.getElem?_eq_none h]
def InR (p:Int) (R:Nat) (l:List Int):Prop:=l.length=R∧∀ x∈l,0≤x∧x<p
theorem InR.get {p:Int} {R:Nat} {l:List Int} (h:InR p R l) (d:0<p) (r:Nat):0≤l.getD r 0∧l.getD r 0<p:=by
 by_cases c:r<l.length
 ·rw [List.getD_eq_getElem?_getD,List.getElem?_eq_getElem c]
  exact h.2 _ (List.getElem_mem c)
 ·rw [Zn6 q40_]
  omega
theorem Zh3 {p:Int} {R:Nat} {l:List Int} (hl:l.length=R) (h:∀ r,r<R→0≤l.getD r 0∧l.getD r 0<p):InR p R l:=by
 refine ⟨hl,fun x d=>?_⟩;obtain ⟨i,c,rfl⟩:=List.mem_iff_getElem.1 d;have:=h i q40_
 rwa [List.getD_eq_getElem?_getD,List.getElem?_eq_getElem c] at this
theorem R8_ {p x:Int} (h:p ∣ x) (c:0≤x) (d:x<p):x=0:=by
 have:=Int.emod_eq_of_lt c d;rw [Int.emod_eq_zero_of_dvd h] at this;exact this.symm
theorem B4_ {p:Int} (x:Int):p ∣ x - x % p:=Int.dvd_self_sub_emod
def vec (l:List Int):Vec:=fun r=>l.getD r 0
structure LineOk (p:Int) (R:Nat) (l:Line):Prop where
 row:InR p R l.left
 lt:l.lead<R
 zero:∀ r,r<l.lead→l.left.getD r 0=0
 inv:p ∣ l.left.getD l.lead 0 * l.inv - 1
 invr:0≤l.inv∧l.inv<p
 byr:∀ x,0≤l.by_ x∧l.by_ x<p
 byp:∀ x,l.by_ x≠0→x<l.place
def Ech (p:Int) (R:Nat):List Line→Prop
 | []=>True
 | l :: ls=>LineOk p R l∧(∀ m∈ls,m.left.getD l.lead 0=0∧l.place<m.place)∧Ech p R ls
structure Taken (p:Int) (R:Nat) (ls:List Line) (left:List Int) (f:Nat→Int) (s:List Int × (Nat→Int)):Prop where
 row:InR p R s.1
 byr:∀ x,0≤s.2 x∧s.2 x<p
 off:∀ x,(∀ l∈ls,l.place≠x)→s.2 x=f x
 keep:∀ r,(∀ l∈ls,l.left.getD r 0=0)→s.1.getD r 0=left.getD r 0
 zero:∀ l∈ls,s.1.getD l.lead 0=0
 sum:∀ r,r<R→p ∣ left.getD r 0 - s.1.getD r 0 - lin (ls.map fun l=>s.2 l.place) (ls.map fun l=>vec l.left) r
theorem taken {p:Int} {R:Nat} (j:0<p):∀ {g:List Line} {left:List Int} {f:Nat→Int},Ech p R g→InR p R left→(∀ x,0≤f x∧f x<p)→(∀ l∈g,f l.place=0)→Taken p R g left f (g.foldl (stepT p) (left,f))
 | [],left,f,_,hl,hf,_=>⟨hl,hf,fun _ _=>rfl,fun _ _=>rfl,fun _ h=>q49_,fun r _=>(by simp [lin])⟩
 | l :: g,left,f,⟨hok,hbeh,hech⟩,hl,hf,hz=>by
  rw [List.foldl_cons];have A:∀ m∈g,m.place≠l.place:=fun m hm e=>by have:=(hbeh m hm).2;omega
  have E:∀ m∈g,f m.place=0:=fun m hm=>hz m q50_;by_cases B:tOf p left l=0
  ·have hs:stepT p (left,f) l=(left,f):=by unfold stepT;rw [if_pos B]
   rw [hs];have c:=taken j hech hl hf E;have v:left.getD l.lead 0=0:=by
    have D:=hl.get j l.lead;refine R8_ ?_ D.1 D.2;have o:p ∣ left.getD l.lead 0 * l.inv:=Int.dvd_of_emod_eq_zero B;have q:=Int.dvd_trans hok.inv (Int.dvd_mul_left (left.getD l.lead 0) _);have h3:=Int.dvd_trans o (Int.dvd_mul_right _ (l.left.getD l.lead 0));have w:=Int.dvd_sub h3 q;have e:left.getD l.lead 0 * l.inv * l.left.getD l.lead 0 - left.getD l.lead 0 * (l.left.getD l.lead 0 * l.inv - 1)=left.getD l.lead 0:=by
     rw [Int.mul_sub,Int.mul_one,Int.mul_assoc,Int.mul_comm l.inv];omega
    rwa [e] at w
   refine ⟨c.row,c.byr,fun x u=>c.off x fun m hm=>u m q50_,fun r d=>c.keep r fun m hm=>d m q50_,fun m hm=>?_,fun r d=>?_⟩
   ·rcases List.mem_cons.1 hm with rfl | hm
    ·rw [c.keep _ fun k z=>(hbeh k z).1]
     exact v
    ·exact c.zero m hm
   ·have:=c.sum r d
    simp only [List.map_cons,lin];rw [c.off l.place A,hz l z40_,Int.zero_mul,Int.zero_add];exact this
  ·obtain ⟨t,C⟩:∃ t,t=tOf p left l:=⟨_,rfl⟩
   have hs:stepT p (left,f) l=(subU p left l t left.length,upd f l.place t):=by unfold stepT;rw [if_neg B,← C]
   rw [hs];have I:0≤t∧t<p:=by rw [C];exact ⟨Int.emod_nonneg _ q40_,Int.emod_lt_of_pos _ j⟩
   have s:∀ r,r<R→(subU p left l t left.length).getD r 0=(left.getD r 0 - t * l.left.getD r 0) % p:=by
    intro r d;rw [N6_ (by rw [hl.1];exact d)];by_cases h:l.lead≤r
    ·rw [if_pos ⟨h,by rw [hl.1];exact d⟩]
    ·rw [if_neg q40_,hok.zero r q40_,Int.mul_zero,Int.sub_zero]
     have:=hl.get j r;exact (Int.emod_eq_of_lt this.1 this.2).symm
   have H:InR p R (subU p left l t left.length):=Zh3 (by rw [Q4_];exact hl.1) fun r d=>by
    rw [s r d];exact ⟨Int.emod_nonneg _ q40_,Int.emod_lt_of_pos _ j⟩
   have F:∀ r,l.left.getD r 0=0→(subU p left l t left.length).getD r 0=left.getD r 0:=by
    intro r v;by_cases d:r<R
    ·rw [s r d,v,Int.mul_zero,Int.sub_zero]
     have:=hl.get j r;exact Int.emod_eq_of_lt this.1 this.2
    ·rw [Zn6 (by rw [Q4_,hl.1];omega),Zn6 (by rw [hl.1];omega)]
   have G:(subU p left l t left.length).getD l.lead 0=0:=by
    rw [s _ hok.lt];apply Int.emod_eq_zero_of_dvd;have o:p ∣ left.getD l.lead 0 * l.inv - t:=by rw [C];exact B4_ _
    have q:=Int.dvd_trans o (Int.dvd_mul_right _ (l.left.getD l.lead 0));have h3:=Int.dvd_trans hok.inv (Int.dvd_mul_left (left.getD l.lead 0) _);have w:=Int.dvd_sub q h3;have e:(left.getD l.lead 0 * l.inv - t) * l.left.getD l.lead 0 - left.getD l.lead 0 * (l.left.getD l.lead 0 * l.inv - 1)=left.getD l.lead 0 - t * l.left.getD l.lead 0:=by
     rw [Int.mul_sub,Int.mul_one,Int.sub_mul,Int.mul_assoc,Int.mul_comm l.inv];omega
    rwa [e] at w
   have c:=taken j (f:=upd f l.place t) hech H (fun x=>by
    unfold upd;split
    ·exact I
    ·exact hf x) (fun m hm=>by
    unfold upd;rw [if_neg (A m hm)];exact E m hm)
   refine ⟨c.row,c.byr,fun x u=>?_,fun r d=>?_,fun m hm=>?_,fun r d=>?_⟩
   ·rw [c.off x fun m hm=>u m q50_]
    unfold upd;rw [if_neg fun e=>u l z40_ e.symm]
   ·rw [c.keep r fun m hm=>d m q50_]
    exact F r (d l z40_)
   ·rcases List.mem_cons.1 hm with rfl | hm
    ·rw [c.keep _ fun k z=>(hbeh k z).1]
     exact G
    ·exact c.zero m hm
   ·have o:=c.sum r d
    simp only [List.map_cons,lin];rw [c.off l.place A,show upd f l.place t l.place=t by unfold upd;rw [if_pos rfl]];have q:p ∣ left.getD r 0 - t * l.left.getD r 0 - (subU p left l t left.length).getD r 0:=by rw [s r d];exact B4_ _
    have h3:=Int.dvd_add o q;generalize lin (g.map fun J=>_) _ r=y at h3 ⊢;unfold vec;have e:(subU p left l t left.length).getD r 0 - ((g.foldl (stepT p) (subU p left l t left.length,upd f l.place t)).1).getD r 0 - y+(left.getD r 0 - t * l.left.getD r 0 - (subU p left l t left.length).getD r 0)
      = left.getD r 0 - ((g.foldl (stepT p) (subU p left l t left.length,upd f l.place t)).1).getD r 0 - (t * l.left.getD r 0+y):=q40_
    rwa [e] at h3
variable {p:Int} {R:Nat}
theorem Yl1:∀ {c:List Line} {l:Line},Ech p R c→LineOk p R l→(∀ m∈c,l.left.getD m.lead 0=0∧m.place<l.place)→Ech p R (c ++ [l])
 | [],l,_,hl,_=>⟨hl,fun _ h=>q49_,trivial⟩
 | m :: c,l,⟨hm,hb,he⟩,hl,h=>by
  refine ⟨hm,fun x hx=>?_,Yl1 he hl fun x hx=>h x q45_⟩;rcases List.mem_append.1 hx with hx | hx
  ·exact hb x hx
  ·obtain rfl:=List.mem_singleton.1 hx
   exact h m z40_
theorem Va9:∀ {c:List Line},Ech p R c→∀ l∈c,LineOk p R l
 | m :: c,⟨hm,_,he⟩,l,hl=>by
  rcases List.mem_cons.1 hl with rfl | hl
  ·exact hm
  ·exact Va9 he l hl
theorem Yl2:∀ {g:List Line} {v:Vec},Ech p R g→InSp p R (g.map fun l=>vec l.left) v→(∀ l∈g,p ∣ v l.lead)→∀ r,r<R→p ∣ v r
 | [],v,_,h,_=>h
 | l :: g,v,⟨hok,hb,he⟩,⟨c,h⟩,f=>by
  have A:∀ {us:List Line} {w:Vec},(∀ m∈us,m.left.getD l.lead 0=0)→InSp p R (us.map fun l=>vec l.left) w→p ∣ w l.lead:=by
   intro us
   induction us with
   | nil=>intro w _ h;exact h _ hok.lt
   | cons x us o =>
    intro w f ⟨d,h⟩;have j:p ∣ w l.lead - d * vec x.left l.lead:=o (fun m hm=>f m q50_) h;have k:vec x.left l.lead=0:=f x z40_
    rwa [k,Int.mul_zero,Int.sub_zero] at j
  have j:p ∣ v l.lead - c * vec l.left l.lead:=A (fun m hm=>(hb m hm).1) h;have k:=f l z40_;have h3:p ∣ c * vec l.left l.lead:=by
   have:=Int.dvd_sub k j
   rwa [show v l.lead - (v l.lead - c * vec l.left l.lead)=c * vec l.left l.lead by omega] at this
  have hc:p ∣ c:=by
   have u:=Int.dvd_trans h3 (Int.dvd_mul_right _ l.inv);have y:=Int.dvd_trans hok.inv (Int.dvd_mul_left c _);have q:=Int.dvd_sub u y;unfold vec at q;have e:c * l.left.getD l.lead 0 * l.inv - c * (l.left.getD l.lead 0 * l.inv - 1)=c:=by
    rw [Int.mul_sub,Int.mul_one,Int.mul_assoc];omega
   rwa [e] at q
  have s:∀ r,p ∣ c * vec l.left r:=fun r=>Int.dvd_trans hc (Int.dvd_mul_right c _);have o:=Yl2 he h fun m hm=>Int.dvd_sub (f m q50_) (s _);intro r z;have:=Int.dvd_add (o r z) (s r)
  rwa [show v r - c * vec l.left r+c * vec l.left r=v r by omega] at this
def colV (cols:List (List Int)) (i:Nat):Vec:=vec (cols.getD i [])
def F1_ (cols:List (List Int)) (k:Nat):List Vec:=(List.range k).map (colV cols)
theorem L3_ (cols:List (List Int)) (k:Nat):F1_ cols (k+1)=F1_ cols k ++ [colV cols k]:=by simp [F1_,List.range_succ]
def InB (p:Int) (R:Nat) (cols:List (List Int)) (i:Nat):Prop:=¬ InSp p R (F1_ cols i) (colV cols i)
open Classical in
noncomputable def basN (p:Int) (R:Nat) (cols:List (List Int)) (k:Nat):List Nat:=(List.range k).filter fun i=>decide (InB p R cols i)
theorem Xb3 {cols:List (List Int)} {k:Nat} (h:InB p R cols k):basN p R cols (k+1)=basN p R cols k ++ [k]:=by
 unfold basN;rw [List.range_succ,List.filter_append];simp [h]
theorem Yl3 {cols:List (List Int)} {k:Nat} (h:¬ InB p R cols k):basN p R cols (k+1)=basN p R cols k:=by
 unfold basN;rw [List.range_succ,List.filter_append];simp [h]
theorem basN_mem {cols:List (List Int)} {k i:Nat}:i∈basN p R cols k↔i<k∧InB p R cols i:=by
 unfold basN;simp [List.mem_filter]
structure Lines (p:Int) (R:Nat) (cols:List (List Int)) (k:Nat) (ls:List Line):Prop where
 ech:Ech p R ls
 pl:ls.map Line.place=basN p R cols k
 span:∀ v,InSp p R (ls.map fun l=>vec l.left) v↔InSp p R (F1_ cols k) v
 from_:∀ (a:List Line) (l:Line) (b:List Line),ls=a ++ l :: b →
  (∀ r,r<R→p ∣ colV cols l.place r - l.left.getD r 0 - lin (a.map fun m=>l.by_ m.place) (a.map fun m=>vec m.left) r)∧∀ x,l.by_ x≠0→∃ m∈a,m.place=x
theorem Lines.lt {cols:List (List Int)} {k:Nat} {c:List Line} (h:Lines p R cols k c) {l:Line} (hl:l∈c):l.place<k:=by
 have:l.place∈basN p R cols k:=by rw [← h.pl];exact List.mem_map.2 ⟨l,hl,rfl⟩
 exact (basN_mem.1 this).1
theorem Lines.take (d:0<p) {cols:List (List Int)} {k:Nat} {c:List Line} (h:Lines p R cols k c) {col:List Int} (hc:InR p R col):Taken p R c col (fun _=>0) (takeT p c col) :=
 taken d h.ech hc (fun _=>⟨q40_,d⟩) fun _ _=>rfl
theorem Lines.left (d:0<p) {cols:List (List Int)} {k:Nat} {c:List Line} (h:Lines p R cols k c) {col:List Int} (hc:InR p R col):InSp p R (F1_ cols k) fun r=>col.getD r 0 - (takeT p c col).1.getD r 0:=by
 rw [← h.span];refine T9_ (Va8 (c.map fun l=>(takeT p c col).2 l.place) _) fun r e=>?_;have:=(h.take d hc).sum r e;rw [show lin (c.map fun l=>(takeT p c col).2 l.place) (c.map fun l=>vec l.left) r - (col.getD r 0 - (takeT p c col).1.getD r 0)=-(col.getD r 0 - (takeT p c col).1.getD r 0 - lin (c.map fun l=>(takeT p c col).2 l.place) (c.map fun l=>vec l.left) r) by omega];exact (Int.dvd_neg).2 this
theorem Lines.in_iff (d:0<p) {cols:List (List Int)} {k:Nat} {c:List Line} (h:Lines p R cols k c) {col:List Int} (hc:InR p R col):InSp p R (F1_ cols k) (vec col)↔leadI (takeT p c col).1<0:=by
 have e:=h.take d hc;have hl:=h.left d hc;constructor
 ·intro q
  have g:InSp p R (c.map fun l=>vec l.left) (vec (takeT p c col).1):=by
   rw [h.span];exact Q0_ (Yk7 q hl) fun r _=>by unfold vec;omega
  have m:=Yl2 h.ech g fun l hl=>by
   unfold vec;rw [e.zero l hl];exact Int.dvd_zero p
  have h3:leadI (takeT p c col).1=-1:=Zz9 fun j s=>by
   have f:=e.row.get d j;exact R8_ (m j (by rw [← e.row.1];exact s)) f.1 f.2
  rw [h3];decide
 ·intro u
  rcases R7_ (takeT p c col).1 with ⟨_,v⟩ | ⟨i,_,o,_⟩
  ·refine Q0_ hl fun r _=>?_
   rw [v r];unfold vec;omega
  ·rw [o] at u
   omega
theorem Lines.next (q:0<p) {inv:Int→Int} (L:∀ x,0<x→x<p→p ∣ x * inv x - 1∧0≤inv x∧inv x<p) {cols:List (List Int)} {k:Nat} {d:List Line} (h:Lines p R cols k d) (hc:InR p R (cols.getD k [])):Lines p R cols (k+1) (addL p inv d k (cols.getD k [])):=by
 have f:=h.take q hc;have hl:=h.left q hc;have D:=h.in_iff q hc;unfold addL;by_cases g:leadI (takeT p d (cols.getD k [])).1<0
 ·rw [if_pos g]
  have j:InSp p R (F1_ cols k) (colV cols k):=D.2 g;refine ⟨h.ech,by rw [Yl3 (fun A=>A j)];exact h.pl,fun v=>?_,h.from_⟩;rw [h.span,L3_];exact ⟨sp_mono fun x c=>List.mem_append.2 (.inl c),C1_ fun x c=>by
   rcases List.mem_append.1 c with c | c
   ·exact J7_ c
   ·obtain rfl:=List.mem_singleton.1 c
    exact j⟩
 ·rw [if_neg g]
  have O:InB p R cols k:=fun j=>g (D.1 j);rcases R7_ (takeT p d (cols.getD k [])).1 with ⟨w,_⟩ | ⟨i,K,w,c,P⟩
  ·rw [w] at g
   exact absurd q41_ g
  rw [w,Int.toNat_natCast];generalize Q:takeT p d (cols.getD k [])=T at *
  have J:i<R:=by rw [← f.row.1];exact K
  have I:=f.row.get q i;have E:=L (T.1.getD i 0) q40_ I.2;have C:∀ x,T.2 x≠0→∃ m∈d,m.place=x:=by
   intro x c;apply Classical.byContradiction;intro A;exact c (f.off x fun l hl e=>A ⟨l,hl,e⟩)
  have N:LineOk p R ⟨k,T.1,i,inv (T.1.getD i 0),T.2⟩:=⟨f.row,J,P,E.1,E.2,f.byr,fun x c=>by
   obtain ⟨m,o,rfl⟩:=C x c;exact h.lt o⟩
  refine ⟨Yl1 h.ech N fun m o=>⟨f.zero m o,h.lt o⟩,by rw [Xb3 O,List.map_append,h.pl];rfl,fun v=>?_,?_⟩
  ·rw [L3_,List.map_append]
   have M:InSp p R (F1_ cols k ++ [colV cols k]) (vec T.1):=by
    refine Q0_ (Yk7 (J7_ (u:=colV cols k) z40_) (sp_mono (fun x c=>List.mem_append.2 (.inl c)) hl)) fun r _=>?_;unfold colV vec;omega
   have H:InSp p R (d.map (fun l=>vec l.left) ++ [vec T.1]) (colV cols k):=by
    refine Q0_ (Za9 (J7_ (u:=vec T.1) z40_) (sp_mono (us:=d.map fun l=>vec l.left) (fun x c=>List.mem_append.2 (.inl c)) ((h.span _).2 hl))) fun r _=>?_;unfold colV vec;omega
   constructor
   ·refine C1_ fun x c=>?_
    rcases List.mem_append.1 c with c | c
    ·exact sp_mono (fun y B=>List.mem_append.2 (.inl B)) ((h.span _).1 (J7_ c))
    ·obtain rfl:=List.mem_singleton.1 c
     exact M
   ·refine C1_ fun x c=>?_
    rcases List.mem_append.1 c with c | c
    ·exact sp_mono (fun y B=>List.mem_append.2 (.inl B)) ((h.span _).2 (J7_ c))
    ·obtain rfl:=List.mem_singleton.1 c
     exact H
  ·intro a l b e
   rcases List.eq_nil_or_concat b with rfl | ⟨F,z,rfl⟩
   ·obtain ⟨rfl,s⟩:=List.append_inj' e z40_
    injection s with s _;subst s;exact ⟨f.sum,C⟩
   ·rw [List.concat_eq_append,← List.cons_append,← List.append_assoc] at e
    obtain ⟨G,_⟩:=List.append_inj' e z40_;exact h.from_ a l F G
theorem Zb1 (d:0<p) {inv:Int→Int} (c:∀ x,0<x→x<p→p ∣ x * inv x - 1∧0≤inv x∧inv x<p) {cols:List (List Int)}:∀ {k:Nat},(∀ i,i<k→InR p R (cols.getD i []))→Lines p R cols k (R1_ p inv cols k)
 | 0,_=>⟨trivial,rfl,fun _=>Iff.rfl,fun a l b e=>by cases a<;>cases e⟩
 | k+1,hc=>(Zb1 d c fun i f=>hc i q40_).next d c (hc k q40_)
end Go.Proofs.YtheeajnkiniopaaGreatDoor.Wp.L
namespace Go.Proofs.YtheeajnkiniopaaGreatDoor.Wp.L
variable {p:Int} {R:Nat}
structure Back (p:Int) (R:Nat) (cols:List (List Int)) (goal:List Int) (a b:List Line) (T:List Int):Prop where
 len:T.length=cols.length
 rng:∀ i,0≤T.getD i 0∧T.getD i 0<p
 off:∀ x,(∀ l∈a ++ b,l.place≠x)→T.getD x 0=0
 sum:∀ r,r<R→p ∣ goal.getD r 0 - lin (a.map fun l=>T.getD l.place 0) (a.map fun l=>vec l.left) r - lin (b.map fun l=>T.getD l.place 0) (b.map fun l=>colV cols l.place) r
def Zb2 (p:Int) (R:Nat) (cols:List (List Int)):Prop:=∀ i,i<cols.length→InR p R (cols.getD i [])
theorem Yt1 (cols:List (List Int)):F1_ cols cols.length=cols.map vec:=by
 unfold F1_;apply List.ext_getElem
 ·simp
 ·intro i c d
  simp at c;simp [colV,List.getD,c]
structure Told (p:Int) (R:Nat) (cols:List (List Int)) (goal T:List Int):Prop where
 len:T.length=cols.length
 rng:∀ i,0≤T.getD i 0∧T.getD i 0<p
 off:∀ i,T.getD i 0≠0→i∈basN p R cols cols.length
 sum:∀ r,r<R→p ∣ goal.getD r 0 - lin T (cols.map vec) r
end Go.Proofs.YtheeajnkiniopaaGreatDoor.Wp.L
namespace Go.Proofs.YtheeajnkiniopaaGreatDoor.Wp.L
variable {p:Int} {R:Nat}
theorem Yl4:∀ {us:List Vec},(∀ k (_:k<us.length),∃ q,q<R∧¬ p ∣ us[k] q∧∀ j (_:j<us.length),k<j→p ∣ us[j] q)→Ind p R us
 | [],_=>trivial
 | u :: us,h=>by
  refine ⟨?_,Yl4 fun k m=>?_⟩
  ·obtain ⟨q,e,c,d⟩:=h 0 z40_
   refine Yt0 e c fun x g=>?_;obtain ⟨j,f,rfl⟩:=List.mem_iff_getElem.1 g;exact d (j+1) j40_ q40_
  ·obtain ⟨q,e,c,d⟩:=h (k+1) j40_
   exact ⟨q,e,c,fun j f o=>d (j+1) j40_ q40_⟩
theorem rk_ge (c:Fld p) {us ws:List Vec} (d:Ind p R us) (h:∀ u∈us,InSp p R ws u):us.length≤rk p R ws :=
 Yk9 c d fun u e=>Zb0 (h u e)
theorem Xr7 (g:Fld p) {m:List Vec} {n:Nat} (z:n≤m.length) (hs:∀ k (_:k<m.length),k<n→∃ q,q<R∧¬ p ∣ m[k] q∧∀ j (_:j<m.length),k<j→p ∣ m[j] q)
  (y:∀ j (_:j<m.length),n≤j→∀ r,r<R→p ∣ m[j] r):rk p R m=n:=by
 have hl:(m.take n).length=n:=z42_;have s:Ind p R (m.take n):=Yl4 fun k o=>by
  rw [hl] at o;obtain ⟨q,w,e,f⟩:=hs k q40_ o;refine ⟨q,w,by rw [List.getElem_take];exact e,fun j c v=>?_⟩;rw [hl] at c;rw [List.getElem_take];exact f j q40_ v
 have e:=rk_ge g (ws:=m) s fun u d=>J7_ (List.mem_of_mem_take d);have f:rk p R m≤rk p R (m.take n):=rk_le g fun u d=>by
  obtain ⟨j,c,rfl⟩:=List.mem_iff_getElem.1 d;rcases Nat.lt_or_ge j n with h | h
  ·exact J7_ (List.mem_iff_getElem.2 ⟨j,q40_,List.getElem_take⟩)
  ·exact T9_ Zz8 fun r x=>by
    rw [show (0:Int) - m[j] r=-(m[j] r) by omega];exact (Int.dvd_neg).2 (y j c h r x)
 have h3:=Va7 (p:=p) (R:=R) (us:=m.take n);omega
theorem Vg7 (c:Fld p) {us ws:List Vec} (h:∀ v,InSp p R us v↔InSp p R ws v):rk p R us=rk p R ws :=
 rk_eq c (fun u d=>(h u).1 (J7_ d)) (fun w e=>(h w).2 (J7_ e))
structure Steps (p:Int) (R:Nat) (cols m:List Vec) (n row:Nat):Prop where
 len:m.length=cols.length
 le:n≤m.length
 span:∀ v,InSp p R m v↔InSp p R cols v
 step:∀ k (_:k<m.length),k<n→∃ q,q<row∧¬ p ∣ m[k] q∧∀ j (_:j<m.length),k<j→p ∣ m[j] q
 zero:∀ j (_:j<m.length),n≤j→∀ q,q<row→p ∣ m[j] q
theorem Steps.start (cols:List Vec):Steps p R cols cols 0 0:=⟨rfl,Nat.zero_le _,fun _=>Iff.rfl,fun _ _ h=>by omega,fun _ _ _ _ h=>by omega⟩
theorem Steps.rank (c:Fld p) {cols m:List Vec} {n:Nat} (h:Steps p R cols m n R):rk p R cols=n:=by
 rw [← Vg7 c h.span];exact Xr7 c h.le h.step h.zero
theorem Steps.skip {cols m:List Vec} {n row:Nat} (h:Steps p R cols m n row) (u:∀ j (_:j<m.length),n≤j→p ∣ m[j] row):Steps p R cols m n (row+1) where
 len:=h.len
 le:=h.le
 span:=h.span
 step:=fun k o r=>by
  obtain ⟨q,s,f,g⟩:=h.step k o r;exact ⟨q,q40_,f,g⟩
 zero:=fun j c d q s=>by
  by_cases e:q=row
  ·subst e;exact u j c d
  ·exact h.zero j c d q q40_
theorem Steps.swap {cols m c:List Vec} {n row a:Nat} (h:Steps p R cols m n row) (ha:a<m.length) (I:n≤a) (hl:c.length=m.length)
  (s:∀ j (f:j<c.length) (r:j<m.length),c[j]=if j=n then m[a] else if j=a then m[n]'q40_ else m[j]):Steps p R cols c n row:=by
 have C:n<m.length:=q40_;have A:∀ x,x∈c↔x∈m:=by
  intro x;constructor
  ·intro o
   obtain ⟨j,g,rfl⟩:=List.mem_iff_getElem.1 o;rw [s j g q40_];split
   ·exact z26_
   ·split<;>exact List.getElem_mem _
  ·intro o
   obtain ⟨j,g,rfl⟩:=List.mem_iff_getElem.1 o;by_cases e:j=n
   ·subst e
    have:=s a q40_ ha;by_cases d:a=j
    ·subst d
     rw [if_pos rfl] at this;rw [← this];exact z26_
    ·rw [if_neg d,if_pos rfl] at this
     rw [← this];exact z26_
   ·by_cases d:j=a
    ·subst d
     have:=s n q40_ C;rw [if_pos rfl] at this;rw [← this];exact z26_
    ·have:=s j q40_ g
     rw [if_neg e,if_neg d] at this;rw [← this];exact z26_
 have y:∀ j (f:j<c.length),n≤j→∃ i,∃ (u:i<m.length),n≤i∧c[j]=m[i]:=by
  intro j f r;have:=s j f q40_;by_cases e:j=n
  ·rw [if_pos e] at this
   exact ⟨a,ha,I,this⟩
  ·by_cases d:j=a
   ·rw [if_neg e,if_pos d] at this
    exact ⟨n,C,le_refl _,this⟩
   ·rw [if_neg e,if_neg d] at this
    exact ⟨j,q40_,r,this⟩
 have D:∀ j (f:j<c.length),j<n→c[j]=m[j]'q40_:=by
  intro j f r;rw [s j f q40_,if_neg q40_,if_neg q40_]
 refine ⟨hl.trans h.len,by rw [hl];exact h.le,fun v=>?_,fun k F z=>?_,fun j g H q w=>?_⟩
 ·rw [← h.span v]
  exact ⟨sp_mono fun x o=>(A x).1 o,sp_mono fun x o=>(A x).2 o⟩
 ·obtain ⟨q,w,f,r⟩:=h.step k q40_ z
  refine ⟨q,w,by rw [D k F z];exact f,fun j g G=>?_⟩;by_cases E:j<n
  ·rw [D j g E]
   exact r j q40_ G
  ·obtain ⟨i,u,B,e⟩:=y j g q40_
   rw [e];exact r i u q40_
 ·obtain ⟨i,u,B,e⟩:=y j g H
  rw [e];exact h.zero i u B q w
theorem Steps.take {cols m c:List Vec} {n row:Nat} (h:Steps p R cols m n row) (u:n<m.length) (hl:c.length=m.length) (H:¬ p ∣ m[n] row) (M:row<R)
  (s:∀ j (o:j<c.length) (f:j<m.length),j≤n→c[j]=m[j])
  (w:∀ j (o:j<c.length) (f:j<m.length),n<j→p ∣ c[j] row∧∃ k:Int,∀ r,r<R→p ∣ c[j] r - (m[j] r - k * m[n] r)):Steps p R cols c (n+1) (row+1):=by
 have C:∀ {j q:Nat} (o:j<c.length) (f:j<m.length),q<R→p ∣ m[j] q→p ∣ m[n] q→p ∣ c[j] q:=by
  intro j q o f I D K;by_cases d:j≤n
  ·rw [s j o f d]
   exact D
  ·obtain ⟨_,k,g⟩:=w j o f q40_
   have e:=Int.dvd_add (g q I) (Int.dvd_sub D (Int.dvd_trans K (Int.dvd_mul_left k _)))
   rwa [show c[j] q - (m[j] q - k * m[n] q)+(m[j] q - k * m[n] q)=c[j] q by omega] at e
 refine ⟨hl.trans h.len,q40_,fun v=>?_,fun k g B=>?_,fun j d L q J=>?_⟩
 ·rw [← h.span v]
  constructor
  ·refine C1_ fun x A=>?_
   obtain ⟨j,d,rfl⟩:=List.mem_iff_getElem.1 A;by_cases y:j≤n
   ·rw [s j d q40_ y]
    exact J7_ (List.getElem_mem _)
   ·obtain ⟨_,k,g⟩:=w j d q40_ q40_
    refine T9_ (Yk7 (J7_ (List.getElem_mem (show j<m.length by omega))) (U0_ k (J7_ (List.getElem_mem u)))) fun r z=>?_;have:=g r z;rw [show m[j] r - k * m[n] r - c[j] r=-(c[j] r - (m[j] r - k * m[n] r)) by omega];exact (Int.dvd_neg).2 this
  ·have G:InSp p R c m[n]:=by
    rw [← s n q40_ u (le_refl _)];exact J7_ (List.getElem_mem _)
   refine C1_ fun x A=>?_;obtain ⟨j,d,rfl⟩:=List.mem_iff_getElem.1 A;by_cases y:j≤n
   ·rw [← s j q40_ d y]
    exact J7_ (List.getElem_mem _)
   ·obtain ⟨_,k,g⟩:=w j q40_ d q40_
    refine T9_ (Za9 (J7_ (List.getElem_mem (show j<c.length by omega))) (U0_ k G)) fun r z=>?_;have:=g r z
    rwa [show c[j] r+k * m[n] r - m[j] r=c[j] r - (m[j] r - k * m[n] r) by omega]
 ·by_cases F:k=n
  ·subst F
   refine ⟨row,q40_,by rw [s k g u (le_refl _)];exact H,fun j d B=>(w j d q40_ B).1⟩
  ·obtain ⟨q,J,o,f⟩:=h.step k q40_ q40_
   refine ⟨q,q40_,by rw [s k g q40_ q40_];exact o,fun j d E=>C d q40_ q40_ (f j q40_ E) (f n u q40_)⟩
 ·by_cases e:q=row
  ·subst e
   exact (w j d q40_ q40_).1
  ·exact C d q40_ q40_ (h.zero j q40_ q40_ q q40_) (h.zero n u (le_refl _) q q40_)
end Go.Proofs.YtheeajnkiniopaaGreatDoor.Wp.L
namespace Go.Proofs.YtheeajnkiniopaaGreatDoor.Wp.L
variable {p:Int} {R:Nat}
theorem Zu8 (c:Fld p) {cols:List (List Int)} {k:Nat} (h:InB p R cols k):rk p R (F1_ cols (k+1))=rk p R (F1_ cols k)+1:=by
 rw [L3_];exact Yc4 c h
theorem Zn7 (c:Fld p) {cols:List (List Int)} {k:Nat} (h:¬ InB p R cols k):rk p R (F1_ cols (k+1))=rk p R (F1_ cols k):=by
 rw [L3_];exact Ys9 c (Classical.not_not.1 h)
theorem Yc5 (c:Fld p) {cols:List (List Int)}:∀ (k:Nat),rk p R (F1_ cols k)=(basN p R cols k).length
 | 0=>rfl
 | k+1=>by
  by_cases h:InB p R cols k
  ·rw [Zu8 c h,Xb3 h,Yc5 c k]
   simp
  ·rw [Zn7 c h,Yl3 h,Yc5 c k]
theorem rk_cols (c:Fld p) (cols:List (List Int)):rk p R (cols.map vec)=(basN p R cols cols.length).length:=by
 rw [← Yt1];exact Yc5 c _
theorem Xb4 {cols:List (List Int)} {k:Nat}:(basN p R cols k).length≤k:=by
 unfold basN;have:=List.length_filter_le (fun i=>@decide (InB p R cols i) (Classical.propDecidable _)) (List.range k);simpa using this
end Go.Proofs.YtheeajnkiniopaaGreatDoor.Wp.L
namespace Go.Proofs.YtheeajnkiniopaaGreatDoor.Wp
def insP (P:Nat→Bool) (x:Nat):Nat→Bool:=fun i=>i==x || P i
def orP (P Q:Nat→Bool):Nat→Bool:=fun i=>P i || Q i
def andP (P Q:Nat→Bool):Nat→Bool:=fun i=>P i && Q i
def notP (P:Nat→Bool):Nat→Bool:=fun i=>!P i
def noneP:Nat→Bool:=fun _=>false
def allP:Nat→Bool:=fun _=>true
theorem V0_ (P:Nat→Bool) (x:Nat):insP P x x=true:=by simp [insP]
theorem X8_ {P:Nat→Bool} {x i:Nat} (h:i≠x):insP P x i=P i:=by simp [insP,h]
theorem H8_ {P:Nat→Bool} {x:Nat} (h:P x=true):insP P x=P:=by
 funext i
 by_cases e:i=x
 ·rw [e,V0_,h]
 ·exact X8_ e
theorem Zu9 (P:Nat→Bool) (x y:Nat):insP (insP P x) y=insP (insP P y) x:=by
 funext i
 simp only [insP];cases i==x<;>cases i==y<;>simp
structure Rk (n:Nat) (f:(Nat→Bool)→Nat):Prop where
 ext:∀ {P Q:Nat→Bool},(∀ i,i<n→P i=Q i)→f P=f Q
 zero:f noneP=0
 up:∀ {P:Nat→Bool} {x:Nat},x<n→P x=false→f P≤f (insP P x)
 one:∀ {P:Nat→Bool} {x:Nat},x<n→P x=false→f (insP P x)≤f P+1
 dim:∀ {P:Nat→Bool} {x y:Nat},x<n→y<n→x≠y→P x=false→P y=false→f (insP (insP P x) y)+f P≤f (insP P x)+f (insP P y)
section
variable {n:Nat} {f:(Nat→Bool)→Nat}
theorem Rk.up' (h:Rk n f) (P:Nat→Bool) {x:Nat} (c:x<n):f P≤f (insP P x):=by
 cases hp:P x
 ·exact h.up c hp
 ·rw [H8_ hp];exact le_refl _
theorem Rk.one' (h:Rk n f) (P:Nat→Bool) {x:Nat} (c:x<n):f (insP P x)≤f P+1:=by
 cases hp:P x
 ·exact h.one c hp
 ·rw [H8_ hp];exact Nat.le_succ _
theorem Rk.dim' (h:Rk n f) (P:Nat→Bool) {x y:Nat} (d:x<n) (g:y<n) (c:x≠y):f (insP (insP P x) y)+f P≤f (insP P x)+f (insP P y):=by
 cases hp:P x
 ·cases hq:P y
  ·exact h.dim d g c hp hq
  ·have e:insP (insP P x) y=insP P x:=H8_ (by rw [X8_ (fun e=>c e.symm),hq])
   rw [e,H8_ hq];exact le_refl _
 ·rw [H8_ hp]
  omega
def addK (P S:Nat→Bool) (k:Nat):Nat→Bool:=fun i=>P i || (decide (i<k) && S i)
theorem G6_ (P S:Nat→Bool):addK P S 0=P:=by funext i;simp [addK]
theorem R9_ {P S:Nat→Bool} {k:Nat} (h:S k=false):addK P S (k+1)=addK P S k:=by
 funext i
 by_cases e:i=k
 ·subst e;simp [addK,h]
 ·have:decide (i<k+1)=decide (i<k):=decide_eq_decide.2 q40_
  simp [addK,this]
theorem L4_ {P S:Nat→Bool} {k:Nat} (h:S k=true):addK P S (k+1)=insP (addK P S k) k:=by
 funext i
 by_cases e:i=k
 ·subst e;simp [addK,insP,h]
 ·have:decide (i<k+1)=decide (i<k):=decide_eq_decide.2 q40_
  rw [X8_ e];simp [addK,this]
theorem D5_ (h:Rk n f) (P S:Nat→Bool):f (addK P S n)=f (orP P S):=h.ext fun i c=>by simp [addK,orP,c]
theorem Rk.up_add (h:Rk n f) (P S:Nat→Bool):∀ k,k≤n→f P≤f (addK P S k)
 | 0,_=>by rw [G6_];exact le_refl _
 | k+1,hk=>by
  have c:=h.up_add P S k q40_;cases hs:S k
  ·rw [R9_ hs];exact c
  ·rw [L4_ hs];exact Nat.le_trans c (h.up' _ q40_)
theorem Rk.mono (h:Rk n f) {P Q:Nat→Bool} (hs:∀ i,i<n→P i=true→Q i=true):f P≤f Q:=by
 have c:=h.up_add P Q n (le_refl _);rw [D5_ h,h.ext (P:=orP P Q) (Q:=Q) (fun i d=>by
  unfold orP;cases hp:P i
  ·simp
  ·simp [hs i d hp])] at c
 exact c
theorem Rk.le_cnt (h:Rk n f) (P:Nat→Bool):f P≤cnt P n:=by
 have:∀ k,k≤n→f (addK noneP P k)≤cnt P k:=by
  intro k
  induction k with
  | zero=>intro _;rw [G6_,h.zero];exact Nat.zero_le _
  | succ k c =>
   intro e;have c:=c q40_;rw [X4_];cases hs:P k
   ·rw [R9_ hs];simpa using c
   ·rw [L4_ hs]
    have:=h.one' (addK noneP P k) (x:=k) q40_;simp;omega
 have d:=this n (le_refl _);rw [D5_ h] at d
 rwa [show orP noneP P=P from by funext i;simp [orP,noneP]] at d
theorem Rk.dim_add (h:Rk n f) (P S:Nat→Bool) {x:Nat} (d:x<n):∀ k,k≤n→f (insP (addK P S k) x)+f P≤f (insP P x)+f (addK P S k)
 | 0,_=>by rw [G6_];exact le_refl _
 | k+1,hk=>by
  have j:=h.dim_add P S d k q40_;cases hs:S k
  ·rw [R9_ hs];exact j
  ·rw [L4_ hs]
   by_cases e:x=k
   ·subst e
    have c:insP (insP (addK P S x) x) x=insP (addK P S x) x:=H8_ (V0_ _ _);rw [c];have m:=h.up' P (x:=x) q40_;omega
   ·have c:=h.dim' (addK P S k) (x:=k) (y:=x) q40_ d (fun g=>e g.symm)
    omega
theorem Rk.dim_set (h:Rk n f) {P Q:Nat→Bool} (hs:∀ i,i<n→P i=true→Q i=true) {x:Nat} (g:x<n):f (insP Q x)+f P≤f (insP P x)+f Q:=by
 have d:=h.dim_add P Q g n (le_refl _);have e:∀ i,i<n→addK P Q n i=Q i:=fun i c=>by
  simp only [addK,c,decide_true,Bool.true_and];cases hp:P i
  ·simp
  ·simp [hs i c hp]
 rw [h.ext e,h.ext (P:=insP (addK P Q n) x) (Q:=insP Q x) (fun i c=>by unfold insP;rw [e i c])] at d;exact d
theorem Rk.sub_add (h:Rk n f) {P Q:Nat→Bool} (hs:∀ i,i<n→P i=true→Q i=true) (Z:Nat→Bool):∀ k,k≤n→f (addK Q Z k)+f P≤f (addK P Z k)+f Q
 | 0,_=>by rw [G6_,G6_];omega
 | k+1,hk=>by
  have e:=h.sub_add hs Z k q40_;cases hz:Z k
  ·rw [R9_ hz,R9_ hz];exact e
  ·rw [L4_ hz,L4_ hz]
   have g:=h.dim_set (P:=addK P Z k) (Q:=addK Q Z k) (fun i d c=>by
    unfold addK at c ⊢;cases hq:Q i
    ·have:P i=false:=by
      cases hpi:P i
      ·rfl
      ·rw [hs i d hpi] at hq;cases hq
     rw [this] at c;exact c
    ·simp) (x:=k) q40_
   omega
theorem Rk.submod (h:Rk n f) (P Q:Nat→Bool):f (orP P Q)+f (andP P Q)≤f P+f Q:=by
 have d:=h.sub_add (P:=andP P Q) (Q:=P) (fun i _ c=>by unfold andP at c;simp at c;exact c.1) Q n (le_refl _);rw [D5_ h,D5_ h] at d;rw [show orP (andP P Q) Q=Q from by funext i;simp only [orP,andP];cases P i<;>cases Q i<;>rfl] at d;omega
theorem Rk.of_step (μ:(Nat→Bool)→Nat→Bool) (ext:∀ {P Q:Nat→Bool},(∀ i,i<n→P i=Q i)→f P=f Q) (zero:f noneP=0)
  (g:∀ {P:Nat→Bool} {x:Nat},x<n→P x=false→f (insP P x)=f P+if μ P x then 1 else 0)
  (h:∀ {P:Nat→Bool} {x y:Nat},x<n→y<n→x≠y→P x=false→P y=false→μ (insP P x) y=true→μ P y=true):Rk n f:=by
 refine ⟨ext,zero,fun d c=>?_,fun d c=>?_,fun {P x y} d hy hxy c hq=>?_⟩
 ·rw [g d c];exact Nat.le_add_right _ _
 ·rw [g d c];split<;>omega
 ·rw [g (P:=insP P x) hy (by rw [X8_ (fun e=>hxy e.symm)];exact hq),g (P:=P) hy hq]
  cases h1:μ (insP P x) y
  ·simp
  ·rw [h d hy hxy c hq h1];simp;omega
theorem C2_ (n:Nat):Rk n (fun P=>cnt P n):=by
 refine Rk.of_step (fun _ _=>true) (fun {P Q} h=>Nat.le_antisymm (T5_ fun v d c=>by rw [← h v d];exact c) (T5_ fun v d c=>by rw [h v d];exact c)) ?_ (fun {P x} hx c=>?_) (fun _ _ _ _ _ _=>rfl)
 ·show cnt noneP n=0
  have:∀ n,cnt noneP n=0:=fun n=>by
   induction n with
   | zero=>simp [cnt]
   | succ n ih=>rw [X4_,ih];simp [noneP]
  exact this n
 ·show cnt (insP P x) n=cnt P n+_
  rw [Za5 (p:=insP P x) (q:=P) (V0_ P x) c (fun v d=>X8_ d),if_pos hx,if_pos rfl]
theorem F4_ (n:Nat):cnt noneP n=0:=(C2_ n).zero
theorem N7_ {P Q:Nat→Bool} (h:∀ i,i<n→P i=Q i):cnt P n=cnt Q n:=(C2_ n).ext h
theorem A5_ {P:Nat→Bool} {x:Nat} (e:x<n) (c:P x=false):cnt (insP P x) n=cnt P n+1:=by
 rw [Za5 (p:=insP P x) (q:=P) (V0_ P x) c (fun v d=>X8_ d),if_pos e]
theorem Yl5 (h:Rk n f) (a:Nat):Rk n (fun P=>min a (f P)):=by
 refine ⟨fun c=>by rw [h.ext c],by rw [h.zero];exact Nat.min_zero _,fun {P x} hx hp=>?_,fun {P x} hx hp=>?_,fun {P x y} hx hy hxy hp hq=>?_⟩
 ·have:=h.up hx hp;omega
 ·have:=h.one hx hp;omega
 ·have c:=h.dim hx hy hxy hp hq
  have d:=h.up hx hp;have h3:=h.up hy hq;have g:=h.one hx hp;have j:=h.one hy hq;have k:=h.up (P:=insP P x) hy (by rw [X8_ (fun e=>hxy e.symm)];exact hq);omega
theorem Zj2 {P:Nat→Bool} {x:Nat} (c:P x=false):insP (notP (insP P x)) x=notP P:=by
 funext i
 by_cases e:i=x
 ·subst e;rw [V0_];simp [notP,c]
 ·rw [X8_ e];simp [notP,X8_ e]
theorem Vg8 (h:Rk n f):Rk n (fun P=>cnt P n+f (notP P) - f allP):=by
 have v:∀ P,f (notP P)≤f allP:=fun P=>h.mono fun _ _ _=>rfl;have k:∀ P,f allP≤cnt P n+f (notP P):=by
  intro P;have c:=h.submod (notP P) P;have j:=h.le_cnt P;have h3:orP (notP P) P=allP:=by funext i;simp only [orP,notP,allP];cases P i<;>rfl
  rw [h3] at c;omega
 have p:∀ {P:Nat→Bool} {x:Nat},x<n→P x=false→f (notP (insP P x))≤f (notP P)∧f (notP P)≤f (notP (insP P x))+1:=by
  intro P x d g;have c:=h.up' (notP (insP P x)) d;have j:=h.one' (notP (insP P x)) d;rw [Zj2 g] at c j;exact ⟨c,j⟩
 refine ⟨fun {P Q} c=>?_,?_,fun {P x} d g=>?_,fun {P x} d g=>?_,fun {P x y} d hy hxy g hq=>?_⟩
 ·rw [N7_ c,h.ext (P:=notP P) (Q:=notP Q) (fun i s=>by unfold notP;rw [c i s])]
 ·show cnt noneP n+f (notP noneP) - f allP=0
  rw [F4_,show notP noneP=allP from rfl];omega
 ·have c:=p d g
  have j:=A5_ d g;show cnt P n+f (notP P) - f allP≤cnt (insP P x) n+f (notP (insP P x)) - f allP;omega
 ·have c:=p d g
  have j:=A5_ d g;have h3:=k P;show cnt (insP P x) n+f (notP (insP P x)) - f allP≤cnt P n+f (notP P) - f allP+1;omega
 ·have o:insP P x y=false:=by rw [X8_ (fun e=>hxy e.symm)];exact hq
  have u:insP P y x=false:=by rw [X8_ hxy];exact g
  have c1:=A5_ d g;have c2:=A5_ hy hq;have c3:=A5_ (P:=insP P x) hy o;have w:=k P;have z:=k (insP P x);have A:=k (insP P y);have B:=k (insP (insP P x) y);have c:=h.dim' (notP (insP (insP P x) y)) d hy hxy;have q:insP (notP (insP (insP P x) y)) y=notP (insP P x):=Zj2 o;have m:insP (notP (insP (insP P x) y)) x=notP (insP P y):=by rw [Zu9];exact Zj2 u
  have r:insP (insP (notP (insP (insP P x) y)) x) y=notP P:=by rw [m];exact Zj2 hq
  rw [r,q,m] at c;show cnt (insP (insP P x) y) n+f (notP (insP (insP P x) y)) - f allP+(cnt P n+f (notP P) - f allP)≤cnt (insP P x) n+f (notP (insP P x)) - f allP+(cnt (insP P y) n+f (notP (insP P y)) - f allP);omega
def imgP (n:Nat) (φ:Nat→Nat) (P:Nat→Bool):Nat→Bool:=fun y=>(List.range n).any fun i=>P i && φ i==y
theorem imgP_iff {φ:Nat→Nat} {P:Nat→Bool} {y:Nat}:imgP n φ P y=true↔∃ i,i<n∧P i=true∧φ i=y:=by
 unfold imgP;simp only [List.any_eq_true,List.mem_range,Bool.and_eq_true,beq_iff_eq]
theorem Xb5 (φ:Nat→Nat):imgP n φ noneP=noneP:=by
 funext y
 exact Bool.eq_false_iff.2 (fun h=>by obtain ⟨i,_,c,_⟩:=imgP_iff.1 h;cases c)
theorem Xr8 {φ:Nat→Nat} {P:Nat→Bool} {x:Nat} (e:x<n):imgP n φ (insP P x)=insP (imgP n φ P) (φ x):=by
 funext y
 rw [Bool.eq_iff_iff,imgP_iff];unfold insP;simp only [Bool.or_eq_true,beq_iff_eq,imgP_iff];constructor
 ·rintro ⟨i,d,c | c,rfl⟩
  ·left;rw [c]
  ·exact .inr ⟨i,d,c,rfl⟩
 ·rintro (rfl | ⟨i,d,c,rfl⟩)
  ·exact ⟨x,e,.inl rfl,rfl⟩
  ·exact ⟨i,d,.inr c,rfl⟩
theorem Vg9 {φ:Nat→Nat} {P:Nat→Bool} {x:Nat} (k:∀ i j,i<n→j<n→φ i=φ j→i=j) (g:x<n) (f:P x=false):imgP n φ P (φ x)=false:=by
 refine Bool.eq_false_iff.2 fun h=>?_;obtain ⟨i,d,c,e⟩:=imgP_iff.1 h;rw [k i x d g e,f] at c;cases c
theorem Xr9 {φ:Nat→Nat} {P Q:Nat→Bool} (h:∀ i,i<n→P i=Q i):imgP n φ P=imgP n φ Q:=by
 funext y
 rw [Bool.eq_iff_iff,imgP_iff,imgP_iff];exact ⟨fun ⟨i,c,d,e⟩=>⟨i,c,by rw [← h i c];exact d,e⟩,fun ⟨i,c,d,e⟩=>⟨i,c,by rw [h i c];exact d,e⟩⟩
theorem Vb0 {k:Nat} (h:Rk n f) {φ:Nat→Nat} (q:∀ i j,i<k→j<k→φ i=φ j→i=j) (g:∀ i,i<k→φ i<n) (T:Nat→Bool) (r:∀ i,i<k→T (φ i)=false):Rk k (fun P=>f (orP T (imgP k φ P)) - f T):=by
 have s:∀ P,f T≤f (orP T (imgP k φ P)):=fun P=>h.mono fun i _ u=>by unfold orP;rw [u];rfl
 have o:∀ {P:Nat→Bool} {x:Nat},x<k→orP T (imgP k φ (insP P x))=insP (orP T (imgP k φ P)) (φ x):=by
  intro P x c;rw [Xr8 c]
  funext i
  simp only [orP,insP];cases T i<;>cases i==φ x<;>rfl
 have m:∀ {P:Nat→Bool} {x:Nat},x<k→P x=false→orP T (imgP k φ P) (φ x)=false:=by
  intro P x c d;unfold orP;rw [r x c,Vg9 q c d];rfl
 refine ⟨fun {P Q} p=>?_,?_,fun {P x} c d=>?_,fun {P x} c d=>?_,fun {P x y} c hy hxy d hq=>?_⟩
 ·rw [Xr9 p]
 ·show f (orP T (imgP k φ noneP)) - f T=0
  rw [Xb5,show orP T noneP=T from by funext i;simp [orP,noneP],Nat.sub_self]
 ·show f (orP T (imgP k φ P)) - f T≤f (orP T (imgP k φ (insP P x))) - f T
  rw [o c];have:=h.up (g x c) (m c d);omega
 ·show f (orP T (imgP k φ (insP P x))) - f T≤f (orP T (imgP k φ P)) - f T+1
  rw [o c];have:=h.one (g x c) (m c d);omega
 ·show f (orP T (imgP k φ (insP (insP P x) y))) - f T+(f (orP T (imgP k φ P)) - f T)≤f (orP T (imgP k φ (insP P x))) - f T+(f (orP T (imgP k φ (insP P y))) - f T)
  rw [o hy,o c,o hy];have p:=h.dim (g x c) (g y hy) (fun e=>hxy (q x y c hy e)) (m c d) (m hy hq);have m0:=s P;have m1:=h.up (g x c) (m c d);have m2:=h.up (g y hy) (m hy hq);omega
end
theorem Vs4 {n m:Nat} {f g:(Nat→Bool)→Nat} (k:Rk n f) (o:Rk m g):Rk (n+m) (fun P=>f P+g (fun i=>P (n+i))):=by
 have c:∀ {P:Nat→Bool} {x:Nat},n≤x→f (insP P x)=f P:=fun {P x} hx=>k.ext fun i q=>X8_ q40_;have d:∀ {P:Nat→Bool} {x:Nat},x<n→(fun i=>insP P x (n+i))=fun i=>P (n+i):=fun {P x} hx=>by funext i;exact X8_ q40_
 have e:∀ {P:Nat→Bool} {x:Nat},n≤x→(fun i=>insP P x (n+i))=insP (fun i=>P (n+i)) (x - n):=fun {P x} hx=>by
  funext i
  show (n+i==x || P (n+i))=(i==x - n || P (n+i));have:(n+i==x)=(i==x - n):=by rw [Bool.eq_iff_iff,beq_iff_eq,beq_iff_eq];omega
  rw [this]
 have p:∀ {P:Nat→Bool} {x:Nat},n≤x→P x=false→(fun i=>P (n+i)) (x - n)=false:=fun {P x} hx hp=>by
  show P (n+(x - n))=false;rw [show n+(x - n)=x by omega];exact hp
 refine ⟨fun {P Q} h1=>?_,?_,fun {P x} hx hp=>?_,fun {P x} hx hp=>?_,fun {P x y} hx hy hxy hp hq=>?_⟩
 ·rw [k.ext (fun i q=>h1 i q40_),o.ext (fun i q=>h1 (n+i) q40_)]
 ·show f noneP+g noneP=0
  rw [k.zero,o.zero]
 ·show f P+g (fun i=>P (n+i))≤f (insP P x)+g (fun i=>insP P x (n+i))
  by_cases h:x<n
  ·rw [d h];have:=k.up h hp;omega
  ·rw [c q40_,e q40_];have:=o.up (P:=fun i=>P (n+i)) (x:=x - n) q40_ (p (P:=P) (x:=x) q40_ hp);omega
 ·show f (insP P x)+g (fun i=>insP P x (n+i))≤f P+g (fun i=>P (n+i))+1
  by_cases h:x<n
  ·rw [d h];have:=k.one h hp;omega
  ·rw [c q40_,e q40_];have:=o.one (P:=fun i=>P (n+i)) (x:=x - n) q40_ (p (P:=P) (x:=x) q40_ hp);omega
 ·show f (insP (insP P x) y)+g (fun i=>insP (insP P x) y (n+i))+(f P+g (fun i=>P (n+i)))≤f (insP P x)+g (fun i=>insP P x (n+i))+(f (insP P y)+g (fun i=>insP P y (n+i)))
  by_cases h:x<n
  ·by_cases j:y<n
   ·rw [d j,d h,d j];have:=k.dim h j hxy hp hq;omega
   ·rw [c (P:=insP P x) q40_,c (P:=P) (x:=y) q40_,e (P:=insP P x) q40_,d h,e (P:=P) (x:=y) q40_]
    omega
  ·by_cases j:y<n
   ·have r:f (insP (insP P x) y)=f (insP P y):=by rw [Zu9];exact c q40_
    have s:f (insP P x)=f P:=c q40_;rw [r,s,d (P:=insP P x) j,d (P:=P) j];omega
   ·rw [c (P:=insP P x) q40_,c (P:=P) (x:=x) q40_,c (P:=P) (x:=y) q40_,e (P:=insP P x) q40_,e (P:=P) (x:=x) q40_,e (P:=P) (x:=y) q40_]
    have:=o.dim (P:=fun i=>P (n+i)) (x:=x - n) (y:=y - n) q40_ q40_ q40_ (p (P:=P) (x:=x) q40_ hp) (p (P:=P) (x:=y) q40_ hq);omega
end Go.Proofs.YtheeajnkiniopaaGreatDoor.Wp
namespace Go.Proofs.YtheeajnkiniopaaGreatDoor.Wp.K
theorem nodup_le {α:Type} [DecidableEq α]:∀ {a b:List α},a.Nodup→(∀ x∈a,x∈b)→a.length≤b.length
 | [],b,_,_=>by simp
 | x :: a,b,c,h=>by
  obtain ⟨d,c⟩:=List.nodup_cons.1 c;have hb:x∈b:=h x z40_;have f:=nodup_le (a:=a) (b:=b.erase x) c fun y hy=>(List.mem_erase_of_ne (fun e=>d (by rw [← e];exact hy))).2 (h y k44_);rw [List.length_erase_of_mem hb] at f;have:0<b.length:=List.length_pos_of_mem hb;simp;omega
def cntP (n:Nat) (p:Nat→Bool):Nat:=((List.range n).filter p).length
theorem C3_ (n:Nat) (p:Nat→Bool):cntP (n+1) p=cntP n p+if p n then 1 else 0:=by
 unfold cntP;exact j27_
theorem Yc6 (p:Nat→Bool):∀ n,cntP n p≤n
 | 0=>le_refl _
 | n+1=>by
  have:=Yc6 p n;rw [C3_];split<;>omega
theorem Zb3 {p q:Nat→Bool}:∀ {n:Nat},(∀ i,i<n→p i=true→q i=true)→cntP n p≤cntP n q
 | 0,_=>le_refl _
 | n+1,h=>by
  have d:=Zb3 (n:=n) fun i c=>h i q40_;rw [C3_,C3_];have:=h n q40_;cases hp:p n
  ·simp;omega
  ·simp [this hp];omega
theorem Zy0 (p q:Nat→Bool):∀ n,cntP n p=cntP n (fun i=>p i && q i)+cntP n fun i=>p i && !q i
 | 0=>rfl
 | n+1=>by
  have c:=Zy0 p q n;rw [C3_,C3_,C3_,c];cases p n<;>cases q n<;>simp<;>omega
theorem Yc7 (n:Nat):(List.range n).Nodup:=List.nodup_range
theorem cntP_inj {n R:Nat} {p q:Nat→Bool} (f:Nat→Nat) (s:∀ i,i<n→p i=true→f i<R∧q (f i)=true) (c:∀ i j,i<n→j<n→p i=true→p j=true→f i=f j→i=j):cntP n p≤cntP R q:=by
 have m:(((List.range n).filter p).map f).Nodup:=by
  have k:((List.range n).filter p).Nodup:=(Yc7 n).sublist List.filter_sublist;refine List.pairwise_map.2 (List.Pairwise.imp_of_mem ?_ k);intro a b ha hb r e;have d:=List.mem_filter.1 ha;have g:=List.mem_filter.1 hb;exact r (c a b (List.mem_range.1 d.1) (List.mem_range.1 g.1) d.2 g.2 e)
 have o:=nodup_le (b:=(List.range R).filter q) m fun x u=>by
  obtain ⟨i,c,rfl⟩:=List.mem_map.1 u;have h:=List.mem_filter.1 c;have:=s i (List.mem_range.1 h.1) h.2;exact List.mem_filter.2 ⟨List.mem_range.2 this.1,this.2⟩
 unfold cntP;simpa using o
def Goes (adj:List (List Int)) (i r:Nat):Prop:=(r:Int)∈adj.getD i []
def OnR (R:Nat) (adj:List (List Int)):Prop:=∀ i x,x∈adj.getD i []→∃ r:Nat,x=(r:Int)∧r<R
theorem goes_lt {adj:List (List Int)} {i r:Nat} (h:Goes adj i r):i<adj.length:=by
 rcases Nat.lt_or_ge i adj.length with hl | hl
 ·exact hl
 ·unfold Goes at h
  rw [List.getD_eq_getElem?_getD,List.getElem?_eq_none hl] at h;exact absurd h z40_
structure Mat (R:Nat) (adj:List (List Int)) (h:Nat→Int):Prop where
 ok:∀ i,i<adj.length→h i=-1∨∃ r:Nat,r<R∧h i=(r:Int)∧Goes adj i r
 inj:∀ i j,i<adj.length→j<adj.length→h i=h j→h i≠-1→i=j
def msize (adj:List (List Int)) (h:Nat→Int):Nat:=cntP adj.length fun i=>decide (h i≠-1)
def Cov (adj:List (List Int)) (A B:Nat→Bool):Prop:=∀ i r,Goes adj i r→A i=true∨B r=true
theorem mat_le_cov {R:Nat} {adj:List (List Int)} {h:Nat→Int} {A B:Nat→Bool} (k:Mat R adj h) (hc:Cov adj A B):msize adj h≤cntP adj.length A+cntP R B:=by
 unfold msize;rw [Zy0 _ A];have v:cntP adj.length (fun i=>decide (h i≠-1) && A i)≤cntP adj.length A:=Zb3 fun i _ d=>by
  rw [Bool.and_eq_true] at d;exact d.2
 have w:cntP adj.length (fun i=>decide (h i≠-1) && !A i)≤cntP R B:=cntP_inj (fun i=>(h i).toNat) (fun i d c=>by
  rw [Bool.and_eq_true,decide_eq_true_iff] at c;rcases k.ok i d with e | ⟨r,u,e,q⟩
  ·exact absurd e c.1
  ·rw [e,Int.toNat_natCast]
   refine ⟨u,(hc i r q).resolve_left ?_⟩;intro ha;rw [ha] at c;exact absurd c.2 z40_) (fun i j d m c o e=>by
  rw [Bool.and_eq_true,decide_eq_true_iff] at c o;rcases k.ok i d with f | ⟨r,_,f,_⟩
  ·exact absurd f c.1
  ·rcases k.ok j m with g | ⟨s,_,g,_⟩
   ·exact absurd g o.1
   ·refine k.inj i j d m ?_ c.1
    have p:r=s:=by simpa [f,g] using e
    rw [f,g,p])
 omega
def Clo (adj:List (List Int)) (os:Nat→Int) (S:Nat→Prop):Prop:=∀ r,S r→∃ j:Nat,os r=(j:Int)∧∀ x,Goes adj j x→S x
structure Pairs (R:Nat) (adj:List (List Int)) (hs os:Nat→Int):Prop where
 l:∀ i,i<adj.length→hs i=-1∨∃ r:Nat,r<R∧hs i=(r:Int)∧Goes adj i r∧os r=(i:Int)
 r:∀ r,r<R→os r=-1∨∃ i:Nat,i<adj.length∧os r=(i:Int)∧hs i=(r:Int)
theorem Pairs.mat {R:Nat} {adj:List (List Int)} {hs os:Nat→Int} (h:Pairs R adj hs os):Mat R adj hs where
 ok:=fun i g=>(h.l i g).imp id fun ⟨r,a,b,c,_⟩=>⟨r,a,b,c⟩
 inj:=fun i j g m e k=>by
  rcases h.l i g with d | ⟨r,_,d,_,o⟩
  ·exact absurd d k
  ·rcases h.l j m with f | ⟨s,_,f,_,p⟩
   ·exact absurd (e.trans f) k
   ·have:r=s:=by
     have:=d.symm.trans (e.trans f);omega
    subst this;have:=o.symm.trans p;omega
def updI (f:Nat→Int) (a:Nat) (t:Int):Nat→Int:=fun x=>if x=a then t else f x
def updB (f:Nat→Bool) (a:Nat):Nat→Bool:=fun x=>if x=a then true else f x
structure Found (R:Nat) (adj:List (List Int)) (hs os:Nat→Int) (al:Nat→Bool) (i:Nat) (hs' os':Nat→Int):Prop where
 a:∃ r:Nat,r<R∧hs' i=(r:Int)∧Goes adj i r∧os' r=(i:Int)∧al r=false
 b:∀ j,j<adj.length→j≠i→(hs j=-1↔hs' j=-1)
 c:∀ j,j<adj.length→hs' j=-1∨∃ r:Nat,r<R∧hs' j=(r:Int)∧Goes adj j r∧os' r=(j:Int)
 d:∀ r,r<R→os' r=-1∨∃ j:Nat,j<adj.length∧os' r=(j:Int)∧(hs' j=(r:Int)∨(j=i∧hs i=(r:Int)))
 e:∀ r,al r=true→os' r=os r
 f:∀ S,Clo adj os S→(¬ ∀ x,Goes adj i x→S x)∧∀ r,S r→os' r=os r
structure Missed (adj:List (List Int)) (os:Nat→Int) (al:Nat→Bool) (i:Nat) (al':Nat→Bool):Prop where
 up:∀ r,al r=true→al' r=true
 all:∀ x,Goes adj i x→al' x=true
 cl:∀ r,al' r=true→al r=false→∃ j:Nat,os r=(j:Int)∧∀ x,Goes adj j x→al' x=true
structure Tried (adj:List (List Int)) (os:Nat→Int) (al:Nat→Bool) (i k:Nat) (al':Nat→Bool):Prop where
 up:∀ r,al r=true→al' r=true
 all:∀ m x,m<k→(adj.getD i [])[m]?=some ((x:Nat):Int)→al' x=true
 cl:∀ r,al' r=true→al r=false→∃ j:Nat,os r=(j:Int)∧∀ x,Goes adj j x→al' x=true
variable {R:Nat} {adj:List (List Int)} {hs os hs' os':Nat→Int} {al al' al'':Nat→Bool} {i k j r:Nat}
theorem Yt2:Tried adj os al i 0 al:=⟨fun _ h=>h,fun _ _ h=>by omega,fun r h k=>by rw [h] at k;cases k⟩
theorem Tried.skip (h:Tried adj os al i k al') (d:(adj.getD i [])[k]?=some (r:Int)) (ha:al' r=true):Tried adj os al i (k+1) al' :=
 ⟨h.up,fun m x f c=>by
  by_cases e:m=k
  ·subst e
   rw [d] at c;have:r=x:=by
    injection c with c;omega
   exact this▸ha
  ·exact h.all m x q40_ c,h.cl⟩
theorem Tried.miss (h:Tried adj os al i k al') (v:(adj.getD i [])[k]?=some (r:Int)) (s:os r=(j:Int)) (d:Missed adj os (updB al' r) j al''):Tried adj os al i (k+1) al'':=by
 have f:∀ x,al' x=true→al'' x=true:=fun x c=>d.up x (by unfold updB;split<;>first | rfl | exact c);have w:al'' r=true:=d.up r (by unfold updB;rw [if_pos rfl]);refine ⟨fun x c=>f x (h.up x c),fun m x A c=>?_,fun x o p=>?_⟩
 ·by_cases e:m=k
  ·subst e
   rw [v] at c;have:r=x:=by
    injection c with c;omega
   exact this▸w
  ·exact f x (h.all m x q40_ c)
 ·by_cases g:x=r
  ·subst g
   exact ⟨j,s,d.all⟩
  ·rcases c:al' x with _ | _
   ·exact d.cl x o (by unfold updB;rw [if_neg g];exact c)
   ·obtain ⟨q,e,u⟩:=h.cl x c p
    exact ⟨q,e,fun y z=>f y (u y z)⟩
theorem Tried.done (h:Tried adj os al i k al') (e:(adj.getD i []).length≤k):Missed adj os al i al' :=
 ⟨h.up,fun x d=>by
  obtain ⟨m,c⟩:=List.mem_iff_getElem?.1 d;have:m<(adj.getD i []).length:=(List.getElem?_eq_some_iff.1 c).1;exact h.all m x q40_ c,h.cl⟩
theorem Yt3 (h:Pairs R adj hs os) (hi:i<adj.length) (hr:r<R) (hg:Goes adj i r) (v:os r=-1) (ha:al r=false):Found R adj hs os al i (updI hs i r) (updI os r i):=by
 have u:∀ j,j<adj.length→hs j≠(r:Int):=by
  intro j c e;rcases h.l j c with d | ⟨s,_,d,_,o⟩
  ·omega
  ·have:s=r:=by omega
   subst this;omega
 refine ⟨⟨r,hr,if_pos rfl,hg,if_pos rfl,ha⟩,fun j _ c=>by unfold updI;rw [if_neg c],fun j c=>?_,fun s hs'=>?_,fun s hs'=>?_,fun S m=>⟨fun q=>?_,fun s hs'=>?_⟩⟩
 ·unfold updI
  by_cases e:j=i
  ·exact k28_
  ·rw [if_neg e]
   rcases h.l j c with d | ⟨s,g,f,h3,p⟩
   ·exact .inl d
   ·refine .inr ⟨s,g,f,h3,?_⟩
    rw [if_neg]
    ·exact p
    ·rintro rfl
     exact u j c f
 ·unfold updI
  by_cases e:s=r
  ·exact z28_
  ·rw [if_neg e]
   rcases h.r s hs' with d | ⟨j,g,f,h3⟩
   ·exact .inl d
   ·refine .inr ⟨j,g,f,?_⟩
    by_cases k:j=i
    ·subst k
     exact .inr ⟨rfl,h3⟩
    ·rw [if_neg k]
     exact .inl h3
 ·unfold updI
  rw [if_neg];rintro rfl;rw [ha] at hs';cases hs'
 ·obtain ⟨j,e,_⟩:=m r (q r hg)
  omega
 ·unfold updI
  rw [if_neg];rintro rfl;obtain ⟨j,e,_⟩:=m _ hs';omega
theorem Yt4 (v:Pairs R adj hs os) (hi:i<adj.length) (E:hs i=-1∨∃ q:Nat,hs i=(q:Int)∧al q=true) (hr:r<R) (hg:Goes adj i r) (O:os r=(j:Int)) (H:∀ x,al x=true→al' x=true) (ha:al' r=false)
  (hF:Found R adj hs os (updB al' r) j hs' os'):Found R adj hs os al i (updI hs' i r) (updI os' r i):=by
 have y:al r=false:=by
  rcases h:al r with _ | _
  ·rfl
  ·rw [H r h] at ha
   cases ha
 have G:∀ x,al x=true→updB al' r x=true:=fun x W=>by unfold updB;split<;>first | rfl | exact H x W
 obtain ⟨x1,x2⟩:j<adj.length∧hs j=(r:Int):=by
  rcases v.r r hr with e | ⟨q,k,m,h3⟩
  ·omega
  ·have:q=j:=by omega
   subst this;exact ⟨k,h3⟩
 have D:j≠i:=by
  rintro rfl;rcases E with e | ⟨q,e,g⟩
  ·omega
  ·have:q=r:=by omega
   subst this;rw [y] at g;cases g
 obtain ⟨Y,x5,Z,x0,o1,w⟩:=hF.a;have x6:Y≠r:=by
  rintro rfl;unfold updB at w;rw [if_pos rfl] at w;cases w
 have x4:os' r=(j:Int):=(hF.e r (by unfold updB;rw [if_pos rfl])).trans O;refine ⟨⟨r,hr,if_pos rfl,hg,if_pos rfl,y⟩,fun q g U=>?_,fun q g=>?_,fun s V=>?_,fun s z=>?_,fun S C=>?_⟩
 ·unfold updI
  rw [if_neg U];by_cases e:q=j
  ·subst e
   constructor
   ·intro h;omega
   ·intro h;omega
  ·exact hF.b q g e
 ·unfold updI
  by_cases e:q=i
  ·exact k28_
  ·rw [if_neg e]
   rcases hF.c q g with p | ⟨s,k,m,h3,u⟩
   ·exact .inl p
   ·refine .inr ⟨s,k,m,h3,?_⟩
    rw [if_neg]
    ·exact u
    ·rintro rfl
     have:q=j:=q40_;subst this;omega
 ·unfold updI
  by_cases e:s=r
  ·exact z28_
  ·rw [if_neg e]
   rcases hF.d s V with p | ⟨q,k,m,h3⟩
   ·exact .inl p
   ·refine .inr ⟨q,k,m,?_⟩
    have u:hs' q=(s:Int):=by
     rcases h3 with h3 | ⟨rfl,h3⟩
     ·exact h3
     ·omega
    by_cases A:q=i
    ·subst A
     right;refine ⟨rfl,?_⟩;rcases E with B | ⟨q0,B,Q⟩
     ·have:=(hF.b q hi (fun e=>D e.symm)).1 B
      omega
     ·
      have T:q0<R:=by
       rcases v.l q hi with J | ⟨I,K,L,_⟩
       ·omega
       ·omega
      have P:os q0=(q:Int):=by
       rcases v.l q hi with J | ⟨I,K,L,_,M⟩
       ·omega
       ·have:I=q0:=by omega
        subst this;exact M
      have x3:=(hF.e q0 (G q0 Q)).trans P;rcases hF.d q0 T with e6 | ⟨X,_,h8,o⟩
      ·omega
      ·have:X=q:=by omega
       subst this;rcases o with o | ⟨o,_⟩
       ·omega
       ·exact absurd o.symm D
    ·rw [if_neg A]
     exact .inl u
 ·unfold updI
  rw [if_neg]
  ·exact hF.e s (G s z)
  ·rintro rfl
   rw [y] at z;cases z
 ·obtain ⟨k,m⟩:=hF.f S C
  have F:¬ S r:=by
   intro h;obtain ⟨q,e,g⟩:=C r h;have:q=j:=q40_;subst this;exact k g
  refine ⟨fun N=>F (N r hg),fun s hs'=>?_⟩;unfold updI;rw [if_neg]
  ·exact m s hs'
  ·rintro rfl
   exact F hs'
structure Great (R:Nat) (adj:List (List Int)) (hs os:Nat→Int) (k:Nat):Prop where
 p:Pairs R adj hs os
 rest:∀ i,k≤i→i<adj.length→hs i=-1
 shut:∀ i,i<k→hs i=-1→∃ S,Clo adj os S∧∀ x,Goes adj i x→S x
theorem Yt5 (c:∀ i,hs i=-1) (d:∀ r,os r=-1):Great R adj hs os 0:=⟨⟨fun i _=>.inl (c i),fun r _=>.inl (d r)⟩,fun i _ _=>c i,fun i e=>by omega⟩
theorem Great.hit (h:Great R adj hs os k) (w:k<adj.length) (hF:Found R adj hs os al k hs' os'):Great R adj hs' os' (k+1):=by
 have y:=h.rest k (le_refl _) w;refine ⟨⟨hF.c,fun r g=>?_⟩,fun i u o=>?_,fun i u s=>?_⟩
 ·rcases hF.d r g with e | ⟨j,p,q,h3⟩
  ·exact .inl e
  ·refine .inr ⟨j,p,q,?_⟩
   rcases h3 with h3 | ⟨rfl,h3⟩
   ·exact h3
   ·omega
 ·exact (hF.b i o q40_).1 (h.rest i q40_ o)
 ·have v:i≠k:=by
   rintro rfl;obtain ⟨r,_,e,_⟩:=hF.a;omega
  obtain ⟨S,m,x⟩:=h.shut i q40_ ((hF.b i q40_ v).2 s);refine ⟨S,fun r g=>?_,x⟩;rw [(hF.f S m).2 r g];exact m r g
theorem Great.miss (h:Great R adj hs os k) (ha:∀ r,al r=false) (hM:Missed adj os al k al'):Great R adj hs os (k+1) :=
 ⟨h.p,fun i d hl=>h.rest i q40_ hl,fun i d c=>by
  by_cases e:i=k
  ·subst e
   exact ⟨fun r=>al' r=true,fun r f=>hM.cl r f (ha r),hM.all⟩
  ·exact h.shut i q40_ c⟩
structure Reach (adj:List (List Int)) (hs os:Nat→Int) (k:Nat) (al:Nat→Bool):Prop where
 from_:∀ i,i<k→hs i=-1→∀ x,Goes adj i x→al x=true
 cl:∀ r,al r=true→∃ j:Nat,os r=(j:Int)∧∀ x,Goes adj j x→al x=true
def isL (hs:Nat→Int) (al:Nat→Bool) (i:Nat):Bool:=decide (hs i≠-1) && !al (hs i).toNat
def isR (hs:Nat→Int) (al:Nat→Bool) (i:Nat):Bool:=decide (hs i≠-1) && al (hs i).toNat
theorem Xb6 (g:Pairs R adj hs os) (h:Reach adj hs os adj.length al) (o:OnR R adj):Cov adj (isL hs al) fun r=>decide (∃ i,i<adj.length∧isR hs al i=true∧hs i=(r:Int)):=by
 intro i r c;have k:=goes_lt c;have v:r<R:=by
  obtain ⟨s,e,hs⟩:=o i r c;omega
 have m:al r=true→(decide (∃ i,i<adj.length∧isR hs al i=true∧hs i=(r:Int)))=true:=by
  intro ha;obtain ⟨j,u,_⟩:=h.cl r ha;rcases g.r r v with e | ⟨q,d,f,h3⟩
  ·omega
  ·refine decide_eq_true ⟨q,d,?_,h3⟩
   unfold isR;rw [h3,Int.toNat_natCast,ha];simp
 rcases g.l i k with e | ⟨s,d,f,h3,w⟩
 ·exact .inr (m (h.from_ i k e r c))
 ·rcases hs':al s with _ | _
  ·left
   unfold isL;rw [f,Int.toNat_natCast,hs'];simp
  ·obtain ⟨j,u,p⟩:=h.cl s hs'
   have:j=i:=q40_;subst this;exact .inr (m (p r c))
theorem Yt6 (hs:Nat→Int) (al:Nat→Bool) (n:Nat):cntP n (isL hs al)+cntP n (isR hs al)=cntP n fun i=>decide (hs i≠-1):=by
 rw [Zy0 (fun i=>decide (hs i≠-1)) (fun i=>al (hs i).toNat) n];unfold isL isR;omega
end Go.Proofs.YtheeajnkiniopaaGreatDoor.Wp.K
namespace Go.Proofs.YtheeajnkiniopaaGreatDoor.Wp.K
theorem Yc8 {R:Nat} {adj:List (List Int)} {hs os:Nat→Int} (h:Great R adj hs os adj.length):∃ al,Reach adj hs os adj.length al:=by
 classical
 refine ⟨fun r=>decide (∃ i,i<adj.length∧hs i=-1∧∃ S,Clo adj os S∧(∀ x,Goes adj i x→S x)∧S r),?_,?_⟩
 ·intro i f e x g
  obtain ⟨S,c,d⟩:=h.shut i f e;exact decide_eq_true ⟨i,f,e,S,c,d,d x g⟩
 ·intro r p
  obtain ⟨i,f,e,S,c,d,k⟩:=of_decide_eq_true p;obtain ⟨j,o,m⟩:=c r k;exact ⟨j,o,fun x g=>decide_eq_true ⟨i,f,e,S,c,d,m x g⟩⟩
theorem Xb7 {R:Nat} {adj:List (List Int)} {hs os:Nat→Int} (m:Pairs R adj hs os) (al:Nat→Bool):cntP R (fun r=>decide (∃ i,i<adj.length∧isR hs al i=true∧hs i=(r:Int)))≤cntP adj.length (isR hs al):=by
 have g:∀ r:Nat,decide (∃ i,i<adj.length∧isR hs al i=true∧hs i=(r:Int))=true→∃ i:Nat,i<adj.length∧isR hs al i=true∧hs i=(r:Int)∧os r=(i:Int):=by
  intro r c;obtain ⟨i,d,f,h⟩:=of_decide_eq_true c;rcases m.l i d with e | ⟨s,_,e,_,o⟩
  ·omega
  ·have:s=r:=by omega
   subst this;exact ⟨i,d,f,h,o⟩
 refine cntP_inj (fun r=>(os r).toNat) (fun r _ c=>?_) (fun r q _ _ c p e=>?_)
 ·obtain ⟨i,d,f,_,o⟩:=g r c
  rw [o,Int.toNat_natCast];exact ⟨d,f⟩
 ·obtain ⟨i,_,_,h,o⟩:=g r c
  obtain ⟨j,_,_,v,u⟩:=g q p;have k:i=j:=by
   rw [o,u] at e;simpa using e
  subst k;omega
def Big (R:Nat) (adj:List (List Int)) (n:Nat):Prop:=(∃ h,Mat R adj h∧msize adj h=n)∧∃ A B,Cov adj A B∧cntP adj.length A+cntP R B≤n
theorem great_big {R:Nat} {adj:List (List Int)} {hs os:Nat→Int} (h:Great R adj hs os adj.length) (c:OnR R adj):Big R adj (msize adj hs):=by
 obtain ⟨al,d⟩:=Yc8 h;refine ⟨⟨hs,h.p.mat,rfl⟩,_,_,Xb6 h.p d c,?_⟩;have e:=Xb7 h.p al;have f:=Yt6 hs al adj.length;unfold msize;omega
end Go.Proofs.YtheeajnkiniopaaGreatDoor.Wp.K
namespace Go.Proofs.YtheeajnkiniopaaGreatDoor.Wp
def pickN (n:Nat) (P:Nat→Bool):List Nat:=(List.range n).filter P
theorem mem_pick {n:Nat} {P:Nat→Bool} {i:Nat}:i∈pickN n P↔i<n∧P i=true:=by simp [pickN]
theorem Yl6 {n:Nat} {P Q:Nat→Bool} (h:∀ i,i<n→P i=Q i):pickN n P=pickN n Q:=List.filter_congr fun i c=>h i (List.mem_range.1 c)
theorem Zw0 (n:Nat):pickN n noneP=[]:=List.filter_eq_nil_iff.2 fun _ _=>by simp [noneP]
theorem N8_ {n:Nat} {P:Nat→Bool} {x i:Nat} (c:x<n):i∈pickN n (insP P x)↔i=x∨i∈pickN n P:=by
 rw [mem_pick,mem_pick];by_cases e:i=x
 ·subst e;simp [V0_,c]
 ·rw [X8_ e];simp [e]
def edgP (n:Nat) (e:Nat→Nat × Nat) (P:Nat→Bool):List (Nat × Nat):=(pickN n P).map e
def N9_ (A n:Nat) (e:Nat→Nat × Nat) (P:Nat→Bool):Nat:=A - G5_ A (edgP n e P)
theorem Yl7 {n:Nat} {e:Nat→Nat × Nat} {P:Nat→Bool} {g:Nat→Nat}:Cst (edgP n e P) g↔∀ i,i<n→P i=true→g (e i).1=g (e i).2:=by
 unfold Cst edgP;constructor
 ·intro h i d f
  exact h _ (List.mem_map_of_mem (mem_pick.2 ⟨d,f⟩))
 ·intro h c hc
  obtain ⟨i,d,rfl⟩:=List.mem_map.1 hc;exact h i (mem_pick.1 d).1 (mem_pick.1 d).2
theorem Xb8 {n:Nat} {e:Nat→Nat × Nat} {P:Nat→Bool} {x:Nat} (m:x<n) (g:Nat→Nat):Cst (edgP n e (insP P x)) g↔Cst (edgP n e P ++ [e x]) g:=by
 rw [cst_append,cst_one,Yl7,Yl7];constructor
 ·intro h
  exact ⟨fun i d c=>h i d (by unfold insP;rw [c];simp),h x m (V0_ P x)⟩
 ·rintro ⟨j,k⟩ i d c
  by_cases f:i=x
  ·rw [f];exact k
  ·rw [X8_ f] at c;exact j i d c
theorem Xs0 {A n:Nat} {e:Nat→Nat × Nat} (d:∀ i,i<n→(e i).1<A∧(e i).2<A):Rk n (N9_ A n e):=by
 refine Rk.of_step (fun P x=>decide (compF (edgP n e P) (e x).1≠compF (edgP n e P) (e x).2)) (fun {P Q} h=>?_) ?_ (fun {P x} hx hp=>?_) (fun {P x y} hx hy hxy hp hq h=>?_)
 ·unfold N9_ edgP;rw [Yl6 h]
 ·unfold N9_ edgP
  rw [Zw0,List.map_nil,Ys6,Nat.sub_self]
 ·have c:G5_ A (edgP n e (insP P x))=G5_ A (edgP n e P ++ [e x]):=Yb8 (Xb8 hx)
  have f:=Za7 A (edgP n e P);unfold N9_;rw [c];by_cases h:compF (edgP n e P) (e x).1=compF (edgP n e P) (e x).2
  ·rw [Xb1 h,if_neg y44_]
   rfl
  ·have:=Ys5 h (d x hx).1 (d x hx).2
   rw [if_pos y44_];omega
 ·rw [decide_eq_true_iff] at h ⊢
  intro hc;apply h;have c:compF (edgP n e (insP P x))=compF (edgP n e P ++ [e x]):=Zu4 (Xb8 hx);rw [c,← Zu6,hc,Zu6]
def sumN (g:Nat→Nat):Nat→Nat
 | 0=>0
 | k+1=>sumN g k+g k
theorem U2_ {g h:Nat→Nat}:∀ {k:Nat},(∀ c,c<k→g c=h c)→sumN g k=sumN h k
 | 0,_=>rfl
 | k+1,e=>by rw [sumN,sumN,U2_ fun c hc=>e c q40_,e k q40_]
theorem Zb4 {g:Nat→Nat}:∀ {k:Nat},(∀ c,c<k→g c=0)→sumN g k=0
 | 0,_=>rfl
 | k+1,e=>by rw [sumN,Zb4 fun c hc=>e c q40_,e k q40_]
theorem Zn8 {g h:Nat→Nat} {b:Nat} {d:Nat}:∀ {k:Nat},b<k→(∀ c,c≠b→g c=h c)→g b=h b+d→sumN g k=sumN h k+d
 | 0,hb,_,_=>by omega
 | k+1,hb,e,eb=>by
  rw [sumN,sumN];by_cases f:b=k
  ·subst f
   rw [U2_ (g:=g) (h:=h) fun c hc=>e c q40_,eb];omega
  ·rw [Zn8 (g:=g) (h:=h) (b:=b) (d:=d) q40_ e eb,e k (fun j=>f j.symm)]
   omega
def clsN (n:Nat) (cls:Nat→Nat) (P:Nat→Bool) (c:Nat):Nat:=cnt (fun i=>P i && cls i==c) n
def partR (A n:Nat) (cls most:Nat→Nat) (P:Nat→Bool):Nat:=sumN (fun c=>min (most c) (clsN n cls P c)) A
theorem S0_ {n:Nat} {cls:Nat→Nat} {P:Nat→Bool} {x c:Nat} (f:x<n) (d:P x=false):clsN n cls (insP P x) c=clsN n cls P c+if cls x=c then 1 else 0:=by
 unfold clsN;by_cases h:cls x=c
 ·rw [if_pos h,← A5_ (P:=fun i=>P i && cls i==c) f (by simp [d])]
  refine N7_ fun i _=>?_;by_cases e:i=x
  ·subst e;simp [V0_,h]
  ·rw [X8_ e]
   show _=insP (fun i=>P i && cls i==c) x i;rw [X8_ e]
 ·rw [if_neg h,Nat.add_zero]
  refine N7_ fun i _=>?_;by_cases e:i=x
  ·rw [e,show (cls x==c)=false from by simpa using h,Bool.and_false,Bool.and_false]
  ·rw [X8_ e]
theorem Yc9 {A n:Nat} {cls most:Nat→Nat} (hc:∀ i,i<n→cls i<A):Rk n (partR A n cls most):=by
 refine Rk.of_step (fun P x=>decide (clsN n cls P (cls x)<most (cls x))) (fun {P Q} h=>?_) ?_ (fun {P x} hx hp=>?_) (fun {P x y} hx hy hxy hp hq h=>?_)
 ·refine U2_ fun c _=>?_
  unfold clsN;rw [N7_ fun i d=>by rw [h i d]]
 ·exact z19_
 ·refine Zn8 (b:=cls x) (hc x hx) (fun c hne=>?_) ?_
  ·exact x27_
  ·show min _ _=min _ _+_
   rw [S0_ hx hp,if_pos rfl];split
   ·rename_i h;rw [decide_eq_true_iff] at h;omega
   ·rename_i h;rw [decide_eq_true_iff] at h;omega
 ·rw [decide_eq_true_iff] at h ⊢
  rw [S0_ hx hp] at h;omega
def vecP (n:Nat) (v:Nat→Nat→Int) (P:Nat→Bool):List (Nat→Int):=(pickN n P).map v
noncomputable def linR (p:Int) (R n:Nat) (v:Nat→Nat→Int) (P:Nat→Bool):Nat:=L.rk p R (vecP n v P)
theorem Yl8 {n:Nat} {v:Nat→Nat→Int} {P:Nat→Bool} {x:Nat} (d:x<n) (u:Nat→Int):u∈vecP n v (insP P x)↔u∈v x :: vecP n v P:=by
 unfold vecP;rw [List.mem_map,List.mem_cons,List.mem_map];constructor
 ·rintro ⟨i,c,rfl⟩
  rcases (N8_ d).1 c with rfl | c
  ·exact .inl rfl
  ·exact .inr ⟨i,c,rfl⟩
 ·rintro (rfl | ⟨i,c,rfl⟩)
  ·exact ⟨x,(N8_ d).2 (.inl rfl),rfl⟩
  ·exact ⟨i,(N8_ d).2 (.inr c),rfl⟩
theorem Vs5 {p:Int} {R n:Nat} (c:L.Fld p) (v:Nat→Nat→Int):Rk n (linR p R n v):=by
 classical
 refine Rk.of_step (fun P x=>decide (¬ L.InSp p R (vecP n v P) (v x))) (fun {P Q} h=>?_) ?_ (fun {P x} hx hp=>?_) (fun {P x y} hx hy hxy hp hq h=>?_)
 ·unfold linR vecP;rw [Yl6 h]
 ·unfold linR vecP;rw [Zw0,List.map_nil,L.rk_nil]
 ·unfold linR
  rw [L.rk_perm c (Yl8 hx)];by_cases h:L.InSp p R (vecP n v P) (v x)
  ·rw [L.rk_cons_in h,if_neg y44_];rfl
  ·rw [L.rk_cons_out h,if_pos y44_]
 ·rw [decide_eq_true_iff] at h ⊢
  exact fun hc=>h (L.sp_mono (fun u d=>(Yl8 hx u).2 (List.mem_cons_of_mem _ d)) hc)
def CovP (n:Nat) (g:Nat→Nat→Prop) (P A B:Nat→Bool):Prop:=∀ i r,i<n→P i=true→g i r→A i=true∨B r=true
def CovC (n R:Nat) (g:Nat→Nat→Prop) (P:Nat→Bool) (k:Nat):Prop:=∃ A B,CovP n g P A B∧cnt A n+cnt B R≤k
theorem Xs1 {p:Nat→Prop}:∀ k,p k→∃ m,p m∧∀ j,p j→m≤j:=by
 intro k
 induction k using Nat.strongRecOn with
 | ind k ih =>
  intro d;by_cases h:∃ j,j<k∧p j
  ·obtain ⟨j,c,e⟩:=h
   exact ih j c e
  ·exact ⟨k,d,fun j c=>Nat.le_of_not_lt fun hl=>h ⟨j,hl,c⟩⟩
theorem Xb9 (n R:Nat) (g:Nat→Nat→Prop) (P:Nat→Bool):∃ m,CovC n R g P m∧∀ j,CovC n R g P j→m≤j :=
 Xs1 (cnt allP n+cnt noneP R) ⟨allP,noneP,fun _ _ _ _ _=>.inl rfl,le_refl _⟩
noncomputable def covR (n R:Nat) (g:Nat→Nat→Prop) (P:Nat→Bool):Nat:=Classical.choose (Xb9 n R g P)
theorem H2_ (n R:Nat) (g:Nat→Nat→Prop) (P:Nat→Bool):CovC n R g P (covR n R g P):=(Classical.choose_spec (Xb9 n R g P)).1
theorem L5_ {n R:Nat} {g:Nat→Nat→Prop} {P:Nat→Bool} {k:Nat} (h:CovC n R g P k):covR n R g P≤k:=(Classical.choose_spec (Xb9 n R g P)).2 k h
def b01 (b:Bool):Nat:=if b=true then 1 else 0
theorem Yd0 {p q r s:Nat→Bool}:∀ {n:Nat},(∀ i,i<n→b01 (p i)+b01 (q i)≤b01 (r i)+b01 (s i))→cnt p n+cnt q n≤cnt r n+cnt s n
 | 0,_=>by simp [cnt]
 | n+1,h=>by
  have e:=Yd0 (p:=p) (q:=q) (r:=r) (s:=s) (n:=n) fun i d=>h i q40_;have c:=h n q40_;unfold b01 at c;rw [X4_,X4_,X4_,X4_];omega
theorem Zw1 (n R:Nat) (g:Nat→Nat→Prop):Rk n (covR n R g):=by
 refine ⟨fun {P Q} h=>?_,?_,fun {P x} hx c=>?_,fun {P x} hx c=>?_,fun {P x y} hx hy hxy c hq=>?_⟩
 ·have E:∀ {P Q:Nat→Bool},(∀ i,i<n→P i=Q i)→covR n R g P≤covR n R g Q:=fun {P Q} h=>by
   obtain ⟨A,B,hc,C⟩:=H2_ n R g Q;exact L5_ ⟨A,B,fun i r d c=>hc i r d (by rw [← h i d];exact c),C⟩
  exact Nat.le_antisymm (E h) (E fun i d=>(h i d).symm)
 ·have I:CovP n g noneP noneP noneP:=fun _ _ _ c=>absurd c (by simp [noneP])
  have:=L5_ (n:=n) (R:=R) (g:=g) (P:=noneP) (k:=0) ⟨noneP,noneP,I,by rw [F4_,F4_];exact le_refl _⟩;omega
 ·obtain ⟨A,B,hc,C⟩:=H2_ n R g (insP P x)
  exact L5_ ⟨A,B,fun i r d c=>hc i r d (by unfold insP;rw [c];simp),C⟩
 ·obtain ⟨A,B,hc,C⟩:=H2_ n R g P
  refine L5_ ⟨insP A x,B,fun i r d c s=>?_,?_⟩
  ·by_cases e:i=x
   ·rw [e,V0_];exact .inl rfl
   ·rw [X8_ e] at c ⊢;exact hc i r d c s
  ·have:=(C2_ n).one' A hx
   omega
 ·obtain ⟨u,m,p,T⟩:=H2_ n R g (insP P x)
  obtain ⟨v,o,q,U⟩:=H2_ n R g (insP P y);have S:∀ i,insP (insP P x) y i=(i==y || (i==x || P i)):=fun i=>rfl;let f:Nat→Bool:=fun i=>insP P x i && !u i;let j:Nat→Bool:=fun i=>insP P y i && !v i;have c1:CovC n R g (insP (insP P x) y) (cnt (fun i=>insP (insP P x) y i && !(f i || j i)) n+cnt (orP m o) R):=by
   refine ⟨_,_,fun i r d c s=>?_,le_refl _⟩;rw [c,Bool.true_and];cases t1:f i
   ·cases t2:j i
    ·exact .inl rfl
    ·right
     simp only [j,Bool.and_eq_true,Bool.not_eq_true'] at t2;have:=(q i r d t2.1 s).resolve_left (by rw [t2.2];decide);unfold orP;rw [this];simp
   ·right
    simp only [f,Bool.and_eq_true,Bool.not_eq_true'] at t1;have:=(p i r d t1.1 s).resolve_left (by rw [t1.2];decide);unfold orP;rw [this];simp
  have c2:CovC n R g P (cnt (fun i=>P i && !(f i && j i)) n+cnt (andP m o) R):=by
   refine ⟨_,_,fun i r d c s=>?_,le_refl _⟩;rw [c,Bool.true_and];cases t1:f i
   ·exact .inl rfl
   ·cases t2:j i
    ·exact .inl rfl
    ·right
     simp only [f,Bool.and_eq_true,Bool.not_eq_true'] at t1;simp only [j,Bool.and_eq_true,Bool.not_eq_true'] at t2;have F:=(p i r d t1.1 s).resolve_left (by rw [t1.2];decide);have G:=(q i r d t2.1 s).resolve_left (by rw [t2.2];decide);unfold andP;rw [F,G];rfl
  have L:=L5_ c1;have M:=L5_ c2;have N:cnt (fun i=>insP (insP P x) y i && !(f i || j i)) n+cnt (fun i=>P i && !(f i && j i)) n≤cnt u n+cnt v n:=Yd0 fun i _=>by
   simp only [f,j,insP,b01];by_cases z:i=x
   ·have w:(i==y)=false:=by rw [z];simpa using hxy
    have J:P i=false:=by rw [z];exact c
    simp only [w,J,show (i==x)=true from by simpa using z];cases u i<;>cases v i<;>simp
   ·have D:(i==x)=false:=by simpa using z
    by_cases w:i=y
    ·have K:P i=false:=by rw [w];exact hq
     simp only [D,K,show (i==y)=true from by simpa using w];cases u i<;>cases v i<;>simp
    ·have H:(i==y)=false:=by simpa using w
     simp only [D,H];cases P i<;>cases u i<;>cases v i<;>simp
  have O:cnt (orP m o) R+cnt (andP m o) R≤cnt m R+cnt o R:=Yd0 fun i _=>by
   simp only [orP,andP,b01];have p:m i=true∨m i=false:=by cases m i<;>simp
   have q:o i=true∨o i=false:=by cases o i<;>simp
   rcases p with p | p<;>rcases q with q | q<;>simp [p,q]
  omega
end Go.Proofs.YtheeajnkiniopaaGreatDoor.Wp
