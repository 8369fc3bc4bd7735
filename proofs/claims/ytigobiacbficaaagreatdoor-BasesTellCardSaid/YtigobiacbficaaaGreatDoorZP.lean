/- What is connected, plain: graphs as lists of pairs, each vertex's least connected one, parts, the rank; the document's labels. Nothing of the program here. The parts of a graph, as lists, and how they come vertex by vertex. Nothing of the program here. Combinations modulo a prime, plain. Ranks, plain: what a rank of properties of numbers below n is; that it is submodular; truncated, turned round, mapped, contracted and added ones are ranks again. Nothing of the program here. Matchings and covers, plain. Ranks of what has none within, plain: of edges, of classes, of columns, of those that go with others. Nothing of the program here. -/
import Derived.Lib.Hide
import Derived.Test.YtigobiacbficaaaGreatDoorX0A
open Nat (le_refl)
namespace Go.Proofs.YtigobiacbficaaaGreatDoor.Wp
def cnt (p:Nat→Bool) (n:Nat):Nat:=((List.range n).filter p).length
theorem X4_ (p:Nat→Bool) (n:Nat):cnt p (n+1)=cnt p n+if p n then 1 else 0:=by
 unfold cnt;exact q28_
theorem A8_ (p:Nat→Bool):∀ n,cnt p n≤n
 | 0=>by simp [cnt]
 | n+1=>by
  rw [X4_];have:=A8_ p n;split<;>omega
theorem U0_ {p q:Nat→Bool}:∀ {n:Nat},(∀ v,v<n→p v=true→q v=true)→cnt p n≤cnt q n
 | 0,_=>by simp [cnt]
 | n+1,h=>by
  have e:=U0_ (p:=p) (q:=q) (n:=n) fun v d=>h v y40_;have c:=h n y40_;rw [X4_,X4_];cases hp:p n
  ·simp;omega
  ·simp [c hp];omega
theorem Yy9 {p q:Nat→Bool}:∀ {n:Nat},(∀ v,v<n→p v=true→q v=true)→(∃ y,y<n∧p y=false∧q y=true)→cnt p n<cnt q n
 | 0,_,⟨y,hy,_⟩=>by omega
 | n+1,h,⟨y,hy,hp,hq⟩=>by
  rw [X4_,X4_];by_cases e:y=n
  ·subst e
   have:=U0_ (p:=p) (q:=q) (n:=y) fun v d=>h v y40_;simp [hp,hq];omega
  ·have f:=Yy9 (p:=p) (q:=q) (n:=n) (fun v d=>h v y40_) ⟨y,y40_,hp,hq⟩
   have c:=h n y40_;cases hpn:p n
   ·simp;omega
   ·simp [c hpn];omega
theorem Zc0 {p q:Nat→Bool} {y:Nat} (d:p y=true) (e:q y=false) (h:∀ v,v≠y→p v=q v):∀ {n:Nat},cnt p n=cnt q n+if y<n then 1 else 0
 | 0=>by simp [cnt]
 | n+1=>by
  have g:=Zc0 d e h (n:=n);rw [X4_,X4_,g];by_cases f:y=n
  ·subst f
   simp [d,e]
  ·rw [h n y40_]
   by_cases c:y<n
   ·rw [if_pos c,if_pos (show y<n+1 by omega)];omega
   ·rw [if_neg c,if_neg (show ¬ y<n+1 by omega)];omega
theorem Yf5 {p:Nat→Bool}:∀ {n:Nat},cnt p n=n→∀ v,v<n→p v=true
 | 0,_,v,hv=>by omega
 | n+1,h,v,hv=>by
  rw [X4_] at h;have hl:=A8_ p n;cases hp:p n
  ·rw [hp] at h;simp at h;omega
  ·rw [hp] at h
   simp at h;by_cases c:v=n
   ·subst c;exact hp
   ·exact Yf5 h v y40_
theorem U1_ {p:Nat→Bool}:∀ {n:Nat},(∀ v,v<n→p v=true)→cnt p n=n
 | 0,_=>by simp [cnt]
 | n+1,h=>by
  rw [X4_,h n y40_,U1_ fun v c=>h v y40_];simp
def Cst (es:List (Nat × Nat)) (g:Nat→Nat):Prop:=∀ e∈es,g e.1=g e.2
def Good (es:List (Nat × Nat)) (f:Nat→Nat):Prop:=Cst es f∧(∀ g,Cst es g→∀ v,g (f v)=g v)∧∀ v,f v≤v
theorem Good.uniq {es j:List (Nat × Nat)} {f f':Nat→Nat} (h:Good es f) (e:Good j f') (k:∀ g,Cst es g↔Cst j g):f=f':=by
 funext v
 have a:=h.2.1 f' ((k f').2 e.1) v;have b:=e.2.1 f ((k f).1 h.1) v;have c:=e.2.2 (f v);have d:=h.2.2 (f' v);omega
theorem Good.idem {es:List (Nat × Nat)} {f:Nat→Nat} (h:Good es f) (v:Nat):f (f v)=f v:=h.2.1 f h.1 v
theorem cst_append {a b:List (Nat × Nat)} {g:Nat→Nat}:Cst (a ++ b) g↔Cst a g∧Cst b g:=by
 unfold Cst;constructor
 ·intro h
  exact ⟨fun e c=>h e (List.mem_append.2 (.inl c)),fun e c=>h e (List.mem_append.2 (.inr c))⟩
 ·rintro ⟨h,k⟩ e c
  rcases List.mem_append.1 c with c | c
  ·exact h e c
  ·exact k e c
theorem cst_one {e:Nat × Nat} {g:Nat→Nat}:Cst [e] g↔g e.1=g e.2:=by simp [Cst]
theorem Vn5 (g:Nat→Nat):Cst [] g:=fun _ h=>absurd h k40_
def R5_ (f:Nat→Nat) (a b:Nat):Nat→Nat:=fun v=>if f v=max a b then min a b else f v
def B7_ (f:Nat→Nat) (e:Nat × Nat):Nat→Nat:=R5_ f (f e.1) (f e.2)
def compF (es:List (Nat × Nat)):Nat→Nat:=es.foldl B7_ id
theorem Zk4 (f:Nat→Nat) (a:Nat):R5_ f a a=f:=by
 funext v
 unfold R5_;split<;>omega
theorem Vy3:Good [] id:=⟨Vn5 _,fun _ _ _=>rfl,fun _=>le_refl _⟩
theorem Xf8 {es:List (Nat × Nat)} {f:Nat→Nat} (h:Good es f) (e:Nat × Nat):Good (es ++ [e]) (B7_ f e):=by
 obtain ⟨a,b⟩:=e;have r:=h.idem a;have s:=h.idem b;refine ⟨?_,?_,?_⟩
 ·rw [cst_append]
  refine ⟨fun e p=>?_,cst_one.2 ?_⟩
  ·unfold B7_ R5_
   rw [h.1 e p]
  ·unfold B7_ R5_
   simp only;rcases Nat.le_total (f a) (f b) with hl | hl
   ·rw [Nat.max_eq_right hl,Nat.min_eq_left hl]
    split<;>simp_all
   ·rw [Nat.max_eq_left hl,Nat.min_eq_right hl]
    split<;>simp_all
 ·intro g c v
  rw [cst_append,cst_one] at c;have k:=h.2.1 g c.1;have m:=k a;have o:=k b;have d:=k v;have j:g a=g b:=c.2;show g (if f v=max (f a) (f b) then min (f a) (f b) else f v)=g v;split
  ·rename_i hm
   rcases Nat.le_total (f a) (f b) with hl | hl
   ·rw [Nat.max_eq_right hl] at hm
    rw [Nat.min_eq_left hl,m,j,← o,← hm,d]
   ·rw [Nat.max_eq_left hl] at hm
    rw [Nat.min_eq_right hl,o,← j,← m,← hm,d]
  ·exact d
 ·intro v
  have q:=h.2.2 v;show (if f v=max (f a) (f b) then min (f a) (f b) else f v)≤v;split<;>omega
theorem Yx0:∀ (es c:List (Nat × Nat)) (f:Nat→Nat),Good c f→Good (c ++ es) (es.foldl B7_ f)
 | [],c,f,h=>by simpa using h
 | e :: es,c,f,h=>by
  have:=Yx0 es (c ++ [e]) _ (Xf8 h e);simpa using this
theorem A9_ (es:List (Nat × Nat)):Good es (compF es):=Yx0 es [] id Vy3
theorem Zc1 (es:List (Nat × Nat)) (e:Nat × Nat):compF (es ++ [e])=B7_ (compF es) e:=by
 unfold compF;rw [List.foldl_append];rfl
theorem Yx1 {a b:List (Nat × Nat)} (h:∀ g,Cst a g↔Cst b g):compF a=compF b:=(A9_ a).uniq (A9_ b) h
theorem Xf9 (es:List (Nat × Nat)) (v:Nat):compF es v≤v:=(A9_ es).2.2 v
theorem Yx2 (es:List (Nat × Nat)) (v:Nat):compF es (compF es v)=compF es v:=(A9_ es).idem v
theorem Xg0 {es:List (Nat × Nat)} {e:Nat × Nat} (h:e∈es):compF es e.1=compF es e.2:=(A9_ es).1 e h
theorem Yx3 (a b:List (Nat × Nat)) (v:Nat):compF (a ++ b) (compF a v)=compF (a ++ b) v :=
 (A9_ a).2.1 _ ((cst_append.1 (A9_ (a ++ b)).1).1) v
def rootB (f:Nat→Nat) (r:Nat):Bool:=decide (f r=r)
def G9_ (n:Nat) (es:List (Nat × Nat)):Nat:=cnt (rootB (compF es)) n
theorem Zc2 (n:Nat) (es:List (Nat × Nat)):G9_ n es≤n:=A8_ _ _
theorem Yf6 {n:Nat} {a b:List (Nat × Nat)} (h:∀ g,Cst a g↔Cst b g):G9_ n a=G9_ n b:=by unfold G9_;rw [Yx1 h]
theorem Xg1 {n:Nat} {es:List (Nat × Nat)} {e:Nat × Nat} (h:compF es e.1=compF es e.2):G9_ n (es ++ [e])=G9_ n es:=by
 unfold G9_;rw [Zc1,B7_,h,Zk4]
theorem Xy0 {n:Nat} {es:List (Nat × Nat)} {e:Nat × Nat} (h:compF es e.1≠compF es e.2) (o:e.1<n) (h2:e.2<n):G9_ n es=G9_ n (es ++ [e])+1:=by
 obtain ⟨a,b⟩:=e;unfold G9_;rw [Zc1];have g:=A9_ es;generalize compF es=f at *
 have k:=g.idem a;have m:=g.idem b;have s:=g.2.2 a;have u:=g.2.2 b;simp only at h o h2;have j:f (max (f a) (f b))=max (f a) (f b):=by
  rcases Nat.le_total (f a) (f b) with hl | hl
  ·rw [Nat.max_eq_right hl];exact m
  ·rw [Nat.max_eq_left hl];exact k
 have lo:f (min (f a) (f b))=min (f a) (f b):=by
  rcases Nat.le_total (f a) (f b) with hl | hl
  ·rw [Nat.min_eq_left hl];exact k
  ·rw [Nat.min_eq_right hl];exact m
 have:=Zc0 (n:=n) (p:=rootB f) (q:=rootB (B7_ f (a,b))) (y:=max (f a) (f b)) (by simpa [rootB] using j) ?_ ?_
 ·rw [this,if_pos y40_]
 ·simp only [rootB,B7_,R5_,decide_eq_false_iff_not]
  rw [if_pos j];omega
 ·intro v r
  simp only [rootB,B7_,R5_];rw [decide_eq_decide];by_cases c:f v=max (f a) (f b)
  ·rw [if_pos c]
   constructor
   ·intro d;omega
   ·intro d
    rw [← d,lo] at c;omega
  ·rw [if_neg c]
theorem Xy1 (n:Nat):G9_ n []=n:=U1_ fun v _=>by simp [rootB,compF]
def Lies (n:Nat) (es:List (Nat × Nat)):Prop:=∀ e∈es,e.1<n∧e.2<n
def stepF (f:Nat→Nat) (e:Nat × Nat):Nat→Nat:=fun x=>if x=e.2 then min (f e.1) (f e.2) else if x=e.1 then min (f e.1) (f e.2) else f x
def Jy4 (es:List (Nat × Nat)) (f:Nat→Nat):Nat→Nat:=es.foldl stepF f
def J5_ (es:List (Nat × Nat)):Nat→Nat→Nat
 | 0=>id
 | k+1=>Jy4 es (J5_ es k)
def Inv (es:List (Nat × Nat)) (h:Nat→Nat):Prop:=(∀ g,Cst es g→∀ v,g (h v)=g v)∧∀ v,h v≤v
theorem Vy4 {es:List (Nat × Nat)} {h:Nat→Nat} (c:Inv es h) {e:Nat × Nat} (o:e∈es):Inv es (stepF h e):=by
 refine ⟨fun g d v=>?_,fun v=>?_⟩
 ·have j:=c.1 g d e.1
  have k:=c.1 g d e.2;have f:=d e o;have m:g (min (h e.1) (h e.2))=g e.2:=by
   rcases Nat.le_total (h e.1) (h e.2) with hl | hl
   ·rw [Nat.min_eq_left hl,j,f]
   ·rw [Nat.min_eq_right hl,k]
  unfold stepF;split
  ·rename_i hv;rw [m,hv]
  ·split
   ·rename_i hv;rw [m,hv,f]
   ·exact c.1 g d v
 ·have j:=c.2 e.1
  have k:=c.2 e.2;have f:=c.2 v;unfold stepF;split
  ·omega
  ·split<;>omega
theorem Vn6 (h:Nat→Nat) (e:Nat × Nat) (x:Nat):stepF h e x≤h x:=by
 unfold stepF;split
 ·rename_i hx;rw [hx];omega
 ·split
  ·rename_i hx;rw [hx];omega
  ·exact le_refl _
theorem Yo7 {es:List (Nat × Nat)} {h:Nat→Nat} (c:Inv es h) (v:Nat):compF es v≤h v:=by
 have:=c.1 (compF es) (A9_ es).1 v;have:=Xf9 es (h v);omega
theorem Zr0 {es:List (Nat × Nat)}:∀ (t:List (Nat × Nat)) (h:Nat→Nat),Inv es h→(∀ e∈t,e∈es) →
  Inv es (t.foldl stepF h)∧(∀ v,h v=compF es v→t.foldl stepF h v=compF es v) ∧
   ∀ e∈t,h e.1=compF es e.1∨h e.2=compF es e.2→t.foldl stepF h e.1=compF es e.1∧t.foldl stepF h e.2=compF es e.2
 | [],h,hi,_=>⟨hi,fun _ g=>g,fun e d=>absurd d k40_⟩
 | e :: t,h,hi,hs=>by
  have d:=hs e k40_;have k:=Vy4 hi d;obtain ⟨a,b,c⟩:=Zr0 t (stepF h e) k (fun x hx=>hs x q46_);have j:∀ v,h v=compF es v→stepF h e v=compF es v:=fun v g=>by
   have:=Vn6 h e v;have:=Yo7 k v;omega
  refine ⟨a,fun v g=>b v (j v g),fun x hx f=>?_⟩;rcases List.mem_cons.1 hx with rfl | hx
  ·have q:=Xg0 d
   have o:=Yo7 hi x.1;have p:=Yo7 hi x.2;have m:min (h x.1) (h x.2)=compF es x.2:=by rcases f with f | f<;>omega
   refine ⟨b x.1 ?_,b x.2 ?_⟩
   ·unfold stepF
    rw [if_pos rfl,m];split<;>omega
   ·unfold stepF
    rw [if_pos rfl,m]
  ·exact c x hx (f.imp (j _) (j _))
theorem Zy4 (es:List (Nat × Nat)):∀ k,Inv es (J5_ es k)
 | 0=>⟨fun _ _ _=>rfl,fun _=>le_refl _⟩
 | k+1=>(Zr0 es _ (Zy4 es k) fun _ h=>h).1
theorem Zk5 {n:Nat} {es:List (Nat × Nat)} (hl:Lies n es):∀ k,k≤n→k≤cnt (fun v=>decide (J5_ es k v=compF es v)) n
 | 0,_=>Nat.zero_le _
 | k+1,hk=>by
  have A:=Zk5 hl k y40_;obtain ⟨_,b,c⟩:=Zr0 es _ (Zy4 es k) fun _ h=>h;have o:=Zy4 es k;show k+1≤cnt (fun v=>decide (es.foldl stepF (J5_ es k) v=compF es v)) n;generalize J5_ es k=h at *
  by_cases j:cnt (fun v=>decide (h v=compF es v)) n=n
  ·have ha:=Yf5 j
   rw [U1_ fun v g=>by simpa using b v (by simpa using ha v g)];exact hk
  ·have w:∃ e∈es,(h e.1=compF es e.1∧h e.2≠compF es e.2)∨(h e.2=compF es e.2∧h e.1≠compF es e.1):=by
    refine Classical.byContradiction fun s=>j (U1_ fun v g=>?_);have hc:Cst es (fun v=>if h v=compF es v then 0 else 1):=by
     intro e f;by_cases d:h e.1=compF es e.1
     ·by_cases h2:h e.2=compF es e.2
      ·simp [d,h2]
      ·exact absurd ⟨e,f,.inl ⟨d,h2⟩⟩ s
     ·by_cases h2:h e.2=compF es e.2
      ·exact absurd ⟨e,f,.inr ⟨h2,d⟩⟩ s
      ·simp [d,h2]
    have m:=(A9_ es).2.1 _ hc v;have x:h (compF es v)=compF es (compF es v):=by
     have d:=Yo7 o (compF es v);have h2:=o.2 (compF es v);rw [Yx2] at d ⊢;omega
    rw [if_pos x] at m;by_cases u:h v=compF es v
    ·simpa using u
    ·rw [if_neg u] at m;omega
   obtain ⟨e,f,y⟩:=w;have z:=Yy9 (p:=fun v=>decide (h v=compF es v)) (q:=fun v=>decide (es.foldl stepF h v=compF es v)) (n:=n)
    (fun v _ g=>by simpa using b v (by simpa using g)) (by
     have r:=hl e f;rcases y with ⟨d,h2⟩ | ⟨d,h2⟩
     ·exact ⟨e.2,r.2,j50_,by simpa using (c e f (.inl d)).2⟩
     ·exact ⟨e.1,r.1,j50_,by simpa using (c e f (.inr d)).1⟩)
   omega
theorem Yf7 {n:Nat} {es:List (Nat × Nat)} (hl:Lies n es) (v:Nat) (c:v<n):J5_ es n v=compF es v:=by
 have h:=Zk5 hl n (le_refl _);have h2:=A8_ (fun v=>decide (J5_ es n v=compF es v)) n;simpa using Yf5 (Nat.le_antisymm h2 h) v c
def X3_ (n:Nat) (f:Nat→Nat) (r:Nat):List Nat:=(List.range n).filter fun v=>decide (f v=r)
def C7_ (n:Nat) (f:Nat→Nat):List Nat:=(List.range n).filter (rootB f)
def B8_ (n:Nat) (f:Nat→Nat):List (List Nat):=(C7_ n f).map (X3_ n f)
theorem Q5_ (n:Nat) (f:Nat→Nat):(B8_ n f).length=cnt (rootB f) n:=by simp [B8_,C7_,cnt]
theorem S3_ (n:Nat) (f:Nat→Nat) (r:Nat):X3_ (n+1) f r=X3_ n f r ++ if f n=r then [n] else []:=by
 unfold X3_;rw [List.range_succ,List.filter_append];by_cases h:f n=r<;>simp [h]
theorem L3_ (n:Nat) (f:Nat→Nat):C7_ (n+1) f=C7_ n f ++ if f n=n then [n] else []:=by
 unfold C7_;rw [List.range_succ,List.filter_append];by_cases h:f n=n<;>simp [rootB,h]
theorem mem_rootsL {n:Nat} {f:Nat→Nat} {r:Nat}:r∈C7_ n f↔r<n∧f r=r:=by simp [C7_,rootB]
theorem mem_partAt {n:Nat} {f:Nat→Nat} {r v:Nat}:v∈X3_ n f r↔v<n∧f v=r:=by simp [X3_]
theorem U2_ (n:Nat) (f:Nat→Nat) (r:Nat):(X3_ n f r).length≤n:=by
 have:=List.length_filter_le (fun v=>decide (f v=r)) (List.range n);simpa [X3_] using this
theorem U3_ {f:Nat→Nat} {r:Nat} (c:f r=r):∀ {n:Nat},r<n→(C7_ n f)[cnt (rootB f) r]?=some r
 | 0,h=>by omega
 | n+1,h=>by
  rw [L3_];have hl:(C7_ n f).length=cnt (rootB f) n:=rfl;by_cases g:r=n
  ·subst g
   rw [if_pos c,List.getElem?_append_right y40_,hl];simp
  ·have d:=U3_ c (n:=n) y40_
   have e:=(List.getElem?_eq_some_iff.1 d).1;rw [List.getElem?_append_left e];exact d
theorem Yf8 {f:Nat→Nat} {r n:Nat} (c:f r=r) (h:r<n):cnt (rootB f) r<cnt (rootB f) n:=by
 have:=(List.getElem?_eq_some_iff.1 (U3_ c h)).1;exact this
def X9_ (k:Nat) (f:Nat→Nat):List (List Nat):=if f k=k then B8_ k f ++ [[]] else B8_ k f
theorem Xy2 {f:Nat→Nat} {k:Nat} (c:∀ v,f v≤v):X3_ k f k=[]:=by
 rw [List.eq_nil_iff_forall_not_mem];intro v d;have:=mem_partAt.1 d;have:=c v;omega
theorem Zc3 (k:Nat) (f:Nat→Nat):(X9_ k f).length=cnt (rootB f) (k+1):=by
 unfold X9_;rw [X4_];by_cases h:f k=k
 ·simp [h,rootB,Q5_]
 ·simp [h,rootB,Q5_]
theorem Yf9 {f:Nat→Nat} {k:Nat} (c:∀ v,f v≤v) (hid:∀ v,f (f v)=f v):cnt (rootB f) (f k)<(X9_ k f).length:=by
 rw [Zc3];exact Yf8 (hid k) (by have:=c k;omega)
theorem Vn7 {f:Nat→Nat} {k:Nat} (c:∀ v,f v≤v) (hid:∀ v,f (f v)=f v):(X9_ k f)[cnt (rootB f) (f k)]?=some (X3_ k f (f k)):=by
 unfold X9_;by_cases h:f k=k
 ·rw [if_pos h,h,List.getElem?_append_right (by rw [Q5_];exact le_refl _),Q5_,Xy2 c]
  simp
 ·have d:f k<k:=by have:=c k;omega
  rw [if_neg h];unfold B8_;rw [List.getElem?_map,U3_ (hid k) d];rfl
theorem Yg0 (n:Nat) (f:Nat→Nat):(C7_ n f).Pairwise (·<·):=List.Pairwise.sublist List.filter_sublist List.pairwise_lt_range
theorem Vy5 {l:List Nat} (h:l.Pairwise (·<·)) {i j:Nat} {r:Nat} (e:l[i]?=some r) (f:l[j]?=some r):i=j:=by
 obtain ⟨a,ha⟩:=List.getElem?_eq_some_iff.1 e;obtain ⟨b,hb⟩:=List.getElem?_eq_some_iff.1 f;rcases Nat.lt_trichotomy i j with c | d | c
 ·have:=List.pairwise_iff_getElem.1 h i j a b c
  omega
 ·exact d
 ·have:=List.pairwise_iff_getElem.1 h j i b a c
  omega
theorem Xy3 {f:Nat→Nat} {k:Nat} (j:∀ v,f v≤v) (hid:∀ v,f (f v)=f v) :
  B8_ (k+1) f=(X9_ k f).set (cnt (rootB f) (f k)) (X3_ k f (f k) ++ [k]):=by
 refine List.ext_getElem? fun i=>?_;have s:(C7_ (k+1) f).length=cnt (rootB f) (k+1):=rfl;by_cases c:i=cnt (rootB f) (f k)
 ·subst c
  rw [List.getElem?_set_self (Yf9 j hid)];unfold B8_;rw [List.getElem?_map,U3_ (hid k) (by have:=j k;omega)];simp [S3_]
 ·rw [List.getElem?_set_ne (fun h=>c h.symm)]
  unfold B8_ X9_;rw [List.getElem?_map,L3_];have o:∀ r,(C7_ k f)[i]?=some r→X3_ (k+1) f r=X3_ k f r:=by
   intro r e;have m:=mem_rootsL.1 (List.mem_of_getElem? e);rw [S3_];by_cases g:f k=r
   ·exfalso
    have h2:=U3_ (f:=f) (r:=r) m.2 (n:=k) m.1;exact c (by rw [g];exact Vy5 (Yg0 k f) e h2)
   ·simp [g]
  by_cases h:f k=k
  ·rw [if_pos h,if_pos h]
   have q:i≠(C7_ k f).length:=by rw [h] at c;exact c
   have p:(B8_ k f).length=(C7_ k f).length:=by simp [B8_]
   by_cases d:i<(C7_ k f).length
   ·rw [List.getElem?_append_left d,List.getElem?_append_left (by rw [p];exact d)]
    unfold B8_;rw [List.getElem?_map,List.getElem?_eq_getElem d];simp [o _ (List.getElem?_eq_getElem d)]
   ·rw [List.getElem?_eq_none x41_,List.getElem?_eq_none (by simp [p];omega)]
    rfl
  ·rw [if_neg h,if_neg h,List.append_nil]
   unfold B8_;rw [List.getElem?_map];rcases e:(C7_ k f)[i]? with _ | r
   ·rfl
   ·simp [o r e]
end Go.Proofs.YtigobiacbficaaaGreatDoor.Wp
namespace Go.Proofs.YtigobiacbficaaaGreatDoor.Wp.L
abbrev Vec:=Nat→Int
def Fld (p:Int):Prop:=∀ c:Int,¬ p ∣ c→∃ d:Int,p ∣ c * d - 1
def InSp (p:Int) (R:Nat):List Vec→Vec→Prop
 | [],v=>∀ r,r<R→p ∣ v r
 | u :: us,v=>∃ c:Int,InSp p R us fun r=>v r - c * u r
variable {p:Int} {R:Nat}
theorem U4_:∀ {us:List Vec} {v w:Vec},InSp p R us v→(∀ r,r<R→p ∣ v r - w r)→InSp p R us w
 | [],v,w,h,e=>fun r d=>by
  have f:=Int.dvd_sub (h r d) (e r d)
  rwa [show v r - (v r - w r)=w r by omega] at f
 | u :: us,v,w,⟨c,h⟩,e=>⟨c,U4_ h fun r d=>by
  have:=e r d
  rwa [show v r - c * u r - (w r - c * u r)=v r - w r by omega]⟩
theorem Q3_ {us:List Vec} {v w:Vec} (h:InSp p R us v) (e:∀ r,r<R→v r=w r):InSp p R us w :=
 U4_ h fun r c=>by rw [e r c];simp
theorem Zy5:∀ {us:List Vec},InSp p R us fun _=>0
 | []=>fun _ _=>Int.dvd_zero p
 | _ :: _=>⟨0,Q3_ Zy5 fun r _=>by simp⟩
theorem Zc4:∀ {us:List Vec} {v w:Vec},InSp p R us v→InSp p R us w→InSp p R us fun r=>v r+w r
 | [],_,_,h,k=>fun r e=>Int.dvd_add (h r e) (k r e)
 | u :: us,v,w,⟨c,h⟩,⟨d,k⟩=>⟨c+d,Q3_ (Zc4 h k) fun r _=>by dsimp only;rw [Int.add_mul];omega⟩
theorem U5_:∀ {us:List Vec} {v:Vec} (k:Int),InSp p R us v→InSp p R us fun r=>k * v r
 | [],_,k,h=>fun r d=>Int.dvd_trans (h r d) (Int.dvd_mul_left k _)
 | u :: us,v,k,⟨c,h⟩=>⟨k * c,Q3_ (U5_ k h) fun r _=>by rw [Int.mul_sub,Int.mul_assoc]⟩
theorem Yo8 {us:List Vec} {v w:Vec} (h:InSp p R us v) (k:InSp p R us w):InSp p R us fun r=>v r - w r :=
 Q3_ (Zc4 h (U5_ (-1) k)) fun r _=>by omega
theorem sp_up {us:List Vec} {u v:Vec} (h:InSp p R us v):InSp p R (u :: us) v:=⟨0,Q3_ h fun r _=>by simp⟩
theorem Yg1 (us:List Vec) (u:Vec):InSp p R (u :: us) u:=⟨1,Q3_ Zy5 fun r _=>by omega⟩
theorem J9_:∀ {us:List Vec} {u:Vec},u∈us→InSp p R us u
 | _ :: us,u,h=>by
  rcases List.mem_cons.1 h with rfl | h
  ·exact Yg1 us _
  ·exact sp_up (J9_ h)
theorem B9_:∀ {us ws:List Vec} {v:Vec},(∀ u∈us,InSp p R ws u)→InSp p R us v→InSp p R ws v
 | [],ws,v,_,h=>U4_ Zy5 fun r e=>by
  have:=h r e;rw [show (0:Int) - v r=-(v r) by omega];exact (Int.dvd_neg).2 this
 | u :: us,ws,v,hs,⟨c,h⟩=>by
  have d:=B9_ (fun x hx=>hs x q46_) h;have h2:=U5_ c (hs u k40_);exact Q3_ (Zc4 d h2) fun r _=>by omega
theorem sp_mono {us ws:List Vec} {v:Vec} (hs:∀ u∈us,u∈ws) (h:InSp p R us v):InSp p R ws v:=B9_ (fun u c=>J9_ (hs u c)) h
theorem Vn8 (f:Fld p) {us:List Vec} {u v:Vec} (h:InSp p R (u :: us) v) (g:¬ InSp p R us v):InSp p R (v :: us) u:=by
 obtain ⟨c,h⟩:=h;by_cases hc:p ∣ c
 ·exact absurd (U4_ h fun r j=>by
   rw [show v r - c * u r - v r=-(c * u r) by omega];exact (Int.dvd_neg).2 (Int.dvd_trans hc (Int.dvd_mul_right c _))) g
 ·obtain ⟨d,hd⟩:=f c hc
  have e:=U5_ (-d) h;refine ⟨d,U4_ e fun r _=>?_⟩;rw [show -d * (v r - c * u r) - (u r - d * v r)=(c * d - 1) * u r by
   rw [Int.mul_sub,Int.sub_mul,Int.neg_mul,Int.neg_mul,← Int.mul_assoc d c,Int.mul_comm d c];omega]
  exact Int.dvd_trans hd (Int.dvd_mul_right _ _)
def Ind (p:Int) (R:Nat):List Vec→Prop
 | []=>True
 | u :: us=>¬ InSp p R us u∧Ind p R us
theorem Yo9 (o:Fld p) {w:Vec} {ws:List Vec}:∀ {us:List Vec},Ind p R us→(∀ u∈us,InSp p R (w :: ws) u) →
  (∀ u∈us,InSp p R ws u)∨∃ e u,Ind p R e∧(∀ x∈e,InSp p R ws x)∧us.length=e.length+1∧(∀ v,InSp p R (u :: e) v→InSp p R us v)∧(∀ x∈us,InSp p R (u :: e) x)∧InSp p R (w :: ws) u∧¬ InSp p R ws u
 | [],_,_=>.inl fun u F=>by cases F
 | h :: t,⟨hi,ht⟩,hs=>by
  have q:=hs h k40_;rcases Yo9 o ht (fun x hx=>hs x q46_) with m | ⟨d,u,D,hs',hl,f,B,A,s⟩
  ·by_cases h2:InSp p R ws h
   ·exact .inl fun x hx=>by
     rcases List.mem_cons.1 hx with rfl | hx
     ·exact h2
     ·exact m x hx
   ·exact .inr ⟨t,h,ht,m,rfl,fun v j=>j,fun x hx=>J9_ hx,q,h2⟩
  ·right
   have G:InSp p R (u :: ws) w:=Vn8 o A s;have C:InSp p R (u :: ws) h:=B9_ (fun x hx=>by
    rcases List.mem_cons.1 hx with rfl | hx
    ·exact G
    ·exact sp_up (J9_ hx)) q
   obtain ⟨c,hc⟩:=C;have g:InSp p R t u:=f u (Yg1 d u);refine ⟨(fun r=>h r - c * u r) :: d,u,⟨fun hb=>hi ?_,D⟩,?_,by simp [hl],?_,?_,A,s⟩
   ·have h3:InSp p R t fun r=>h r - c * u r:=f _ (sp_up hb)
    exact Q3_ (Zc4 h3 (U5_ c g)) fun r _=>by omega
   ·intro x hx
    rcases List.mem_cons.1 hx with rfl | hx
    ·exact hc
    ·exact hs' x hx
   ·intro v j
    refine B9_ (fun x hx=>?_) j;rcases List.mem_cons.1 hx with rfl | hx
    ·exact sp_up g
    ·rcases List.mem_cons.1 hx with rfl | hx
     ·exact Yo8 (Yg1 t h) (U5_ c (sp_up g))
     ·exact sp_up (f x (J9_ q46_))
   ·intro x hx
    have E:∀ y,InSp p R (u :: d) y→InSp p R (u :: (fun r=>h r - c * u r) :: d) y:=fun y H=>sp_mono (fun z k=>by
     rcases List.mem_cons.1 k with rfl | k
     ·simp
     ·simp [k]) H
    rcases List.mem_cons.1 hx with rfl | hx
    ·exact Q3_ (Zc4 (J9_ (us:=u :: (fun r=>x r - c * u r) :: d) (u:=fun r=>x r - c * u r) k40_) (U5_ c (J9_ (u:=u) k40_))) fun r _=>by omega
    ·exact E x (B x hx)
theorem Yp0 (c:Fld p):∀ {ws us:List Vec},Ind p R us→(∀ u∈us,InSp p R ws u)→us.length≤ws.length
 | [],us,hi,hs=>by
  cases us with
  | nil=>exact le_refl _
  | cons u us =>
   refine absurd ?_ hi.1;exact B9_ (fun x e=>by cases e) (hs u k40_)
 | w :: ws,us,hi,hs=>by
  rcases Yo9 c hi hs with h | ⟨f,u,d,hs',hl,_⟩
  ·have:=Yp0 c hi h
   simp;omega
  ·have:=Yp0 c d hs'
   simp;omega
open Classical in
noncomputable def bs (p:Int) (R:Nat):List Vec→List Vec
 | []=>[]
 | u :: us=>if InSp p R us u then bs p R us else u :: bs p R us
theorem Yp1:∀ {us:List Vec},∀ x∈bs p R us,x∈us
 | u :: us,x,h=>by
  unfold bs at h;split at h
  ·simp [Yp1 x h]
  ·rcases List.mem_cons.1 h with rfl | h
   ·simp
   ·simp [Yp1 x h]
theorem Zc5:∀ {us:List Vec} {v:Vec},InSp p R us v→InSp p R (bs p R us) v
 | [],_,h=>h
 | u :: us,v,h=>by
  unfold bs;split
  ·rename_i hu
   refine B9_ (fun x d=>?_) h;rcases List.mem_cons.1 d with rfl | d
   ·exact Zc5 hu
   ·exact Zc5 (J9_ d)
  ·obtain ⟨c,h⟩:=h
   exact ⟨c,Zc5 h⟩
theorem Xg2:∀ {us:List Vec},Ind p R (bs p R us)
 | []=>trivial
 | u :: us=>by
  unfold bs;split
  ·exact Xg2
  ·rename_i hu
   exact ⟨fun h=>hu (sp_mono Yp1 h),Xg2⟩
noncomputable def rk (p:Int) (R:Nat) (us:List Vec):Nat:=(bs p R us).length
theorem rk_le (c:Fld p) {us ws:List Vec} (h:∀ u∈us,InSp p R ws u):rk p R us≤rk p R ws :=
 Yp0 c Xg2 fun u d=>Zc5 (h u (Yp1 u d))
theorem rk_eq (c:Fld p) {us ws:List Vec} (h:∀ u∈us,InSp p R ws u) (k:∀ w∈ws,InSp p R us w):rk p R us=rk p R ws :=
 Nat.le_antisymm (rk_le c h) (rk_le c k)
theorem rk_nil:rk p R []=0:=rfl
theorem rk_cons_in {us:List Vec} {u:Vec} (h:InSp p R us u):rk p R (u :: us)=rk p R us:=by
 unfold rk;rw [show bs p R (u :: us)=bs p R us from if_pos h]
theorem rk_cons_out {us:List Vec} {u:Vec} (h:¬ InSp p R us u):rk p R (u :: us)=rk p R us+1:=by
 unfold rk;rw [show bs p R (u :: us)=u :: bs p R us from if_neg h];rfl
theorem Vg6:∀ {us:List Vec},rk p R us≤us.length
 | []=>le_refl _
 | u :: us=>by
  have:=Vg6 (us:=us);by_cases h:InSp p R us u
  ·rw [rk_cons_in h];simp;omega
  ·rw [rk_cons_out h];simp;omega
theorem rk_perm (c:Fld p) {us ws:List Vec} (h:∀ x,x∈us↔x∈ws):rk p R us=rk p R ws :=
 rk_eq c (fun u d=>J9_ ((h u).1 d)) (fun w e=>J9_ ((h w).2 e))
theorem Xy4 (c:Fld p) {us:List Vec} {u:Vec} (h:InSp p R us u):rk p R (us ++ [u])=rk p R us:=by
 rw [← rk_cons_in h];exact rk_perm c fun x=>by simp [or_comm]
theorem Yg2 (c:Fld p) {us:List Vec} {u:Vec} (h:¬ InSp p R us u):rk p R (us ++ [u])=rk p R us+1:=by
 rw [← rk_cons_out h];exact rk_perm c fun x=>by simp [or_comm]
def lin:List Int→List Vec→Vec
 | c :: cs,u :: us=>fun r=>c * u r+lin cs us r
 | _,_=>fun _=>0
theorem Vg7:∀ (cs:List Int) (us:List Vec),InSp p R us (lin cs us)
 | [],us=>by cases us<;>exact Zy5
 | c :: cs,[]=>Zy5
 | c :: cs,u :: us=>⟨c,Q3_ (Vg7 cs us) fun r _=>by simp only [lin];omega⟩
theorem Xy5 {us:List Vec} {u:Vec} {k:Nat} (f:k<R) (g:¬ p ∣ u k) (d:∀ x∈us,p ∣ x k):¬ InSp p R us u:=by
 have j:∀ {us:List Vec} {v:Vec},(∀ x∈us,p ∣ x k)→InSp p R us v→p ∣ v k:=by
  intro us
  induction us with
  | nil=>intro v _ h;exact h k f
  | cons x us ih =>
   intro v d ⟨c,h⟩;have e:=ih (fun y hy=>d y y45_) h;have h2:=Int.dvd_add e (Int.dvd_trans (d x k40_) (Int.dvd_mul_left c _))
   rwa [show v k - c * x k+c * x k=v k by omega] at h2
 exact fun h=>g (j d h)
end Go.Proofs.YtigobiacbficaaaGreatDoor.Wp.L
namespace Go.Proofs.YtigobiacbficaaaGreatDoor.Wp.L
structure Line where
 place:Nat
 left:List Int
 lead:Nat
 inv:Int
 by_:Nat→Int
def L4_:List Int→Nat→Int
 | [],_=>-1
 | x :: xs,k=>if x=0 then L4_ xs (k+1) else (k:Int)
def leadI (l:List Int):Int:=L4_ l 0
theorem Zj2:∀ {l:List Int} {a i:Nat},i<l.length→l.getD i 0≠0→(∀ j,j<i→l.getD j 0=0)→L4_ l a=((a+i:Nat):Int)
 | x :: xs,a,0,_,hx,_=>by
  unfold L4_;rw [if_neg (by simpa using hx)];rfl
 | x :: xs,a,i+1,hi,hx,hz=>by
  unfold L4_;rw [if_pos (by simpa using hz 0 y40_),Zj2 (i:=i) y48_ (by simpa using hx) (fun j c=>by simpa using hz (j+1) y40_)];congr 1;omega
theorem U6_:∀ {l:List Int} {a:Nat},(∀ j,j<l.length→l.getD j 0=0)→L4_ l a=-1
 | [],_,_=>rfl
 | x :: xs,a,hz=>by
  unfold L4_;rw [if_pos (by simpa using hz 0 k40_),U6_ (fun j hj=>by simpa using hz (j+1) q50_)]
theorem Yx4 {l:List Int} {i:Nat} (c:i<l.length) (d:l.getD i 0≠0) (e:∀ j,j<i→l.getD j 0=0):leadI l=(i:Int):=by
 unfold leadI;rw [Zj2 c d e];congr 1;omega
theorem Zy6 {l:List Int} (c:∀ j,j<l.length→l.getD j 0=0):leadI l=-1:=U6_ c
theorem S4_:∀ (l:List Int),(leadI l=-1∧∀ j,l.getD j 0=0)∨∃ i,i<l.length∧leadI l=(i:Int)∧l.getD i 0≠0∧∀ j,j<i→l.getD j 0=0:=by
 intro l;by_cases h:∀ j,j<l.length→l.getD j 0=0
 ·refine .inl ⟨Zy6 h,fun j=>?_⟩
  by_cases c:j<l.length
  ·exact h j c
  ·simp [List.getD,List.getElem?_eq_none (Nat.le_of_not_lt c)]
 ·right
  have:∃ i,i<l.length∧l.getD i 0≠0∧∀ j,j<i→l.getD j 0=0:=by
   apply Classical.byContradiction;intro m;apply h;intro j
   induction j using Nat.strongRecOn with
   | ind j ih =>
    intro c;apply Classical.byContradiction;intro o;exact m ⟨j,c,o,fun k g=>ih k g y40_⟩
  obtain ⟨i,d,e,f⟩:=this;exact ⟨i,d,Yx4 d e f,e,f⟩
def upd (f:Nat→Int) (a:Nat) (t:Int):Nat→Int:=fun x=>if x=a then t else f x
def subU (p:Int) (left:List Int) (l:Line) (t:Int) (k:Nat):List Int :=
 (List.range left.length).map fun r=>if l.lead≤r∧r<k then (left.getD r 0 - t * l.left.getD r 0) % p else left.getD r 0
def tOf (p:Int) (left:List Int) (l:Line):Int:=(left.getD l.lead 0 * l.inv) % p
def stepT (p:Int) (s:List Int × (Nat→Int)) (l:Line):List Int × (Nat→Int) :=
 if tOf p s.1 l=0 then s else (subU p s.1 l (tOf p s.1 l) s.1.length,upd s.2 l.place (tOf p s.1 l))
def takeT (p:Int) (ls:List Line) (col:List Int):List Int × (Nat→Int):=ls.foldl (stepT p) (col,fun _=>0)
def addL (p:Int) (inv:Int→Int) (ls:List Line) (i:Nat) (col:List Int):List Line :=
 if leadI (takeT p ls col).1<0 then ls
 else ls ++ [⟨i,(takeT p ls col).1,(leadI (takeT p ls col).1).toNat,inv ((takeT p ls col).1.getD (leadI (takeT p ls col).1).toNat 0),(takeT p ls col).2⟩]
def R6_ (p:Int) (inv:Int→Int) (cols:List (List Int)):Nat→List Line
 | 0=>[]
 | k+1=>addL p inv (R6_ p inv cols k) k (cols.getD k [])
theorem R7_ {n r:Nat} (f:Nat→Int):((List.range n).map f).getD r 0=if r<n then f r else 0:=by
 by_cases h:r<n
 ·simp [List.getD,h]
 ·simp [List.getD,h]
theorem Q6_ {p:Int} {left:List Int} {l:Line} {t:Int} {k:Nat}:(subU p left l t k).length=left.length:=by simp [subU]
theorem N9_ {p:Int} {left:List Int} {l:Line} {t:Int} {k r:Nat} (h:r<left.length) :
  (subU p left l t k).getD r 0=if l.lead≤r∧r<k then (left.getD r 0 - t * l.left.getD r 0) % p else left.getD r 0:=by
 unfold subU;rw [R7_,if_pos h]
theorem Zr1 {l:List Int} {r:Nat} (h:l.length≤r):l.getD r 0=0:=by simp [List.getD,List.getElem?_eq_none h]
def InR (p:Int) (R:Nat) (l:List Int):Prop:=l.length=R∧∀ x∈l,0≤x∧x<p
theorem InR.get {p:Int} {R:Nat} {l:List Int} (h:InR p R l) (d:0<p) (r:Nat):0≤l.getD r 0∧l.getD r 0<p:=by
 by_cases c:r<l.length
 ·rw [List.getD_eq_getElem?_getD,List.getElem?_eq_getElem c]
  exact h.2 _ (List.getElem_mem c)
 ·rw [Zr1 y40_]
  omega
theorem Zk6 {p:Int} {R:Nat} {l:List Int} (hl:l.length=R) (h:∀ r,r<R→0≤l.getD r 0∧l.getD r 0<p):InR p R l:=by
 refine ⟨hl,fun x d=>?_⟩;obtain ⟨i,c,rfl⟩:=List.mem_iff_getElem.1 d;have:=h i y40_
 rwa [List.getD_eq_getElem?_getD,List.getElem?_eq_getElem c] at this
theorem S5_ {p x:Int} (h:p ∣ x) (c:0≤x) (d:x<p):x=0:=by
 have:=Int.emod_eq_of_lt c d;rw [Int.emod_eq_zero_of_dvd h] at this;exact this.symm
theorem B3_ {p:Int} (x:Int):p ∣ x - x % p:=Int.dvd_self_sub_emod
def vec (l:List Int):Vec:=fun r=>l.getD r 0
structure LineOk (p:Int) (R:Nat) (l:Line):Prop where
 row:InR p R l.left
 lt:l.lead<R
 zero:∀ r,r<l.lead→l.left.getD r 0=0
 inv:p ∣ l.left.getD l.lead 0 * l.inv - 1
 invr:0≤l.inv∧l.inv<p
 byr:∀ x,0≤l.by_ x∧l.by_ x<p
 byp:∀ x,l.by_ x≠0→x<l.place
def Ech (p:Int) (R:Nat):List Line→Prop
 | []=>True
 | l :: ls=>LineOk p R l∧(∀ m∈ls,m.left.getD l.lead 0=0∧l.place<m.place)∧Ech p R ls
structure Taken (p:Int) (R:Nat) (ls:List Line) (left:List Int) (f:Nat→Int) (s:List Int × (Nat→Int)):Prop where
 row:InR p R s.1
 byr:∀ x,0≤s.2 x∧s.2 x<p
 off:∀ x,(∀ l∈ls,l.place≠x)→s.2 x=f x
 keep:∀ r,(∀ l∈ls,l.left.getD r 0=0)→s.1.getD r 0=left.getD r 0
 zero:∀ l∈ls,s.1.getD l.lead 0=0
 sum:∀ r,r<R→p ∣ left.getD r 0 - s.1.getD r 0 - lin (ls.map fun l=>s.2 l.place) (ls.map fun l=>vec l.left) r
theorem taken {p:Int} {R:Nat} (j:0<p):∀ {g:List Line} {left:List Int} {f:Nat→Int},Ech p R g→InR p R left→(∀ x,0≤f x∧f x<p)→(∀ l∈g,f l.place=0)→Taken p R g left f (g.foldl (stepT p) (left,f))
 | [],left,f,_,hl,hf,_=>⟨hl,hf,fun _ _=>rfl,fun _ _=>rfl,fun _ h=>(by cases h),fun r _=>(by simp [lin])⟩
 | l :: g,left,f,⟨hok,hbeh,hech⟩,hl,hf,hz=>by
  rw [List.foldl_cons];have z:∀ m∈g,m.place≠l.place:=fun m hm e=>by have:=(hbeh m hm).2;omega
  have D:∀ m∈g,f m.place=0:=fun m hm=>hz m q51_;by_cases A:tOf p left l=0
  ·have hs:stepT p (left,f) l=(left,f):=by unfold stepT;rw [if_pos A]
   rw [hs];have c:=taken j hech hl hf D;have u:left.getD l.lead 0=0:=by
    have C:=hl.get j l.lead;refine S5_ ?_ C.1 C.2;have o:p ∣ left.getD l.lead 0 * l.inv:=Int.dvd_of_emod_eq_zero A;have h2:=Int.dvd_trans hok.inv (Int.dvd_mul_left (left.getD l.lead 0) _);have h3:=Int.dvd_trans o (Int.dvd_mul_right _ (l.left.getD l.lead 0));have v:=Int.dvd_sub h3 h2;have e:left.getD l.lead 0 * l.inv * l.left.getD l.lead 0 - left.getD l.lead 0 * (l.left.getD l.lead 0 * l.inv - 1)=left.getD l.lead 0:=by
     rw [Int.mul_sub,Int.mul_one,Int.mul_assoc,Int.mul_comm l.inv];omega
    rwa [e] at v
   refine ⟨c.row,c.byr,fun x s=>c.off x fun m hm=>s m q51_,fun r d=>c.keep r fun m hm=>d m q51_,fun m hm=>?_,fun r d=>?_⟩
   ·rcases List.mem_cons.1 hm with rfl | hm
    ·rw [c.keep _ fun k w=>(hbeh k w).1]
     exact u
    ·exact c.zero m hm
   ·have:=c.sum r d
    simp only [List.map_cons,lin];rw [c.off l.place z,hz l k40_,Int.zero_mul,Int.zero_add];exact this
  ·obtain ⟨t,B⟩:∃ t,t=tOf p left l:=⟨_,rfl⟩
   have hs:stepT p (left,f) l=(subU p left l t left.length,upd f l.place t):=by unfold stepT;rw [if_neg A,← B]
   rw [hs];have H:0≤t∧t<p:=by rw [B];exact ⟨Int.emod_nonneg _ y40_,Int.emod_lt_of_pos _ j⟩
   have q:∀ r,r<R→(subU p left l t left.length).getD r 0=(left.getD r 0 - t * l.left.getD r 0) % p:=by
    intro r d;rw [N9_ (by rw [hl.1];exact d)];by_cases h:l.lead≤r
    ·rw [if_pos ⟨h,by rw [hl.1];exact d⟩]
    ·rw [if_neg y40_,hok.zero r y40_,Int.mul_zero,Int.sub_zero]
     have:=hl.get j r;exact (Int.emod_eq_of_lt this.1 this.2).symm
   have G:InR p R (subU p left l t left.length):=Zk6 (by rw [Q6_];exact hl.1) fun r d=>by
    rw [q r d];exact ⟨Int.emod_nonneg _ y40_,Int.emod_lt_of_pos _ j⟩
   have E:∀ r,l.left.getD r 0=0→(subU p left l t left.length).getD r 0=left.getD r 0:=by
    intro r u;by_cases d:r<R
    ·rw [q r d,u,Int.mul_zero,Int.sub_zero]
     have:=hl.get j r;exact Int.emod_eq_of_lt this.1 this.2
    ·rw [Zr1 (by rw [Q6_,hl.1];omega),Zr1 (by rw [hl.1];omega)]
   have F:(subU p left l t left.length).getD l.lead 0=0:=by
    rw [q _ hok.lt];apply Int.emod_eq_zero_of_dvd;have o:p ∣ left.getD l.lead 0 * l.inv - t:=by rw [B];exact B3_ _
    have h2:=Int.dvd_trans o (Int.dvd_mul_right _ (l.left.getD l.lead 0));have h3:=Int.dvd_trans hok.inv (Int.dvd_mul_left (left.getD l.lead 0) _);have v:=Int.dvd_sub h2 h3;have e:(left.getD l.lead 0 * l.inv - t) * l.left.getD l.lead 0 - left.getD l.lead 0 * (l.left.getD l.lead 0 * l.inv - 1)=left.getD l.lead 0 - t * l.left.getD l.lead 0:=by
     rw [Int.mul_sub,Int.mul_one,Int.sub_mul,Int.mul_assoc,Int.mul_comm l.inv];omega
    rwa [e] at v
   have c:=taken j (f:=upd f l.place t) hech G (fun x=>by
    unfold upd;split
    ·exact H
    ·exact hf x) (fun m hm=>by
    unfold upd;rw [if_neg (z m hm)];exact D m hm)
   refine ⟨c.row,c.byr,fun x s=>?_,fun r d=>?_,fun m hm=>?_,fun r d=>?_⟩
   ·rw [c.off x fun m hm=>s m q51_]
    unfold upd;rw [if_neg fun e=>s l k40_ e.symm]
   ·rw [c.keep r fun m hm=>d m q51_]
    exact E r (d l k40_)
   ·rcases List.mem_cons.1 hm with rfl | hm
    ·rw [c.keep _ fun k w=>(hbeh k w).1]
     exact F
    ·exact c.zero m hm
   ·have o:=c.sum r d
    simp only [List.map_cons,lin];rw [c.off l.place z,show upd f l.place t l.place=t by unfold upd;rw [if_pos rfl]];have h2:p ∣ left.getD r 0 - t * l.left.getD r 0 - (subU p left l t left.length).getD r 0:=by rw [q r d];exact B3_ _
    have h3:=Int.dvd_add o h2;generalize lin (g.map fun I=>_) _ r=y at h3 ⊢;unfold vec;have e:(subU p left l t left.length).getD r 0 - ((g.foldl (stepT p) (subU p left l t left.length,upd f l.place t)).1).getD r 0 - y+(left.getD r 0 - t * l.left.getD r 0 - (subU p left l t left.length).getD r 0)
      = left.getD r 0 - ((g.foldl (stepT p) (subU p left l t left.length,upd f l.place t)).1).getD r 0 - (t * l.left.getD r 0+y):=y40_
    rwa [e] at h3
variable {p:Int} {R:Nat}
theorem Yp2:∀ {c:List Line} {l:Line},Ech p R c→LineOk p R l→(∀ m∈c,l.left.getD m.lead 0=0∧m.place<l.place)→Ech p R (c ++ [l])
 | [],l,_,hl,_=>⟨hl,fun _ h=>(by cases h),trivial⟩
 | m :: c,l,⟨hm,hb,he⟩,hl,h=>by
  refine ⟨hm,fun x hx=>?_,Yp2 he hl fun x hx=>h x q46_⟩;rcases List.mem_append.1 hx with hx | hx
  ·exact hb x hx
  ·obtain rfl:=List.mem_singleton.1 hx
   exact h m k40_
theorem Vg8:∀ {c:List Line},Ech p R c→∀ l∈c,LineOk p R l
 | m :: c,⟨hm,_,he⟩,l,hl=>by
  rcases List.mem_cons.1 hl with rfl | hl
  ·exact hm
  ·exact Vg8 he l hl
theorem Yp3:∀ {g:List Line} {v:Vec},Ech p R g→InSp p R (g.map fun l=>vec l.left) v→(∀ l∈g,p ∣ v l.lead)→∀ r,r<R→p ∣ v r
 | [],v,_,h,_=>h
 | l :: g,v,⟨hok,hb,he⟩,⟨c,h⟩,f=>by
  have z:∀ {us:List Line} {w:Vec},(∀ m∈us,m.left.getD l.lead 0=0)→InSp p R (us.map fun l=>vec l.left) w→p ∣ w l.lead:=by
   intro us
   induction us with
   | nil=>intro w _ h;exact h _ hok.lt
   | cons x us k =>
    intro w f ⟨d,h⟩;have j:p ∣ w l.lead - d * vec x.left l.lead:=k (fun m hm=>f m q51_) h;have h2:vec x.left l.lead=0:=f x k40_
    rwa [h2,Int.mul_zero,Int.sub_zero] at j
  have j:p ∣ v l.lead - c * vec l.left l.lead:=z (fun m hm=>(hb m hm).1) h;have h2:=f l k40_;have h3:p ∣ c * vec l.left l.lead:=by
   have:=Int.dvd_sub h2 j
   rwa [show v l.lead - (v l.lead - c * vec l.left l.lead)=c * vec l.left l.lead by omega] at this
  have hc:p ∣ c:=by
   have s:=Int.dvd_trans h3 (Int.dvd_mul_right _ l.inv);have u:=Int.dvd_trans hok.inv (Int.dvd_mul_left c _);have o:=Int.dvd_sub s u;unfold vec at o;have e:c * l.left.getD l.lead 0 * l.inv - c * (l.left.getD l.lead 0 * l.inv - 1)=c:=by
    rw [Int.mul_sub,Int.mul_one,Int.mul_assoc];omega
   rwa [e] at o
  have q:∀ r,p ∣ c * vec l.left r:=fun r=>Int.dvd_trans hc (Int.dvd_mul_right c _);have k:=Yp3 he h fun m hm=>Int.dvd_sub (f m q51_) (q _);intro r y;have:=Int.dvd_add (k r y) (q r)
  rwa [show v r - c * vec l.left r+c * vec l.left r=v r by omega] at this
def colV (cols:List (List Int)) (i:Nat):Vec:=vec (cols.getD i [])
def F6_ (cols:List (List Int)) (k:Nat):List Vec:=(List.range k).map (colV cols)
theorem L5_ (cols:List (List Int)) (k:Nat):F6_ cols (k+1)=F6_ cols k ++ [colV cols k]:=by simp [F6_,List.range_succ]
def InB (p:Int) (R:Nat) (cols:List (List Int)) (i:Nat):Prop:=¬ InSp p R (F6_ cols i) (colV cols i)
open Classical in
noncomputable def basN (p:Int) (R:Nat) (cols:List (List Int)) (k:Nat):List Nat:=(List.range k).filter fun i=>decide (InB p R cols i)
theorem Xg3 {cols:List (List Int)} {k:Nat} (h:InB p R cols k):basN p R cols (k+1)=basN p R cols k ++ [k]:=by
 unfold basN;rw [List.range_succ,List.filter_append];simp [h]
theorem Yp4 {cols:List (List Int)} {k:Nat} (h:¬ InB p R cols k):basN p R cols (k+1)=basN p R cols k:=by
 unfold basN;rw [List.range_succ,List.filter_append];simp [h]
theorem basN_mem {cols:List (List Int)} {k i:Nat}:i∈basN p R cols k↔i<k∧InB p R cols i:=by
 unfold basN;simp [List.mem_filter]
structure Lines (p:Int) (R:Nat) (cols:List (List Int)) (k:Nat) (ls:List Line):Prop where
 ech:Ech p R ls
 pl:ls.map Line.place=basN p R cols k
 span:∀ v,InSp p R (ls.map fun l=>vec l.left) v↔InSp p R (F6_ cols k) v
 from_:∀ (a:List Line) (l:Line) (b:List Line),ls=a ++ l :: b →
  (∀ r,r<R→p ∣ colV cols l.place r - l.left.getD r 0 - lin (a.map fun m=>l.by_ m.place) (a.map fun m=>vec m.left) r)∧∀ x,l.by_ x≠0→∃ m∈a,m.place=x
theorem Lines.lt {cols:List (List Int)} {k:Nat} {c:List Line} (h:Lines p R cols k c) {l:Line} (hl:l∈c):l.place<k:=by
 have:l.place∈basN p R cols k:=by rw [← h.pl];exact List.mem_map.2 ⟨l,hl,rfl⟩
 exact (basN_mem.1 this).1
theorem Lines.take (d:0<p) {cols:List (List Int)} {k:Nat} {c:List Line} (h:Lines p R cols k c) {col:List Int} (hc:InR p R col):Taken p R c col (fun _=>0) (takeT p c col) :=
 taken d h.ech hc (fun _=>⟨y40_,d⟩) fun _ _=>rfl
theorem Lines.left (d:0<p) {cols:List (List Int)} {k:Nat} {c:List Line} (h:Lines p R cols k c) {col:List Int} (hc:InR p R col):InSp p R (F6_ cols k) fun r=>col.getD r 0 - (takeT p c col).1.getD r 0:=by
 rw [← h.span];refine U4_ (Vg7 (c.map fun l=>(takeT p c col).2 l.place) _) fun r e=>?_;have:=(h.take d hc).sum r e;rw [show lin (c.map fun l=>(takeT p c col).2 l.place) (c.map fun l=>vec l.left) r - (col.getD r 0 - (takeT p c col).1.getD r 0)=-(col.getD r 0 - (takeT p c col).1.getD r 0 - lin (c.map fun l=>(takeT p c col).2 l.place) (c.map fun l=>vec l.left) r) by omega];exact (Int.dvd_neg).2 this
theorem Lines.in_iff (d:0<p) {cols:List (List Int)} {k:Nat} {c:List Line} (h:Lines p R cols k c) {col:List Int} (hc:InR p R col):InSp p R (F6_ cols k) (vec col)↔leadI (takeT p c col).1<0:=by
 have e:=h.take d hc;have hl:=h.left d hc;constructor
 ·intro o
  have g:InSp p R (c.map fun l=>vec l.left) (vec (takeT p c col).1):=by
   rw [h.span];exact Q3_ (Yo8 o hl) fun r _=>by unfold vec;omega
  have h2:=Yp3 h.ech g fun l hl=>by
   unfold vec;rw [e.zero l hl];exact Int.dvd_zero p
  have h3:leadI (takeT p c col).1=-1:=Zy6 fun j q=>by
   have f:=e.row.get d j;exact S5_ (h2 j (by rw [← e.row.1];exact q)) f.1 f.2
  rw [h3];decide
 ·intro s
  rcases S4_ (takeT p c col).1 with ⟨_,u⟩ | ⟨i,_,m,_⟩
  ·refine Q3_ hl fun r _=>?_
   rw [u r];unfold vec;omega
  ·rw [m] at s
   omega
theorem Lines.next (q:0<p) {inv:Int→Int} (L:∀ x,0<x→x<p→p ∣ x * inv x - 1∧0≤inv x∧inv x<p) {cols:List (List Int)} {k:Nat} {d:List Line} (h:Lines p R cols k d) (hc:InR p R (cols.getD k [])):Lines p R cols (k+1) (addL p inv d k (cols.getD k [])):=by
 have f:=h.take q hc;have hl:=h.left q hc;have D:=h.in_iff q hc;unfold addL;by_cases g:leadI (takeT p d (cols.getD k [])).1<0
 ·rw [if_pos g]
  have j:InSp p R (F6_ cols k) (colV cols k):=D.2 g;refine ⟨h.ech,by rw [Yp4 (fun A=>A j)];exact h.pl,fun v=>?_,h.from_⟩;rw [h.span,L5_];exact ⟨sp_mono fun x c=>List.mem_append.2 (.inl c),B9_ fun x c=>by
   rcases List.mem_append.1 c with c | c
   ·exact J9_ c
   ·obtain rfl:=List.mem_singleton.1 c
    exact j⟩
 ·rw [if_neg g]
  have O:InB p R cols k:=fun j=>g (D.1 j);rcases S4_ (takeT p d (cols.getD k [])).1 with ⟨w,_⟩ | ⟨i,K,w,c,P⟩
  ·rw [w] at g
   exact absurd q41_ g
  rw [w,Int.toNat_natCast];generalize Q:takeT p d (cols.getD k [])=T at *
  have J:i<R:=by rw [← f.row.1];exact K
  have I:=f.row.get q i;have E:=L (T.1.getD i 0) y40_ I.2;have C:∀ x,T.2 x≠0→∃ m∈d,m.place=x:=by
   intro x c;apply Classical.byContradiction;intro A;exact c (f.off x fun l hl e=>A ⟨l,hl,e⟩)
  have N:LineOk p R ⟨k,T.1,i,inv (T.1.getD i 0),T.2⟩:=⟨f.row,J,P,E.1,E.2,f.byr,fun x c=>by
   obtain ⟨m,o,rfl⟩:=C x c;exact h.lt o⟩
  refine ⟨Yp2 h.ech N fun m o=>⟨f.zero m o,h.lt o⟩,by rw [Xg3 O,List.map_append,h.pl];rfl,fun v=>?_,?_⟩
  ·rw [L5_,List.map_append]
   have M:InSp p R (F6_ cols k ++ [colV cols k]) (vec T.1):=by
    refine Q3_ (Yo8 (J9_ (u:=colV cols k) k40_) (sp_mono (fun x c=>List.mem_append.2 (.inl c)) hl)) fun r _=>?_;unfold colV vec;omega
   have H:InSp p R (d.map (fun l=>vec l.left) ++ [vec T.1]) (colV cols k):=by
    refine Q3_ (Zc4 (J9_ (u:=vec T.1) k40_) (sp_mono (us:=d.map fun l=>vec l.left) (fun x c=>List.mem_append.2 (.inl c)) ((h.span _).2 hl))) fun r _=>?_;unfold colV vec;omega
   constructor
   ·refine B9_ fun x c=>?_
    rcases List.mem_append.1 c with c | c
    ·exact sp_mono (fun y B=>List.mem_append.2 (.inl B)) ((h.span _).1 (J9_ c))
    ·obtain rfl:=List.mem_singleton.1 c
     exact M
   ·refine B9_ fun x c=>?_
    rcases List.mem_append.1 c with c | c
    ·exact sp_mono (fun y B=>List.mem_append.2 (.inl B)) ((h.span _).2 (J9_ c))
    ·obtain rfl:=List.mem_singleton.1 c
     exact H
  ·intro a l b e
   rcases List.eq_nil_or_concat b with rfl | ⟨F,z,rfl⟩
   ·obtain ⟨rfl,s⟩:=List.append_inj' e k40_
    injection s with s _;subst s;exact ⟨f.sum,C⟩
   ·rw [List.concat_eq_append,← List.cons_append,← List.append_assoc] at e
    obtain ⟨G,_⟩:=List.append_inj' e k40_;exact h.from_ a l F G
theorem Zc6 (d:0<p) {inv:Int→Int} (c:∀ x,0<x→x<p→p ∣ x * inv x - 1∧0≤inv x∧inv x<p) {cols:List (List Int)}:∀ {k:Nat},(∀ i,i<k→InR p R (cols.getD i []))→Lines p R cols k (R6_ p inv cols k)
 | 0,_=>⟨trivial,rfl,fun _=>Iff.rfl,fun a l b e=>by cases a<;>cases e⟩
 | k+1,hc=>(Zc6 d c fun i f=>hc i y40_).next d c (hc k y40_)
end Go.Proofs.YtigobiacbficaaaGreatDoor.Wp.L
namespace Go.Proofs.YtigobiacbficaaaGreatDoor.Wp.L
variable {p:Int} {R:Nat}
structure Back (p:Int) (R:Nat) (cols:List (List Int)) (goal:List Int) (a b:List Line) (T:List Int):Prop where
 len:T.length=cols.length
 rng:∀ i,0≤T.getD i 0∧T.getD i 0<p
 off:∀ x,(∀ l∈a ++ b,l.place≠x)→T.getD x 0=0
 sum:∀ r,r<R→p ∣ goal.getD r 0 - lin (a.map fun l=>T.getD l.place 0) (a.map fun l=>vec l.left) r - lin (b.map fun l=>T.getD l.place 0) (b.map fun l=>colV cols l.place) r
def Zc7 (p:Int) (R:Nat) (cols:List (List Int)):Prop:=∀ i,i<cols.length→InR p R (cols.getD i [])
theorem Xy6 (cols:List (List Int)):F6_ cols cols.length=cols.map vec:=by
 unfold F6_;apply List.ext_getElem
 ·simp
 ·intro i c h2
  simp at c;simp [colV,List.getD,c]
structure Told (p:Int) (R:Nat) (cols:List (List Int)) (goal T:List Int):Prop where
 len:T.length=cols.length
 rng:∀ i,0≤T.getD i 0∧T.getD i 0<p
 off:∀ i,T.getD i 0≠0→i∈basN p R cols cols.length
 sum:∀ r,r<R→p ∣ goal.getD r 0 - lin T (cols.map vec) r
end Go.Proofs.YtigobiacbficaaaGreatDoor.Wp.L
namespace Go.Proofs.YtigobiacbficaaaGreatDoor.Wp.L
variable {p:Int} {R:Nat}
theorem Yp5:∀ {us:List Vec},(∀ k (_:k<us.length),∃ q,q<R∧¬ p ∣ us[k] q∧∀ j (_:j<us.length),k<j→p ∣ us[j] q)→Ind p R us
 | [],_=>trivial
 | u :: us,h=>by
  refine ⟨?_,Yp5 fun k g=>?_⟩
  ·obtain ⟨q,d,c,h2⟩:=h 0 k40_
   refine Xy5 d c fun x f=>?_;obtain ⟨j,e,rfl⟩:=List.mem_iff_getElem.1 f;exact h2 (j+1) x41_ y40_
  ·obtain ⟨q,d,c,h2⟩:=h (k+1) x41_
   exact ⟨q,d,c,fun j e m=>h2 (j+1) x41_ y40_⟩
theorem rk_ge (c:Fld p) {us ws:List Vec} (d:Ind p R us) (h:∀ u∈us,InSp p R ws u):us.length≤rk p R ws :=
 Yp0 c d fun u e=>Zc5 (h u e)
theorem Vy6 (f:Fld p) {m:List Vec} {n:Nat} (y:n≤m.length) (hs:∀ k (_:k<m.length),k<n→∃ q,q<R∧¬ p ∣ m[k] q∧∀ j (_:j<m.length),k<j→p ∣ m[j] q)
  (x:∀ j (_:j<m.length),n≤j→∀ r,r<R→p ∣ m[j] r):rk p R m=n:=by
 have hl:(m.take n).length=n:=k42_;have o:Ind p R (m.take n):=Yp5 fun k g=>by
  rw [hl] at g;obtain ⟨q,v,e,h2⟩:=hs k y40_ g;refine ⟨q,v,by rw [List.getElem_take];exact e,fun j c s=>?_⟩;rw [hl] at c;rw [List.getElem_take];exact h2 j y40_ s
 have e:=rk_ge f (ws:=m) o fun u d=>J9_ (List.mem_of_mem_take d);have h2:rk p R m≤rk p R (m.take n):=rk_le f fun u d=>by
  obtain ⟨j,c,rfl⟩:=List.mem_iff_getElem.1 d;rcases Nat.lt_or_ge j n with h | h
  ·exact J9_ (List.mem_iff_getElem.2 ⟨j,y40_,List.getElem_take⟩)
  ·exact U4_ Zy5 fun r w=>by
    rw [show (0:Int) - m[j] r=-(m[j] r) by omega];exact (Int.dvd_neg).2 (x j c h r w)
 have h3:=Vg6 (p:=p) (R:=R) (us:=m.take n);omega
theorem Vn9 (c:Fld p) {us ws:List Vec} (h:∀ v,InSp p R us v↔InSp p R ws v):rk p R us=rk p R ws :=
 rk_eq c (fun u d=>(h u).1 (J9_ d)) (fun w e=>(h w).2 (J9_ e))
structure Steps (p:Int) (R:Nat) (cols m:List Vec) (n row:Nat):Prop where
 len:m.length=cols.length
 le:n≤m.length
 span:∀ v,InSp p R m v↔InSp p R cols v
 step:∀ k (_:k<m.length),k<n→∃ q,q<row∧¬ p ∣ m[k] q∧∀ j (_:j<m.length),k<j→p ∣ m[j] q
 zero:∀ j (_:j<m.length),n≤j→∀ q,q<row→p ∣ m[j] q
theorem Steps.start (cols:List Vec):Steps p R cols cols 0 0:=⟨rfl,Nat.zero_le _,fun _=>Iff.rfl,fun _ _ h=>by omega,fun _ _ _ _ h=>by omega⟩
theorem Steps.rank (c:Fld p) {cols m:List Vec} {n:Nat} (h:Steps p R cols m n R):rk p R cols=n:=by
 rw [← Vn9 c h.span];exact Vy6 c h.le h.step h.zero
theorem Steps.skip {cols m:List Vec} {n row:Nat} (h:Steps p R cols m n row) (s:∀ j (_:j<m.length),n≤j→p ∣ m[j] row):Steps p R cols m n (row+1) where
 len:=h.len
 le:=h.le
 span:=h.span
 step:=fun k g o=>by
  obtain ⟨q,r,f,h2⟩:=h.step k g o;exact ⟨q,y40_,f,h2⟩
 zero:=fun j c d q r=>by
  by_cases e:q=row
  ·subst e;exact s j c d
  ·exact h.zero j c d q y40_
theorem Steps.swap {cols m c:List Vec} {n row a:Nat} (h:Steps p R cols m n row) (ha:a<m.length) (H:n≤a) (hl:c.length=m.length)
  (r:∀ j (f:j<c.length) (h2:j<m.length),c[j]=if j=n then m[a] else if j=a then m[n]'y40_ else m[j]):Steps p R cols c n row:=by
 have B:n<m.length:=y40_;have z:∀ x,x∈c↔x∈m:=by
  intro x;constructor
  ·intro o
   obtain ⟨j,g,rfl⟩:=List.mem_iff_getElem.1 o;rw [r j g y40_];split
   ·exact List.getElem_mem _
   ·split<;>exact List.getElem_mem _
  ·intro o
   obtain ⟨j,g,rfl⟩:=List.mem_iff_getElem.1 o;by_cases e:j=n
   ·subst e
    have:=r a y40_ ha;by_cases d:a=j
    ·subst d
     rw [if_pos rfl] at this;rw [← this];exact List.getElem_mem _
    ·rw [if_neg d,if_pos rfl] at this
     rw [← this];exact List.getElem_mem _
   ·by_cases d:j=a
    ·subst d
     have:=r n y40_ B;rw [if_pos rfl] at this;rw [← this];exact List.getElem_mem _
    ·have:=r j y40_ g
     rw [if_neg e,if_neg d] at this;rw [← this];exact List.getElem_mem _
 have w:∀ j (f:j<c.length),n≤j→∃ i,∃ (s:i<m.length),n≤i∧c[j]=m[i]:=by
  intro j f h2;have:=r j f y40_;by_cases e:j=n
  ·rw [if_pos e] at this
   exact ⟨a,ha,H,this⟩
  ·by_cases d:j=a
   ·rw [if_neg e,if_pos d] at this
    exact ⟨n,B,le_refl _,this⟩
   ·rw [if_neg e,if_neg d] at this
    exact ⟨j,y40_,h2,this⟩
 have C:∀ j (f:j<c.length),j<n→c[j]=m[j]'y40_:=by
  intro j f h2;rw [r j f y40_,if_neg y40_,if_neg y40_]
 refine ⟨hl.trans h.len,by rw [hl];exact h.le,fun v=>?_,fun k E y=>?_,fun j g G q u=>?_⟩
 ·rw [← h.span v]
  exact ⟨sp_mono fun x o=>(z x).1 o,sp_mono fun x o=>(z x).2 o⟩
 ·obtain ⟨q,u,f,h2⟩:=h.step k y40_ y
  refine ⟨q,u,by rw [C k E y];exact f,fun j g F=>?_⟩;by_cases D:j<n
  ·rw [C j g D]
   exact h2 j y40_ F
  ·obtain ⟨i,s,A,e⟩:=w j g y40_
   rw [e];exact h2 i s y40_
 ·obtain ⟨i,s,A,e⟩:=w j g G
  rw [e];exact h.zero i s A q u
theorem Steps.take {cols m c:List Vec} {n row:Nat} (h:Steps p R cols m n row) (s:n<m.length) (hl:c.length=m.length) (G:¬ p ∣ m[n] row) (L:row<R)
  (o:∀ j (g:j<c.length) (h2:j<m.length),j≤n→c[j]=m[j])
  (u:∀ j (g:j<c.length) (h2:j<m.length),n<j→p ∣ c[j] row∧∃ k:Int,∀ r,r<R→p ∣ c[j] r - (m[j] r - k * m[n] r)):Steps p R cols c (n+1) (row+1):=by
 have B:∀ {j q:Nat} (g:j<c.length) (h2:j<m.length),q<R→p ∣ m[j] q→p ∣ m[n] q→p ∣ c[j] q:=by
  intro j q g h2 H C J;by_cases d:j≤n
  ·rw [o j g h2 d]
   exact C
  ·obtain ⟨_,k,f⟩:=u j g h2 y40_
   have e:=Int.dvd_add (f q H) (Int.dvd_sub C (Int.dvd_trans J (Int.dvd_mul_left k _)))
   rwa [show c[j] q - (m[j] q - k * m[n] q)+(m[j] q - k * m[n] q)=c[j] q by omega] at e
 refine ⟨hl.trans h.len,y40_,fun v=>?_,fun k f A=>?_,fun j d K q I=>?_⟩
 ·rw [← h.span v]
  constructor
  ·refine B9_ fun x z=>?_
   obtain ⟨j,d,rfl⟩:=List.mem_iff_getElem.1 z;by_cases w:j≤n
   ·rw [o j d y40_ w]
    exact J9_ (List.getElem_mem _)
   ·obtain ⟨_,k,f⟩:=u j d y40_ y40_
    refine U4_ (Yo8 (J9_ (List.getElem_mem (show j<m.length by omega))) (U5_ k (J9_ (List.getElem_mem s)))) fun r y=>?_;have:=f r y;rw [show m[j] r - k * m[n] r - c[j] r=-(c[j] r - (m[j] r - k * m[n] r)) by omega];exact (Int.dvd_neg).2 this
  ·have F:InSp p R c m[n]:=by
    rw [← o n y40_ s (le_refl _)];exact J9_ (List.getElem_mem _)
   refine B9_ fun x z=>?_;obtain ⟨j,d,rfl⟩:=List.mem_iff_getElem.1 z;by_cases w:j≤n
   ·rw [← o j y40_ d w]
    exact J9_ (List.getElem_mem _)
   ·obtain ⟨_,k,f⟩:=u j y40_ d y40_
    refine U4_ (Zc4 (J9_ (List.getElem_mem (show j<c.length by omega))) (U5_ k F)) fun r y=>?_;have:=f r y
    rwa [show c[j] r+k * m[n] r - m[j] r=c[j] r - (m[j] r - k * m[n] r) by omega]
 ·by_cases E:k=n
  ·subst E
   refine ⟨row,y40_,by rw [o k f s (le_refl _)];exact G,fun j d A=>(u j d y40_ A).1⟩
  ·obtain ⟨q,I,g,h2⟩:=h.step k y40_ y40_
   refine ⟨q,y40_,by rw [o k f y40_ y40_];exact g,fun j d D=>B d y40_ y40_ (h2 j y40_ D) (h2 n s y40_)⟩
 ·by_cases e:q=row
  ·subst e
   exact (u j d y40_ y40_).1
  ·exact B d y40_ y40_ (h.zero j y40_ y40_ q y40_) (h.zero n s (le_refl _) q y40_)
end Go.Proofs.YtigobiacbficaaaGreatDoor.Wp.L
namespace Go.Proofs.YtigobiacbficaaaGreatDoor.Wp.L
variable {p:Int} {R:Nat}
theorem Yx5 (c:Fld p) {cols:List (List Int)} {k:Nat} (h:InB p R cols k):rk p R (F6_ cols (k+1))=rk p R (F6_ cols k)+1:=by
 rw [L5_];exact Yg2 c h
theorem Zr2 (c:Fld p) {cols:List (List Int)} {k:Nat} (h:¬ InB p R cols k):rk p R (F6_ cols (k+1))=rk p R (F6_ cols k):=by
 rw [L5_];exact Xy4 c (Classical.not_not.1 h)
theorem Yg3 (c:Fld p) {cols:List (List Int)}:∀ (k:Nat),rk p R (F6_ cols k)=(basN p R cols k).length
 | 0=>rfl
 | k+1=>by
  by_cases h:InB p R cols k
  ·rw [Yx5 c h,Xg3 h,Yg3 c k]
   simp
  ·rw [Zr2 c h,Yp4 h,Yg3 c k]
theorem rk_cols (c:Fld p) (cols:List (List Int)):rk p R (cols.map vec)=(basN p R cols cols.length).length:=by
 rw [← Xy6];exact Yg3 c _
theorem Xg4 {cols:List (List Int)} {k:Nat}:(basN p R cols k).length≤k:=by
 unfold basN;have:=List.length_filter_le (fun i=>@decide (InB p R cols i) (Classical.propDecidable _)) (List.range k);simpa using this
end Go.Proofs.YtigobiacbficaaaGreatDoor.Wp.L
namespace Go.Proofs.YtigobiacbficaaaGreatDoor.Wp
def insP (P:Nat→Bool) (x:Nat):Nat→Bool:=fun i=>i==x || P i
def orP (P Q:Nat→Bool):Nat→Bool:=fun i=>P i || Q i
def andP (P Q:Nat→Bool):Nat→Bool:=fun i=>P i && Q i
def notP (P:Nat→Bool):Nat→Bool:=fun i=>!P i
def noneP:Nat→Bool:=fun _=>false
def allP:Nat→Bool:=fun _=>true
theorem V0_ (P:Nat→Bool) (x:Nat):insP P x x=true:=by simp [insP]
theorem X8_ {P:Nat→Bool} {x i:Nat} (h:i≠x):insP P x i=P i:=by simp [insP,h]
theorem I2_ {P:Nat→Bool} {x:Nat} (h:P x=true):insP P x=P:=by
 funext i
 by_cases e:i=x
 ·rw [e,V0_,h]
 ·exact X8_ e
theorem Yx6 (P:Nat→Bool) (x y:Nat):insP (insP P x) y=insP (insP P y) x:=by
 funext i
 simp only [insP];cases i==x<;>cases i==y<;>simp
structure Rk (n:Nat) (f:(Nat→Bool)→Nat):Prop where
 ext:∀ {P Q:Nat→Bool},(∀ i,i<n→P i=Q i)→f P=f Q
 zero:f noneP=0
 up:∀ {P:Nat→Bool} {x:Nat},x<n→P x=false→f P≤f (insP P x)
 one:∀ {P:Nat→Bool} {x:Nat},x<n→P x=false→f (insP P x)≤f P+1
 dim:∀ {P:Nat→Bool} {x y:Nat},x<n→y<n→x≠y→P x=false→P y=false→f (insP (insP P x) y)+f P≤f (insP P x)+f (insP P y)
section
variable {n:Nat} {f:(Nat→Bool)→Nat}
theorem Rk.up' (h:Rk n f) (P:Nat→Bool) {x:Nat} (c:x<n):f P≤f (insP P x):=by
 cases hp:P x
 ·exact h.up c hp
 ·rw [I2_ hp];exact le_refl _
theorem Rk.one' (h:Rk n f) (P:Nat→Bool) {x:Nat} (c:x<n):f (insP P x)≤f P+1:=by
 cases hp:P x
 ·exact h.one c hp
 ·rw [I2_ hp];exact Nat.le_succ _
theorem Rk.dim' (h:Rk n f) (P:Nat→Bool) {x y:Nat} (d:x<n) (g:y<n) (c:x≠y):f (insP (insP P x) y)+f P≤f (insP P x)+f (insP P y):=by
 cases hp:P x
 ·cases hq:P y
  ·exact h.dim d g c hp hq
  ·have e:insP (insP P x) y=insP P x:=I2_ (by rw [X8_ (fun e=>c e.symm),hq])
   rw [e,I2_ hq];exact le_refl _
 ·rw [I2_ hp]
  omega
def addK (P S:Nat→Bool) (k:Nat):Nat→Bool:=fun i=>P i || (decide (i<k) && S i)
theorem H0_ (P S:Nat→Bool):addK P S 0=P:=by funext i;simp [addK]
theorem S6_ {P S:Nat→Bool} {k:Nat} (h:S k=false):addK P S (k+1)=addK P S k:=by
 funext i
 by_cases e:i=k
 ·subst e;simp [addK,h]
 ·have:decide (i<k+1)=decide (i<k):=decide_eq_decide.2 y40_
  simp [addK,this]
theorem L6_ {P S:Nat→Bool} {k:Nat} (h:S k=true):addK P S (k+1)=insP (addK P S k) k:=by
 funext i
 by_cases e:i=k
 ·subst e;simp [addK,insP,h]
 ·have:decide (i<k+1)=decide (i<k):=decide_eq_decide.2 y40_
  rw [X8_ e];simp [addK,this]
theorem E0_ (h:Rk n f) (P S:Nat→Bool):f (addK P S n)=f (orP P S):=h.ext fun i c=>by simp [addK,orP,c]
theorem Rk.up_add (h:Rk n f) (P S:Nat→Bool):∀ k,k≤n→f P≤f (addK P S k)
 | 0,_=>by rw [H0_];exact le_refl _
 | k+1,hk=>by
  have c:=h.up_add P S k y40_;cases hs:S k
  ·rw [S6_ hs];exact c
  ·rw [L6_ hs];exact Nat.le_trans c (h.up' _ y40_)
theorem Rk.mono (h:Rk n f) {P Q:Nat→Bool} (hs:∀ i,i<n→P i=true→Q i=true):f P≤f Q:=by
 have c:=h.up_add P Q n (le_refl _);rw [E0_ h,h.ext (P:=orP P Q) (Q:=Q) (fun i d=>by
  unfold orP;cases hp:P i
  ·simp
  ·simp [hs i d hp])] at c
 exact c
theorem Rk.le_cnt (h:Rk n f) (P:Nat→Bool):f P≤cnt P n:=by
 have:∀ k,k≤n→f (addK noneP P k)≤cnt P k:=by
  intro k
  induction k with
  | zero=>intro _;rw [H0_,h.zero];exact Nat.zero_le _
  | succ k c =>
   intro e;have c:=c y40_;rw [X4_];cases hs:P k
   ·rw [S6_ hs];simpa using c
   ·rw [L6_ hs]
    have:=h.one' (addK noneP P k) (x:=k) y40_;simp;omega
 have d:=this n (le_refl _);rw [E0_ h] at d
 rwa [show orP noneP P=P from by funext i;simp [orP,noneP]] at d
theorem Rk.dim_add (h:Rk n f) (P S:Nat→Bool) {x:Nat} (d:x<n):∀ k,k≤n→f (insP (addK P S k) x)+f P≤f (insP P x)+f (addK P S k)
 | 0,_=>by rw [H0_];exact le_refl _
 | k+1,hk=>by
  have j:=h.dim_add P S d k y40_;cases hs:S k
  ·rw [S6_ hs];exact j
  ·rw [L6_ hs]
   by_cases e:x=k
   ·subst e
    have c:insP (insP (addK P S x) x) x=insP (addK P S x) x:=I2_ (V0_ _ _);rw [c];have h2:=h.up' P (x:=x) y40_;omega
   ·have c:=h.dim' (addK P S k) (x:=k) (y:=x) y40_ d (fun g=>e g.symm)
    omega
theorem Rk.dim_set (h:Rk n f) {P Q:Nat→Bool} (hs:∀ i,i<n→P i=true→Q i=true) {x:Nat} (g:x<n):f (insP Q x)+f P≤f (insP P x)+f Q:=by
 have d:=h.dim_add P Q g n (le_refl _);have e:∀ i,i<n→addK P Q n i=Q i:=fun i c=>by
  simp only [addK,c,decide_true,Bool.true_and];cases hp:P i
  ·simp
  ·simp [hs i c hp]
 rw [h.ext e,h.ext (P:=insP (addK P Q n) x) (Q:=insP Q x) (fun i c=>by unfold insP;rw [e i c])] at d;exact d
theorem Rk.sub_add (h:Rk n f) {P Q:Nat→Bool} (hs:∀ i,i<n→P i=true→Q i=true) (Z:Nat→Bool):∀ k,k≤n→f (addK Q Z k)+f P≤f (addK P Z k)+f Q
 | 0,_=>by rw [H0_,H0_];omega
 | k+1,hk=>by
  have e:=h.sub_add hs Z k y40_;cases hz:Z k
  ·rw [S6_ hz,S6_ hz];exact e
  ·rw [L6_ hz,L6_ hz]
   have g:=h.dim_set (P:=addK P Z k) (Q:=addK Q Z k) (fun i d c=>by
    unfold addK at c ⊢;cases hq:Q i
    ·have:P i=false:=by
      cases hpi:P i
      ·rfl
      ·rw [hs i d hpi] at hq;cases hq
     rw [this] at c;exact c
    ·simp) (x:=k) y40_
   omega
theorem Rk.submod (h:Rk n f) (P Q:Nat→Bool):f (orP P Q)+f (andP P Q)≤f P+f Q:=by
 have d:=h.sub_add (P:=andP P Q) (Q:=P) (fun i _ c=>by unfold andP at c;simp at c;exact c.1) Q n (le_refl _);rw [E0_ h,E0_ h] at d;rw [show orP (andP P Q) Q=Q from by funext i;simp only [orP,andP];cases P i<;>cases Q i<;>rfl] at d;omega
theorem Rk.of_step (μ:(Nat→Bool)→Nat→Bool) (ext:∀ {P Q:Nat→Bool},(∀ i,i<n→P i=Q i)→f P=f Q) (zero:f noneP=0)
  (g:∀ {P:Nat→Bool} {x:Nat},x<n→P x=false→f (insP P x)=f P+if μ P x then 1 else 0)
  (h:∀ {P:Nat→Bool} {x y:Nat},x<n→y<n→x≠y→P x=false→P y=false→μ (insP P x) y=true→μ P y=true):Rk n f:=by
 refine ⟨ext,zero,fun d c=>?_,fun d c=>?_,fun {P x y} d hy hxy c hq=>?_⟩
 ·rw [g d c];exact Nat.le_add_right _ _
 ·rw [g d c];split<;>omega
 ·rw [g (P:=insP P x) hy (by rw [X8_ (fun e=>hxy e.symm)];exact hq),g (P:=P) hy hq]
  cases h1:μ (insP P x) y
  ·simp
  ·rw [h d hy hxy c hq h1];simp;omega
theorem C0_ (n:Nat):Rk n (fun P=>cnt P n):=by
 refine Rk.of_step (fun _ _=>true) (fun {P Q} h=>Nat.le_antisymm (U0_ fun v d c=>by rw [← h v d];exact c) (U0_ fun v d c=>by rw [h v d];exact c)) ?_ (fun {P x} hx c=>?_) (fun _ _ _ _ _ _=>rfl)
 ·show cnt noneP n=0
  have:∀ n,cnt noneP n=0:=fun n=>by
   induction n with
   | zero=>simp [cnt]
   | succ n ih=>rw [X4_,ih];simp [noneP]
  exact this n
 ·show cnt (insP P x) n=cnt P n+_
  rw [Zc0 (p:=insP P x) (q:=P) (V0_ P x) c (fun v d=>X8_ d),if_pos hx,if_pos rfl]
theorem F9_ (n:Nat):cnt noneP n=0:=(C0_ n).zero
theorem I3_ {P Q:Nat→Bool} (h:∀ i,i<n→P i=Q i):cnt P n=cnt Q n:=(C0_ n).ext h
theorem A4_ {P:Nat→Bool} {x:Nat} (e:x<n) (c:P x=false):cnt (insP P x) n=cnt P n+1:=by
 rw [Zc0 (p:=insP P x) (q:=P) (V0_ P x) c (fun v d=>X8_ d),if_pos e]
theorem Yp6 (h:Rk n f) (a:Nat):Rk n (fun P=>min a (f P)):=by
 refine ⟨fun c=>by rw [h.ext c],by rw [h.zero];exact Nat.min_zero _,fun {P x} hx hp=>?_,fun {P x} hx hp=>?_,fun {P x y} hx hy hxy hp hq=>?_⟩
 ·have:=h.up hx hp;omega
 ·have:=h.one hx hp;omega
 ·have c:=h.dim hx hy hxy hp hq
  have h2:=h.up hx hp;have h3:=h.up hy hq;have d:=h.one hx hp;have g:=h.one hy hq;have j:=h.up (P:=insP P x) hy (by rw [X8_ (fun e=>hxy e.symm)];exact hq);omega
theorem Zq8 {P:Nat→Bool} {x:Nat} (c:P x=false):insP (notP (insP P x)) x=notP P:=by
 funext i
 by_cases e:i=x
 ·subst e;rw [V0_];simp [notP,c]
 ·rw [X8_ e];simp [notP,X8_ e]
theorem Vo0 (h:Rk n f):Rk n (fun P=>cnt P n+f (notP P) - f allP):=by
 have u:∀ P,f (notP P)≤f allP:=fun P=>h.mono fun _ _ _=>rfl;have j:∀ P,f allP≤cnt P n+f (notP P):=by
  intro P;have c:=h.submod (notP P) P;have h2:=h.le_cnt P;have h3:orP (notP P) P=allP:=by funext i;simp only [orP,notP,allP];cases P i<;>rfl
  rw [h3] at c;omega
 have o:∀ {P:Nat→Bool} {x:Nat},x<n→P x=false→f (notP (insP P x))≤f (notP P)∧f (notP P)≤f (notP (insP P x))+1:=by
  intro P x d g;have c:=h.up' (notP (insP P x)) d;have h2:=h.one' (notP (insP P x)) d;rw [Zq8 g] at c h2;exact ⟨c,h2⟩
 refine ⟨fun {P Q} c=>?_,?_,fun {P x} d g=>?_,fun {P x} d g=>?_,fun {P x y} d hy hxy g hq=>?_⟩
 ·rw [I3_ c,h.ext (P:=notP P) (Q:=notP Q) (fun i r=>by unfold notP;rw [c i r])]
 ·show cnt noneP n+f (notP noneP) - f allP=0
  rw [F9_,show notP noneP=allP from rfl];omega
 ·have c:=o d g
  have h2:=A4_ d g;show cnt P n+f (notP P) - f allP≤cnt (insP P x) n+f (notP (insP P x)) - f allP;omega
 ·have c:=o d g
  have h2:=A4_ d g;have h3:=j P;show cnt (insP P x) n+f (notP (insP P x)) - f allP≤cnt P n+f (notP P) - f allP+1;omega
 ·have m:insP P x y=false:=by rw [X8_ (fun e=>hxy e.symm)];exact hq
  have s:insP P y x=false:=by rw [X8_ hxy];exact g
  have c1:=A4_ d g;have c2:=A4_ hy hq;have c3:=A4_ (P:=insP P x) hy m;have v:=j P;have w:=j (insP P x);have z:=j (insP P y);have A:=j (insP (insP P x) y);have c:=h.dim' (notP (insP (insP P x) y)) d hy hxy;have p:insP (notP (insP (insP P x) y)) y=notP (insP P x):=Zq8 m;have k:insP (notP (insP (insP P x) y)) x=notP (insP P y):=by rw [Yx6];exact Zq8 s
  have q:insP (insP (notP (insP (insP P x) y)) x) y=notP P:=by rw [k];exact Zq8 hq
  rw [q,p,k] at c;show cnt (insP (insP P x) y) n+f (notP (insP (insP P x) y)) - f allP+(cnt P n+f (notP P) - f allP)≤cnt (insP P x) n+f (notP (insP P x)) - f allP+(cnt (insP P y) n+f (notP (insP P y)) - f allP);omega
def imgP (n:Nat) (φ:Nat→Nat) (P:Nat→Bool):Nat→Bool:=fun y=>(List.range n).any fun i=>P i && φ i==y
theorem imgP_iff {φ:Nat→Nat} {P:Nat→Bool} {y:Nat}:imgP n φ P y=true↔∃ i,i<n∧P i=true∧φ i=y:=by
 unfold imgP;simp only [List.any_eq_true,List.mem_range,Bool.and_eq_true,beq_iff_eq]
theorem Xg5 (φ:Nat→Nat):imgP n φ noneP=noneP:=by
 funext y
 exact Bool.eq_false_iff.2 (fun h=>by obtain ⟨i,_,c,_⟩:=imgP_iff.1 h;cases c)
theorem Vy7 {φ:Nat→Nat} {P:Nat→Bool} {x:Nat} (e:x<n):imgP n φ (insP P x)=insP (imgP n φ P) (φ x):=by
 funext y
 rw [Bool.eq_iff_iff,imgP_iff];unfold insP;simp only [Bool.or_eq_true,beq_iff_eq,imgP_iff];constructor
 ·rintro ⟨i,d,c | c,rfl⟩
  ·left;rw [c]
  ·exact .inr ⟨i,d,c,rfl⟩
 ·rintro (rfl | ⟨i,d,c,rfl⟩)
  ·exact ⟨x,e,.inl rfl,rfl⟩
  ·exact ⟨i,d,.inr c,rfl⟩
theorem Vo1 {φ:Nat→Nat} {P:Nat→Bool} {x:Nat} (k:∀ i j,i<n→j<n→φ i=φ j→i=j) (g:x<n) (f:P x=false):imgP n φ P (φ x)=false:=by
 refine Bool.eq_false_iff.2 fun h=>?_;obtain ⟨i,d,c,e⟩:=imgP_iff.1 h;rw [k i x d g e,f] at c;cases c
theorem Vy8 {φ:Nat→Nat} {P Q:Nat→Bool} (h:∀ i,i<n→P i=Q i):imgP n φ P=imgP n φ Q:=by
 funext y
 rw [Bool.eq_iff_iff,imgP_iff,imgP_iff];exact ⟨fun ⟨i,c,d,e⟩=>⟨i,c,by rw [← h i c];exact d,e⟩,fun ⟨i,c,d,e⟩=>⟨i,c,by rw [h i c];exact d,e⟩⟩
theorem Vg9 {k:Nat} (h:Rk n f) {φ:Nat→Nat} (q:∀ i j,i<k→j<k→φ i=φ j→i=j) (g:∀ i,i<k→φ i<n) (T:Nat→Bool) (r:∀ i,i<k→T (φ i)=false):Rk k (fun P=>f (orP T (imgP k φ P)) - f T):=by
 have s:∀ P,f T≤f (orP T (imgP k φ P)):=fun P=>h.mono fun i _ u=>by unfold orP;rw [u];rfl
 have o:∀ {P:Nat→Bool} {x:Nat},x<k→orP T (imgP k φ (insP P x))=insP (orP T (imgP k φ P)) (φ x):=by
  intro P x c;rw [Vy7 c]
  funext i
  simp only [orP,insP];cases T i<;>cases i==φ x<;>rfl
 have m:∀ {P:Nat→Bool} {x:Nat},x<k→P x=false→orP T (imgP k φ P) (φ x)=false:=by
  intro P x c d;unfold orP;rw [r x c,Vo1 q c d];rfl
 refine ⟨fun {P Q} p=>?_,?_,fun {P x} c d=>?_,fun {P x} c d=>?_,fun {P x y} c hy hxy d hq=>?_⟩
 ·rw [Vy8 p]
 ·show f (orP T (imgP k φ noneP)) - f T=0
  rw [Xg5,show orP T noneP=T from by funext i;simp [orP,noneP],Nat.sub_self]
 ·show f (orP T (imgP k φ P)) - f T≤f (orP T (imgP k φ (insP P x))) - f T
  rw [o c];have:=h.up (g x c) (m c d);omega
 ·show f (orP T (imgP k φ (insP P x))) - f T≤f (orP T (imgP k φ P)) - f T+1
  rw [o c];have:=h.one (g x c) (m c d);omega
 ·show f (orP T (imgP k φ (insP (insP P x) y))) - f T+(f (orP T (imgP k φ P)) - f T)≤f (orP T (imgP k φ (insP P x))) - f T+(f (orP T (imgP k φ (insP P y))) - f T)
  rw [o hy,o c,o hy];have p:=h.dim (g x c) (g y hy) (fun e=>hxy (q x y c hy e)) (m c d) (m hy hq);have m0:=s P;have m1:=h.up (g x c) (m c d);have m2:=h.up (g y hy) (m hy hq);omega
end
theorem Jy5 {n m:Nat} {f g:(Nat→Bool)→Nat} (k:Rk n f) (o:Rk m g):Rk (n+m) (fun P=>f P+g (fun i=>P (n+i))):=by
 have c:∀ {P:Nat→Bool} {x:Nat},n≤x→f (insP P x)=f P:=fun {P x} hx=>k.ext fun i q=>X8_ y40_;have d:∀ {P:Nat→Bool} {x:Nat},x<n→(fun i=>insP P x (n+i))=fun i=>P (n+i):=fun {P x} hx=>by funext i;exact X8_ y40_
 have e:∀ {P:Nat→Bool} {x:Nat},n≤x→(fun i=>insP P x (n+i))=insP (fun i=>P (n+i)) (x - n):=fun {P x} hx=>by
  funext i
  show (n+i==x || P (n+i))=(i==x - n || P (n+i));have:(n+i==x)=(i==x - n):=by rw [Bool.eq_iff_iff,beq_iff_eq,beq_iff_eq];omega
  rw [this]
 have p:∀ {P:Nat→Bool} {x:Nat},n≤x→P x=false→(fun i=>P (n+i)) (x - n)=false:=fun {P x} hx hp=>by
  show P (n+(x - n))=false;rw [show n+(x - n)=x by omega];exact hp
 refine ⟨fun {P Q} h1=>?_,?_,fun {P x} hx hp=>?_,fun {P x} hx hp=>?_,fun {P x y} hx hy hxy hp hq=>?_⟩
 ·rw [k.ext (fun i q=>h1 i y40_),o.ext (fun i q=>h1 (n+i) y40_)]
 ·show f noneP+g noneP=0
  rw [k.zero,o.zero]
 ·show f P+g (fun i=>P (n+i))≤f (insP P x)+g (fun i=>insP P x (n+i))
  by_cases h:x<n
  ·rw [d h];have:=k.up h hp;omega
  ·rw [c y40_,e y40_];have:=o.up (P:=fun i=>P (n+i)) (x:=x - n) y40_ (p (P:=P) (x:=x) y40_ hp);omega
 ·show f (insP P x)+g (fun i=>insP P x (n+i))≤f P+g (fun i=>P (n+i))+1
  by_cases h:x<n
  ·rw [d h];have:=k.one h hp;omega
  ·rw [c y40_,e y40_];have:=o.one (P:=fun i=>P (n+i)) (x:=x - n) y40_ (p (P:=P) (x:=x) y40_ hp);omega
 ·show f (insP (insP P x) y)+g (fun i=>insP (insP P x) y (n+i))+(f P+g (fun i=>P (n+i)))≤f (insP P x)+g (fun i=>insP P x (n+i))+(f (insP P y)+g (fun i=>insP P y (n+i)))
  by_cases h:x<n
  ·by_cases j:y<n
   ·rw [d j,d h,d j];have:=k.dim h j hxy hp hq;omega
   ·rw [c (P:=insP P x) y40_,c (P:=P) (x:=y) y40_,e (P:=insP P x) y40_,d h,e (P:=P) (x:=y) y40_]
    omega
  ·by_cases j:y<n
   ·have r:f (insP (insP P x) y)=f (insP P y):=by rw [Yx6];exact c y40_
    have s:f (insP P x)=f P:=c y40_;rw [r,s,d (P:=insP P x) j,d (P:=P) j];omega
   ·rw [c (P:=insP P x) y40_,c (P:=P) (x:=x) y40_,c (P:=P) (x:=y) y40_,e (P:=insP P x) y40_,e (P:=P) (x:=x) y40_,e (P:=P) (x:=y) y40_]
    have:=o.dim (P:=fun i=>P (n+i)) (x:=x - n) (y:=y - n) y40_ y40_ y40_ (p (P:=P) (x:=x) y40_ hp) (p (P:=P) (x:=y) y40_ hq);omega
end Go.Proofs.YtigobiacbficaaaGreatDoor.Wp
namespace Go.Proofs.YtigobiacbficaaaGreatDoor.Wp.K
theorem nodup_le {α:Type} [DecidableEq α]:∀ {a b:List α},a.Nodup→(∀ x∈a,x∈b)→a.length≤b.length
 | [],b,_,_=>by simp
 | x :: a,b,c,h=>by
  obtain ⟨d,c⟩:=List.nodup_cons.1 c;have hb:x∈b:=h x k40_;have f:=nodup_le (a:=a) (b:=b.erase x) c fun y hy=>(List.mem_erase_of_ne (fun e=>d (by rw [← e];exact hy))).2 (h y y45_);rw [List.length_erase_of_mem hb] at f;have:0<b.length:=List.length_pos_of_mem hb;simp;omega
def cntP (n:Nat) (p:Nat→Bool):Nat:=((List.range n).filter p).length
theorem C1_ (n:Nat) (p:Nat→Bool):cntP (n+1) p=cntP n p+if p n then 1 else 0:=by
 unfold cntP;exact q28_
theorem Yg4 (p:Nat→Bool):∀ n,cntP n p≤n
 | 0=>le_refl _
 | n+1=>by
  have:=Yg4 p n;rw [C1_];split<;>omega
theorem Zc8 {p q:Nat→Bool}:∀ {n:Nat},(∀ i,i<n→p i=true→q i=true)→cntP n p≤cntP n q
 | 0,_=>le_refl _
 | n+1,h=>by
  have d:=Zc8 (n:=n) fun i c=>h i y40_;rw [C1_,C1_];have:=h n y40_;cases hp:p n
  ·simp;omega
  ·simp [this hp];omega
theorem Zy7 (p q:Nat→Bool):∀ n,cntP n p=cntP n (fun i=>p i && q i)+cntP n fun i=>p i && !q i
 | 0=>rfl
 | n+1=>by
  have c:=Zy7 p q n;rw [C1_,C1_,C1_,c];cases p n<;>cases q n<;>simp<;>omega
theorem Yg5 (n:Nat):(List.range n).Nodup:=List.nodup_range
theorem cntP_inj {n R:Nat} {p q:Nat→Bool} (f:Nat→Nat) (r:∀ i,i<n→p i=true→f i<R∧q (f i)=true) (c:∀ i j,i<n→j<n→p i=true→p j=true→f i=f j→i=j):cntP n p≤cntP R q:=by
 have m:(((List.range n).filter p).map f).Nodup:=by
  have k:((List.range n).filter p).Nodup:=(Yg5 n).sublist List.filter_sublist;refine List.pairwise_map.2 (List.Pairwise.imp_of_mem ?_ k);intro a b ha hb o e;have d:=List.mem_filter.1 ha;have g:=List.mem_filter.1 hb;exact o (c a b (List.mem_range.1 d.1) (List.mem_range.1 g.1) d.2 g.2 e)
 have h2:=nodup_le (b:=(List.range R).filter q) m fun x s=>by
  obtain ⟨i,c,rfl⟩:=List.mem_map.1 s;have h:=List.mem_filter.1 c;have:=r i (List.mem_range.1 h.1) h.2;exact List.mem_filter.2 ⟨List.mem_range.2 this.1,this.2⟩
 unfold cntP;simpa using h2
def Goes (adj:List (List Int)) (i r:Nat):Prop:=(r:Int)∈adj.getD i []
def OnR (R:Nat) (adj:List (List Int)):Prop:=∀ i x,x∈adj.getD i []→∃ r:Nat,x=(r:Int)∧r<R
theorem goes_lt {adj:List (List Int)} {i r:Nat} (h:Goes adj i r):i<adj.length:=by
 rcases Nat.lt_or_ge i adj.length with hl | hl
 ·exact hl
 ·unfold Goes at h
  rw [List.getD_eq_getElem?_getD,List.getElem?_eq_none hl] at h;exact absurd h k40_
structure Mat (R:Nat) (adj:List (List Int)) (h:Nat→Int):Prop where
 ok:∀ i,i<adj.length→h i=-1∨∃ r:Nat,r<R∧h i=(r:Int)∧Goes adj i r
 inj:∀ i j,i<adj.length→j<adj.length→h i=h j→h i≠-1→i=j
def msize (adj:List (List Int)) (h:Nat→Int):Nat:=cntP adj.length fun i=>decide (h i≠-1)
def Cov (adj:List (List Int)) (A B:Nat→Bool):Prop:=∀ i r,Goes adj i r→A i=true∨B r=true
theorem mat_le_cov {R:Nat} {adj:List (List Int)} {h:Nat→Int} {A B:Nat→Bool} (k:Mat R adj h) (hc:Cov adj A B):msize adj h≤cntP adj.length A+cntP R B:=by
 unfold msize;rw [Zy7 _ A];have v:cntP adj.length (fun i=>decide (h i≠-1) && A i)≤cntP adj.length A:=Zc8 fun i _ d=>by
  rw [Bool.and_eq_true] at d;exact d.2
 have h2:cntP adj.length (fun i=>decide (h i≠-1) && !A i)≤cntP R B:=cntP_inj (fun i=>(h i).toNat) (fun i d c=>by
  rw [Bool.and_eq_true,decide_eq_true_iff] at c;rcases k.ok i d with e | ⟨r,u,e,q⟩
  ·exact absurd e c.1
  ·rw [e,Int.toNat_natCast]
   refine ⟨u,(hc i r q).resolve_left ?_⟩;intro ha;rw [ha] at c;exact absurd c.2 k40_) (fun i j d m c o e=>by
  rw [Bool.and_eq_true,decide_eq_true_iff] at c o;rcases k.ok i d with f | ⟨r,_,f,_⟩
  ·exact absurd f c.1
  ·rcases k.ok j m with g | ⟨s,_,g,_⟩
   ·exact absurd g o.1
   ·refine k.inj i j d m ?_ c.1
    have p:r=s:=by simpa [f,g] using e
    rw [f,g,p])
 omega
def Clo (adj:List (List Int)) (os:Nat→Int) (S:Nat→Prop):Prop:=∀ r,S r→∃ j:Nat,os r=(j:Int)∧∀ x,Goes adj j x→S x
structure Pairs (R:Nat) (adj:List (List Int)) (hs os:Nat→Int):Prop where
 l:∀ i,i<adj.length→hs i=-1∨∃ r:Nat,r<R∧hs i=(r:Int)∧Goes adj i r∧os r=(i:Int)
 r:∀ r,r<R→os r=-1∨∃ i:Nat,i<adj.length∧os r=(i:Int)∧hs i=(r:Int)
theorem Pairs.mat {R:Nat} {adj:List (List Int)} {hs os:Nat→Int} (h:Pairs R adj hs os):Mat R adj hs where
 ok:=fun i g=>(h.l i g).imp id fun ⟨r,a,b,c,_⟩=>⟨r,a,b,c⟩
 inj:=fun i j g m e k=>by
  rcases h.l i g with d | ⟨r,_,d,_,o⟩
  ·exact absurd d k
  ·rcases h.l j m with f | ⟨s,_,f,_,p⟩
   ·exact absurd (e.trans f) k
   ·have:r=s:=by
     have:=d.symm.trans (e.trans f);omega
    subst this;have:=o.symm.trans p;omega
def updI (f:Nat→Int) (a:Nat) (t:Int):Nat→Int:=fun x=>if x=a then t else f x
def updB (f:Nat→Bool) (a:Nat):Nat→Bool:=fun x=>if x=a then true else f x
structure Found (R:Nat) (adj:List (List Int)) (hs os:Nat→Int) (al:Nat→Bool) (i:Nat) (hs' os':Nat→Int):Prop where
 a:∃ r:Nat,r<R∧hs' i=(r:Int)∧Goes adj i r∧os' r=(i:Int)∧al r=false
 b:∀ j,j<adj.length→j≠i→(hs j=-1↔hs' j=-1)
 c:∀ j,j<adj.length→hs' j=-1∨∃ r:Nat,r<R∧hs' j=(r:Int)∧Goes adj j r∧os' r=(j:Int)
 d:∀ r,r<R→os' r=-1∨∃ j:Nat,j<adj.length∧os' r=(j:Int)∧(hs' j=(r:Int)∨(j=i∧hs i=(r:Int)))
 e:∀ r,al r=true→os' r=os r
 f:∀ S,Clo adj os S→(¬ ∀ x,Goes adj i x→S x)∧∀ r,S r→os' r=os r
structure Missed (adj:List (List Int)) (os:Nat→Int) (al:Nat→Bool) (i:Nat) (al':Nat→Bool):Prop where
 up:∀ r,al r=true→al' r=true
 all:∀ x,Goes adj i x→al' x=true
 cl:∀ r,al' r=true→al r=false→∃ j:Nat,os r=(j:Int)∧∀ x,Goes adj j x→al' x=true
structure Tried (adj:List (List Int)) (os:Nat→Int) (al:Nat→Bool) (i k:Nat) (al':Nat→Bool):Prop where
 up:∀ r,al r=true→al' r=true
 all:∀ m x,m<k→(adj.getD i [])[m]?=some ((x:Nat):Int)→al' x=true
 cl:∀ r,al' r=true→al r=false→∃ j:Nat,os r=(j:Int)∧∀ x,Goes adj j x→al' x=true
variable {R:Nat} {adj:List (List Int)} {hs os hs' os':Nat→Int} {al al' al'':Nat→Bool} {i k j r:Nat}
theorem Xy7:Tried adj os al i 0 al:=⟨fun _ h=>h,fun _ _ h=>by omega,fun r h k=>by rw [h] at k;cases k⟩
theorem Tried.skip (h:Tried adj os al i k al') (d:(adj.getD i [])[k]?=some (r:Int)) (ha:al' r=true):Tried adj os al i (k+1) al' :=
 ⟨h.up,fun m x f c=>by
  by_cases e:m=k
  ·subst e
   rw [d] at c;have:r=x:=by
    injection c with c;omega
   exact this▸ha
  ·exact h.all m x y40_ c,h.cl⟩
theorem Tried.miss (h:Tried adj os al i k al') (u:(adj.getD i [])[k]?=some (r:Int)) (p:os r=(j:Int)) (d:Missed adj os (updB al' r) j al''):Tried adj os al i (k+1) al'':=by
 have f:∀ x,al' x=true→al'' x=true:=fun x c=>d.up x (by unfold updB;split<;>first | rfl | exact c);have v:al'' r=true:=d.up r (by unfold updB;rw [if_pos rfl]);refine ⟨fun x c=>f x (h.up x c),fun m x z c=>?_,fun x o h2=>?_⟩
 ·by_cases e:m=k
  ·subst e
   rw [u] at c;have:r=x:=by
    injection c with c;omega
   exact this▸v
  ·exact f x (h.all m x y40_ c)
 ·by_cases g:x=r
  ·subst g
   exact ⟨j,p,d.all⟩
  ·rcases c:al' x with _ | _
   ·exact d.cl x o (by unfold updB;rw [if_neg g];exact c)
   ·obtain ⟨q,e,s⟩:=h.cl x c h2
    exact ⟨q,e,fun y w=>f y (s y w)⟩
theorem Tried.done (h:Tried adj os al i k al') (e:(adj.getD i []).length≤k):Missed adj os al i al' :=
 ⟨h.up,fun x d=>by
  obtain ⟨m,c⟩:=List.mem_iff_getElem?.1 d;have:m<(adj.getD i []).length:=(List.getElem?_eq_some_iff.1 c).1;exact h.all m x y40_ c,h.cl⟩
theorem Xy8 (g:Pairs R adj hs os) (hi:i<adj.length) (hr:r<R) (hg:Goes adj i r) (u:os r=-1) (ha:al r=false):Found R adj hs os al i (updI hs i r) (updI os r i):=by
 have q:∀ j,j<adj.length→hs j≠(r:Int):=by
  intro j c e;rcases g.l j c with d | ⟨s,_,d,_,o⟩
  ·omega
  ·have:s=r:=by omega
   subst this;omega
 refine ⟨⟨r,hr,if_pos rfl,hg,if_pos rfl,ha⟩,fun j _ c=>by unfold updI;rw [if_neg c],fun j c=>?_,fun s hs'=>?_,fun s hs'=>?_,fun S k=>⟨fun p=>?_,fun s hs'=>?_⟩⟩
 ·unfold updI
  by_cases e:j=i
  ·exact x29_
  ·rw [if_neg e]
   rcases g.l j c with d | ⟨s,f,h2,h3,m⟩
   ·exact .inl d
   ·refine .inr ⟨s,f,h2,h3,?_⟩
    rw [if_neg]
    ·exact m
    ·rintro rfl
     exact q j c h2
 ·unfold updI
  by_cases e:s=r
  ·exact k28_
  ·rw [if_neg e]
   rcases g.r s hs' with d | ⟨j,f,h2,h3⟩
   ·exact .inl d
   ·refine .inr ⟨j,f,h2,?_⟩
    by_cases h:j=i
    ·subst h
     exact .inr ⟨rfl,h3⟩
    ·rw [if_neg h]
     exact .inl h3
 ·unfold updI
  rw [if_neg];rintro rfl;rw [ha] at hs';cases hs'
 ·obtain ⟨j,e,_⟩:=k r (p r hg)
  omega
 ·unfold updI
  rw [if_neg];rintro rfl;obtain ⟨j,e,_⟩:=k _ hs';omega
theorem Xy9 (u:Pairs R adj hs os) (hi:i<adj.length) (D:hs i=-1∨∃ q:Nat,hs i=(q:Int)∧al q=true) (hr:r<R) (hg:Goes adj i r) (N:os r=(j:Int)) (G:∀ x,al x=true→al' x=true) (ha:al' r=false)
  (hF:Found R adj hs os (updB al' r) j hs' os'):Found R adj hs os al i (updI hs' i r) (updI os' r i):=by
 have w:al r=false:=by
  rcases h:al r with _ | _
  ·rfl
  ·rw [G r h] at ha
   cases ha
 have F:∀ x,al x=true→updB al' r x=true:=fun x V=>by unfold updB;split<;>first | rfl | exact G x V
 obtain ⟨x1,x2⟩:j<adj.length∧hs j=(r:Int):=by
  rcases u.r r hr with e | ⟨q,k,h2,h3⟩
  ·omega
  ·have:q=j:=by omega
   subst this;exact ⟨k,h3⟩
 have C:j≠i:=by
  rintro rfl;rcases D with e | ⟨q,e,g⟩
  ·omega
  ·have:q=r:=by omega
   subst this;rw [w] at g;cases g
 obtain ⟨X,x5,Y,x0,o1,v⟩:=hF.a;have x6:X≠r:=by
  rintro rfl;unfold updB at v;rw [if_pos rfl] at v;cases v
 have x4:os' r=(j:Int):=(hF.e r (by unfold updB;rw [if_pos rfl])).trans N;refine ⟨⟨r,hr,if_pos rfl,hg,if_pos rfl,w⟩,fun q g T=>?_,fun q g=>?_,fun s U=>?_,fun s y=>?_,fun S B=>?_⟩
 ·unfold updI
  rw [if_neg T];by_cases e:q=j
  ·subst e
   constructor
   ·intro h;omega
   ·intro h;omega
  ·exact hF.b q g e
 ·unfold updI
  by_cases e:q=i
  ·exact x29_
  ·rw [if_neg e]
   rcases hF.c q g with o | ⟨s,k,h2,h3,p⟩
   ·exact .inl o
   ·refine .inr ⟨s,k,h2,h3,?_⟩
    rw [if_neg]
    ·exact p
    ·rintro rfl
     have:q=j:=y40_;subst this;omega
 ·unfold updI
  by_cases e:s=r
  ·exact k28_
  ·rw [if_neg e]
   rcases hF.d s U with o | ⟨q,k,h2,h3⟩
   ·exact .inl o
   ·refine .inr ⟨q,k,h2,?_⟩
    have p:hs' q=(s:Int):=by
     rcases h3 with h3 | ⟨rfl,h3⟩
     ·exact h3
     ·omega
    by_cases z:q=i
    ·subst z
     right;refine ⟨rfl,?_⟩;rcases D with A | ⟨q0,A,P⟩
     ·have:=(hF.b q hi (fun e=>C e.symm)).1 A
      omega
     ·
      have Q:q0<R:=by
       rcases u.l q hi with I | ⟨H,J,K,_⟩
       ·omega
       ·omega
      have O:os q0=(q:Int):=by
       rcases u.l q hi with I | ⟨H,J,K,_,L⟩
       ·omega
       ·have:H=q0:=by omega
        subst this;exact L
      have x3:=(hF.e q0 (F q0 P)).trans O;rcases hF.d q0 Q with Z | ⟨W,_,h8,m⟩
      ·omega
      ·have:W=q:=by omega
       subst this;rcases m with m | ⟨m,_⟩
       ·omega
       ·exact absurd m.symm C
    ·rw [if_neg z]
     exact .inl p
 ·unfold updI
  rw [if_neg]
  ·exact hF.e s (F s y)
  ·rintro rfl
   rw [w] at y;cases y
 ·obtain ⟨k,h2⟩:=hF.f S B
  have E:¬ S r:=by
   intro h;obtain ⟨q,e,g⟩:=B r h;have:q=j:=y40_;subst this;exact k g
  refine ⟨fun M=>E (M r hg),fun s hs'=>?_⟩;unfold updI;rw [if_neg]
  ·exact h2 s hs'
  ·rintro rfl
   exact E hs'
structure Great (R:Nat) (adj:List (List Int)) (hs os:Nat→Int) (k:Nat):Prop where
 p:Pairs R adj hs os
 rest:∀ i,k≤i→i<adj.length→hs i=-1
 shut:∀ i,i<k→hs i=-1→∃ S,Clo adj os S∧∀ x,Goes adj i x→S x
theorem Xx0 (c:∀ i,hs i=-1) (h2:∀ r,os r=-1):Great R adj hs os 0:=⟨⟨fun i _=>.inl (c i),fun r _=>.inl (h2 r)⟩,fun i _ _=>c i,fun i d=>by omega⟩
theorem Great.hit (h:Great R adj hs os k) (v:k<adj.length) (hF:Found R adj hs os al k hs' os'):Great R adj hs' os' (k+1):=by
 have x:=h.rest k (le_refl _) v;refine ⟨⟨hF.c,fun r g=>?_⟩,fun i s o=>?_,fun i s q=>?_⟩
 ·rcases hF.d r g with e | ⟨j,p,h2,h3⟩
  ·exact .inl e
  ·refine .inr ⟨j,p,h2,?_⟩
   rcases h3 with h3 | ⟨rfl,h3⟩
   ·exact h3
   ·omega
 ·exact (hF.b i o y40_).1 (h.rest i y40_ o)
 ·have u:i≠k:=by
   rintro rfl;obtain ⟨r,_,e,_⟩:=hF.a;omega
  obtain ⟨S,m,w⟩:=h.shut i y40_ ((hF.b i y40_ u).2 q);refine ⟨S,fun r g=>?_,w⟩;rw [(hF.f S m).2 r g];exact m r g
theorem Great.miss (h:Great R adj hs os k) (ha:∀ r,al r=false) (hM:Missed adj os al k al'):Great R adj hs os (k+1) :=
 ⟨h.p,fun i d hl=>h.rest i y40_ hl,fun i d c=>by
  by_cases e:i=k
  ·subst e
   exact ⟨fun r=>al' r=true,fun r f=>hM.cl r f (ha r),hM.all⟩
  ·exact h.shut i y40_ c⟩
structure Reach (adj:List (List Int)) (hs os:Nat→Int) (k:Nat) (al:Nat→Bool):Prop where
 from_:∀ i,i<k→hs i=-1→∀ x,Goes adj i x→al x=true
 cl:∀ r,al r=true→∃ j:Nat,os r=(j:Int)∧∀ x,Goes adj j x→al x=true
def isL (hs:Nat→Int) (al:Nat→Bool) (i:Nat):Bool:=decide (hs i≠-1) && !al (hs i).toNat
def isR (hs:Nat→Int) (al:Nat→Bool) (i:Nat):Bool:=decide (hs i≠-1) && al (hs i).toNat
theorem Xg6 (f:Pairs R adj hs os) (h:Reach adj hs os adj.length al) (m:OnR R adj):Cov adj (isL hs al) fun r=>decide (∃ i,i<adj.length∧isR hs al i=true∧hs i=(r:Int)):=by
 intro i r c;have g:=goes_lt c;have u:r<R:=by
  obtain ⟨s,e,hs⟩:=m i r c;omega
 have k:al r=true→(decide (∃ i,i<adj.length∧isR hs al i=true∧hs i=(r:Int)))=true:=by
  intro ha;obtain ⟨j,p,_⟩:=h.cl r ha;rcases f.r r u with e | ⟨q,d,h2,h3⟩
  ·omega
  ·refine decide_eq_true ⟨q,d,?_,h3⟩
   unfold isR;rw [h3,Int.toNat_natCast,ha];simp
 rcases f.l i g with e | ⟨s,d,h2,h3,v⟩
 ·exact .inr (k (h.from_ i g e r c))
 ·rcases hs':al s with _ | _
  ·left
   unfold isL;rw [h2,Int.toNat_natCast,hs'];simp
  ·obtain ⟨j,p,o⟩:=h.cl s hs'
   have:j=i:=y40_;subst this;exact .inr (k (o r c))
theorem Xx1 (hs:Nat→Int) (al:Nat→Bool) (n:Nat):cntP n (isL hs al)+cntP n (isR hs al)=cntP n fun i=>decide (hs i≠-1):=by
 rw [Zy7 (fun i=>decide (hs i≠-1)) (fun i=>al (hs i).toNat) n];unfold isL isR;omega
end Go.Proofs.YtigobiacbficaaaGreatDoor.Wp.K
namespace Go.Proofs.YtigobiacbficaaaGreatDoor.Wp.K
theorem Yg6 {R:Nat} {adj:List (List Int)} {hs os:Nat→Int} (h:Great R adj hs os adj.length):∃ al,Reach adj hs os adj.length al:=by
 classical
 refine ⟨fun r=>decide (∃ i,i<adj.length∧hs i=-1∧∃ S,Clo adj os S∧(∀ x,Goes adj i x→S x)∧S r),?_,?_⟩
 ·intro i f e x g
  obtain ⟨S,c,d⟩:=h.shut i f e;exact decide_eq_true ⟨i,f,e,S,c,d,d x g⟩
 ·intro r p
  obtain ⟨i,f,e,S,c,d,k⟩:=of_decide_eq_true p;obtain ⟨j,o,m⟩:=c r k;exact ⟨j,o,fun x g=>decide_eq_true ⟨i,f,e,S,c,d,m x g⟩⟩
theorem Xg7 {R:Nat} {adj:List (List Int)} {hs os:Nat→Int} (k:Pairs R adj hs os) (al:Nat→Bool):cntP R (fun r=>decide (∃ i,i<adj.length∧isR hs al i=true∧hs i=(r:Int)))≤cntP adj.length (isR hs al):=by
 have g:∀ r:Nat,decide (∃ i,i<adj.length∧isR hs al i=true∧hs i=(r:Int))=true→∃ i:Nat,i<adj.length∧isR hs al i=true∧hs i=(r:Int)∧os r=(i:Int):=by
  intro r c;obtain ⟨i,d,f,h2⟩:=of_decide_eq_true c;rcases k.l i d with e | ⟨s,_,e,_,o⟩
  ·omega
  ·have:s=r:=by omega
   subst this;exact ⟨i,d,f,h2,o⟩
 refine cntP_inj (fun r=>(os r).toNat) (fun r _ c=>?_) (fun r q _ _ c m e=>?_)
 ·obtain ⟨i,d,f,_,o⟩:=g r c
  rw [o,Int.toNat_natCast];exact ⟨d,f⟩
 ·obtain ⟨i,_,_,h2,o⟩:=g r c
  obtain ⟨j,_,_,u,p⟩:=g q m;have h:i=j:=by
   rw [o,p] at e;simpa using e
  subst h;omega
def Big (R:Nat) (adj:List (List Int)) (n:Nat):Prop:=(∃ h,Mat R adj h∧msize adj h=n)∧∃ A B,Cov adj A B∧cntP adj.length A+cntP R B≤n
theorem great_big {R:Nat} {adj:List (List Int)} {hs os:Nat→Int} (h:Great R adj hs os adj.length) (c:OnR R adj):Big R adj (msize adj hs):=by
 obtain ⟨al,d⟩:=Yg6 h;refine ⟨⟨hs,h.p.mat,rfl⟩,_,_,Xg6 h.p d c,?_⟩;have e:=Xg7 h.p al;have h2:=Xx1 hs al adj.length;unfold msize;omega
end Go.Proofs.YtigobiacbficaaaGreatDoor.Wp.K
namespace Go.Proofs.YtigobiacbficaaaGreatDoor.Wp
def pickN (n:Nat) (P:Nat→Bool):List Nat:=(List.range n).filter P
theorem mem_pick {n:Nat} {P:Nat→Bool} {i:Nat}:i∈pickN n P↔i<n∧P i=true:=by simp [pickN]
theorem Yp7 {n:Nat} {P Q:Nat→Bool} (h:∀ i,i<n→P i=Q i):pickN n P=pickN n Q:=List.filter_congr fun i c=>h i (List.mem_range.1 c)
theorem Yx7 (n:Nat):pickN n noneP=[]:=List.filter_eq_nil_iff.2 fun _ _=>by simp [noneP]
theorem O0_ {n:Nat} {P:Nat→Bool} {x i:Nat} (c:x<n):i∈pickN n (insP P x)↔i=x∨i∈pickN n P:=by
 rw [mem_pick,mem_pick];by_cases e:i=x
 ·subst e;simp [V0_,c]
 ·rw [X8_ e];simp [e]
def edgP (n:Nat) (e:Nat→Nat × Nat) (P:Nat→Bool):List (Nat × Nat):=(pickN n P).map e
def O1_ (A n:Nat) (e:Nat→Nat × Nat) (P:Nat→Bool):Nat:=A - G9_ A (edgP n e P)
theorem Yp8 {n:Nat} {e:Nat→Nat × Nat} {P:Nat→Bool} {g:Nat→Nat}:Cst (edgP n e P) g↔∀ i,i<n→P i=true→g (e i).1=g (e i).2:=by
 unfold Cst edgP;constructor
 ·intro h i d f
  exact h _ (List.mem_map_of_mem (mem_pick.2 ⟨d,f⟩))
 ·intro h c hc
  obtain ⟨i,d,rfl⟩:=List.mem_map.1 hc;exact h i (mem_pick.1 d).1 (mem_pick.1 d).2
theorem Xg8 {n:Nat} {e:Nat→Nat × Nat} {P:Nat→Bool} {x:Nat} (k:x<n) (g:Nat→Nat):Cst (edgP n e (insP P x)) g↔Cst (edgP n e P ++ [e x]) g:=by
 rw [cst_append,cst_one,Yp8,Yp8];constructor
 ·intro h
  exact ⟨fun i d c=>h i d (by unfold insP;rw [c];simp),h x k (V0_ P x)⟩
 ·rintro ⟨j,h2⟩ i d c
  by_cases f:i=x
  ·rw [f];exact h2
  ·rw [X8_ f] at c;exact j i d c
theorem Vy9 {A n:Nat} {e:Nat→Nat × Nat} (d:∀ i,i<n→(e i).1<A∧(e i).2<A):Rk n (O1_ A n e):=by
 refine Rk.of_step (fun P x=>decide (compF (edgP n e P) (e x).1≠compF (edgP n e P) (e x).2)) (fun {P Q} h=>?_) ?_ (fun {P x} hx hp=>?_) (fun {P x y} hx hy hxy hp hq h=>?_)
 ·unfold O1_ edgP;rw [Yp7 h]
 ·unfold O1_ edgP
  rw [Yx7,List.map_nil,Xy1,Nat.sub_self]
 ·have c:G9_ A (edgP n e (insP P x))=G9_ A (edgP n e P ++ [e x]):=Yf6 (Xg8 hx)
  have f:=Zc2 A (edgP n e P);unfold O1_;rw [c];by_cases h:compF (edgP n e P) (e x).1=compF (edgP n e P) (e x).2
  ·rw [Xg1 h,if_neg k44_]
   rfl
  ·have:=Xy0 h (d x hx).1 (d x hx).2
   rw [if_pos k44_];omega
 ·rw [decide_eq_true_iff] at h ⊢
  intro hc;apply h;have c:compF (edgP n e (insP P x))=compF (edgP n e P ++ [e x]):=Yx1 (Xg8 hx);rw [c,← Yx3,hc,Yx3]
def sumN (g:Nat→Nat):Nat→Nat
 | 0=>0
 | k+1=>sumN g k+g k
theorem U7_ {g h:Nat→Nat}:∀ {k:Nat},(∀ c,c<k→g c=h c)→sumN g k=sumN h k
 | 0,_=>rfl
 | k+1,e=>by rw [sumN,sumN,U7_ fun c hc=>e c y40_,e k y40_]
theorem Zc9 {g:Nat→Nat}:∀ {k:Nat},(∀ c,c<k→g c=0)→sumN g k=0
 | 0,_=>rfl
 | k+1,e=>by rw [sumN,Zc9 fun c hc=>e c y40_,e k y40_]
theorem Zr3 {g h:Nat→Nat} {b:Nat} {d:Nat}:∀ {k:Nat},b<k→(∀ c,c≠b→g c=h c)→g b=h b+d→sumN g k=sumN h k+d
 | 0,hb,_,_=>by omega
 | k+1,hb,e,eb=>by
  rw [sumN,sumN];by_cases f:b=k
  ·subst f
   rw [U7_ (g:=g) (h:=h) fun c hc=>e c y40_,eb];omega
  ·rw [Zr3 (g:=g) (h:=h) (b:=b) (d:=d) y40_ e eb,e k (fun h2=>f h2.symm)]
   omega
def clsN (n:Nat) (cls:Nat→Nat) (P:Nat→Bool) (c:Nat):Nat:=cnt (fun i=>P i && cls i==c) n
def partR (A n:Nat) (cls most:Nat→Nat) (P:Nat→Bool):Nat:=sumN (fun c=>min (most c) (clsN n cls P c)) A
theorem S7_ {n:Nat} {cls:Nat→Nat} {P:Nat→Bool} {x c:Nat} (f:x<n) (d:P x=false):clsN n cls (insP P x) c=clsN n cls P c+if cls x=c then 1 else 0:=by
 unfold clsN;by_cases h:cls x=c
 ·rw [if_pos h,← A4_ (P:=fun i=>P i && cls i==c) f (by simp [d])]
  refine I3_ fun i _=>?_;by_cases e:i=x
  ·subst e;simp [V0_,h]
  ·rw [X8_ e]
   show _=insP (fun i=>P i && cls i==c) x i;rw [X8_ e]
 ·rw [if_neg h,Nat.add_zero]
  refine I3_ fun i _=>?_;by_cases e:i=x
  ·rw [e,show (cls x==c)=false from by simpa using h,Bool.and_false,Bool.and_false]
  ·rw [X8_ e]
theorem Yg7 {A n:Nat} {cls most:Nat→Nat} (hc:∀ i,i<n→cls i<A):Rk n (partR A n cls most):=by
 refine Rk.of_step (fun P x=>decide (clsN n cls P (cls x)<most (cls x))) (fun {P Q} h=>?_) ?_ (fun {P x} hx hp=>?_) (fun {P x y} hx hy hxy hp hq h=>?_)
 ·refine U7_ fun c _=>?_
  unfold clsN;rw [I3_ fun i d=>by rw [h i d]]
 ·exact k19_
 ·refine Zr3 (b:=cls x) (hc x hx) (fun c hne=>?_) ?_
  ·exact k27_
  ·show min _ _=min _ _+_
   rw [S7_ hx hp,if_pos rfl];split
   ·rename_i h;rw [decide_eq_true_iff] at h;omega
   ·rename_i h;rw [decide_eq_true_iff] at h;omega
 ·rw [decide_eq_true_iff] at h ⊢
  rw [S7_ hx hp] at h;omega
def vecP (n:Nat) (v:Nat→Nat→Int) (P:Nat→Bool):List (Nat→Int):=(pickN n P).map v
noncomputable def linR (p:Int) (R n:Nat) (v:Nat→Nat→Int) (P:Nat→Bool):Nat:=L.rk p R (vecP n v P)
theorem Yp9 {n:Nat} {v:Nat→Nat→Int} {P:Nat→Bool} {x:Nat} (d:x<n) (u:Nat→Int):u∈vecP n v (insP P x)↔u∈v x :: vecP n v P:=by
 unfold vecP;rw [List.mem_map,List.mem_cons,List.mem_map];constructor
 ·rintro ⟨i,c,rfl⟩
  rcases (O0_ d).1 c with rfl | c
  ·exact .inl rfl
  ·exact .inr ⟨i,c,rfl⟩
 ·rintro (rfl | ⟨i,c,rfl⟩)
  ·exact ⟨x,(O0_ d).2 (.inl rfl),rfl⟩
  ·exact ⟨i,(O0_ d).2 (.inr c),rfl⟩
theorem Jy6 {p:Int} {R n:Nat} (c:L.Fld p) (v:Nat→Nat→Int):Rk n (linR p R n v):=by
 classical
 refine Rk.of_step (fun P x=>decide (¬ L.InSp p R (vecP n v P) (v x))) (fun {P Q} h=>?_) ?_ (fun {P x} hx hp=>?_) (fun {P x y} hx hy hxy hp hq h=>?_)
 ·unfold linR vecP;rw [Yp7 h]
 ·unfold linR vecP;rw [Yx7,List.map_nil,L.rk_nil]
 ·unfold linR
  rw [L.rk_perm c (Yp9 hx)];by_cases h:L.InSp p R (vecP n v P) (v x)
  ·rw [L.rk_cons_in h,if_neg k44_];rfl
  ·rw [L.rk_cons_out h,if_pos k44_]
 ·rw [decide_eq_true_iff] at h ⊢
  exact fun hc=>h (L.sp_mono (fun u d=>(Yp9 hx u).2 (List.mem_cons_of_mem _ d)) hc)
def CovP (n:Nat) (g:Nat→Nat→Prop) (P A B:Nat→Bool):Prop:=∀ i r,i<n→P i=true→g i r→A i=true∨B r=true
def CovC (n R:Nat) (g:Nat→Nat→Prop) (P:Nat→Bool) (k:Nat):Prop:=∃ A B,CovP n g P A B∧cnt A n+cnt B R≤k
theorem Vx0 {p:Nat→Prop}:∀ k,p k→∃ m,p m∧∀ j,p j→m≤j:=by
 intro k
 induction k using Nat.strongRecOn with
 | ind k ih =>
  intro d;by_cases h:∃ j,j<k∧p j
  ·obtain ⟨j,c,e⟩:=h
   exact ih j c e
  ·exact ⟨k,d,fun j c=>Nat.le_of_not_lt fun hl=>h ⟨j,hl,c⟩⟩
theorem Xg9 (n R:Nat) (g:Nat→Nat→Prop) (P:Nat→Bool):∃ m,CovC n R g P m∧∀ j,CovC n R g P j→m≤j :=
 Vx0 (cnt allP n+cnt noneP R) ⟨allP,noneP,fun _ _ _ _ _=>.inl rfl,le_refl _⟩
noncomputable def covR (n R:Nat) (g:Nat→Nat→Prop) (P:Nat→Bool):Nat:=Classical.choose (Xg9 n R g P)
theorem H5_ (n R:Nat) (g:Nat→Nat→Prop) (P:Nat→Bool):CovC n R g P (covR n R g P):=(Classical.choose_spec (Xg9 n R g P)).1
theorem L7_ {n R:Nat} {g:Nat→Nat→Prop} {P:Nat→Bool} {k:Nat} (h:CovC n R g P k):covR n R g P≤k:=(Classical.choose_spec (Xg9 n R g P)).2 k h
def b01 (b:Bool):Nat:=if b=true then 1 else 0
theorem Yg8 {p q r s:Nat→Bool}:∀ {n:Nat},(∀ i,i<n→b01 (p i)+b01 (q i)≤b01 (r i)+b01 (s i))→cnt p n+cnt q n≤cnt r n+cnt s n
 | 0,_=>by simp [cnt]
 | n+1,h=>by
  have e:=Yg8 (p:=p) (q:=q) (r:=r) (s:=s) (n:=n) fun i d=>h i y40_;have c:=h n y40_;unfold b01 at c;rw [X4_,X4_,X4_,X4_];omega
theorem Yx8 (n R:Nat) (g:Nat→Nat→Prop):Rk n (covR n R g):=by
 refine ⟨fun {P Q} h=>?_,?_,fun {P x} hx c=>?_,fun {P x} hx c=>?_,fun {P x y} hx hy hxy c hq=>?_⟩
 ·have D:∀ {P Q:Nat→Bool},(∀ i,i<n→P i=Q i)→covR n R g P≤covR n R g Q:=fun {P Q} h=>by
   obtain ⟨A,B,hc,z⟩:=H5_ n R g Q;exact L7_ ⟨A,B,fun i r d c=>hc i r d (by rw [← h i d];exact c),z⟩
  exact Nat.le_antisymm (D h) (D fun i d=>(h i d).symm)
 ·have H:CovP n g noneP noneP noneP:=fun _ _ _ c=>absurd c (by simp [noneP])
  have:=L7_ (n:=n) (R:=R) (g:=g) (P:=noneP) (k:=0) ⟨noneP,noneP,H,by rw [F9_,F9_];exact le_refl _⟩;omega
 ·obtain ⟨A,B,hc,z⟩:=H5_ n R g (insP P x)
  exact L7_ ⟨A,B,fun i r d c=>hc i r d (by unfold insP;rw [c];simp),z⟩
 ·obtain ⟨A,B,hc,z⟩:=H5_ n R g P
  refine L7_ ⟨insP A x,B,fun i r d c q=>?_,?_⟩
  ·by_cases e:i=x
   ·rw [e,V0_];exact .inl rfl
   ·rw [X8_ e] at c ⊢;exact hc i r d c q
  ·have:=(C0_ n).one' A hx
   omega
 ·obtain ⟨s,m,p,S⟩:=H5_ n R g (insP P x)
  obtain ⟨u,o,h2,T⟩:=H5_ n R g (insP P y);have O:∀ i,insP (insP P x) y i=(i==y || (i==x || P i)):=fun i=>rfl;let f:Nat→Bool:=fun i=>insP P x i && !s i;let j:Nat→Bool:=fun i=>insP P y i && !u i;have c1:CovC n R g (insP (insP P x) y) (cnt (fun i=>insP (insP P x) y i && !(f i || j i)) n+cnt (orP m o) R):=by
   refine ⟨_,_,fun i r d c q=>?_,le_refl _⟩;rw [c,Bool.true_and];cases t1:f i
   ·cases t2:j i
    ·exact .inl rfl
    ·right
     simp only [j,Bool.and_eq_true,Bool.not_eq_true'] at t2;have:=(h2 i r d t2.1 q).resolve_left (by rw [t2.2];decide);unfold orP;rw [this];simp
   ·right
    simp only [f,Bool.and_eq_true,Bool.not_eq_true'] at t1;have:=(p i r d t1.1 q).resolve_left (by rw [t1.2];decide);unfold orP;rw [this];simp
  have c2:CovC n R g P (cnt (fun i=>P i && !(f i && j i)) n+cnt (andP m o) R):=by
   refine ⟨_,_,fun i r d c q=>?_,le_refl _⟩;rw [c,Bool.true_and];cases t1:f i
   ·exact .inl rfl
   ·cases t2:j i
    ·exact .inl rfl
    ·right
     simp only [f,Bool.and_eq_true,Bool.not_eq_true'] at t1;simp only [j,Bool.and_eq_true,Bool.not_eq_true'] at t2;have E:=(p i r d t1.1 q).resolve_left (by rw [t1.2];decide);have F:=(h2 i r d t2.1 q).resolve_left (by rw [t2.2];decide);unfold andP;rw [E,F];rfl
  have K:=L7_ c1;have L:=L7_ c2;have M:cnt (fun i=>insP (insP P x) y i && !(f i || j i)) n+cnt (fun i=>P i && !(f i && j i)) n≤cnt s n+cnt u n:=Yg8 fun i _=>by
   simp only [f,j,insP,b01];by_cases w:i=x
   ·have v:(i==y)=false:=by rw [w];simpa using hxy
    have I:P i=false:=by rw [w];exact c
    simp only [v,I,show (i==x)=true from by simpa using w];cases s i<;>cases u i<;>simp
   ·have C:(i==x)=false:=by simpa using w
    by_cases v:i=y
    ·have J:P i=false:=by rw [v];exact hq
     simp only [C,J,show (i==y)=true from by simpa using v];cases s i<;>cases u i<;>simp
    ·have G:(i==y)=false:=by simpa using v
     simp only [C,G];cases P i<;>cases s i<;>cases u i<;>simp
  have N:cnt (orP m o) R+cnt (andP m o) R≤cnt m R+cnt o R:=Yg8 fun i _=>by
   simp only [orP,andP,b01];have p:m i=true∨m i=false:=by cases m i<;>simp
   have h2:o i=true∨o i=false:=by cases o i<;>simp
   rcases p with p | p<;>rcases h2 with h2 | h2<;>simp [p,h2]
  omega
end Go.Proofs.YtigobiacbficaaaGreatDoor.Wp
