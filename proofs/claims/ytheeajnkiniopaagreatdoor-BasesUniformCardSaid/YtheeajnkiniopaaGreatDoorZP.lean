/- What is connected, plain: graphs as lists of pairs, each vertex's least connected one, parts, the rank; the document's labels. Nothing of the program here. The parts of a graph, as lists, and how they come vertex by vertex. Nothing of the program here. Combinations modulo a prime, plain. Ranks, plain: what a rank of properties of numbers below n is; that it is submodular; truncated, turned round, mapped, contracted and added ones are ranks again. Nothing of the program here. Matchings and covers, plain. Ranks of what has none within, plain: of edges, of classes, of columns, of those that go with others. Nothing of the program here. -/
import Derived.Lib.Hide
import Derived.Test.YtheeajnkiniopaaGreatDoorX0A
open Nat (le_refl)
namespace Go.Proofs.YtheeajnkiniopaaGreatDoor.Wp
def cnt (p:Nat→Bool) (n:Nat):Nat:=((List.range n).filter p).length
theorem Y7_ (p:Nat→Bool) (n:Nat):cnt p (n+1)=cnt p n+if p n then 1 else 0:=by
 unfold cnt;exact k20_
theorem C9_ (p:Nat→Bool):∀ n,cnt p n≤n
 | 0=>by simp [cnt]
 | n+1=>by
  rw [Y7_];have:=C9_ p n;split<;>omega
theorem O4_ {p q:Nat→Bool}:∀ {n:Nat},(∀ v,v<n→p v=true→q v=true)→cnt p n≤cnt q n
 | 0,_=>by simp [cnt]
 | n+1,h=>by
  have e:=O4_ (p:=p) (q:=q) (n:=n) fun v d=>h v k29_;have c:=h n k29_;rw [Y7_,Y7_];cases hp:p n
  ·simp;omega
  ·simp [c hp];omega
theorem Yr6 {p q:Nat→Bool}:∀ {n:Nat},(∀ v,v<n→p v=true→q v=true)→(∃ y,y<n∧p y=false∧q y=true)→cnt p n<cnt q n
 | 0,_,⟨y,hy,_⟩=>by omega
 | n+1,h,⟨y,hy,hp,hq⟩=>by
  rw [Y7_,Y7_];by_cases e:y=n
  ·subst e
   have:=O4_ (p:=p) (q:=q) (n:=y) fun v d=>h v k29_;simp [hp,hq];omega
  ·have f:=Yr6 (p:=p) (q:=q) (n:=n) (fun v d=>h v k29_) ⟨y,k29_,hp,hq⟩
   have c:=h n k29_;cases hpn:p n
   ·simp;omega
   ·simp [c hpn];omega
theorem Zd9 {p q:Nat→Bool} {y:Nat} (d:p y=true) (e:q y=false) (h:∀ v,v≠y→p v=q v):∀ {n:Nat},cnt p n=cnt q n+if y<n then 1 else 0
 | 0=>by simp [cnt]
 | n+1=>by
  have g:=Zd9 d e h (n:=n);rw [Y7_,Y7_,g];by_cases f:y=n
  ·subst f
   simp [d,e]
  ·rw [h n k29_]
   by_cases c:y<n
   ·rw [if_pos c,if_pos (show y<n+1 by omega)];omega
   ·rw [if_neg c,if_neg (show ¬ y<n+1 by omega)];omega
theorem Yq0 {p:Nat→Bool}:∀ {n:Nat},(∀ v,v<n→p v=true)→cnt p n=n
 | 0,_=>by simp [cnt]
 | n+1,h=>by
  rw [Y7_,h n k29_,Yq0 fun v c=>h v k29_];simp
def Cst (es:List (Nat × Nat)) (g:Nat→Nat):Prop:=∀ e∈es,g e.1=g e.2
def Good (es:List (Nat × Nat)) (f:Nat→Nat):Prop:=Cst es f∧(∀ g,Cst es g→∀ v,g (f v)=g v)∧∀ v,f v≤v
theorem Good.uniq {es j:List (Nat × Nat)} {f f':Nat→Nat} (h:Good es f) (e:Good j f') (k:∀ g,Cst es g↔Cst j g):f=f':=by
 funext v
 have a:=h.2.1 f' ((k f').2 e.1) v;have b:=e.2.1 f ((k f).1 h.1) v;have c:=e.2.2 (f v);have d:=h.2.2 (f' v);omega
theorem Good.idem {es:List (Nat × Nat)} {f:Nat→Nat} (h:Good es f) (v:Nat):f (f v)=f v:=h.2.1 f h.1 v
theorem cst_append {a b:List (Nat × Nat)} {g:Nat→Nat}:Cst (a ++ b) g↔Cst a g∧Cst b g:=by
 unfold Cst;constructor
 ·intro h
  exact ⟨fun e c=>h e (List.mem_append.2 (.inl c)),fun e c=>h e (List.mem_append.2 (.inr c))⟩
 ·rintro ⟨h,k⟩ e c
  rcases List.mem_append.1 c with c | c
  ·exact h e c
  ·exact k e c
theorem cst_one {e:Nat × Nat} {g:Nat→Nat}:Cst [e] g↔g e.1=g e.2:=by simp [Cst]
theorem Vz4 (g:Nat→Nat):Cst [] g:=fun _ h=>absurd h y30_
def M4_ (f:Nat→Nat) (a b:Nat):Nat→Nat:=fun v=>if f v=max a b then min a b else f v
def Q4_ (f:Nat→Nat) (e:Nat × Nat):Nat→Nat:=M4_ f (f e.1) (f e.2)
def compF (es:List (Nat × Nat)):Nat→Nat:=es.foldl Q4_ id
theorem Za0 (f:Nat→Nat) (a:Nat):M4_ f a a=f:=by
 funext v
 unfold M4_;split<;>omega
theorem Xf1:Good [] id:=⟨Vz4 _,fun _ _ _=>rfl,fun _=>le_refl _⟩
theorem Yr7 {es:List (Nat × Nat)} {f:Nat→Nat} (h:Good es f) (e:Nat × Nat):Good (es ++ [e]) (Q4_ f e):=by
 obtain ⟨a,b⟩:=e;have r:=h.idem a;have s:=h.idem b;refine ⟨?_,?_,?_⟩
 ·rw [cst_append]
  refine ⟨fun e p=>?_,cst_one.2 ?_⟩
  ·unfold Q4_ M4_
   rw [h.1 e p]
  ·unfold Q4_ M4_
   simp only;rcases Nat.le_total (f a) (f b) with hl | hl
   ·rw [Nat.max_eq_right hl,Nat.min_eq_left hl]
    split<;>simp_all
   ·rw [Nat.max_eq_left hl,Nat.min_eq_right hl]
    split<;>simp_all
 ·intro g c v
  rw [cst_append,cst_one] at c;have k:=h.2.1 g c.1;have m:=k a;have o:=k b;have d:=k v;have j:g a=g b:=c.2;show g (if f v=max (f a) (f b) then min (f a) (f b) else f v)=g v;split
  ·rename_i hm
   rcases Nat.le_total (f a) (f b) with hl | hl
   ·rw [Nat.max_eq_right hl] at hm
    rw [Nat.min_eq_left hl,m,j,← o,← hm,d]
   ·rw [Nat.max_eq_left hl] at hm
    rw [Nat.min_eq_right hl,o,← j,← m,← hm,d]
  ·exact d
 ·intro v
  have q:=h.2.2 v;show (if f v=max (f a) (f b) then min (f a) (f b) else f v)≤v;split<;>omega
theorem Zl3:∀ (es c:List (Nat × Nat)) (f:Nat→Nat),Good c f→Good (c ++ es) (es.foldl Q4_ f)
 | [],c,f,h=>by simpa using h
 | e :: es,c,f,h=>by
  have:=Zl3 es (c ++ [e]) _ (Yr7 h e);simpa using this
theorem D0_ (es:List (Nat × Nat)):Good es (compF es):=Zl3 es [] id Xf1
theorem Zy2 (es:List (Nat × Nat)) (e:Nat × Nat):compF (es ++ [e])=Q4_ (compF es) e:=by
 unfold compF;rw [List.foldl_append];rfl
theorem Zl4 {a b:List (Nat × Nat)} (h:∀ g,Cst a g↔Cst b g):compF a=compF b:=(D0_ a).uniq (D0_ b) h
theorem Vz5 (es:List (Nat × Nat)) (v:Nat):compF es v≤v:=(D0_ es).2.2 v
theorem Yr8 (es:List (Nat × Nat)) (v:Nat):compF es (compF es v)=compF es v:=(D0_ es).idem v
theorem Zl5 (a b:List (Nat × Nat)) (v:Nat):compF (a ++ b) (compF a v)=compF (a ++ b) v :=
 (D0_ a).2.1 _ ((cst_append.1 (D0_ (a ++ b)).1).1) v
def rootB (f:Nat→Nat) (r:Nat):Bool:=decide (f r=r)
def D1_ (n:Nat) (es:List (Nat × Nat)):Nat:=cnt (rootB (compF es)) n
theorem Zl6 (n:Nat) (es:List (Nat × Nat)):D1_ n es≤n:=C9_ _ _
theorem Zt5 {n:Nat} {a b:List (Nat × Nat)} (h:∀ g,Cst a g↔Cst b g):D1_ n a=D1_ n b:=by unfold D1_;rw [Zl4 h]
theorem Yr9 {n:Nat} {es:List (Nat × Nat)} {e:Nat × Nat} (h:compF es e.1=compF es e.2):D1_ n (es ++ [e])=D1_ n es:=by
 unfold D1_;rw [Zy2,Q4_,h,Za0]
theorem Yf7 {n:Nat} {es:List (Nat × Nat)} {e:Nat × Nat} (h:compF es e.1≠compF es e.2) (o:e.1<n) (h2:e.2<n):D1_ n es=D1_ n (es ++ [e])+1:=by
 obtain ⟨a,b⟩:=e;unfold D1_;rw [Zy2];have g:=D0_ es;generalize compF es=f at *
 have k:=g.idem a;have m:=g.idem b;have s:=g.2.2 a;have u:=g.2.2 b;simp only at h o h2;have j:f (max (f a) (f b))=max (f a) (f b):=by
  rcases Nat.le_total (f a) (f b) with hl | hl
  ·rw [Nat.max_eq_right hl];exact m
  ·rw [Nat.max_eq_left hl];exact k
 have lo:f (min (f a) (f b))=min (f a) (f b):=by
  rcases Nat.le_total (f a) (f b) with hl | hl
  ·rw [Nat.min_eq_left hl];exact k
  ·rw [Nat.min_eq_right hl];exact m
 have:=Zd9 (n:=n) (p:=rootB f) (q:=rootB (Q4_ f (a,b))) (y:=max (f a) (f b)) (by simpa [rootB] using j) ?_ ?_
 ·rw [this,if_pos k29_]
 ·simp only [rootB,Q4_,M4_,decide_eq_false_iff_not]
  rw [if_pos j];omega
 ·intro v r
  simp only [rootB,Q4_,M4_];rw [decide_eq_decide];by_cases c:f v=max (f a) (f b)
  ·rw [if_pos c]
   constructor
   ·intro d;omega
   ·intro d
    rw [← d,lo] at c;omega
  ·rw [if_neg c]
theorem Yf8 (n:Nat):D1_ n []=n:=Yq0 fun v _=>by simp [rootB,compF]
def Lies (n:Nat) (es:List (Nat × Nat)):Prop:=∀ e∈es,e.1<n∧e.2<n
def Inv (es:List (Nat × Nat)) (h:Nat→Nat):Prop:=(∀ g,Cst es g→∀ v,g (h v)=g v)∧∀ v,h v≤v
def J4_ (n:Nat) (f:Nat→Nat) (r:Nat):List Nat:=(List.range n).filter fun v=>decide (f v=r)
def B8_ (n:Nat) (f:Nat→Nat):List Nat:=(List.range n).filter (rootB f)
def A2_ (n:Nat) (f:Nat→Nat):List (List Nat):=(B8_ n f).map (J4_ n f)
theorem J9_ (n:Nat) (f:Nat→Nat):(A2_ n f).length=cnt (rootB f) n:=by simp [A2_,B8_,cnt]
theorem Zy3 (n:Nat) (f:Nat→Nat) (r:Nat):J4_ (n+1) f r=J4_ n f r ++ if f n=r then [n] else []:=by
 unfold J4_;rw [List.range_succ,List.filter_append];by_cases h:f n=r<;>simp [h]
theorem Zy4 (n:Nat) (f:Nat→Nat):B8_ (n+1) f=B8_ n f ++ if f n=n then [n] else []:=by
 unfold B8_;rw [List.range_succ,List.filter_append];by_cases h:f n=n<;>simp [rootB,h]
theorem mem_rootsL {n:Nat} {f:Nat→Nat} {r:Nat}:r∈B8_ n f↔r<n∧f r=r:=by simp [B8_,rootB]
theorem mem_partAt {n:Nat} {f:Nat→Nat} {r v:Nat}:v∈J4_ n f r↔v<n∧f v=r:=by simp [J4_]
theorem Ze0 (n:Nat) (f:Nat→Nat) (r:Nat):(J4_ n f r).length≤n:=by
 have:=List.length_filter_le (fun v=>decide (f v=r)) (List.range n);simpa [J4_] using this
theorem O5_ {f:Nat→Nat} {r:Nat} (c:f r=r):∀ {n:Nat},r<n→(B8_ n f)[cnt (rootB f) r]?=some r
 | 0,h=>by omega
 | n+1,h=>by
  rw [Zy4];have hl:(B8_ n f).length=cnt (rootB f) n:=rfl;by_cases g:r=n
  ·subst g
   rw [if_pos c,List.getElem?_append_right k29_,hl];simp
  ·have d:=O5_ c (n:=n) k29_
   have e:=(List.getElem?_eq_some_iff.1 d).1;rw [List.getElem?_append_left e];exact d
theorem Zt6 {f:Nat→Nat} {r n:Nat} (c:f r=r) (h:r<n):cnt (rootB f) r<cnt (rootB f) n:=by
 have:=(List.getElem?_eq_some_iff.1 (O5_ c h)).1;exact this
def Y9_ (k:Nat) (f:Nat→Nat):List (List Nat):=if f k=k then A2_ k f ++ [[]] else A2_ k f
theorem Yf9 {f:Nat→Nat} {k:Nat} (c:∀ v,f v≤v):J4_ k f k=[]:=by
 rw [List.eq_nil_iff_forall_not_mem];intro v d;have:=mem_partAt.1 d;have:=c v;omega
theorem Zy5 (k:Nat) (f:Nat→Nat):(Y9_ k f).length=cnt (rootB f) (k+1):=by
 unfold Y9_;rw [Y7_];by_cases h:f k=k
 ·simp [h,rootB,J9_]
 ·simp [h,rootB,J9_]
theorem Zt7 {f:Nat→Nat} {k:Nat} (c:∀ v,f v≤v) (hid:∀ v,f (f v)=f v):cnt (rootB f) (f k)<(Y9_ k f).length:=by
 rw [Zy5];exact Zt6 (hid k) (by have:=c k;omega)
theorem Vz6 {f:Nat→Nat} {k:Nat} (c:∀ v,f v≤v) (hid:∀ v,f (f v)=f v):(Y9_ k f)[cnt (rootB f) (f k)]?=some (J4_ k f (f k)):=by
 unfold Y9_;by_cases h:f k=k
 ·rw [if_pos h,h,List.getElem?_append_right (by rw [J9_];exact le_refl _),J9_,Yf9 c]
  simp
 ·have d:f k<k:=by have:=c k;omega
  rw [if_neg h];unfold A2_;rw [List.getElem?_map,O5_ (hid k) d];rfl
theorem Zt8 (n:Nat) (f:Nat→Nat):(B8_ n f).Pairwise (·<·):=List.Pairwise.sublist List.filter_sublist List.pairwise_lt_range
theorem Xf2 {l:List Nat} (h:l.Pairwise (·<·)) {i j:Nat} {r:Nat} (e:l[i]?=some r) (f:l[j]?=some r):i=j:=by
 obtain ⟨a,ha⟩:=List.getElem?_eq_some_iff.1 e;obtain ⟨b,hb⟩:=List.getElem?_eq_some_iff.1 f;rcases Nat.lt_trichotomy i j with c | d | c
 ·have:=List.pairwise_iff_getElem.1 h i j a b c
  omega
 ·exact d
 ·have:=List.pairwise_iff_getElem.1 h j i b a c
  omega
theorem Yg0 {f:Nat→Nat} {k:Nat} (j:∀ v,f v≤v) (hid:∀ v,f (f v)=f v) :
  A2_ (k+1) f=(Y9_ k f).set (cnt (rootB f) (f k)) (J4_ k f (f k) ++ [k]):=by
 refine List.ext_getElem? fun i=>?_;have s:(B8_ (k+1) f).length=cnt (rootB f) (k+1):=rfl;by_cases c:i=cnt (rootB f) (f k)
 ·subst c
  rw [List.getElem?_set_self (Zt7 j hid)];unfold A2_;rw [List.getElem?_map,O5_ (hid k) (by have:=j k;omega)];simp [Zy3]
 ·rw [List.getElem?_set_ne (fun h=>c h.symm)]
  unfold A2_ Y9_;rw [List.getElem?_map,Zy4];have o:∀ r,(B8_ k f)[i]?=some r→J4_ (k+1) f r=J4_ k f r:=by
   intro r e;have m:=mem_rootsL.1 (List.mem_of_getElem? e);rw [Zy3];by_cases g:f k=r
   ·exfalso
    have h2:=O5_ (f:=f) (r:=r) m.2 (n:=k) m.1;exact c (by rw [g];exact Xf2 (Zt8 k f) e h2)
   ·simp [g]
  by_cases h:f k=k
  ·rw [if_pos h,if_pos h]
   have q:i≠(B8_ k f).length:=by rw [h] at c;exact c
   have p:(A2_ k f).length=(B8_ k f).length:=by simp [A2_]
   by_cases d:i<(B8_ k f).length
   ·rw [List.getElem?_append_left d,List.getElem?_append_left (by rw [p];exact d)]
    unfold A2_;rw [List.getElem?_map,List.getElem?_eq_getElem d];simp [o _ (List.getElem?_eq_getElem d)]
   ·rw [List.getElem?_eq_none k30_,List.getElem?_eq_none (by simp [p];omega)]
    rfl
  ·rw [if_neg h,if_neg h,List.append_nil]
   unfold A2_;rw [List.getElem?_map];rcases e:(B8_ k f)[i]? with _ | r
   ·rfl
   ·simp [o r e]
end Go.Proofs.YtheeajnkiniopaaGreatDoor.Wp
namespace Go.Proofs.YtheeajnkiniopaaGreatDoor.Wp.L
abbrev Vec:=Nat→Int
def Fld (p:Int):Prop:=∀ c:Int,¬ p ∣ c→∃ d:Int,p ∣ c * d - 1
def InSp (p:Int) (R:Nat):List Vec→Vec→Prop
 | [],v=>∀ r,r<R→p ∣ v r
 | u :: us,v=>∃ c:Int,InSp p R us fun r=>v r - c * u r
variable {p:Int} {R:Nat}
theorem Za1:∀ {us:List Vec} {v w:Vec},InSp p R us v→(∀ r,r<R→p ∣ v r - w r)→InSp p R us w
 | [],v,w,h,e=>fun r d=>by
  have f:=Int.dvd_sub (h r d) (e r d)
  rwa [show v r - (v r - w r)=w r by omega] at f
 | u :: us,v,w,⟨c,h⟩,e=>⟨c,Za1 h fun r d=>by
  have:=e r d
  rwa [show v r - c * u r - (w r - c * u r)=v r - w r by omega]⟩
theorem V8_ {us:List Vec} {v w:Vec} (h:InSp p R us v) (e:∀ r,r<R→v r=w r):InSp p R us w :=
 Za1 h fun r c=>by rw [e r c];simp
theorem Zy6:∀ {us:List Vec},InSp p R us fun _=>0
 | []=>fun _ _=>Int.dvd_zero p
 | _ :: _=>⟨0,V8_ Zy6 fun r _=>by simp⟩
theorem Za2:∀ {us:List Vec} {v w:Vec},InSp p R us v→InSp p R us w→InSp p R us fun r=>v r+w r
 | [],_,_,h,k=>fun r e=>Int.dvd_add (h r e) (k r e)
 | u :: us,v,w,⟨c,h⟩,⟨d,k⟩=>⟨c+d,V8_ (Za2 h k) fun r _=>by dsimp only;rw [Int.add_mul];omega⟩
theorem Zy7:∀ {us:List Vec} {v:Vec} (k:Int),InSp p R us v→InSp p R us fun r=>k * v r
 | [],_,k,h=>fun r d=>Int.dvd_trans (h r d) (Int.dvd_mul_left k _)
 | u :: us,v,k,⟨c,h⟩=>⟨k * c,V8_ (Zy7 k h) fun r _=>by rw [Int.mul_sub,Int.mul_assoc]⟩
theorem Ys0 {us:List Vec} {v w:Vec} (h:InSp p R us v) (k:InSp p R us w):InSp p R us fun r=>v r - w r :=
 V8_ (Za2 h (Zy7 (-1) k)) fun r _=>by omega
theorem sp_up {us:List Vec} {u v:Vec} (h:InSp p R us v):InSp p R (u :: us) v:=⟨0,V8_ h fun r _=>by simp⟩
theorem Zt9 (us:List Vec) (u:Vec):InSp p R (u :: us) u:=⟨1,V8_ Zy6 fun r _=>by omega⟩
theorem D2_:∀ {us:List Vec} {u:Vec},u∈us→InSp p R us u
 | _ :: us,u,h=>by
  rcases List.mem_cons.1 h with rfl | h
  ·exact Zt9 us _
  ·exact sp_up (D2_ h)
theorem C1_:∀ {us d:List Vec} {v:Vec},(∀ u∈us,InSp p R d u)→InSp p R us v→InSp p R d v
 | [],d,v,_,h=>Za1 Zy6 fun r f=>by
  have:=h r f;rw [show (0:Int) - v r=-(v r) by omega];exact (Int.dvd_neg).2 this
 | u :: us,d,v,hs,⟨c,h⟩=>by
  have e:=C1_ (fun x hx=>hs x x33_) h;have h2:=Zy7 c (hs u y30_);exact V8_ (Za2 e h2) fun r _=>by omega
theorem sp_mono {us c:List Vec} {v:Vec} (hs:∀ u∈us,u∈c) (h:InSp p R us v):InSp p R c v:=C1_ (fun u d=>D2_ (hs u d)) h
theorem Vz7 (f:Fld p) {us:List Vec} {u v:Vec} (h:InSp p R (u :: us) v) (g:¬ InSp p R us v):InSp p R (v :: us) u:=by
 obtain ⟨c,h⟩:=h;by_cases hc:p ∣ c
 ·exact absurd (Za1 h fun r j=>by
   rw [show v r - c * u r - v r=-(c * u r) by omega];exact (Int.dvd_neg).2 (Int.dvd_trans hc (Int.dvd_mul_right c _))) g
 ·obtain ⟨d,hd⟩:=f c hc
  have e:=Zy7 (-d) h;refine ⟨d,Za1 e fun r _=>?_⟩;rw [show -d * (v r - c * u r) - (u r - d * v r)=(c * d - 1) * u r by
   rw [Int.mul_sub,Int.sub_mul,Int.neg_mul,Int.neg_mul,← Int.mul_assoc d c,Int.mul_comm d c];omega]
  exact Int.dvd_trans hd (Int.dvd_mul_right _ _)
def Ind (p:Int) (R:Nat):List Vec→Prop
 | []=>True
 | u :: us=>¬ InSp p R us u∧Ind p R us
theorem Yq1 (q:Fld p) {w:Vec} {d:List Vec}:∀ {us:List Vec},Ind p R us→(∀ u∈us,InSp p R (w :: d) u) →
  (∀ u∈us,InSp p R d u)∨∃ f u,Ind p R f∧(∀ x∈f,InSp p R d x)∧us.length=f.length+1∧(∀ v,InSp p R (u :: f) v→InSp p R us v)∧(∀ x∈us,InSp p R (u :: f) x)∧InSp p R (w :: d) u∧¬ InSp p R d u
 | [],_,_=>.inl fun u G=>by cases G
 | h :: t,⟨hi,ht⟩,hs=>by
  have s:=hs h y30_;rcases Yq1 q ht (fun x hx=>hs x x33_) with o | ⟨e,u,E,hs',hl,g,C,B,A⟩
  ·by_cases h2:InSp p R d h
   ·exact .inl fun x hx=>by
     rcases List.mem_cons.1 hx with rfl | hx
     ·exact h2
     ·exact o x hx
   ·exact .inr ⟨t,h,ht,o,rfl,fun v k=>k,fun x hx=>D2_ hx,s,h2⟩
  ·right
   have H:InSp p R (u :: d) w:=Vz7 q B A;have D:InSp p R (u :: d) h:=C1_ (fun x hx=>by
    rcases List.mem_cons.1 hx with rfl | hx
    ·exact H
    ·exact sp_up (D2_ hx)) s
   obtain ⟨c,hc⟩:=D;have j:InSp p R t u:=g u (Zt9 e u);refine ⟨(fun r=>h r - c * u r) :: e,u,⟨fun hb=>hi ?_,E⟩,?_,by simp [hl],?_,?_,B,A⟩
   ·have h3:InSp p R t fun r=>h r - c * u r:=g _ (sp_up hb)
    exact V8_ (Za2 h3 (Zy7 c j)) fun r _=>by omega
   ·intro x hx
    rcases List.mem_cons.1 hx with rfl | hx
    ·exact hc
    ·exact hs' x hx
   ·intro v k
    refine C1_ (fun x hx=>?_) k;rcases List.mem_cons.1 hx with rfl | hx
    ·exact sp_up j
    ·rcases List.mem_cons.1 hx with rfl | hx
     ·exact Ys0 (Zt9 t h) (Zy7 c (sp_up j))
     ·exact sp_up (g x (D2_ x33_))
   ·intro x hx
    have F:∀ y,InSp p R (u :: e) y→InSp p R (u :: (fun r=>h r - c * u r) :: e) y:=fun y I=>sp_mono (fun z m=>by
     rcases List.mem_cons.1 m with rfl | m
     ·simp
     ·simp [m]) I
    rcases List.mem_cons.1 hx with rfl | hx
    ·exact V8_ (Za2 (D2_ (us:=u :: (fun r=>x r - c * u r) :: e) (u:=fun r=>x r - c * u r) y30_) (Zy7 c (D2_ (u:=u) y30_))) fun r _=>by omega
    ·exact F x (C x hx)
theorem Ys1 (c:Fld p):∀ {d us:List Vec},Ind p R us→(∀ u∈us,InSp p R d u)→us.length≤d.length
 | [],us,hi,hs=>by
  cases us with
  | nil=>exact le_refl _
  | cons u us =>
   refine absurd ?_ hi.1;exact C1_ (fun x f=>by cases f) (hs u y30_)
 | w :: d,us,hi,hs=>by
  rcases Yq1 c hi hs with h | ⟨g,u,e,hs',hl,_⟩
  ·have:=Ys1 c hi h
   simp;omega
  ·have:=Ys1 c e hs'
   simp;omega
open Classical in
noncomputable def bs (p:Int) (R:Nat):List Vec→List Vec
 | []=>[]
 | u :: us=>if InSp p R us u then bs p R us else u :: bs p R us
theorem Yq2:∀ {us:List Vec},∀ x∈bs p R us,x∈us
 | u :: us,x,h=>by
  unfold bs at h;split at h
  ·simp [Yq2 x h]
  ·rcases List.mem_cons.1 h with rfl | h
   ·simp
   ·simp [Yq2 x h]
theorem Ze1:∀ {us:List Vec} {v:Vec},InSp p R us v→InSp p R (bs p R us) v
 | [],_,h=>h
 | u :: us,v,h=>by
  unfold bs;split
  ·rename_i hu
   refine C1_ (fun x d=>?_) h;rcases List.mem_cons.1 d with rfl | d
   ·exact Ze1 hu
   ·exact Ze1 (D2_ d)
  ·obtain ⟨c,h⟩:=h
   exact ⟨c,Ze1 h⟩
theorem Ys2:∀ {us:List Vec},Ind p R (bs p R us)
 | []=>trivial
 | u :: us=>by
  unfold bs;split
  ·exact Ys2
  ·rename_i hu
   exact ⟨fun h=>hu (sp_mono Yq2 h),Ys2⟩
noncomputable def rk (p:Int) (R:Nat) (us:List Vec):Nat:=(bs p R us).length
theorem rk_le (d:Fld p) {us c:List Vec} (h:∀ u∈us,InSp p R c u):rk p R us≤rk p R c :=
 Ys1 d Ys2 fun u e=>Ze1 (h u (Yq2 u e))
theorem rk_eq (d:Fld p) {us c:List Vec} (h:∀ u∈us,InSp p R c u) (k:∀ w∈c,InSp p R us w):rk p R us=rk p R c :=
 Nat.le_antisymm (rk_le d h) (rk_le d k)
theorem rk_nil:rk p R []=0:=rfl
theorem rk_cons_in {us:List Vec} {u:Vec} (h:InSp p R us u):rk p R (u :: us)=rk p R us:=by
 unfold rk;rw [show bs p R (u :: us)=bs p R us from if_pos h]
theorem rk_cons_out {us:List Vec} {u:Vec} (h:¬ InSp p R us u):rk p R (u :: us)=rk p R us+1:=by
 unfold rk;rw [show bs p R (u :: us)=u :: bs p R us from if_neg h];rfl
theorem rk_perm (d:Fld p) {us c:List Vec} (h:∀ x,x∈us↔x∈c):rk p R us=rk p R c :=
 rk_eq d (fun u e=>D2_ ((h u).1 e)) (fun w f=>D2_ ((h w).2 f))
theorem Yg1 (c:Fld p) {us:List Vec} {u:Vec} (h:InSp p R us u):rk p R (us ++ [u])=rk p R us:=by
 rw [← rk_cons_in h];exact rk_perm c fun x=>by simp [or_comm]
theorem Zu0 (c:Fld p) {us:List Vec} {u:Vec} (h:¬ InSp p R us u):rk p R (us ++ [u])=rk p R us+1:=by
 rw [← rk_cons_out h];exact rk_perm c fun x=>by simp [or_comm]
def lin:List Int→List Vec→Vec
 | c :: cs,u :: us=>fun r=>c * u r+lin cs us r
 | _,_=>fun _=>0
theorem Xr2:∀ (cs:List Int) (us:List Vec),InSp p R us (lin cs us)
 | [],us=>by cases us<;>exact Zy6
 | c :: cs,[]=>Zy6
 | c :: cs,u :: us=>⟨c,V8_ (Xr2 cs us) fun r _=>by simp only [lin];omega⟩
end Go.Proofs.YtheeajnkiniopaaGreatDoor.Wp.L
namespace Go.Proofs.YtheeajnkiniopaaGreatDoor.Wp.L
structure Line where
 place:Nat
 left:List Int
 lead:Nat
 inv:Int
 by_:Nat→Int
def G2_:List Int→Nat→Int
 | [],_=>-1
 | x :: xs,k=>if x=0 then G2_ xs (k+1) else (k:Int)
def leadI (l:List Int):Int:=G2_ l 0
theorem U1_:∀ {l:List Int} {a i:Nat},i<l.length→l.getD i 0≠0→(∀ j,j<i→l.getD j 0=0)→G2_ l a=((a+i:Nat):Int)
 | x :: xs,a,0,_,hx,_=>by
  unfold G2_;rw [if_neg (by simpa using hx)];rfl
 | x :: xs,a,i+1,hi,hx,hz=>by
  unfold G2_;rw [if_pos (by simpa using hz 0 k29_),U1_ (i:=i) k35_ (by simpa using hx) (fun j c=>by simpa using hz (j+1) k29_)];congr 1;omega
theorem O6_:∀ {l:List Int} {a:Nat},(∀ j,j<l.length→l.getD j 0=0)→G2_ l a=-1
 | [],_,_=>rfl
 | x :: xs,a,hz=>by
  unfold G2_;rw [if_pos (by simpa using hz 0 y30_),O6_ (fun j c=>by simpa using hz (j+1) (by simpa using c))]
theorem Zl7 {l:List Int} {i:Nat} (c:i<l.length) (d:l.getD i 0≠0) (e:∀ j,j<i→l.getD j 0=0):leadI l=(i:Int):=by
 unfold leadI;rw [U1_ c d e];congr 1;omega
theorem S1_ {l:List Int} (c:∀ j,j<l.length→l.getD j 0=0):leadI l=-1:=O6_ c
theorem M9_:∀ (l:List Int),(leadI l=-1∧∀ j,l.getD j 0=0)∨∃ i,i<l.length∧leadI l=(i:Int)∧l.getD i 0≠0∧∀ j,j<i→l.getD j 0=0:=by
 intro l;by_cases h:∀ j,j<l.length→l.getD j 0=0
 ·refine .inl ⟨S1_ h,fun j=>?_⟩
  by_cases c:j<l.length
  ·exact h j c
  ·simp [List.getD,List.getElem?_eq_none (Nat.le_of_not_lt c)]
 ·right
  have:∃ i,i<l.length∧l.getD i 0≠0∧∀ j,j<i→l.getD j 0=0:=by
   apply Classical.byContradiction;intro m;apply h;intro j
   induction j using Nat.strongRecOn with
   | ind j ih =>
    intro c;apply Classical.byContradiction;intro o;exact m ⟨j,c,o,fun k g=>ih k g k29_⟩
  obtain ⟨i,d,e,f⟩:=this;exact ⟨i,d,Zl7 d e f,e,f⟩
def upd (f:Nat→Int) (a:Nat) (t:Int):Nat→Int:=fun x=>if x=a then t else f x
def subU (p:Int) (left:List Int) (l:Line) (t:Int) (k:Nat):List Int :=
 (List.range left.length).map fun r=>if l.lead≤r∧r<k then (left.getD r 0 - t * l.left.getD r 0) % p else left.getD r 0
def tOf (p:Int) (left:List Int) (l:Line):Int:=(left.getD l.lead 0 * l.inv) % p
def stepT (p:Int) (s:List Int × (Nat→Int)) (l:Line):List Int × (Nat→Int) :=
 if tOf p s.1 l=0 then s else (subU p s.1 l (tOf p s.1 l) s.1.length,upd s.2 l.place (tOf p s.1 l))
def takeT (p:Int) (ls:List Line) (col:List Int):List Int × (Nat→Int):=ls.foldl (stepT p) (col,fun _=>0)
def addL (p:Int) (inv:Int→Int) (ls:List Line) (i:Nat) (col:List Int):List Line :=
 if leadI (takeT p ls col).1<0 then ls
 else ls ++ [⟨i,(takeT p ls col).1,(leadI (takeT p ls col).1).toNat,inv ((takeT p ls col).1.getD (leadI (takeT p ls col).1).toNat 0),(takeT p ls col).2⟩]
def M5_ (p:Int) (inv:Int→Int) (cols:List (List Int)):Nat→List Line
 | 0=>[]
 | k+1=>addL p inv (M5_ p inv cols k) k (cols.getD k [])
theorem Zq7 {n r:Nat} (f:Nat→Int):((List.range n).map f).getD r 0=if r<n then f r else 0:=by
 by_cases h:r<n
 ·simp [List.getD,h]
 ·simp [List.getD,h]
theorem V9_ {p:Int} {left:List Int} {l:Line} {t:Int} {k:Nat}:(subU p left l t k).length=left.length:=by simp [subU]
theorem I7_ {p:Int} {left:List Int} {l:Line} {t:Int} {k r:Nat} (h:r<left.length) :
  (subU p left l t k).getD r 0=if l.lead≤r∧r<k then (left.getD r 0 - t * l.left.getD r 0) % p else left.getD r 0:=by
 unfold subU;rw [Zq7,if_pos h]
theorem Ze2 {l:List Int} {r:Nat} (h:l.length≤r):l.getD r 0=0:=by simp [List.getD,List.getElem?_eq_none h]
def InR (p:Int) (R:Nat) (l:List Int):Prop:=l.length=R∧∀ x∈l,0≤x∧x<p
theorem InR.get {p:Int} {R:Nat} {l:List Int} (h:InR p R l) (d:0<p) (r:Nat):0≤l.getD r 0∧l.getD r 0<p:=by
 by_cases c:r<l.length
 ·rw [List.getD_eq_getElem?_getD,List.getElem?_eq_getElem c]
  exact h.2 _ (List.getElem_mem c)
 ·rw [Ze2 k29_]
  omega
theorem Yg2 {p:Int} {R:Nat} {l:List Int} (hl:l.length=R) (h:∀ r,r<R→0≤l.getD r 0∧l.getD r 0<p):InR p R l:=by
 refine ⟨hl,fun x d=>?_⟩;obtain ⟨i,c,rfl⟩:=List.mem_iff_getElem.1 d;have:=h i k29_
 rwa [List.getD_eq_getElem?_getD,List.getElem?_eq_getElem c] at this
theorem Zy8 {p x:Int} (h:p ∣ x) (c:0≤x) (d:x<p):x=0:=by
 have:=Int.emod_eq_of_lt c d;rw [Int.emod_eq_zero_of_dvd h] at this;exact this.symm
theorem D7_ {p:Int} (x:Int):p ∣ x - x % p:=Int.dvd_self_sub_emod
def vec (l:List Int):Vec:=fun r=>l.getD r 0
structure LineOk (p:Int) (R:Nat) (l:Line):Prop where
 row:InR p R l.left
 lt:l.lead<R
 zero:∀ r,r<l.lead→l.left.getD r 0=0
 inv:p ∣ l.left.getD l.lead 0 * l.inv - 1
 invr:0≤l.inv∧l.inv<p
 byr:∀ x,0≤l.by_ x∧l.by_ x<p
 byp:∀ x,l.by_ x≠0→x<l.place
def Ech (p:Int) (R:Nat):List Line→Prop
 | []=>True
 | l :: ls=>LineOk p R l∧(∀ m∈ls,m.left.getD l.lead 0=0∧l.place<m.place)∧Ech p R ls
structure Taken (p:Int) (R:Nat) (ls:List Line) (left:List Int) (f:Nat→Int) (s:List Int × (Nat→Int)):Prop where
 row:InR p R s.1
 byr:∀ x,0≤s.2 x∧s.2 x<p
 off:∀ x,(∀ l∈ls,l.place≠x)→s.2 x=f x
 keep:∀ r,(∀ l∈ls,l.left.getD r 0=0)→s.1.getD r 0=left.getD r 0
 zero:∀ l∈ls,s.1.getD l.lead 0=0
 sum:∀ r,r<R→p ∣ left.getD r 0 - s.1.getD r 0 - lin (ls.map fun l=>s.2 l.place) (ls.map fun l=>vec l.left) r
theorem taken {p:Int} {R:Nat} (o:0<p):∀ {j:List Line} {left:List Int} {f:Nat→Int},Ech p R j→InR p R left→(∀ x,0≤f x∧f x<p)→(∀ l∈j,f l.place=0)→Taken p R j left f (j.foldl (stepT p) (left,f))
 | [],left,f,_,hl,hf,_=>⟨hl,hf,fun _ _=>rfl,fun _ _=>rfl,fun _ h=>q37_,fun r _=>(by simp [lin])⟩
 | l :: j,left,f,⟨hok,hbeh,hech⟩,hl,hf,hz=>by
  rw [List.foldl_cons];have A:∀ m∈j,m.place≠l.place:=fun m c e=>by have:=(hbeh m c).2;omega
  have E:∀ m∈j,f m.place=0:=fun m c=>hz m (by simp [c]);by_cases B:tOf p left l=0
  ·have hs:stepT p (left,f) l=(left,f):=by unfold stepT;rw [if_pos B]
   rw [hs];have d:=taken o hech hl hf E;have v:left.getD l.lead 0=0:=by
    have D:=hl.get o l.lead;refine Zy8 ?_ D.1 D.2;have q:p ∣ left.getD l.lead 0 * l.inv:=Int.dvd_of_emod_eq_zero B;have h2:=Int.dvd_trans hok.inv (Int.dvd_mul_left (left.getD l.lead 0) _);have h3:=Int.dvd_trans q (Int.dvd_mul_right _ (l.left.getD l.lead 0));have w:=Int.dvd_sub h3 h2;have e:left.getD l.lead 0 * l.inv * l.left.getD l.lead 0 - left.getD l.lead 0 * (l.left.getD l.lead 0 * l.inv - 1)=left.getD l.lead 0:=by
     rw [Int.mul_sub,Int.mul_one,Int.mul_assoc,Int.mul_comm l.inv];omega
    rwa [e] at w
   refine ⟨d.row,d.byr,fun x u=>d.off x fun m c=>u m (by simp [c]),fun r g=>d.keep r fun m c=>g m (by simp [c]),fun m c=>?_,fun r g=>?_⟩
   ·rcases List.mem_cons.1 c with rfl | c
    ·rw [d.keep _ fun k z=>(hbeh k z).1]
     exact v
    ·exact d.zero m c
   ·have:=d.sum r g
    simp only [List.map_cons,lin];rw [d.off l.place A,hz l y30_,Int.zero_mul,Int.zero_add];exact this
  ·obtain ⟨t,C⟩:∃ t,t=tOf p left l:=⟨_,rfl⟩
   have hs:stepT p (left,f) l=(subU p left l t left.length,upd f l.place t):=by unfold stepT;rw [if_neg B,← C]
   rw [hs];have I:0≤t∧t<p:=by rw [C];exact ⟨Int.emod_nonneg _ k29_,Int.emod_lt_of_pos _ o⟩
   have s:∀ r,r<R→(subU p left l t left.length).getD r 0=(left.getD r 0 - t * l.left.getD r 0) % p:=by
    intro r g;rw [I7_ (by rw [hl.1];exact g)];by_cases h:l.lead≤r
    ·rw [if_pos ⟨h,by rw [hl.1];exact g⟩]
    ·rw [if_neg k29_,hok.zero r k29_,Int.mul_zero,Int.sub_zero]
     have:=hl.get o r;exact (Int.emod_eq_of_lt this.1 this.2).symm
   have H:InR p R (subU p left l t left.length):=Yg2 (by rw [V9_];exact hl.1) fun r g=>by
    rw [s r g];exact ⟨Int.emod_nonneg _ k29_,Int.emod_lt_of_pos _ o⟩
   have F:∀ r,l.left.getD r 0=0→(subU p left l t left.length).getD r 0=left.getD r 0:=by
    intro r v;by_cases g:r<R
    ·rw [s r g,v,Int.mul_zero,Int.sub_zero]
     have:=hl.get o r;exact Int.emod_eq_of_lt this.1 this.2
    ·rw [Ze2 (by rw [V9_,hl.1];omega),Ze2 (by rw [hl.1];omega)]
   have G:(subU p left l t left.length).getD l.lead 0=0:=by
    rw [s _ hok.lt];apply Int.emod_eq_zero_of_dvd;have q:p ∣ left.getD l.lead 0 * l.inv - t:=by rw [C];exact D7_ _
    have h2:=Int.dvd_trans q (Int.dvd_mul_right _ (l.left.getD l.lead 0));have h3:=Int.dvd_trans hok.inv (Int.dvd_mul_left (left.getD l.lead 0) _);have w:=Int.dvd_sub h2 h3;have e:(left.getD l.lead 0 * l.inv - t) * l.left.getD l.lead 0 - left.getD l.lead 0 * (l.left.getD l.lead 0 * l.inv - 1)=left.getD l.lead 0 - t * l.left.getD l.lead 0:=by
     rw [Int.mul_sub,Int.mul_one,Int.sub_mul,Int.mul_assoc,Int.mul_comm l.inv];omega
    rwa [e] at w
   have d:=taken o (f:=upd f l.place t) hech H (fun x=>by
    unfold upd;split
    ·exact I
    ·exact hf x) (fun m c=>by
    unfold upd;rw [if_neg (A m c)];exact E m c)
   refine ⟨d.row,d.byr,fun x u=>?_,fun r g=>?_,fun m c=>?_,fun r g=>?_⟩
   ·rw [d.off x fun m c=>u m (by simp [c])]
    unfold upd;rw [if_neg fun e=>u l y30_ e.symm]
   ·rw [d.keep r fun m c=>g m (by simp [c])]
    exact F r (g l y30_)
   ·rcases List.mem_cons.1 c with rfl | c
    ·rw [d.keep _ fun k z=>(hbeh k z).1]
     exact G
    ·exact d.zero m c
   ·have q:=d.sum r g
    simp only [List.map_cons,lin];rw [d.off l.place A,show upd f l.place t l.place=t by unfold upd;rw [if_pos rfl]];have h2:p ∣ left.getD r 0 - t * l.left.getD r 0 - (subU p left l t left.length).getD r 0:=by rw [s r g];exact D7_ _
    have h3:=Int.dvd_add q h2;generalize lin (j.map fun J=>_) _ r=y at h3 ⊢;unfold vec;have e:(subU p left l t left.length).getD r 0 - ((j.foldl (stepT p) (subU p left l t left.length,upd f l.place t)).1).getD r 0 - y+(left.getD r 0 - t * l.left.getD r 0 - (subU p left l t left.length).getD r 0)
      = left.getD r 0 - ((j.foldl (stepT p) (subU p left l t left.length,upd f l.place t)).1).getD r 0 - (t * l.left.getD r 0+y):=k29_
    rwa [e] at h3
variable {p:Int} {R:Nat}
theorem Yq3:∀ {c:List Line} {l:Line},Ech p R c→LineOk p R l→(∀ m∈c,l.left.getD m.lead 0=0∧m.place<l.place)→Ech p R (c ++ [l])
 | [],l,_,hl,_=>⟨hl,fun _ h=>q37_,trivial⟩
 | m :: c,l,⟨hm,hb,he⟩,hl,h=>by
  refine ⟨hm,fun x hx=>?_,Yq3 he hl fun x hx=>h x x33_⟩;rcases List.mem_append.1 hx with hx | hx
  ·exact hb x hx
  ·obtain rfl:=List.mem_singleton.1 hx
   exact h m y30_
theorem Xr3:∀ {c:List Line},Ech p R c→∀ l∈c,LineOk p R l
 | m :: c,⟨hm,_,he⟩,l,hl=>by
  rcases List.mem_cons.1 hl with rfl | hl
  ·exact hm
  ·exact Xr3 he l hl
theorem Yq4:∀ {j:List Line} {v:Vec},Ech p R j→InSp p R (j.map fun l=>vec l.left) v→(∀ l∈j,p ∣ v l.lead)→∀ r,r<R→p ∣ v r
 | [],v,_,h,_=>h
 | l :: j,v,⟨hok,hb,he⟩,⟨c,h⟩,g=>by
  have A:∀ {us:List Line} {w:Vec},(∀ m∈us,m.left.getD l.lead 0=0)→InSp p R (us.map fun l=>vec l.left) w→p ∣ w l.lead:=by
   intro us
   induction us with
   | nil=>intro w _ h;exact h _ hok.lt
   | cons x us o =>
    intro w g ⟨d,h⟩;have k:p ∣ w l.lead - d * vec x.left l.lead:=o (fun m f=>g m (by simp [f])) h;have h2:vec x.left l.lead=0:=g x y30_
    rwa [h2,Int.mul_zero,Int.sub_zero] at k
  have k:p ∣ v l.lead - c * vec l.left l.lead:=A (fun m f=>(hb m f).1) h;have h2:=g l y30_;have h3:p ∣ c * vec l.left l.lead:=by
   have:=Int.dvd_sub h2 k
   rwa [show v l.lead - (v l.lead - c * vec l.left l.lead)=c * vec l.left l.lead by omega] at this
  have hc:p ∣ c:=by
   have u:=Int.dvd_trans h3 (Int.dvd_mul_right _ l.inv);have y:=Int.dvd_trans hok.inv (Int.dvd_mul_left c _);have q:=Int.dvd_sub u y;unfold vec at q;have e:c * l.left.getD l.lead 0 * l.inv - c * (l.left.getD l.lead 0 * l.inv - 1)=c:=by
    rw [Int.mul_sub,Int.mul_one,Int.mul_assoc];omega
   rwa [e] at q
  have s:∀ r,p ∣ c * vec l.left r:=fun r=>Int.dvd_trans hc (Int.dvd_mul_right c _);have o:=Yq4 he h fun m f=>Int.dvd_sub (g m (by simp [f])) (s _);intro r z;have:=Int.dvd_add (o r z) (s r)
  rwa [show v r - c * vec l.left r+c * vec l.left r=v r by omega] at this
def colV (cols:List (List Int)) (i:Nat):Vec:=vec (cols.getD i [])
def B9_ (cols:List (List Int)) (k:Nat):List Vec:=(List.range k).map (colV cols)
theorem G3_ (cols:List (List Int)) (k:Nat):B9_ cols (k+1)=B9_ cols k ++ [colV cols k]:=by simp [B9_,List.range_succ]
def InB (p:Int) (R:Nat) (cols:List (List Int)) (i:Nat):Prop:=¬ InSp p R (B9_ cols i) (colV cols i)
open Classical in
noncomputable def basN (p:Int) (R:Nat) (cols:List (List Int)) (k:Nat):List Nat:=(List.range k).filter fun i=>decide (InB p R cols i)
theorem Ys3 {cols:List (List Int)} {k:Nat} (h:InB p R cols k):basN p R cols (k+1)=basN p R cols k ++ [k]:=by
 unfold basN;rw [List.range_succ,List.filter_append];simp [h]
theorem Yq5 {cols:List (List Int)} {k:Nat} (h:¬ InB p R cols k):basN p R cols (k+1)=basN p R cols k:=by
 unfold basN;rw [List.range_succ,List.filter_append];simp [h]
theorem basN_mem {cols:List (List Int)} {k i:Nat}:i∈basN p R cols k↔i<k∧InB p R cols i:=by
 unfold basN;simp [List.mem_filter]
structure Lines (p:Int) (R:Nat) (cols:List (List Int)) (k:Nat) (ls:List Line):Prop where
 ech:Ech p R ls
 pl:ls.map Line.place=basN p R cols k
 span:∀ v,InSp p R (ls.map fun l=>vec l.left) v↔InSp p R (B9_ cols k) v
 from_:∀ (a:List Line) (l:Line) (b:List Line),ls=a ++ l :: b →
  (∀ r,r<R→p ∣ colV cols l.place r - l.left.getD r 0 - lin (a.map fun m=>l.by_ m.place) (a.map fun m=>vec m.left) r)∧∀ x,l.by_ x≠0→∃ m∈a,m.place=x
theorem Lines.lt {cols:List (List Int)} {k:Nat} {c:List Line} (h:Lines p R cols k c) {l:Line} (hl:l∈c):l.place<k:=by
 have:l.place∈basN p R cols k:=by rw [← h.pl];exact List.mem_map.2 ⟨l,hl,rfl⟩
 exact (basN_mem.1 this).1
theorem Lines.take (d:0<p) {cols:List (List Int)} {k:Nat} {c:List Line} (h:Lines p R cols k c) {col:List Int} (hc:InR p R col):Taken p R c col (fun _=>0) (takeT p c col) :=
 taken d h.ech hc (fun _=>⟨k29_,d⟩) fun _ _=>rfl
theorem Lines.left (d:0<p) {cols:List (List Int)} {k:Nat} {c:List Line} (h:Lines p R cols k c) {col:List Int} (hc:InR p R col):InSp p R (B9_ cols k) fun r=>col.getD r 0 - (takeT p c col).1.getD r 0:=by
 rw [← h.span];refine Za1 (Xr2 (c.map fun l=>(takeT p c col).2 l.place) _) fun r e=>?_;have:=(h.take d hc).sum r e;rw [show lin (c.map fun l=>(takeT p c col).2 l.place) (c.map fun l=>vec l.left) r - (col.getD r 0 - (takeT p c col).1.getD r 0)=-(col.getD r 0 - (takeT p c col).1.getD r 0 - lin (c.map fun l=>(takeT p c col).2 l.place) (c.map fun l=>vec l.left) r) by omega];exact (Int.dvd_neg).2 this
theorem Lines.in_iff (d:0<p) {cols:List (List Int)} {k:Nat} {c:List Line} (h:Lines p R cols k c) {col:List Int} (hc:InR p R col):InSp p R (B9_ cols k) (vec col)↔leadI (takeT p c col).1<0:=by
 have e:=h.take d hc;have hl:=h.left d hc;constructor
 ·intro o
  have g:InSp p R (c.map fun l=>vec l.left) (vec (takeT p c col).1):=by
   rw [h.span];exact V8_ (Ys0 o hl) fun r _=>by unfold vec;omega
  have h2:=Yq4 h.ech g fun l hl=>by
   unfold vec;rw [e.zero l hl];exact Int.dvd_zero p
  have h3:leadI (takeT p c col).1=-1:=S1_ fun j q=>by
   have f:=e.row.get d j;exact Zy8 (h2 j (by rw [← e.row.1];exact q)) f.1 f.2
  rw [h3];decide
 ·intro s
  rcases M9_ (takeT p c col).1 with ⟨_,u⟩ | ⟨i,_,m,_⟩
  ·refine V8_ hl fun r _=>?_
   rw [u r];unfold vec;omega
  ·rw [m] at s
   omega
theorem Lines.next (q:0<p) {inv:Int→Int} (L:∀ x,0<x→x<p→p ∣ x * inv x - 1∧0≤inv x∧inv x<p) {cols:List (List Int)} {k:Nat} {d:List Line} (h:Lines p R cols k d) (hc:InR p R (cols.getD k [])):Lines p R cols (k+1) (addL p inv d k (cols.getD k [])):=by
 have f:=h.take q hc;have hl:=h.left q hc;have D:=h.in_iff q hc;unfold addL;by_cases g:leadI (takeT p d (cols.getD k [])).1<0
 ·rw [if_pos g]
  have j:InSp p R (B9_ cols k) (colV cols k):=D.2 g;refine ⟨h.ech,by rw [Yq5 (fun A=>A j)];exact h.pl,fun v=>?_,h.from_⟩;rw [h.span,G3_];exact ⟨sp_mono fun x c=>List.mem_append.2 (.inl c),C1_ fun x c=>by
   rcases List.mem_append.1 c with c | c
   ·exact D2_ c
   ·obtain rfl:=List.mem_singleton.1 c
    exact j⟩
 ·rw [if_neg g]
  have O:InB p R cols k:=fun j=>g (D.1 j);rcases M9_ (takeT p d (cols.getD k [])).1 with ⟨w,_⟩ | ⟨i,K,w,c,P⟩
  ·rw [w] at g
   exact absurd x30_ g
  rw [w,Int.toNat_natCast];generalize Q:takeT p d (cols.getD k [])=T at *
  have J:i<R:=by rw [← f.row.1];exact K
  have I:=f.row.get q i;have E:=L (T.1.getD i 0) k29_ I.2;have C:∀ x,T.2 x≠0→∃ m∈d,m.place=x:=by
   intro x c;apply Classical.byContradiction;intro A;exact c (f.off x fun l hl e=>A ⟨l,hl,e⟩)
  have N:LineOk p R ⟨k,T.1,i,inv (T.1.getD i 0),T.2⟩:=⟨f.row,J,P,E.1,E.2,f.byr,fun x c=>by
   obtain ⟨m,o,rfl⟩:=C x c;exact h.lt o⟩
  refine ⟨Yq3 h.ech N fun m o=>⟨f.zero m o,h.lt o⟩,by rw [Ys3 O,List.map_append,h.pl];rfl,fun v=>?_,?_⟩
  ·rw [G3_,List.map_append]
   have M:InSp p R (B9_ cols k ++ [colV cols k]) (vec T.1):=by
    refine V8_ (Ys0 (D2_ (u:=colV cols k) y30_) (sp_mono (fun x c=>List.mem_append.2 (.inl c)) hl)) fun r _=>?_;unfold colV vec;omega
   have H:InSp p R (d.map (fun l=>vec l.left) ++ [vec T.1]) (colV cols k):=by
    refine V8_ (Za2 (D2_ (u:=vec T.1) y30_) (sp_mono (us:=d.map fun l=>vec l.left) (fun x c=>List.mem_append.2 (.inl c)) ((h.span _).2 hl))) fun r _=>?_;unfold colV vec;omega
   constructor
   ·refine C1_ fun x c=>?_
    rcases List.mem_append.1 c with c | c
    ·exact sp_mono (fun y B=>List.mem_append.2 (.inl B)) ((h.span _).1 (D2_ c))
    ·obtain rfl:=List.mem_singleton.1 c
     exact M
   ·refine C1_ fun x c=>?_
    rcases List.mem_append.1 c with c | c
    ·exact sp_mono (fun y B=>List.mem_append.2 (.inl B)) ((h.span _).2 (D2_ c))
    ·obtain rfl:=List.mem_singleton.1 c
     exact H
  ·intro a l b e
   rcases List.eq_nil_or_concat b with rfl | ⟨F,z,rfl⟩
   ·obtain ⟨rfl,s⟩:=List.append_inj' e y30_
    injection s with s _;subst s;exact ⟨f.sum,C⟩
   ·rw [List.concat_eq_append,← List.cons_append,← List.append_assoc] at e
    obtain ⟨G,_⟩:=List.append_inj' e y30_;exact h.from_ a l F G
theorem Zy9 (d:0<p) {inv:Int→Int} (c:∀ x,0<x→x<p→p ∣ x * inv x - 1∧0≤inv x∧inv x<p) {cols:List (List Int)}:∀ {k:Nat},(∀ i,i<k→InR p R (cols.getD i []))→Lines p R cols k (M5_ p inv cols k)
 | 0,_=>⟨trivial,rfl,fun _=>Iff.rfl,fun a l b e=>by cases a<;>cases e⟩
 | k+1,hc=>(Zy9 d c fun i f=>hc i k29_).next d c (hc k k29_)
end Go.Proofs.YtheeajnkiniopaaGreatDoor.Wp.L
namespace Go.Proofs.YtheeajnkiniopaaGreatDoor.Wp.L
variable {p:Int} {R:Nat}
structure Back (p:Int) (R:Nat) (cols:List (List Int)) (goal:List Int) (a b:List Line) (T:List Int):Prop where
 len:T.length=cols.length
 rng:∀ i,0≤T.getD i 0∧T.getD i 0<p
 off:∀ x,(∀ l∈a ++ b,l.place≠x)→T.getD x 0=0
 sum:∀ r,r<R→p ∣ goal.getD r 0 - lin (a.map fun l=>T.getD l.place 0) (a.map fun l=>vec l.left) r - lin (b.map fun l=>T.getD l.place 0) (b.map fun l=>colV cols l.place) r
def Yq6 (p:Int) (R:Nat) (cols:List (List Int)):Prop:=∀ i,i<cols.length→InR p R (cols.getD i [])
theorem Yg3 (cols:List (List Int)):B9_ cols cols.length=cols.map vec:=by
 unfold B9_;apply List.ext_getElem
 ·simp
 ·intro i c h2
  simp at c;simp [colV,List.getD,c]
structure Told (p:Int) (R:Nat) (cols:List (List Int)) (goal T:List Int):Prop where
 len:T.length=cols.length
 rng:∀ i,0≤T.getD i 0∧T.getD i 0<p
 off:∀ i,T.getD i 0≠0→i∈basN p R cols cols.length
 sum:∀ r,r<R→p ∣ goal.getD r 0 - lin T (cols.map vec) r
end Go.Proofs.YtheeajnkiniopaaGreatDoor.Wp.L
namespace Go.Proofs.YtheeajnkiniopaaGreatDoor.Wp.L
variable {p:Int} {R:Nat}
structure Steps (p:Int) (R:Nat) (cols m:List Vec) (n row:Nat):Prop where
 len:m.length=cols.length
 le:n≤m.length
 span:∀ v,InSp p R m v↔InSp p R cols v
 step:∀ k (_:k<m.length),k<n→∃ q,q<row∧¬ p ∣ m[k] q∧∀ j (_:j<m.length),k<j→p ∣ m[j] q
 zero:∀ j (_:j<m.length),n≤j→∀ q,q<row→p ∣ m[j] q
end Go.Proofs.YtheeajnkiniopaaGreatDoor.Wp.L
namespace Go.Proofs.YtheeajnkiniopaaGreatDoor.Wp.L
variable {p:Int} {R:Nat}
theorem Zl8 (c:Fld p) {cols:List (List Int)} {k:Nat} (h:InB p R cols k):rk p R (B9_ cols (k+1))=rk p R (B9_ cols k)+1:=by
 rw [G3_];exact Zu0 c h
theorem Ze3 (c:Fld p) {cols:List (List Int)} {k:Nat} (h:¬ InB p R cols k):rk p R (B9_ cols (k+1))=rk p R (B9_ cols k):=by
 rw [G3_];exact Yg1 c (Classical.not_not.1 h)
theorem Zu1 (c:Fld p) {cols:List (List Int)}:∀ (k:Nat),rk p R (B9_ cols k)=(basN p R cols k).length
 | 0=>rfl
 | k+1=>by
  by_cases h:InB p R cols k
  ·rw [Zl8 c h,Ys3 h,Zu1 c k]
   simp
  ·rw [Ze3 c h,Yq5 h,Zu1 c k]
theorem rk_cols (c:Fld p) (cols:List (List Int)):rk p R (cols.map vec)=(basN p R cols cols.length).length:=by
 rw [← Yg3];exact Zu1 c _
theorem Ys4 {cols:List (List Int)} {k:Nat}:(basN p R cols k).length≤k:=by
 unfold basN;have:=List.length_filter_le (fun i=>@decide (InB p R cols i) (Classical.propDecidable _)) (List.range k);simpa using this
end Go.Proofs.YtheeajnkiniopaaGreatDoor.Wp.L
namespace Go.Proofs.YtheeajnkiniopaaGreatDoor.Wp
def insP (P:Nat→Bool) (x:Nat):Nat→Bool:=fun i=>i==x || P i
def orP (P Q:Nat→Bool):Nat→Bool:=fun i=>P i || Q i
def andP (P Q:Nat→Bool):Nat→Bool:=fun i=>P i && Q i
def notP (P:Nat→Bool):Nat→Bool:=fun i=>!P i
def noneP:Nat→Bool:=fun _=>false
def allP:Nat→Bool:=fun _=>true
theorem X7_ (P:Nat→Bool) (x:Nat):insP P x x=true:=by simp [insP]
theorem X0_ {P:Nat→Bool} {x i:Nat} (h:i≠x):insP P x i=P i:=by simp [insP,h]
theorem G4_ {P:Nat→Bool} {x:Nat} (h:P x=true):insP P x=P:=by
 funext i
 by_cases e:i=x
 ·rw [e,X7_,h]
 ·exact X0_ e
theorem Zl9 (P:Nat→Bool) (x y:Nat):insP (insP P x) y=insP (insP P y) x:=by
 funext i
 simp only [insP];cases i==x<;>cases i==y<;>simp
structure Rk (n:Nat) (f:(Nat→Bool)→Nat):Prop where
 ext:∀ {P Q:Nat→Bool},(∀ i,i<n→P i=Q i)→f P=f Q
 zero:f noneP=0
 up:∀ {P:Nat→Bool} {x:Nat},x<n→P x=false→f P≤f (insP P x)
 one:∀ {P:Nat→Bool} {x:Nat},x<n→P x=false→f (insP P x)≤f P+1
 dim:∀ {P:Nat→Bool} {x y:Nat},x<n→y<n→x≠y→P x=false→P y=false→f (insP (insP P x) y)+f P≤f (insP P x)+f (insP P y)
section
variable {n:Nat} {f:(Nat→Bool)→Nat}
theorem Rk.up' (h:Rk n f) (P:Nat→Bool) {x:Nat} (c:x<n):f P≤f (insP P x):=by
 cases hp:P x
 ·exact h.up c hp
 ·rw [G4_ hp];exact le_refl _
theorem Rk.one' (h:Rk n f) (P:Nat→Bool) {x:Nat} (c:x<n):f (insP P x)≤f P+1:=by
 cases hp:P x
 ·exact h.one c hp
 ·rw [G4_ hp];exact Nat.le_succ _
theorem Rk.dim' (h:Rk n f) (P:Nat→Bool) {x y:Nat} (d:x<n) (g:y<n) (c:x≠y):f (insP (insP P x) y)+f P≤f (insP P x)+f (insP P y):=by
 cases hp:P x
 ·cases hq:P y
  ·exact h.dim d g c hp hq
  ·have e:insP (insP P x) y=insP P x:=G4_ (by rw [X0_ (fun e=>c e.symm),hq])
   rw [e,G4_ hq];exact le_refl _
 ·rw [G4_ hp]
  omega
def addK (P S:Nat→Bool) (k:Nat):Nat→Bool:=fun i=>P i || (decide (i<k) && S i)
theorem E9_ (P S:Nat→Bool):addK P S 0=P:=by funext i;simp [addK]
theorem S2_ {P S:Nat→Bool} {k:Nat} (h:S k=false):addK P S (k+1)=addK P S k:=by
 funext i
 by_cases e:i=k
 ·subst e;simp [addK,h]
 ·have:decide (i<k+1)=decide (i<k):=decide_eq_decide.2 k29_
  simp [addK,this]
theorem L6_ {P S:Nat→Bool} {k:Nat} (h:S k=true):addK P S (k+1)=insP (addK P S k) k:=by
 funext i
 by_cases e:i=k
 ·subst e;simp [addK,insP,h]
 ·have:decide (i<k+1)=decide (i<k):=decide_eq_decide.2 k29_
  rw [X0_ e];simp [addK,this]
theorem G5_ (h:Rk n f) (P S:Nat→Bool):f (addK P S n)=f (orP P S):=h.ext fun i c=>by simp [addK,orP,c]
theorem Rk.up_add (h:Rk n f) (P S:Nat→Bool):∀ k,k≤n→f P≤f (addK P S k)
 | 0,_=>by rw [E9_];exact le_refl _
 | k+1,hk=>by
  have c:=h.up_add P S k k29_;cases hs:S k
  ·rw [S2_ hs];exact c
  ·rw [L6_ hs];exact Nat.le_trans c (h.up' _ k29_)
theorem Rk.mono (h:Rk n f) {P Q:Nat→Bool} (hs:∀ i,i<n→P i=true→Q i=true):f P≤f Q:=by
 have c:=h.up_add P Q n (le_refl _);rw [G5_ h,h.ext (P:=orP P Q) (Q:=Q) (fun i d=>by
  unfold orP;cases hp:P i
  ·simp
  ·simp [hs i d hp])] at c
 exact c
theorem Rk.le_cnt (h:Rk n f) (P:Nat→Bool):f P≤cnt P n:=by
 have:∀ k,k≤n→f (addK noneP P k)≤cnt P k:=by
  intro k
  induction k with
  | zero=>intro _;rw [E9_,h.zero];exact Nat.zero_le _
  | succ k c =>
   intro e;have c:=c k29_;rw [Y7_];cases hs:P k
   ·rw [S2_ hs];simpa using c
   ·rw [L6_ hs]
    have:=h.one' (addK noneP P k) (x:=k) k29_;simp;omega
 have d:=this n (le_refl _);rw [G5_ h] at d
 rwa [show orP noneP P=P from by funext i;simp [orP,noneP]] at d
theorem Rk.dim_add (h:Rk n f) (P S:Nat→Bool) {x:Nat} (d:x<n):∀ k,k≤n→f (insP (addK P S k) x)+f P≤f (insP P x)+f (addK P S k)
 | 0,_=>by rw [E9_];exact le_refl _
 | k+1,hk=>by
  have j:=h.dim_add P S d k k29_;cases hs:S k
  ·rw [S2_ hs];exact j
  ·rw [L6_ hs]
   by_cases e:x=k
   ·subst e
    have c:insP (insP (addK P S x) x) x=insP (addK P S x) x:=G4_ (X7_ _ _);rw [c];have h2:=h.up' P (x:=x) k29_;omega
   ·have c:=h.dim' (addK P S k) (x:=k) (y:=x) k29_ d (fun g=>e g.symm)
    omega
theorem Rk.dim_set (h:Rk n f) {P Q:Nat→Bool} (hs:∀ i,i<n→P i=true→Q i=true) {x:Nat} (g:x<n):f (insP Q x)+f P≤f (insP P x)+f Q:=by
 have d:=h.dim_add P Q g n (le_refl _);have e:∀ i,i<n→addK P Q n i=Q i:=fun i c=>by
  simp only [addK,c,decide_true,Bool.true_and];cases hp:P i
  ·simp
  ·simp [hs i c hp]
 rw [h.ext e,h.ext (P:=insP (addK P Q n) x) (Q:=insP Q x) (fun i c=>by unfold insP;rw [e i c])] at d;exact d
theorem Rk.sub_add (h:Rk n f) {P Q:Nat→Bool} (hs:∀ i,i<n→P i=true→Q i=true) (Z:Nat→Bool):∀ k,k≤n→f (addK Q Z k)+f P≤f (addK P Z k)+f Q
 | 0,_=>by rw [E9_,E9_];omega
 | k+1,hk=>by
  have e:=h.sub_add hs Z k k29_;cases hz:Z k
  ·rw [S2_ hz,S2_ hz];exact e
  ·rw [L6_ hz,L6_ hz]
   have g:=h.dim_set (P:=addK P Z k) (Q:=addK Q Z k) (fun i d c=>by
    unfold addK at c ⊢;cases hq:Q i
    ·have:P i=false:=by
      cases hpi:P i
      ·rfl
      ·rw [hs i d hpi] at hq;cases hq
     rw [this] at c;exact c
    ·simp) (x:=k) k29_
   omega
theorem Rk.submod (h:Rk n f) (P Q:Nat→Bool):f (orP P Q)+f (andP P Q)≤f P+f Q:=by
 have d:=h.sub_add (P:=andP P Q) (Q:=P) (fun i _ c=>by unfold andP at c;simp at c;exact c.1) Q n (le_refl _);rw [G5_ h,G5_ h] at d;rw [show orP (andP P Q) Q=Q from by funext i;simp only [orP,andP];cases P i<;>cases Q i<;>rfl] at d;omega
theorem Rk.of_step (μ:(Nat→Bool)→Nat→Bool) (ext:∀ {P Q:Nat→Bool},(∀ i,i<n→P i=Q i)→f P=f Q) (zero:f noneP=0)
  (g:∀ {P:Nat→Bool} {x:Nat},x<n→P x=false→f (insP P x)=f P+if μ P x then 1 else 0)
  (h:∀ {P:Nat→Bool} {x y:Nat},x<n→y<n→x≠y→P x=false→P y=false→μ (insP P x) y=true→μ P y=true):Rk n f:=by
 refine ⟨ext,zero,fun d c=>?_,fun d c=>?_,fun {P x y} d hy hxy c hq=>?_⟩
 ·rw [g d c];exact Nat.le_add_right _ _
 ·rw [g d c];split<;>omega
 ·rw [g (P:=insP P x) hy (by rw [X0_ (fun e=>hxy e.symm)];exact hq),g (P:=P) hy hq]
  cases h1:μ (insP P x) y
  ·simp
  ·rw [h d hy hxy c hq h1];simp;omega
theorem I8_ (n:Nat):Rk n (fun P=>cnt P n):=by
 refine Rk.of_step (fun _ _=>true) (fun {P Q} h=>Nat.le_antisymm (O4_ fun v d c=>by rw [← h v d];exact c) (O4_ fun v d c=>by rw [h v d];exact c)) ?_ (fun {P x} hx c=>?_) (fun _ _ _ _ _ _=>rfl)
 ·show cnt noneP n=0
  have:∀ n,cnt noneP n=0:=fun n=>by
   induction n with
   | zero=>simp [cnt]
   | succ n ih=>rw [Y7_,ih];simp [noneP]
  exact this n
 ·show cnt (insP P x) n=cnt P n+_
  rw [Zd9 (p:=insP P x) (q:=P) (X7_ P x) c (fun v d=>X0_ d),if_pos hx,if_pos rfl]
theorem G6_ (n:Nat):cnt noneP n=0:=(I8_ n).zero
theorem I9_ {P Q:Nat→Bool} (h:∀ i,i<n→P i=Q i):cnt P n=cnt Q n:=(I8_ n).ext h
theorem J8_ {P:Nat→Bool} {x:Nat} (e:x<n) (c:P x=false):cnt (insP P x) n=cnt P n+1:=by
 rw [Zd9 (p:=insP P x) (q:=P) (X7_ P x) c (fun v d=>X0_ d),if_pos e]
theorem Yq7 (h:Rk n f) (a:Nat):Rk n (fun P=>min a (f P)):=by
 refine ⟨fun c=>by rw [h.ext c],by rw [h.zero];exact Nat.min_zero _,fun {P x} hx hp=>?_,fun {P x} hx hp=>?_,fun {P x y} hx hy hxy hp hq=>?_⟩
 ·have:=h.up hx hp;omega
 ·have:=h.one hx hp;omega
 ·have c:=h.dim hx hy hxy hp hq
  have h2:=h.up hx hp;have h3:=h.up hy hq;have d:=h.one hx hp;have g:=h.one hy hq;have j:=h.up (P:=insP P x) hy (by rw [X0_ (fun e=>hxy e.symm)];exact hq);omega
theorem W0_ {P:Nat→Bool} {x:Nat} (c:P x=false):insP (notP (insP P x)) x=notP P:=by
 funext i
 by_cases e:i=x
 ·subst e;rw [X7_];simp [notP,c]
 ·rw [X0_ e];simp [notP,X0_ e]
theorem Vz8 (h:Rk n f):Rk n (fun P=>cnt P n+f (notP P) - f allP):=by
 have u:∀ P,f (notP P)≤f allP:=fun P=>h.mono fun _ _ _=>rfl;have j:∀ P,f allP≤cnt P n+f (notP P):=by
  intro P;have c:=h.submod (notP P) P;have h2:=h.le_cnt P;have h3:orP (notP P) P=allP:=by funext i;simp only [orP,notP,allP];cases P i<;>rfl
  rw [h3] at c;omega
 have o:∀ {P:Nat→Bool} {x:Nat},x<n→P x=false→f (notP (insP P x))≤f (notP P)∧f (notP P)≤f (notP (insP P x))+1:=by
  intro P x d g;have c:=h.up' (notP (insP P x)) d;have h2:=h.one' (notP (insP P x)) d;rw [W0_ g] at c h2;exact ⟨c,h2⟩
 refine ⟨fun {P Q} c=>?_,?_,fun {P x} d g=>?_,fun {P x} d g=>?_,fun {P x y} d hy hxy g hq=>?_⟩
 ·rw [I9_ c,h.ext (P:=notP P) (Q:=notP Q) (fun i r=>by unfold notP;rw [c i r])]
 ·show cnt noneP n+f (notP noneP) - f allP=0
  rw [G6_,show notP noneP=allP from rfl];omega
 ·have c:=o d g
  have h2:=J8_ d g;show cnt P n+f (notP P) - f allP≤cnt (insP P x) n+f (notP (insP P x)) - f allP;omega
 ·have c:=o d g
  have h2:=J8_ d g;have h3:=j P;show cnt (insP P x) n+f (notP (insP P x)) - f allP≤cnt P n+f (notP P) - f allP+1;omega
 ·have m:insP P x y=false:=by rw [X0_ (fun e=>hxy e.symm)];exact hq
  have s:insP P y x=false:=by rw [X0_ hxy];exact g
  have c1:=J8_ d g;have c2:=J8_ hy hq;have c3:=J8_ (P:=insP P x) hy m;have v:=j P;have w:=j (insP P x);have z:=j (insP P y);have A:=j (insP (insP P x) y);have c:=h.dim' (notP (insP (insP P x) y)) d hy hxy;have p:insP (notP (insP (insP P x) y)) y=notP (insP P x):=W0_ m;have k:insP (notP (insP (insP P x) y)) x=notP (insP P y):=by rw [Zl9];exact W0_ s
  have q:insP (insP (notP (insP (insP P x) y)) x) y=notP P:=by rw [k];exact W0_ hq
  rw [q,p,k] at c;show cnt (insP (insP P x) y) n+f (notP (insP (insP P x) y)) - f allP+(cnt P n+f (notP P) - f allP)≤cnt (insP P x) n+f (notP (insP P x)) - f allP+(cnt (insP P y) n+f (notP (insP P y)) - f allP);omega
def imgP (n:Nat) (φ:Nat→Nat) (P:Nat→Bool):Nat→Bool:=fun y=>(List.range n).any fun i=>P i && φ i==y
theorem imgP_iff {φ:Nat→Nat} {P:Nat→Bool} {y:Nat}:imgP n φ P y=true↔∃ i,i<n∧P i=true∧φ i=y:=by
 unfold imgP;simp only [List.any_eq_true,List.mem_range,Bool.and_eq_true,beq_iff_eq]
theorem Ys5 (φ:Nat→Nat):imgP n φ noneP=noneP:=by
 funext y
 exact Bool.eq_false_iff.2 (fun h=>by obtain ⟨i,_,c,_⟩:=imgP_iff.1 h;cases c)
theorem Xf3 {φ:Nat→Nat} {P:Nat→Bool} {x:Nat} (e:x<n):imgP n φ (insP P x)=insP (imgP n φ P) (φ x):=by
 funext y
 rw [Bool.eq_iff_iff,imgP_iff];unfold insP;simp only [Bool.or_eq_true,beq_iff_eq,imgP_iff];constructor
 ·rintro ⟨i,d,c | c,rfl⟩
  ·left;rw [c]
  ·exact .inr ⟨i,d,c,rfl⟩
 ·rintro (rfl | ⟨i,d,c,rfl⟩)
  ·exact ⟨x,e,.inl rfl,rfl⟩
  ·exact ⟨i,d,.inr c,rfl⟩
theorem Vz9 {φ:Nat→Nat} {P:Nat→Bool} {x:Nat} (k:∀ i j,i<n→j<n→φ i=φ j→i=j) (g:x<n) (f:P x=false):imgP n φ P (φ x)=false:=by
 refine Bool.eq_false_iff.2 fun h=>?_;obtain ⟨i,d,c,e⟩:=imgP_iff.1 h;rw [k i x d g e,f] at c;cases c
theorem Xf4 {φ:Nat→Nat} {P Q:Nat→Bool} (h:∀ i,i<n→P i=Q i):imgP n φ P=imgP n φ Q:=by
 funext y
 rw [Bool.eq_iff_iff,imgP_iff,imgP_iff];exact ⟨fun ⟨i,c,d,e⟩=>⟨i,c,by rw [← h i c];exact d,e⟩,fun ⟨i,c,d,e⟩=>⟨i,c,by rw [h i c];exact d,e⟩⟩
theorem Xr4 {k:Nat} (h:Rk n f) {φ:Nat→Nat} (q:∀ i j,i<k→j<k→φ i=φ j→i=j) (g:∀ i,i<k→φ i<n) (T:Nat→Bool) (r:∀ i,i<k→T (φ i)=false):Rk k (fun P=>f (orP T (imgP k φ P)) - f T):=by
 have s:∀ P,f T≤f (orP T (imgP k φ P)):=fun P=>h.mono fun i _ u=>by unfold orP;rw [u];rfl
 have o:∀ {P:Nat→Bool} {x:Nat},x<k→orP T (imgP k φ (insP P x))=insP (orP T (imgP k φ P)) (φ x):=by
  intro P x c;rw [Xf3 c]
  funext i
  simp only [orP,insP];cases T i<;>cases i==φ x<;>rfl
 have m:∀ {P:Nat→Bool} {x:Nat},x<k→P x=false→orP T (imgP k φ P) (φ x)=false:=by
  intro P x c d;unfold orP;rw [r x c,Vz9 q c d];rfl
 refine ⟨fun {P Q} p=>?_,?_,fun {P x} c d=>?_,fun {P x} c d=>?_,fun {P x y} c hy hxy d hq=>?_⟩
 ·rw [Xf4 p]
 ·show f (orP T (imgP k φ noneP)) - f T=0
  rw [Ys5,show orP T noneP=T from by funext i;simp [orP,noneP],Nat.sub_self]
 ·show f (orP T (imgP k φ P)) - f T≤f (orP T (imgP k φ (insP P x))) - f T
  rw [o c];have:=h.up (g x c) (m c d);omega
 ·show f (orP T (imgP k φ (insP P x))) - f T≤f (orP T (imgP k φ P)) - f T+1
  rw [o c];have:=h.one (g x c) (m c d);omega
 ·show f (orP T (imgP k φ (insP (insP P x) y))) - f T+(f (orP T (imgP k φ P)) - f T)≤f (orP T (imgP k φ (insP P x))) - f T+(f (orP T (imgP k φ (insP P y))) - f T)
  rw [o hy,o c,o hy];have p:=h.dim (g x c) (g y hy) (fun e=>hxy (q x y c hy e)) (m c d) (m hy hq);have m0:=s P;have m1:=h.up (g x c) (m c d);have m2:=h.up (g y hy) (m hy hq);omega
end
theorem Vd9 {n m:Nat} {f g:(Nat→Bool)→Nat} (k:Rk n f) (o:Rk m g):Rk (n+m) (fun P=>f P+g (fun i=>P (n+i))):=by
 have c:∀ {P:Nat→Bool} {x:Nat},n≤x→f (insP P x)=f P:=fun {P x} hx=>k.ext fun i q=>X0_ k29_;have d:∀ {P:Nat→Bool} {x:Nat},x<n→(fun i=>insP P x (n+i))=fun i=>P (n+i):=fun {P x} hx=>by funext i;exact X0_ k29_
 have e:∀ {P:Nat→Bool} {x:Nat},n≤x→(fun i=>insP P x (n+i))=insP (fun i=>P (n+i)) (x - n):=fun {P x} hx=>by
  funext i
  show (n+i==x || P (n+i))=(i==x - n || P (n+i));have:(n+i==x)=(i==x - n):=by rw [Bool.eq_iff_iff,beq_iff_eq,beq_iff_eq];omega
  rw [this]
 have p:∀ {P:Nat→Bool} {x:Nat},n≤x→P x=false→(fun i=>P (n+i)) (x - n)=false:=fun {P x} hx hp=>by
  show P (n+(x - n))=false;rw [show n+(x - n)=x by omega];exact hp
 refine ⟨fun {P Q} h1=>?_,?_,fun {P x} hx hp=>?_,fun {P x} hx hp=>?_,fun {P x y} hx hy hxy hp hq=>?_⟩
 ·rw [k.ext (fun i q=>h1 i k29_),o.ext (fun i q=>h1 (n+i) k29_)]
 ·show f noneP+g noneP=0
  rw [k.zero,o.zero]
 ·show f P+g (fun i=>P (n+i))≤f (insP P x)+g (fun i=>insP P x (n+i))
  by_cases h:x<n
  ·rw [d h];have:=k.up h hp;omega
  ·rw [c k29_,e k29_];have:=o.up (P:=fun i=>P (n+i)) (x:=x - n) k29_ (p (P:=P) (x:=x) k29_ hp);omega
 ·show f (insP P x)+g (fun i=>insP P x (n+i))≤f P+g (fun i=>P (n+i))+1
  by_cases h:x<n
  ·rw [d h];have:=k.one h hp;omega
  ·rw [c k29_,e k29_];have:=o.one (P:=fun i=>P (n+i)) (x:=x - n) k29_ (p (P:=P) (x:=x) k29_ hp);omega
 ·show f (insP (insP P x) y)+g (fun i=>insP (insP P x) y (n+i))+(f P+g (fun i=>P (n+i)))≤f (insP P x)+g (fun i=>insP P x (n+i))+(f (insP P y)+g (fun i=>insP P y (n+i)))
  by_cases h:x<n
  ·by_cases j:y<n
   ·rw [d j,d h,d j];have:=k.dim h j hxy hp hq;omega
   ·rw [c (P:=insP P x) k29_,c (P:=P) (x:=y) k29_,e (P:=insP P x) k29_,d h,e (P:=P) (x:=y) k29_]
    omega
  ·by_cases j:y<n
   ·have r:f (insP (insP P x) y)=f (insP P y):=by rw [Zl9];exact c k29_
    have s:f (insP P x)=f P:=c k29_;rw [r,s,d (P:=insP P x) j,d (P:=P) j];omega
   ·rw [c (P:=insP P x) k29_,c (P:=P) (x:=x) k29_,c (P:=P) (x:=y) k29_,e (P:=insP P x) k29_,e (P:=P) (x:=x) k29_,e (P:=P) (x:=y) k29_]
    have:=o.dim (P:=fun i=>P (n+i)) (x:=x - n) (y:=y - n) k29_ k29_ k29_ (p (P:=P) (x:=x) k29_ hp) (p (P:=P) (x:=y) k29_ hq);omega
end Go.Proofs.YtheeajnkiniopaaGreatDoor.Wp
namespace Go.Proofs.YtheeajnkiniopaaGreatDoor.Wp.K
theorem nodup_le {α:Type} [DecidableEq α]:∀ {a b:List α},a.Nodup→(∀ x∈a,x∈b)→a.length≤b.length
 | [],b,_,_=>by simp
 | x :: a,b,c,h=>by
  obtain ⟨f,c⟩:=List.nodup_cons.1 c;have hb:x∈b:=h x y30_;have g:=nodup_le (a:=a) (b:=b.erase x) c fun y d=>(List.mem_erase_of_ne (fun e=>f (by rw [← e];exact d))).2 (h y (by simp [d]));rw [List.length_erase_of_mem hb] at g;have:0<b.length:=List.length_pos_of_mem hb;simp;omega
def cntP (n:Nat) (p:Nat→Bool):Nat:=((List.range n).filter p).length
theorem Q5_ (n:Nat) (p:Nat→Bool):cntP (n+1) p=cntP n p+if p n then 1 else 0:=by
 unfold cntP;exact k20_
theorem Zu2 (p:Nat→Bool):∀ n,cntP n p≤n
 | 0=>le_refl _
 | n+1=>by
  have:=Zu2 p n;rw [Q5_];split<;>omega
theorem Zx0 {p q:Nat→Bool}:∀ {n:Nat},(∀ i,i<n→p i=true→q i=true)→cntP n p≤cntP n q
 | 0,_=>le_refl _
 | n+1,h=>by
  have d:=Zx0 (n:=n) fun i c=>h i k29_;rw [Q5_,Q5_];have:=h n k29_;cases hp:p n
  ·simp;omega
  ·simp [this hp];omega
theorem S3_ (p q:Nat→Bool):∀ n,cntP n p=cntP n (fun i=>p i && q i)+cntP n fun i=>p i && !q i
 | 0=>rfl
 | n+1=>by
  have c:=S3_ p q n;rw [Q5_,Q5_,Q5_,c];cases p n<;>cases q n<;>simp<;>omega
theorem Zu3 (n:Nat):(List.range n).Nodup:=List.nodup_range
theorem cntP_inj {n R:Nat} {p q:Nat→Bool} (f:Nat→Nat) (r:∀ i,i<n→p i=true→f i<R∧q (f i)=true) (c:∀ i j,i<n→j<n→p i=true→p j=true→f i=f j→i=j):cntP n p≤cntP R q:=by
 have m:(((List.range n).filter p).map f).Nodup:=by
  have k:((List.range n).filter p).Nodup:=(Zu3 n).sublist List.filter_sublist;refine List.pairwise_map.2 (List.Pairwise.imp_of_mem ?_ k);intro a b ha hb o e;have d:=List.mem_filter.1 ha;have g:=List.mem_filter.1 hb;exact o (c a b (List.mem_range.1 d.1) (List.mem_range.1 g.1) d.2 g.2 e)
 have h2:=nodup_le (b:=(List.range R).filter q) m fun x s=>by
  obtain ⟨i,c,rfl⟩:=List.mem_map.1 s;have h:=List.mem_filter.1 c;have:=r i (List.mem_range.1 h.1) h.2;exact List.mem_filter.2 ⟨List.mem_range.2 this.1,this.2⟩
 unfold cntP;simpa using h2
def Goes (adj:List (List Int)) (i r:Nat):Prop:=(r:Int)∈adj.getD i []
def OnR (R:Nat) (adj:List (List Int)):Prop:=∀ i x,x∈adj.getD i []→∃ r:Nat,x=(r:Int)∧r<R
theorem goes_lt {adj:List (List Int)} {i r:Nat} (h:Goes adj i r):i<adj.length:=by
 rcases Nat.lt_or_ge i adj.length with hl | hl
 ·exact hl
 ·unfold Goes at h
  rw [List.getD_eq_getElem?_getD,List.getElem?_eq_none hl] at h;exact absurd h y30_
structure Mat (R:Nat) (adj:List (List Int)) (h:Nat→Int):Prop where
 ok:∀ i,i<adj.length→h i=-1∨∃ r:Nat,r<R∧h i=(r:Int)∧Goes adj i r
 inj:∀ i j,i<adj.length→j<adj.length→h i=h j→h i≠-1→i=j
def msize (adj:List (List Int)) (h:Nat→Int):Nat:=cntP adj.length fun i=>decide (h i≠-1)
def Cov (adj:List (List Int)) (A B:Nat→Bool):Prop:=∀ i r,Goes adj i r→A i=true∨B r=true
theorem mat_le_cov {R:Nat} {adj:List (List Int)} {h:Nat→Int} {A B:Nat→Bool} (k:Mat R adj h) (hc:Cov adj A B):msize adj h≤cntP adj.length A+cntP R B:=by
 unfold msize;rw [S3_ _ A];have v:cntP adj.length (fun i=>decide (h i≠-1) && A i)≤cntP adj.length A:=Zx0 fun i _ d=>by
  rw [Bool.and_eq_true] at d;exact d.2
 have h2:cntP adj.length (fun i=>decide (h i≠-1) && !A i)≤cntP R B:=cntP_inj (fun i=>(h i).toNat) (fun i d c=>by
  rw [Bool.and_eq_true,decide_eq_true_iff] at c;rcases k.ok i d with e | ⟨r,u,e,q⟩
  ·exact absurd e c.1
  ·rw [e,Int.toNat_natCast]
   refine ⟨u,(hc i r q).resolve_left ?_⟩;intro ha;rw [ha] at c;exact absurd c.2 y30_) (fun i j d m c o e=>by
  rw [Bool.and_eq_true,decide_eq_true_iff] at c o;rcases k.ok i d with f | ⟨r,_,f,_⟩
  ·exact absurd f c.1
  ·rcases k.ok j m with g | ⟨s,_,g,_⟩
   ·exact absurd g o.1
   ·refine k.inj i j d m ?_ c.1
    have p:r=s:=by simpa [f,g] using e
    rw [f,g,p])
 omega
def Clo (adj:List (List Int)) (os:Nat→Int) (S:Nat→Prop):Prop:=∀ r,S r→∃ j:Nat,os r=(j:Int)∧∀ x,Goes adj j x→S x
structure Pairs (R:Nat) (adj:List (List Int)) (hs os:Nat→Int):Prop where
 l:∀ i,i<adj.length→hs i=-1∨∃ r:Nat,r<R∧hs i=(r:Int)∧Goes adj i r∧os r=(i:Int)
 r:∀ r,r<R→os r=-1∨∃ i:Nat,i<adj.length∧os r=(i:Int)∧hs i=(r:Int)
theorem Pairs.mat {R:Nat} {adj:List (List Int)} {hs os:Nat→Int} (h:Pairs R adj hs os):Mat R adj hs where
 ok:=fun i g=>(h.l i g).imp id fun ⟨r,a,b,c,_⟩=>⟨r,a,b,c⟩
 inj:=fun i j g m e k=>by
  rcases h.l i g with d | ⟨r,_,d,_,o⟩
  ·exact absurd d k
  ·rcases h.l j m with f | ⟨s,_,f,_,p⟩
   ·exact absurd (e.trans f) k
   ·have:r=s:=by
     have:=d.symm.trans (e.trans f);omega
    subst this;have:=o.symm.trans p;omega
def updI (f:Nat→Int) (a:Nat) (t:Int):Nat→Int:=fun x=>if x=a then t else f x
def updB (f:Nat→Bool) (a:Nat):Nat→Bool:=fun x=>if x=a then true else f x
structure Found (R:Nat) (adj:List (List Int)) (hs os:Nat→Int) (al:Nat→Bool) (i:Nat) (hs' os':Nat→Int):Prop where
 a:∃ r:Nat,r<R∧hs' i=(r:Int)∧Goes adj i r∧os' r=(i:Int)∧al r=false
 b:∀ j,j<adj.length→j≠i→(hs j=-1↔hs' j=-1)
 c:∀ j,j<adj.length→hs' j=-1∨∃ r:Nat,r<R∧hs' j=(r:Int)∧Goes adj j r∧os' r=(j:Int)
 d:∀ r,r<R→os' r=-1∨∃ j:Nat,j<adj.length∧os' r=(j:Int)∧(hs' j=(r:Int)∨(j=i∧hs i=(r:Int)))
 e:∀ r,al r=true→os' r=os r
 f:∀ S,Clo adj os S→(¬ ∀ x,Goes adj i x→S x)∧∀ r,S r→os' r=os r
structure Missed (adj:List (List Int)) (os:Nat→Int) (al:Nat→Bool) (i:Nat) (al':Nat→Bool):Prop where
 up:∀ r,al r=true→al' r=true
 all:∀ x,Goes adj i x→al' x=true
 cl:∀ r,al' r=true→al r=false→∃ j:Nat,os r=(j:Int)∧∀ x,Goes adj j x→al' x=true
structure Tried (adj:List (List Int)) (os:Nat→Int) (al:Nat→Bool) (i k:Nat) (al':Nat→Bool):Prop where
 up:∀ r,al r=true→al' r=true
 all:∀ m x,m<k→(adj.getD i [])[m]?=some ((x:Nat):Int)→al' x=true
 cl:∀ r,al' r=true→al r=false→∃ j:Nat,os r=(j:Int)∧∀ x,Goes adj j x→al' x=true
variable {R:Nat} {adj:List (List Int)} {hs os hs' os':Nat→Int} {al al' al'':Nat→Bool} {i k j r:Nat}
theorem Yg4:Tried adj os al i 0 al:=⟨fun _ h=>h,fun _ _ h=>by omega,fun r h k=>by rw [h] at k;cases k⟩
theorem Tried.skip (h:Tried adj os al i k al') (d:(adj.getD i [])[k]?=some (r:Int)) (ha:al' r=true):Tried adj os al i (k+1) al' :=
 ⟨h.up,fun m x f c=>by
  by_cases e:m=k
  ·subst e
   rw [d] at c;have:r=x:=by
    injection c with c;omega
   exact this▸ha
  ·exact h.all m x k29_ c,h.cl⟩
theorem Tried.miss (h:Tried adj os al i k al') (u:(adj.getD i [])[k]?=some (r:Int)) (p:os r=(j:Int)) (d:Missed adj os (updB al' r) j al''):Tried adj os al i (k+1) al'':=by
 have f:∀ x,al' x=true→al'' x=true:=fun x c=>d.up x (by unfold updB;split<;>first | rfl | exact c);have v:al'' r=true:=d.up r (by unfold updB;rw [if_pos rfl]);refine ⟨fun x c=>f x (h.up x c),fun m x z c=>?_,fun x o h2=>?_⟩
 ·by_cases e:m=k
  ·subst e
   rw [u] at c;have:r=x:=by
    injection c with c;omega
   exact this▸v
  ·exact f x (h.all m x k29_ c)
 ·by_cases g:x=r
  ·subst g
   exact ⟨j,p,d.all⟩
  ·rcases c:al' x with _ | _
   ·exact d.cl x o (by unfold updB;rw [if_neg g];exact c)
   ·obtain ⟨q,e,s⟩:=h.cl x c h2
    exact ⟨q,e,fun y w=>f y (s y w)⟩
theorem Tried.done (h:Tried adj os al i k al') (e:(adj.getD i []).length≤k):Missed adj os al i al' :=
 ⟨h.up,fun x d=>by
  obtain ⟨m,c⟩:=List.mem_iff_getElem?.1 d;have:m<(adj.getD i []).length:=(List.getElem?_eq_some_iff.1 c).1;exact h.all m x k29_ c,h.cl⟩
theorem Yg5 (g:Pairs R adj hs os) (hi:i<adj.length) (hr:r<R) (hg:Goes adj i r) (u:os r=-1) (ha:al r=false):Found R adj hs os al i (updI hs i r) (updI os r i):=by
 have q:∀ j,j<adj.length→hs j≠(r:Int):=by
  intro j c e;rcases g.l j c with d | ⟨s,_,d,_,o⟩
  ·omega
  ·have:s=r:=by omega
   subst this;omega
 refine ⟨⟨r,hr,if_pos rfl,hg,if_pos rfl,ha⟩,fun j _ c=>by unfold updI;rw [if_neg c],fun j c=>?_,fun s hs'=>?_,fun s hs'=>?_,fun S k=>⟨fun p=>?_,fun s hs'=>?_⟩⟩
 ·unfold updI
  by_cases e:j=i
  ·exact j21_
  ·rw [if_neg e]
   rcases g.l j c with d | ⟨s,f,h2,h3,m⟩
   ·exact .inl d
   ·refine .inr ⟨s,f,h2,h3,?_⟩
    rw [if_neg]
    ·exact m
    ·rintro rfl
     exact q j c h2
 ·unfold updI
  by_cases e:s=r
  ·exact y21_
  ·rw [if_neg e]
   rcases g.r s hs' with d | ⟨j,f,h2,h3⟩
   ·exact .inl d
   ·refine .inr ⟨j,f,h2,?_⟩
    by_cases h:j=i
    ·subst h
     exact .inr ⟨rfl,h3⟩
    ·rw [if_neg h]
     exact .inl h3
 ·unfold updI
  rw [if_neg];rintro rfl;rw [ha] at hs';cases hs'
 ·obtain ⟨j,e,_⟩:=k r (p r hg)
  omega
 ·unfold updI
  rw [if_neg];rintro rfl;obtain ⟨j,e,_⟩:=k _ hs';omega
theorem Yg6 (u:Pairs R adj hs os) (hi:i<adj.length) (D:hs i=-1∨∃ q:Nat,hs i=(q:Int)∧al q=true) (hr:r<R) (hg:Goes adj i r) (N:os r=(j:Int)) (G:∀ x,al x=true→al' x=true) (ha:al' r=false)
  (hF:Found R adj hs os (updB al' r) j hs' os'):Found R adj hs os al i (updI hs' i r) (updI os' r i):=by
 have w:al r=false:=by
  rcases h:al r with _ | _
  ·rfl
  ·rw [G r h] at ha
   cases ha
 have F:∀ x,al x=true→updB al' r x=true:=fun x V=>by unfold updB;split<;>first | rfl | exact G x V
 obtain ⟨x1,x2⟩:j<adj.length∧hs j=(r:Int):=by
  rcases u.r r hr with e | ⟨q,k,h2,h3⟩
  ·omega
  ·have:q=j:=by omega
   subst this;exact ⟨k,h3⟩
 have C:j≠i:=by
  rintro rfl;rcases D with e | ⟨q,e,g⟩
  ·omega
  ·have:q=r:=by omega
   subst this;rw [w] at g;cases g
 obtain ⟨X,x5,Y,x0,o1,v⟩:=hF.a;have x6:X≠r:=by
  rintro rfl;unfold updB at v;rw [if_pos rfl] at v;cases v
 have x4:os' r=(j:Int):=(hF.e r (by unfold updB;rw [if_pos rfl])).trans N;refine ⟨⟨r,hr,if_pos rfl,hg,if_pos rfl,w⟩,fun q g T=>?_,fun q g=>?_,fun s U=>?_,fun s y=>?_,fun S B=>?_⟩
 ·unfold updI
  rw [if_neg T];by_cases e:q=j
  ·subst e
   constructor
   ·intro h;omega
   ·intro h;omega
  ·exact hF.b q g e
 ·unfold updI
  by_cases e:q=i
  ·exact j21_
  ·rw [if_neg e]
   rcases hF.c q g with o | ⟨s,k,h2,h3,p⟩
   ·exact .inl o
   ·refine .inr ⟨s,k,h2,h3,?_⟩
    rw [if_neg]
    ·exact p
    ·rintro rfl
     have:q=j:=k29_;subst this;omega
 ·unfold updI
  by_cases e:s=r
  ·exact y21_
  ·rw [if_neg e]
   rcases hF.d s U with o | ⟨q,k,h2,h3⟩
   ·exact .inl o
   ·refine .inr ⟨q,k,h2,?_⟩
    have p:hs' q=(s:Int):=by
     rcases h3 with h3 | ⟨rfl,h3⟩
     ·exact h3
     ·omega
    by_cases z:q=i
    ·subst z
     right;refine ⟨rfl,?_⟩;rcases D with A | ⟨q0,A,P⟩
     ·have:=(hF.b q hi (fun e=>C e.symm)).1 A
      omega
     ·
      have Q:q0<R:=by
       rcases u.l q hi with I | ⟨H,J,K,_⟩
       ·omega
       ·omega
      have O:os q0=(q:Int):=by
       rcases u.l q hi with I | ⟨H,J,K,_,L⟩
       ·omega
       ·have:H=q0:=by omega
        subst this;exact L
      have x3:=(hF.e q0 (F q0 P)).trans O;rcases hF.d q0 Q with Z | ⟨W,_,h8,m⟩
      ·omega
      ·have:W=q:=by omega
       subst this;rcases m with m | ⟨m,_⟩
       ·omega
       ·exact absurd m.symm C
    ·rw [if_neg z]
     exact .inl p
 ·unfold updI
  rw [if_neg]
  ·exact hF.e s (F s y)
  ·rintro rfl
   rw [w] at y;cases y
 ·obtain ⟨k,h2⟩:=hF.f S B
  have E:¬ S r:=by
   intro h;obtain ⟨q,e,g⟩:=B r h;have:q=j:=k29_;subst this;exact k g
  refine ⟨fun M=>E (M r hg),fun s hs'=>?_⟩;unfold updI;rw [if_neg]
  ·exact h2 s hs'
  ·rintro rfl
   exact E hs'
structure Great (R:Nat) (adj:List (List Int)) (hs os:Nat→Int) (k:Nat):Prop where
 p:Pairs R adj hs os
 rest:∀ i,k≤i→i<adj.length→hs i=-1
 shut:∀ i,i<k→hs i=-1→∃ S,Clo adj os S∧∀ x,Goes adj i x→S x
theorem Yg7 (c:∀ i,hs i=-1) (h2:∀ r,os r=-1):Great R adj hs os 0:=⟨⟨fun i _=>.inl (c i),fun r _=>.inl (h2 r)⟩,fun i _ _=>c i,fun i d=>by omega⟩
theorem Great.hit (h:Great R adj hs os k) (v:k<adj.length) (hF:Found R adj hs os al k hs' os'):Great R adj hs' os' (k+1):=by
 have x:=h.rest k (le_refl _) v;refine ⟨⟨hF.c,fun r g=>?_⟩,fun i s o=>?_,fun i s q=>?_⟩
 ·rcases hF.d r g with e | ⟨j,p,h2,h3⟩
  ·exact .inl e
  ·refine .inr ⟨j,p,h2,?_⟩
   rcases h3 with h3 | ⟨rfl,h3⟩
   ·exact h3
   ·omega
 ·exact (hF.b i o k29_).1 (h.rest i k29_ o)
 ·have u:i≠k:=by
   rintro rfl;obtain ⟨r,_,e,_⟩:=hF.a;omega
  obtain ⟨S,m,w⟩:=h.shut i k29_ ((hF.b i k29_ u).2 q);refine ⟨S,fun r g=>?_,w⟩;rw [(hF.f S m).2 r g];exact m r g
theorem Great.miss (h:Great R adj hs os k) (ha:∀ r,al r=false) (c:Missed adj os al k al'):Great R adj hs os (k+1) :=
 ⟨h.p,fun i f hl=>h.rest i k29_ hl,fun i f d=>by
  by_cases e:i=k
  ·subst e
   exact ⟨fun r=>al' r=true,fun r g=>c.cl r g (ha r),c.all⟩
  ·exact h.shut i k29_ d⟩
structure Reach (adj:List (List Int)) (hs os:Nat→Int) (k:Nat) (al:Nat→Bool):Prop where
 from_:∀ i,i<k→hs i=-1→∀ x,Goes adj i x→al x=true
 cl:∀ r,al r=true→∃ j:Nat,os r=(j:Int)∧∀ x,Goes adj j x→al x=true
def isL (hs:Nat→Int) (al:Nat→Bool) (i:Nat):Bool:=decide (hs i≠-1) && !al (hs i).toNat
def isR (hs:Nat→Int) (al:Nat→Bool) (i:Nat):Bool:=decide (hs i≠-1) && al (hs i).toNat
theorem Ys6 (f:Pairs R adj hs os) (h:Reach adj hs os adj.length al) (m:OnR R adj):Cov adj (isL hs al) fun r=>decide (∃ i,i<adj.length∧isR hs al i=true∧hs i=(r:Int)):=by
 intro i r c;have g:=goes_lt c;have u:r<R:=by
  obtain ⟨s,e,hs⟩:=m i r c;omega
 have k:al r=true→(decide (∃ i,i<adj.length∧isR hs al i=true∧hs i=(r:Int)))=true:=by
  intro ha;obtain ⟨j,p,_⟩:=h.cl r ha;rcases f.r r u with e | ⟨q,d,h2,h3⟩
  ·omega
  ·refine decide_eq_true ⟨q,d,?_,h3⟩
   unfold isR;rw [h3,Int.toNat_natCast,ha];simp
 rcases f.l i g with e | ⟨s,d,h2,h3,v⟩
 ·exact .inr (k (h.from_ i g e r c))
 ·rcases hs':al s with _ | _
  ·left
   unfold isL;rw [h2,Int.toNat_natCast,hs'];simp
  ·obtain ⟨j,p,o⟩:=h.cl s hs'
   have:j=i:=k29_;subst this;exact .inr (k (o r c))
theorem Yg8 (hs:Nat→Int) (al:Nat→Bool) (n:Nat):cntP n (isL hs al)+cntP n (isR hs al)=cntP n fun i=>decide (hs i≠-1):=by
 rw [S3_ (fun i=>decide (hs i≠-1)) (fun i=>al (hs i).toNat) n];unfold isL isR;omega
end Go.Proofs.YtheeajnkiniopaaGreatDoor.Wp.K
namespace Go.Proofs.YtheeajnkiniopaaGreatDoor.Wp.K
theorem Zu4 {R:Nat} {adj:List (List Int)} {hs os:Nat→Int} (h:Great R adj hs os adj.length):∃ al,Reach adj hs os adj.length al:=by
 classical
 refine ⟨fun r=>decide (∃ i,i<adj.length∧hs i=-1∧∃ S,Clo adj os S∧(∀ x,Goes adj i x→S x)∧S r),?_,?_⟩
 ·intro i f e x g
  obtain ⟨S,c,d⟩:=h.shut i f e;exact decide_eq_true ⟨i,f,e,S,c,d,d x g⟩
 ·intro r p
  obtain ⟨i,f,e,S,c,d,k⟩:=of_decide_eq_true p;obtain ⟨j,o,m⟩:=c r k;exact ⟨j,o,fun x g=>decide_eq_true ⟨i,f,e,S,c,d,m x g⟩⟩
theorem Ys7 {R:Nat} {adj:List (List Int)} {hs os:Nat→Int} (k:Pairs R adj hs os) (al:Nat→Bool):cntP R (fun r=>decide (∃ i,i<adj.length∧isR hs al i=true∧hs i=(r:Int)))≤cntP adj.length (isR hs al):=by
 have g:∀ r:Nat,decide (∃ i,i<adj.length∧isR hs al i=true∧hs i=(r:Int))=true→∃ i:Nat,i<adj.length∧isR hs al i=true∧hs i=(r:Int)∧os r=(i:Int):=by
  intro r c;obtain ⟨i,d,f,h2⟩:=of_decide_eq_true c;rcases k.l i d with e | ⟨s,_,e,_,o⟩
  ·omega
  ·have:s=r:=by omega
   subst this;exact ⟨i,d,f,h2,o⟩
 refine cntP_inj (fun r=>(os r).toNat) (fun r _ c=>?_) (fun r q _ _ c m e=>?_)
 ·obtain ⟨i,d,f,_,o⟩:=g r c
  rw [o,Int.toNat_natCast];exact ⟨d,f⟩
 ·obtain ⟨i,_,_,h2,o⟩:=g r c
  obtain ⟨j,_,_,u,p⟩:=g q m;have h:i=j:=by
   rw [o,p] at e;simpa using e
  subst h;omega
def Big (R:Nat) (adj:List (List Int)) (n:Nat):Prop:=(∃ h,Mat R adj h∧msize adj h=n)∧∃ A B,Cov adj A B∧cntP adj.length A+cntP R B≤n
theorem great_big {R:Nat} {adj:List (List Int)} {hs os:Nat→Int} (h:Great R adj hs os adj.length) (c:OnR R adj):Big R adj (msize adj hs):=by
 obtain ⟨al,d⟩:=Zu4 h;refine ⟨⟨hs,h.p.mat,rfl⟩,_,_,Ys6 h.p d c,?_⟩;have e:=Ys7 h.p al;have h2:=Yg8 hs al adj.length;unfold msize;omega
end Go.Proofs.YtheeajnkiniopaaGreatDoor.Wp.K
namespace Go.Proofs.YtheeajnkiniopaaGreatDoor.Wp
def pickN (n:Nat) (P:Nat→Bool):List Nat:=(List.range n).filter P
theorem mem_pick {n:Nat} {P:Nat→Bool} {i:Nat}:i∈pickN n P↔i<n∧P i=true:=by simp [pickN]
theorem Yq8 {n:Nat} {P Q:Nat→Bool} (h:∀ i,i<n→P i=Q i):pickN n P=pickN n Q:=List.filter_congr fun i c=>h i (List.mem_range.1 c)
theorem Zm0 (n:Nat):pickN n noneP=[]:=List.filter_eq_nil_iff.2 fun _ _=>by simp [noneP]
theorem K0_ {n:Nat} {P:Nat→Bool} {x i:Nat} (c:x<n):i∈pickN n (insP P x)↔i=x∨i∈pickN n P:=by
 rw [mem_pick,mem_pick];by_cases e:i=x
 ·subst e;simp [X7_,c]
 ·rw [X0_ e];simp [e]
def edgP (n:Nat) (e:Nat→Nat × Nat) (P:Nat→Bool):List (Nat × Nat):=(pickN n P).map e
def O7_ (A n:Nat) (e:Nat→Nat × Nat) (P:Nat→Bool):Nat:=A - D1_ A (edgP n e P)
theorem Yq9 {n:Nat} {e:Nat→Nat × Nat} {P:Nat→Bool} {g:Nat→Nat}:Cst (edgP n e P) g↔∀ i,i<n→P i=true→g (e i).1=g (e i).2:=by
 unfold Cst edgP;constructor
 ·intro h i d f
  exact h _ (List.mem_map_of_mem (mem_pick.2 ⟨d,f⟩))
 ·intro h c hc
  obtain ⟨i,d,rfl⟩:=List.mem_map.1 hc;exact h i (mem_pick.1 d).1 (mem_pick.1 d).2
theorem Ys8 {n:Nat} {e:Nat→Nat × Nat} {P:Nat→Bool} {x:Nat} (k:x<n) (g:Nat→Nat):Cst (edgP n e (insP P x)) g↔Cst (edgP n e P ++ [e x]) g:=by
 rw [cst_append,cst_one,Yq9,Yq9];constructor
 ·intro h
  exact ⟨fun i d c=>h i d (by unfold insP;rw [c];simp),h x k (X7_ P x)⟩
 ·rintro ⟨j,h2⟩ i d c
  by_cases f:i=x
  ·rw [f];exact h2
  ·rw [X0_ f] at c;exact j i d c
theorem Xf5 {A n:Nat} {e:Nat→Nat × Nat} (d:∀ i,i<n→(e i).1<A∧(e i).2<A):Rk n (O7_ A n e):=by
 refine Rk.of_step (fun P x=>decide (compF (edgP n e P) (e x).1≠compF (edgP n e P) (e x).2)) (fun {P Q} h=>?_) ?_ (fun {P x} hx hp=>?_) (fun {P x y} hx hy hxy hp hq h=>?_)
 ·unfold O7_ edgP;rw [Yq8 h]
 ·unfold O7_ edgP
  rw [Zm0,List.map_nil,Yf8,Nat.sub_self]
 ·have c:D1_ A (edgP n e (insP P x))=D1_ A (edgP n e P ++ [e x]):=Zt5 (Ys8 hx)
  have f:=Zl6 A (edgP n e P);unfold O7_;rw [c];by_cases h:compF (edgP n e P) (e x).1=compF (edgP n e P) (e x).2
  ·rw [Yr9 h,if_neg k34_]
   rfl
  ·have:=Yf7 h (d x hx).1 (d x hx).2
   rw [if_pos k34_];omega
 ·rw [decide_eq_true_iff] at h ⊢
  intro hc;apply h;have c:compF (edgP n e (insP P x))=compF (edgP n e P ++ [e x]):=Zl4 (Ys8 hx);rw [c,← Zl5,hc,Zl5]
def sumN (g:Nat→Nat):Nat→Nat
 | 0=>0
 | k+1=>sumN g k+g k
theorem Ze4 {g h:Nat→Nat}:∀ {k:Nat},(∀ c,c<k→g c=h c)→sumN g k=sumN h k
 | 0,_=>rfl
 | k+1,e=>by rw [sumN,sumN,Ze4 fun c hc=>e c k29_,e k k29_]
theorem Zx1 {g:Nat→Nat}:∀ {k:Nat},(∀ c,c<k→g c=0)→sumN g k=0
 | 0,_=>rfl
 | k+1,e=>by rw [sumN,Zx1 fun c hc=>e c k29_,e k k29_]
theorem Ze5 {g h:Nat→Nat} {b:Nat} {d:Nat}:∀ {k:Nat},b<k→(∀ c,c≠b→g c=h c)→g b=h b+d→sumN g k=sumN h k+d
 | 0,hb,_,_=>by omega
 | k+1,hb,e,eb=>by
  rw [sumN,sumN];by_cases f:b=k
  ·subst f
   rw [Ze4 (g:=g) (h:=h) fun c hc=>e c k29_,eb];omega
  ·rw [Ze5 (g:=g) (h:=h) (b:=b) (d:=d) k29_ e eb,e k (fun h2=>f h2.symm)]
   omega
def clsN (n:Nat) (cls:Nat→Nat) (P:Nat→Bool) (c:Nat):Nat:=cnt (fun i=>P i && cls i==c) n
def partR (A n:Nat) (cls most:Nat→Nat) (P:Nat→Bool):Nat:=sumN (fun c=>min (most c) (clsN n cls P c)) A
theorem N0_ {n:Nat} {cls:Nat→Nat} {P:Nat→Bool} {x c:Nat} (f:x<n) (d:P x=false):clsN n cls (insP P x) c=clsN n cls P c+if cls x=c then 1 else 0:=by
 unfold clsN;by_cases h:cls x=c
 ·rw [if_pos h,← J8_ (P:=fun i=>P i && cls i==c) f (by simp [d])]
  refine I9_ fun i _=>?_;by_cases e:i=x
  ·subst e;simp [X7_,h]
  ·rw [X0_ e]
   show _=insP (fun i=>P i && cls i==c) x i;rw [X0_ e]
 ·rw [if_neg h,Nat.add_zero]
  refine I9_ fun i _=>?_;by_cases e:i=x
  ·rw [e,show (cls x==c)=false from by simpa using h,Bool.and_false,Bool.and_false]
  ·rw [X0_ e]
theorem Ys9 {A n:Nat} {cls most:Nat→Nat} (hc:∀ i,i<n→cls i<A):Rk n (partR A n cls most):=by
 refine Rk.of_step (fun P x=>decide (clsN n cls P (cls x)<most (cls x))) (fun {P Q} h=>?_) ?_ (fun {P x} hx hp=>?_) (fun {P x y} hx hy hxy hp hq h=>?_)
 ·refine Ze4 fun c _=>?_
  unfold clsN;rw [I9_ fun i d=>by rw [h i d]]
 ·exact j14_
 ·refine Ze5 (b:=cls x) (hc x hx) (fun c hne=>?_) ?_
  ·exact z20_
  ·show min _ _=min _ _+_
   rw [N0_ hx hp,if_pos rfl];split
   ·rename_i h;rw [decide_eq_true_iff] at h;omega
   ·rename_i h;rw [decide_eq_true_iff] at h;omega
 ·rw [decide_eq_true_iff] at h ⊢
  rw [N0_ hx hp] at h;omega
def vecP (n:Nat) (v:Nat→Nat→Int) (P:Nat→Bool):List (Nat→Int):=(pickN n P).map v
noncomputable def linR (p:Int) (R n:Nat) (v:Nat→Nat→Int) (P:Nat→Bool):Nat:=L.rk p R (vecP n v P)
theorem Ya0 {n:Nat} {v:Nat→Nat→Int} {P:Nat→Bool} {x:Nat} (d:x<n) (u:Nat→Int):u∈vecP n v (insP P x)↔u∈v x :: vecP n v P:=by
 unfold vecP;rw [List.mem_map,List.mem_cons,List.mem_map];constructor
 ·rintro ⟨i,c,rfl⟩
  rcases (K0_ d).1 c with rfl | c
  ·exact .inl rfl
  ·exact .inr ⟨i,c,rfl⟩
 ·rintro (rfl | ⟨i,c,rfl⟩)
  ·exact ⟨x,(K0_ d).2 (.inl rfl),rfl⟩
  ·exact ⟨i,(K0_ d).2 (.inr c),rfl⟩
theorem Ve0 {p:Int} {R n:Nat} (c:L.Fld p) (v:Nat→Nat→Int):Rk n (linR p R n v):=by
 classical
 refine Rk.of_step (fun P x=>decide (¬ L.InSp p R (vecP n v P) (v x))) (fun {P Q} h=>?_) ?_ (fun {P x} hx hp=>?_) (fun {P x y} hx hy hxy hp hq h=>?_)
 ·unfold linR vecP;rw [Yq8 h]
 ·unfold linR vecP;rw [Zm0,List.map_nil,L.rk_nil]
 ·unfold linR
  rw [L.rk_perm c (Ya0 hx)];by_cases h:L.InSp p R (vecP n v P) (v x)
  ·rw [L.rk_cons_in h,if_neg k34_];rfl
  ·rw [L.rk_cons_out h,if_pos k34_]
 ·rw [decide_eq_true_iff] at h ⊢
  exact fun hc=>h (L.sp_mono (fun u d=>(Ya0 hx u).2 (List.mem_cons_of_mem _ d)) hc)
def CovP (n:Nat) (g:Nat→Nat→Prop) (P A B:Nat→Bool):Prop:=∀ i r,i<n→P i=true→g i r→A i=true∨B r=true
def CovC (n R:Nat) (g:Nat→Nat→Prop) (P:Nat→Bool) (k:Nat):Prop:=∃ A B,CovP n g P A B∧cnt A n+cnt B R≤k
theorem Xf6 {p:Nat→Prop}:∀ k,p k→∃ m,p m∧∀ j,p j→m≤j:=by
 intro k
 induction k using Nat.strongRecOn with
 | ind k ih =>
  intro d;by_cases h:∃ j,j<k∧p j
  ·obtain ⟨j,c,e⟩:=h
   exact ih j c e
  ·exact ⟨k,d,fun j c=>Nat.le_of_not_lt fun hl=>h ⟨j,hl,c⟩⟩
theorem Yt0 (n R:Nat) (g:Nat→Nat→Prop) (P:Nat→Bool):∃ m,CovC n R g P m∧∀ j,CovC n R g P j→m≤j :=
 Xf6 (cnt allP n+cnt noneP R) ⟨allP,noneP,fun _ _ _ _ _=>.inl rfl,le_refl _⟩
noncomputable def covR (n R:Nat) (g:Nat→Nat→Prop) (P:Nat→Bool):Nat:=Classical.choose (Yt0 n R g P)
theorem L7_ (n R:Nat) (g:Nat→Nat→Prop) (P:Nat→Bool):CovC n R g P (covR n R g P):=(Classical.choose_spec (Yt0 n R g P)).1
theorem N1_ {n R:Nat} {g:Nat→Nat→Prop} {P:Nat→Bool} {k:Nat} (h:CovC n R g P k):covR n R g P≤k:=(Classical.choose_spec (Yt0 n R g P)).2 k h
def b01 (b:Bool):Nat:=if b=true then 1 else 0
theorem Zu5 {p q r s:Nat→Bool}:∀ {n:Nat},(∀ i,i<n→b01 (p i)+b01 (q i)≤b01 (r i)+b01 (s i))→cnt p n+cnt q n≤cnt r n+cnt s n
 | 0,_=>by simp [cnt]
 | n+1,h=>by
  have e:=Zu5 (p:=p) (q:=q) (r:=r) (s:=s) (n:=n) fun i d=>h i k29_;have c:=h n k29_;unfold b01 at c;rw [Y7_,Y7_,Y7_,Y7_];omega
theorem Ve1 (n R:Nat) (g:Nat→Nat→Prop):Rk n (covR n R g):=by
 refine ⟨fun {P Q} h=>?_,?_,fun {P x} hx c=>?_,fun {P x} hx c=>?_,fun {P x y} hx hy hxy c hq=>?_⟩
 ·have D:∀ {P Q:Nat→Bool},(∀ i,i<n→P i=Q i)→covR n R g P≤covR n R g Q:=fun {P Q} h=>by
   obtain ⟨A,B,hc,z⟩:=L7_ n R g Q;exact N1_ ⟨A,B,fun i r d c=>hc i r d (by rw [← h i d];exact c),z⟩
  exact Nat.le_antisymm (D h) (D fun i d=>(h i d).symm)
 ·have H:CovP n g noneP noneP noneP:=fun _ _ _ c=>absurd c (by simp [noneP])
  have:=N1_ (n:=n) (R:=R) (g:=g) (P:=noneP) (k:=0) ⟨noneP,noneP,H,by rw [G6_,G6_];exact le_refl _⟩;omega
 ·obtain ⟨A,B,hc,z⟩:=L7_ n R g (insP P x)
  exact N1_ ⟨A,B,fun i r d c=>hc i r d (by unfold insP;rw [c];simp),z⟩
 ·obtain ⟨A,B,hc,z⟩:=L7_ n R g P
  refine N1_ ⟨insP A x,B,fun i r d c q=>?_,?_⟩
  ·by_cases e:i=x
   ·rw [e,X7_];exact .inl rfl
   ·rw [X0_ e] at c ⊢;exact hc i r d c q
  ·have:=(I8_ n).one' A hx
   omega
 ·obtain ⟨s,m,p,S⟩:=L7_ n R g (insP P x)
  obtain ⟨u,o,h2,T⟩:=L7_ n R g (insP P y);have O:∀ i,insP (insP P x) y i=(i==y || (i==x || P i)):=fun i=>rfl;let f:Nat→Bool:=fun i=>insP P x i && !s i;let j:Nat→Bool:=fun i=>insP P y i && !u i;have c1:CovC n R g (insP (insP P x) y) (cnt (fun i=>insP (insP P x) y i && !(f i || j i)) n+cnt (orP m o) R):=by
   refine ⟨_,_,fun i r d c q=>?_,le_refl _⟩;rw [c,Bool.true_and];cases t1:f i
   ·cases t2:j i
    ·exact .inl rfl
    ·right
     simp only [j,Bool.and_eq_true,Bool.not_eq_true'] at t2;have:=(h2 i r d t2.1 q).resolve_left (by rw [t2.2];decide);unfold orP;rw [this];simp
   ·right
    simp only [f,Bool.and_eq_true,Bool.not_eq_true'] at t1;have:=(p i r d t1.1 q).resolve_left (by rw [t1.2];decide);unfold orP;rw [this];simp
  have c2:CovC n R g P (cnt (fun i=>P i && !(f i && j i)) n+cnt (andP m o) R):=by
   refine ⟨_,_,fun i r d c q=>?_,le_refl _⟩;rw [c,Bool.true_and];cases t1:f i
   ·exact .inl rfl
   ·cases t2:j i
    ·exact .inl rfl
    ·right
     simp only [f,Bool.and_eq_true,Bool.not_eq_true'] at t1;simp only [j,Bool.and_eq_true,Bool.not_eq_true'] at t2;have E:=(p i r d t1.1 q).resolve_left (by rw [t1.2];decide);have F:=(h2 i r d t2.1 q).resolve_left (by rw [t2.2];decide);unfold andP;rw [E,F];rfl
  have K:=N1_ c1;have L:=N1_ c2;have M:cnt (fun i=>insP (insP P x) y i && !(f i || j i)) n+cnt (fun i=>P i && !(f i && j i)) n≤cnt s n+cnt u n:=Zu5 fun i _=>by
   simp only [f,j,insP,b01];by_cases w:i=x
   ·have v:(i==y)=false:=by rw [w];simpa using hxy
    have I:P i=false:=by rw [w];exact c
    simp only [v,I,show (i==x)=true from by simpa using w];cases s i<;>cases u i<;>simp
   ·have C:(i==x)=false:=by simpa using w
    by_cases v:i=y
    ·have J:P i=false:=by rw [v];exact hq
     simp only [C,J,show (i==y)=true from by simpa using v];cases s i<;>cases u i<;>simp
    ·have G:(i==y)=false:=by simpa using v
     simp only [C,G];cases P i<;>cases s i<;>cases u i<;>simp
  have N:cnt (orP m o) R+cnt (andP m o) R≤cnt m R+cnt o R:=Zu5 fun i _=>by
   simp only [orP,andP,b01];have p:m i=true∨m i=false:=by cases m i<;>simp
   have h2:o i=true∨o i=false:=by cases o i<;>simp
   rcases p with p | p<;>rcases h2 with h2 | h2<;>simp [p,h2]
  omega
end Go.Proofs.YtheeajnkiniopaaGreatDoor.Wp
