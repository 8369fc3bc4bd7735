/- The document's own way to what is come to, and to the shortest way, plain: of any lists of points; without the program's. -/
import Derived.Test.YteiejkhdonmcdaaGreatDoorZN
import Derived.Test.YteiejkhdonmcdaaGreatDoorZF
import Derived.Test.YteiejkhdonmcdaaGreatDoorX0A
namespace Go.Proofs.YteiejkhdonmcdaaGreatDoor.Wp
open Go Go.RowKit
def DigP (adj:List (List Int)):Prop:=adj.length≤4096∧∀ x,IsSet (adj.getD x [])∧∀ y∈adj.getD x [],0≤y∧y<(adj.length:Int)
abbrev PtsP (n:Nat) (l:List Int):Prop:=InN n l
def nearK (adj:List (List Int)) (l:List Int):Nat→List Int
 | 0=>l
 | k+1=>Y1_ (nearK adj l k) (adj.getD (l.getD k 0).toNat [])
def nearL (adj:List (List Int)) (l:List Int):List Int:=nearK adj l l.length
def itL (adj:List (List Int)) (l:List Int):Nat→List Int
 | 0=>l
 | k+1=>nearL adj (itL adj l k)
theorem Yv2 {adj:List (List Int)} (l:List Int):∀ k,itL adj (nearL adj l) k=itL adj l (k+1)
 | 0=>rfl
 | k+1=>by
  show nearL adj (itL adj (nearL adj l) k)=nearL adj (itL adj l (k+1));rw [Yv2 l k]
theorem Zr6 {adj:List (List Int)} {l:List Int} {k:Nat} (h:itL adj l (k+1)=itL adj l k):∀ m,itL adj l (k+m)=itL adj l k
 | 0=>rfl
 | m+1=>by
  show nearL adj (itL adj l (k+m))=_;rw [Zr6 h m];exact h
theorem G0_ {n:Nat} {l:List Int} (h:PtsP n l):l.length≤n:=Y4_ h
section
variable {adj:List (List Int)} (hd:DigP adj)
include hd
theorem Zf4 {l:List Int} (hl:PtsP adj.length l):∀ k,k≤l.length→PtsP adj.length (nearK adj l k)∧∀ x,x∈nearK adj l k↔x∈l∨∃ y∈l.take k,x∈adj.getD y.toNat []
 | 0,_=>⟨hl,fun x=>by simp [nearK]⟩
 | k+1,hk=>by
  obtain ⟨d,f⟩:=Zf4 hl k q39_;have e:=V8_ d.1 (hd.2 (l.getD k 0).toNat).1;have g:l.take (k+1)=l.take k ++ [l.getD k 0]:=by
   rw [List.take_succ_eq_append_getElem (by omega:k<l.length)];simp [List.getD,show k<l.length by omega]
  refine ⟨⟨B0_ _ _,fun x j=>?_⟩,fun x=>?_⟩
  ·rcases (e x).1 j with h | h
   ·exact d.2 x h
   ·exact (hd.2 _).2 x h
  ·show x∈Y1_ (nearK adj l k) (adj.getD (l.getD k 0).toNat [])↔_
   rw [e x,f x,g];constructor
   ·rintro ((h | ⟨y,c,h⟩) | h)
    ·exact .inl h
    ·exact .inr ⟨y,List.mem_append.2 (.inl c),h⟩
    ·exact .inr ⟨_,List.mem_append.2 (.inr (List.mem_singleton.2 rfl)),h⟩
   ·rintro (h | ⟨y,c,h⟩)
    ·exact .inl (.inl h)
    ·rcases List.mem_append.1 c with c | c
     ·exact .inl (.inr ⟨y,c,h⟩)
     ·rw [List.mem_singleton] at c
      rw [c] at h;exact .inr h
theorem W1_ {l:List Int} (hl:PtsP adj.length l):PtsP adj.length (nearL adj l)∧∀ x,x∈nearL adj l↔x∈l∨∃ y∈l,x∈adj.getD y.toNat []:=by
 have:=Zf4 hd hl l.length (Nat.le_refl _);rw [List.take_length] at this;exact this
theorem G1_ {l:List Int} (hl:PtsP adj.length l):∀ k,PtsP adj.length (itL adj l k)
 | 0=>hl
 | k+1=>(W1_ hd (G1_ hl k)).1
theorem W2_ {dst:List Int}:∀ k l,PtsP adj.length l→((∃ z∈itL adj l k,z∈dst)↔∃ y∈l,Near adj dst k y)
 | 0,l,_=>Iff.rfl
 | k+1,l,hl=>by
  have d:=W1_ hd hl;rw [← Yv2 l k,W2_ k _ d.1];constructor
  ·rintro ⟨y,c,h⟩
   rcases (d.2 y).1 c with c | ⟨z,e,c⟩
   ·exact ⟨y,c,.inl h⟩
   ·exact ⟨z,e,.inr ⟨y,c,h⟩⟩
  ·rintro ⟨y,c,h | ⟨z,e,h⟩⟩
   ·exact ⟨y,(d.2 y).2 (.inl c),h⟩
   ·exact ⟨z,(d.2 z).2 (.inr ⟨y,c,e⟩),h⟩
theorem Xg2 {l:List Int} (hl:PtsP adj.length l) (k:Nat):∀ x,x∈itL adj l k→x∈itL adj l (k+1):=fun x c=>((W1_ hd (G1_ hd hl k)).2 x).2 (.inl c)
theorem Yv3 {l:List Int} (hl:PtsP adj.length l):∀ k,(∀ m,m<k→itL adj l (m+1)≠itL adj l m)→k≤(itL adj l k).length
 | 0,_=>Nat.zero_le _
 | k+1,h=>by
  have r:=Yv3 hl k fun m d=>h m q39_;have e:=G1_ hd hl k;have c:=G1_ hd hl (k+1);rw [X2_ e] at r;rw [X2_ c];by_cases f:∃ y,y<adj.length∧memP (itL adj l k) y=false∧memP (itL adj l (k+1)) y=true
  ·have:=Zu8 (p:=memP (itL adj l k)) (q:=memP (itL adj l (k+1))) (n:=adj.length) (fun v _ o=>memP_iff.2 (Xg2 hd hl k _ (memP_iff.1 o))) f
   omega
  ·exfalso
   refine h k q39_ (IsSet.ext c.1 e.1 fun x=>⟨fun g=>?_,Xg2 hd hl k x⟩);have hb:=c.2 x g;have j:((x.toNat:Nat):Int)=x:=q39_;cases d:memP (itL adj l k) x.toNat
   ·exact absurd ⟨x.toNat,q39_,d,memP_iff.2 (by rw [j];exact g)⟩ f
   ·have:=memP_iff.1 d
    rwa [j] at this
theorem Xg3 {l:List Int} (hl:PtsP adj.length l):∀ m,itL adj l (adj.length+m)=itL adj l adj.length:=by
 by_cases h:∃ k,k≤adj.length∧itL adj l (k+1)=itL adj l k
 ·obtain ⟨k,f,e⟩:=h
  intro m;have c:=Zr6 e (adj.length+m - k);have d:=Zr6 e (adj.length - k);rw [show k+(adj.length+m - k)=adj.length+m by omega] at c;rw [show k+(adj.length - k)=adj.length by omega] at d;rw [c,d]
 ·exfalso
  have c:=Yv3 hd hl (adj.length+1) fun m g e=>h ⟨m,q39_,e⟩;have d:=G0_ (G1_ hd hl (adj.length+1));omega
theorem Yw4 {l:List Int} (hl:PtsP adj.length l) {x y:Int} (c:x∈itL adj l adj.length) (d:y∈adj.getD x.toNat []):y∈itL adj l adj.length:=by
 have h:=((W1_ hd (G1_ hd hl adj.length)).2 y).2 (.inr ⟨x,c,d⟩);have e:itL adj l (adj.length+1)=itL adj l adj.length:=Xg3 hd hl 1;rw [← e];exact h
theorem Xg4 {l:List Int} (hl:PtsP adj.length l):∀ k x,x∈l→x∈itL adj l k
 | 0,_,h=>h
 | k+1,x,h=>Xg2 hd hl k x (Xg4 hl k x h)
theorem Zf5 {dst:List Int} {v:Int} (h:0≤v∧v<(adj.length:Int)) {k:Nat} (f:Near adj dst k v):∃ m,m≤adj.length∧m≤k∧Near adj dst m v:=by
 by_cases g:k≤adj.length
 ·exact ⟨k,g,Nat.le_refl _,f⟩
 ·have hl:PtsP adj.length [v]:=⟨⟨j39_,fun y c=>by rw [List.mem_singleton] at c;have:=hd.1;rw [c];exact ⟨q39_,q39_⟩⟩,fun y c=>by rw [List.mem_singleton] at c;rw [c];exact h⟩
  have d:=(W2_ hd (dst:=dst) k [v] hl).2 ⟨v,j39_,f⟩;rw [show k=adj.length+(k - adj.length) by omega,Xg3 hd hl] at d;obtain ⟨y,c,e⟩:=(W2_ hd (dst:=dst) adj.length [v] hl).1 d;rw [List.mem_singleton] at c;rw [c] at e;exact ⟨adj.length,Nat.le_refl _,q39_,e⟩
end
def K1_ (adj:List (List Int)) (dst:List Int) (v s:Int):Prop :=
 (∃ k:Nat,s=(k:Int)∧Near adj dst k v∧∀ m,m<k→¬ Near adj dst m v)∨(s=-1∧∀ m,¬ Near adj dst m v)
def Q0_ (adj:List (List Int)) (dst S:List Int) (i:Nat) (b:Int):Prop :=
 (b=-1∧∀ y∈S.take i,∀ k,¬ Near adj dst k y) ∨
 (∃ k,b∈S.take i∧Near adj dst k b∧(∀ y∈S.take i,∀ m,m<k→¬ Near adj dst m y)∧∀ y∈S.take i,y<b→¬ Near adj dst k y)
section
variable {adj:List (List Int)} {dst S:List Int} {i:Nat} {b s:Int}
theorem Zl6 {v:Int} {k:Nat} (h:K1_ adj dst v s) (c:Near adj dst k v) (g:∀ m,m<k→¬ Near adj dst m v):s=(k:Int):=by
 rcases h with ⟨d,rfl,e,f⟩ | ⟨_,h⟩
 ·rcases Nat.lt_trichotomy k d with h | h | h
  ·exact absurd c (f k h)
  ·rw [h]
  ·exact absurd e (g d h)
 ·exact absurd c (h k)
theorem Zl7:Q0_ adj dst S 0 (-1):=.inl ⟨rfl,fun y c=>by simp at c⟩
theorem O7_ (c:i<S.length):S.take (i+1)=S.take i ++ [S.getD i 0]:=by
 rw [List.take_succ_eq_append_getElem c];simp [List.getD,c]
theorem G7_ {p:Int→Prop} (e:i<S.length) (h:∀ y∈S.take i,p y) (d:p (S.getD i 0)):∀ y∈S.take (i+1),p y:=fun y c=>by
 rw [O7_ e,List.mem_append,List.mem_singleton] at c;rcases c with c | rfl
 ·exact h y c
 ·exact d
theorem Xg5 (d:S.Pairwise (·<·)) (c:i<S.length):∀ y∈S.take i,y<S.getD i 0:=fun y f=>by
 have h:=d;rw [← List.take_append_drop i S,List.pairwise_append] at h;refine h.2.2 y f _ ?_;have e:S.drop i=S[i] :: S.drop (i+1):=List.drop_eq_getElem_cons c;rw [e];exact List.mem_cons.2 (.inl (by simp [List.getD,c]))
theorem Zf6 (c:i<S.length) (h:Q0_ adj dst S i b) (hs:K1_ adj dst (S.getD i 0) s) (o:s<0):Q0_ adj dst S (i+1) b:=by
 have d:∀ m,¬ Near adj dst m (S.getD i 0):=by
  rcases hs with ⟨k,rfl,_⟩ | ⟨_,h⟩
  ·omega
  ·exact h
 rcases h with ⟨e,h⟩ | ⟨k,f,g,h3,j⟩
 ·exact .inl ⟨e,G7_ c h d⟩
 ·exact .inr ⟨k,by rw [O7_ c];exact List.mem_append.2 (.inl f),g,G7_ c h3 fun m _=>d m,G7_ c j fun _=>d k⟩
theorem Zf7 (c:i<S.length) (h:Q0_ adj dst S i b) (hb:b=-1) (o:∀ y∈S.take i,0≤y) (hs:K1_ adj dst (S.getD i 0) s) (q:0≤s):Q0_ adj dst S (i+1) (S.getD i 0):=by
 rcases hs with ⟨k,rfl,g,j⟩ | ⟨e,_⟩
 ·have f:∀ y∈S.take i,∀ k,¬ Near adj dst k y:=by
   rcases h with ⟨_,h⟩ | ⟨_,h,_⟩
   ·exact h
   ·have:=o _ h
    omega
  exact .inr ⟨k,by rw [O7_ c];exact List.mem_append.2 (.inr j39_),g,G7_ c (fun y d m _=>f y d m) j,G7_ c (fun y d _=>f y d k) (fun p=>by omega)⟩
 ·omega
theorem Zv5 (c:i<S.length) (h:Q0_ adj dst S i b) (hb:0≤b) {g:Int} (v:K1_ adj dst b g) (hs:K1_ adj dst (S.getD i 0) s) (A:0≤s) (u:s<g):Q0_ adj dst S (i+1) (S.getD i 0):=by
 rcases h with ⟨e,_⟩ | ⟨k,p,q,h3,w⟩
 ·omega
 ·have x:=Zl6 v q (h3 b p)
  rcases hs with ⟨f,rfl,j,o⟩ | ⟨e,_⟩
  ·have r:f<k:=by omega
   exact .inr ⟨f,by rw [O7_ c];exact List.mem_append.2 (.inr j39_),j,G7_ c (fun y d m z=>h3 y d m q39_) o,G7_ c (fun y d _=>h3 y d f r) (fun u=>by omega)⟩
  ·omega
theorem Zl8 (r:S.Pairwise (·<·)) (c:i<S.length) (h:Q0_ adj dst S i b) (hb:0≤b) {g:Int} (q:K1_ adj dst b g) (hs:K1_ adj dst (S.getD i 0) s) (y:0≤s) (p:¬ s<g):Q0_ adj dst S (i+1) b:=by
 rcases h with ⟨e,_⟩ | ⟨k,d,f,h3,o⟩
 ·omega
 ·have v:=Zl6 q f (h3 b d)
  have w:=Xg5 r c b d;rcases hs with ⟨z,rfl,u,j⟩ | ⟨e,_⟩
  ·exact .inr ⟨k,by rw [O7_ c];exact List.mem_append.2 (.inl d),f,G7_ c h3 (fun m x=>j m q39_),G7_ c o (fun p=>by omega)⟩
  ·omega
theorem Zv6 {n:Nat} {x:Int} {l:List Int} (c:Greedy adj dst S n (x :: l)) (h:Q0_ adj dst S S.length b):b=x:=by
 unfold Q0_ at h;rw [List.take_length] at h;have g:=c.near 0 j39_;have f:=c.mem;rcases h with ⟨_,h⟩ | ⟨k,d,e,h3,j⟩
 ·exact absurd g (h x f _)
 ·have m:k=n:=by
   rcases Nat.lt_trichotomy k n with h | h | h
   ·exact absurd e (c.none b d k h)
   ·exact h
   ·exact absurd g (h3 x f n h)
  subst m;rcases Int.lt_trichotomy b x with h | h | h
  ·cases c with
   | stop _ _ _ _ hl=>exact absurd e (hl b d h)
   | step _ _ _ _ _ _ _ hl _=>exact absurd e (hl b d h)
  ·exact h
  ·exact absurd g (j x f h)
end
open Classical in
theorem Yl9 (adj:List (List Int)) (dst:List Int) (v:Int):∃ s,K1_ adj dst v s:=by
 by_cases h:∃ k,Near adj dst k v
 ·obtain ⟨k,e⟩:=h
  suffices hs:∀ k,Near adj dst k v→∃ m,m≤k∧Near adj dst m v∧∀ j,j<m→¬ Near adj dst j v by
   obtain ⟨m,_,g,d⟩:=hs k e;exact ⟨m,.inl ⟨m,rfl,g,d⟩⟩
  intro k
  induction k using Nat.strongRecOn with
  | _ k ih =>
   intro e;by_cases c:∃ j,j<k∧Near adj dst j v
   ·obtain ⟨j,c,f⟩:=c
    obtain ⟨m,g,d⟩:=ih j c f;exact ⟨m,q39_,d⟩
   ·exact ⟨k,Nat.le_refl _,e,fun j o f=>c ⟨j,o,f⟩⟩
 ·exact ⟨-1,.inr ⟨rfl,fun m p=>h ⟨m,p⟩⟩⟩
theorem Zr7 (adj:List (List Int)) (dst:List Int) {S:List Int} (m:S.Pairwise (·<·)) (j:∀ y∈S,0≤y):∀ i,i≤S.length→∃ b,Q0_ adj dst S i b
 | 0,_=>⟨-1,Zl7⟩
 | i+1,hi=>by
  obtain ⟨b,hb⟩:=Zr7 adj dst m j i q39_;obtain ⟨s,hs⟩:=Yl9 adj dst (S.getD i 0);have g:∀ y∈S.take i,0≤y:=fun y p=>j y (List.mem_of_mem_take p);by_cases o:s<0
  ·exact ⟨b,Zf6 q39_ hb hs o⟩
  ·by_cases d:b=-1
   ·exact ⟨_,Zf7 q39_ hb d g hs q39_⟩
   ·have c:0≤b:=by
     rcases hb with ⟨e,_⟩ | ⟨_,h,_⟩
     ·exact absurd e d
     ·exact g b h
    obtain ⟨q,k⟩:=Yl9 adj dst b;by_cases f:s<q
    ·exact ⟨_,Zv5 q39_ hb c k hs q39_ f⟩
    ·exact ⟨b,Zl8 m q39_ hb c k hs q39_ f⟩
theorem Yv4 {adj:List (List Int)} {dst:List Int} (hd:DigP adj):∀ (k:Nat) {S:List Int} {b:Int},(∀ y∈S,0≤y)→b∈S→Near adj dst k b→(∀ y∈S,∀ m,m<k→¬ Near adj dst m y)→(∀ y∈S,y<b→¬ Near adj dst k y)→∃ l,Greedy adj dst S k (b :: l)
 | 0,S,b,_,hb,hn,_,hl=>⟨[],.stop S b hb hn hl⟩
 | k+1,S,b,hpt,hb,hn,hno,hl=>by
  have hA:=hd.2 b.toNat;obtain ⟨c,hc⟩:=Zr7 adj dst hA.1.1 (fun y d=>(hA.2 y d).1) (adj.getD b.toNat []).length (Nat.le_refl _);unfold Q0_ at hc;rw [List.take_length] at hc;obtain ⟨y,d,j⟩:∃ y∈adj.getD b.toNat [],Near adj dst k y:=by
   rcases hn with h | h
   ·exact absurd h (hno b hb k q39_)
   ·exact h
  rcases hc with ⟨_,h⟩ | ⟨e,f,g,h3,o⟩
  ·exact absurd j (h y d k)
  ·have q:e=k:=by
    rcases Nat.lt_trichotomy e k with h | h | h
    ·exfalso
     have:Near adj dst (e+1) b:=.inr ⟨c,f,g⟩;exact hno b hb (e+1) q39_ this
    ·exact h
    ·exact absurd j (h3 y d k h)
   subst q;obtain ⟨l,p⟩:=Yv4 hd e (fun y d=>(hA.2 y d).1) f g h3 o;exact ⟨c :: l,.step S b e _ hb hn (fun y d=>hno y d e q39_) hl p⟩
theorem Xg6 {adj:List (List Int)} {dst S:List Int} (hd:DigP adj) (c:PtsP adj.length S):(∃ n x l,Greedy adj dst S n (x :: l))∨∀ y∈S,∀ k,¬ Near adj dst k y:=by
 obtain ⟨b,hb⟩:=Zr7 adj dst c.1.1 (fun y d=>(c.2 y d).1) S.length (Nat.le_refl _);unfold Q0_ at hb;rw [List.take_length] at hb;rcases hb with ⟨_,h⟩ | ⟨k,e,f,h3,g⟩
 ·exact .inr h
 ·obtain ⟨l,hl⟩:=Yv4 hd k (fun y d=>(c.2 y d).1) e f h3 g
  exact .inl ⟨k,b,l,hl⟩
end Go.Proofs.YteiejkhdonmcdaaGreatDoor.Wp
namespace Go.Proofs.YteiejkhdonmcdaaGreatDoor.Wp
open Go Go.RowKit
theorem W3_ {k:Nat} (h:k≤64):IsSet (upTo k):=by
 by_cases c:k=0
 ·subst c;exact X3_
 ·rw [← Yq6 q39_ q39_]
  exact I9_ _
section
variable {a b m:Mat} {s:List Int}
theorem A9_ (c:nN m≤64):InN (nN m) (addG m s):=⟨(W3_ c).filter _,fun _ d=>mem_upTo.1 (List.mem_filter.1 d).1⟩
theorem Xg7 {x:Nat} (c:nN a≤x):(adjG a b s).getD x []=[]:=by
 rw [List.getD_eq_getElem?_getD,List.getElem?_eq_none (by rw [A6_];exact c)];rfl
theorem Zr8 (d:nN a≤64):DigP (adjG a b s):=by
 refine ⟨by rw [A6_];omega,fun x=>?_⟩;by_cases e:x<nN a
 ·rw [Zl4 e,A6_]
  exact ⟨(W3_ d).filter _,fun y c=>mem_upTo.1 (List.mem_filter.1 c).1⟩
 ·rw [Xg7 q39_]
  exact ⟨X3_,fun y c=>by cases c⟩
theorem Common.n64 (h:Common a b s):nN a≤64:=(Z7_ (mayI_iff.1 (J5_ h.ia)).1).2
theorem Common.set (h:Common a b s):InN (nN a) s:=(mayI_iff.1 (J5_ h.ia)).2
theorem Zr9 (h:Common a b s):(∃ n x l,Greedy (adjG a b s) (addG b s) (addG a s) n (x :: l)∧(turnL s (x :: l)).length=s.length+1∧indT a (turnL s (x :: l))=true∧indT b (turnL s (x :: l))=true∧InN (nN a) (turnL s (x :: l)))∨∀ y∈addG a s,∀ k,¬ Near (adjG a b s) (addG b s) k y:=by
 rcases Xg6 (adj:=adjG a b s) (dst:=addG b s) (S:=addG a s) (Zr8 h.n64) (by rw [A6_];exact A9_ h.n64) with ⟨n,x,l,hg⟩ | hno
 ·exact .inl ⟨n,x,l,hg,Xf5 h hg⟩
 ·exact .inr hno
theorem Yw5 (h:Common a b s) (g:meetL (itL (adjG a b s) (addG a s) (adjG a b s).length) (addG b s)=[]) :
  InN (nN a) (itL (adjG a b s) (addG a s) (adjG a b s).length)∧rankT a (Z5_ (allL a.n) (itL (adjG a b s) (addG a s) (adjG a b s).length))+rankT b (itL (adjG a b s) (addG a s) (adjG a b s).length)=(s.length:Int):=by
 have hd:=Zr8 (b:=b) (s:=s) h.n64;have d:PtsP (adjG a b s).length (addG a s):=by rw [A6_];exact A9_ h.n64
 have f:=G1_ hd d (adjG a b s).length;have c:InN (nN a) (itL (adjG a b s) (addG a s) (adjG a b s).length):=by rw [A6_] at f ⊢;exact f
 refine ⟨c,Yw0 h c (Xg4 hd d _) (fun x e y j=>Yw4 hd d e (by rw [Int.toNat_natCast];exact j)) fun x e hb=>?_⟩;have hB:IsSet (addG b s):=(A9_ (by rw [h.nn];exact h.n64)).1;have:=(I1_ c.1 hB x).2 ⟨e,hb⟩;rw [g] at this;cases this
theorem Yv5 (c:nN b=nN a) {x y:Nat} (d:x<nN a) (e:y<nN a):(y:Int)∈(adjG a b s).getD x []↔(x:Int)∈(adjG b a s).getD y []:=by
 rw [Zl4 d,Zl4 (by rw [c];exact e)];unfold arcsG;rw [List.mem_filter,List.mem_filter,mem_upTo,mem_upTo,Bool.or_eq_true,Bool.or_eq_true,c];exact ⟨fun h=>⟨⟨q39_,q39_⟩,h.2.symm⟩,fun h=>⟨⟨q39_,q39_⟩,h.2.symm⟩⟩
theorem Vz0 {l:List Int} (h:¬ (mayB s=true∧(sortL l).length=l.length)):turnL s l=[]:=if_neg h
theorem Vg9 {l:List Int} (hs:IsSet s) (hl:(sortL l).length=l.length):turnL s l=Y1_ (Z5_ s (sortL l)) (Z5_ (sortL l) s):=if_pos ⟨I8_ hs,hl⟩
theorem Zq6 (s l:List Int):IsSet (turnL s l):=by
 unfold turnL;split
 ·exact B0_ _ _
 ·exact X3_
theorem Zq7 {l:List Int} (hs:IsSet s) (hl:(sortL l).length=l.length) (x:Int):x∈turnL s l↔(x∈s∧x∉sortL l)∨(x∈sortL l∧x∉s):=by
 rw [Vg9 hs hl,V8_ (J7_ _ _) (J7_ _ _),Y6_ hs (V7_ l),Y6_ (V7_ l) hs]
theorem Xg8 {l:List Int} (hs:IsSet s) (hl:(sortL l).length=l.length):turnL (turnL s l) l=s:=by
 refine IsSet.ext (Zq6 _ _) hs fun x=>?_;rw [Zq7 (Zq6 s l) hl,Zq7 hs hl];by_cases c:x∈s<;>by_cases d:x∈sortL l<;>simp [c,d]
theorem Xg9 (x:Nat):(adjG a b []).getD x []=[]:=by
 by_cases c:x<nN a
 ·rw [Zl4 c]
  unfold arcsG;rw [List.filter_eq_nil_iff];intro y _;unfold M9_;have e:∀ z,hasB [] z=false:=fun z=>by
   rw [← Bool.not_eq_true,B7_ X3_];simp
  simp [e]
 ·exact Xg7 q39_
theorem Yw6 {x:Int} (c:IsSet [x]):Y1_ [] [x]=[x]:=IsSet.ext (B0_ _ _) c fun y=>by rw [V8_ X3_ c];simp
theorem Ym0 (hc:chk m=0) {x:Nat} (f:x<nN m):hasB (addG m []) (x:Int)=indT m [(x:Int)]:=by
 have c:=(Z7_ hc).2;have d:=Zf1 c f;have e:hasB [] (x:Int)=false:=by
  rw [← Bool.not_eq_true,B7_ X3_];simp
 rw [Bool.eq_iff_iff,B7_ (A9_ c).1];unfold addG;rw [List.mem_filter,mem_upTo,e,Yw6 d.1];simp;omega
theorem Xh0 (hs:IsSet s):turnL [] s=s:=by
 have hl:(sortL s).length=s.length:=by rw [Zj1 hs]
 refine IsSet.ext (Zq6 _ _) hs fun x=>?_;rw [Zq7 X3_ hl,Zj1 hs];simp
theorem Xh1 (hs:IsSet s):turnL s s=[]:=by
 have hl:(sortL s).length=s.length:=by rw [Zj1 hs]
 refine IsSet.ext (Zq6 _ _) X3_ fun x=>?_;rw [Zq7 hs hl,Zj1 hs];simp
theorem Vz1 (e:indT m s=true):0<(addG m s).length↔(s.length:Int)<rankT m (allL m.n):=by
 obtain ⟨hc,j⟩:=mayI_iff.1 (J5_ e);have f:=chk_n hc;have c:=rk_of hc;have hA:=Zd0 f.1 f.2;have y:=Zf2 e;have g:rkP 4 m (memP (allL m.n))=rkP 4 m allP:=c.ext fun i e=>Zp3 f.1 f.2 e;rw [Zr4 (mayI_iff.2 ⟨hc,hA⟩),g,X2_ j];constructor
 ·intro h
  obtain ⟨x,d⟩:=List.exists_mem_of_length_pos h;have hb:=(A9_ (Z7_ hc).2).2 x d;have p:((x.toNat:Nat):Int)=x:=q39_;rw [← p] at d;obtain ⟨r,u,h3⟩:=(M6_ e).1 d;have v:=c.mono (P:=insP (memP s) x.toNat) (Q:=allP) fun _ _ _=>rfl;omega
 ·intro h
  refine Classical.byContradiction fun q=>?_;have o:addG m s=[]:=List.eq_nil_of_length_eq_zero q39_;have k:=c.closed (memP s) allP (fun x d _=>by
   cases hs:memP s x
   ·have z:=c.up' (memP s) d
    have A:=c.one' (memP s) d;refine Classical.byContradiction fun w=>?_;have:(x:Int)∈addG m s:=(M6_ e).2 ⟨d,hs,q39_⟩;rw [o] at this;cases this
   ·rw [F8_ hs]) (nN m) (Nat.le_refl _)
  rw [B5_ c,c.ext (P:=orP (memP s) allP) (Q:=allP) fun i _=>by simp [orP,allP]] at k;omega
end
end Go.Proofs.YteiejkhdonmcdaaGreatDoor.Wp
