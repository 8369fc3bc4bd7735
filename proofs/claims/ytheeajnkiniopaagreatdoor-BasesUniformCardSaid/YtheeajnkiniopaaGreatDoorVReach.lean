/- The document's own way to what is come to, and to the shortest way, plain: of any lists of points; without the program's. -/
import Derived.Test.YtheeajnkiniopaaGreatDoorZN
import Derived.Test.YtheeajnkiniopaaGreatDoorUAdj
import Derived.Test.YtheeajnkiniopaaGreatDoorX0A
namespace Go.Proofs.YtheeajnkiniopaaGreatDoor.Wp
open Go Go.RowKit
def DigP (adj:List (List Int)):Prop:=adj.length≤4096∧∀ x,IsSet (adj.getD x [])∧∀ y∈adj.getD x [],0≤y∧y<(adj.length:Int)
abbrev PtsP (n:Nat) (l:List Int):Prop:=InN n l
def nearK (adj:List (List Int)) (l:List Int):Nat→List Int
 | 0=>l
 | k+1=>X2_ (nearK adj l k) (adj.getD (l.getD k 0).toNat [])
def nearL (adj:List (List Int)) (l:List Int):List Int:=nearK adj l l.length
def itL (adj:List (List Int)) (l:List Int):Nat→List Int
 | 0=>l
 | k+1=>nearL adj (itL adj l k)
theorem Zo6 {adj:List (List Int)} (l:List Int):∀ k,itL adj (nearL adj l) k=itL adj l (k+1)
 | 0=>rfl
 | k+1=>by
  show nearL adj (itL adj (nearL adj l) k)=nearL adj (itL adj l (k+1));rw [Zo6 l k]
theorem W7_ {adj:List (List Int)} {l:List Int} {k:Nat} (h:itL adj l (k+1)=itL adj l k):∀ m,itL adj l (k+m)=itL adj l k
 | 0=>rfl
 | m+1=>by
  show nearL adj (itL adj l (k+m))=_;rw [W7_ h m];exact h
theorem Vj8 {n:Nat} {l:List Int} (h:PtsP n l):l.length≤n:=V6_ h
section
variable {adj:List (List Int)} (hd:DigP adj)
include hd
theorem Zo7 {l:List Int} (hl:PtsP adj.length l):∀ k,k≤l.length→PtsP adj.length (nearK adj l k)∧∀ x,x∈nearK adj l k↔x∈l∨∃ y∈l.take k,x∈adj.getD y.toNat []
 | 0,_=>⟨hl,fun x=>by simp [nearK]⟩
 | k+1,hk=>by
  obtain ⟨d,h2⟩:=Zo7 hl k k29_;have e:=O0_ d.1 (hd.2 (l.getD k 0).toNat).1;have f:l.take (k+1)=l.take k ++ [l.getD k 0]:=by
   rw [List.take_succ_eq_append_getElem (by omega:k<l.length)];simp [List.getD,show k<l.length by omega]
  refine ⟨⟨Zk4 _ _,fun x g=>?_⟩,fun x=>?_⟩
  ·rcases (e x).1 g with h | h
   ·exact d.2 x h
   ·exact (hd.2 _).2 x h
  ·show x∈X2_ (nearK adj l k) (adj.getD (l.getD k 0).toNat [])↔_
   rw [e x,h2 x,f];constructor
   ·rintro ((h | ⟨y,c,h⟩) | h)
    ·exact .inl h
    ·exact .inr ⟨y,List.mem_append.2 (.inl c),h⟩
    ·exact .inr ⟨_,List.mem_append.2 (.inr (List.mem_singleton.2 rfl)),h⟩
   ·rintro (h | ⟨y,c,h⟩)
    ·exact .inl (.inl h)
    ·rcases List.mem_append.1 c with c | c
     ·exact .inl (.inr ⟨y,c,h⟩)
     ·rw [List.mem_singleton] at c
      rw [c] at h;exact .inr h
theorem J5_ {l:List Int} (hl:PtsP adj.length l):PtsP adj.length (nearL adj l)∧∀ x,x∈nearL adj l↔x∈l∨∃ y∈l,x∈adj.getD y.toNat []:=by
 have:=Zo7 hd hl l.length (Nat.le_refl _);rw [List.take_length] at this;exact this
theorem Q9_ {l:List Int} (hl:PtsP adj.length l):∀ k,PtsP adj.length (itL adj l k)
 | 0=>hl
 | k+1=>(J5_ hd (Q9_ hl k)).1
theorem Zj0 {dst:List Int}:∀ k l,PtsP adj.length l→((∃ z∈itL adj l k,z∈dst)↔∃ y∈l,Near adj dst k y)
 | 0,l,_=>Iff.rfl
 | k+1,l,hl=>by
  have d:=J5_ hd hl;rw [← Zo6 l k,Zj0 k _ d.1];constructor
  ·rintro ⟨y,c,h⟩
   rcases (d.2 y).1 c with c | ⟨z,e,c⟩
   ·exact ⟨y,c,.inl h⟩
   ·exact ⟨z,e,.inr ⟨y,c,h⟩⟩
  ·rintro ⟨y,c,h | ⟨z,e,h⟩⟩
   ·exact ⟨y,(d.2 y).2 (.inl c),h⟩
   ·exact ⟨z,(d.2 z).2 (.inr ⟨y,c,e⟩),h⟩
theorem Yc1 {l:List Int} (hl:PtsP adj.length l) (k:Nat):∀ x,x∈itL adj l k→x∈itL adj l (k+1):=fun x c=>((J5_ hd (Q9_ hd hl k)).2 x).2 (.inl c)
theorem Zo8 {l:List Int} (hl:PtsP adj.length l):∀ k,(∀ m,m<k→itL adj l (m+1)≠itL adj l m)→k≤(itL adj l k).length
 | 0,_=>Nat.zero_le _
 | k+1,h=>by
  have o:=Zo8 hl k fun m c=>h m k29_;have d:=Q9_ hd hl k;have h2:=Q9_ hd hl (k+1);rw [X1_ d] at o;rw [X1_ h2];by_cases e:∃ y,y<adj.length∧memP (itL adj l k) y=false∧memP (itL adj l (k+1)) y=true
  ·have:=Yr6 (p:=memP (itL adj l k)) (q:=memP (itL adj l (k+1))) (n:=adj.length) (fun v _ j=>memP_iff.2 (Yc1 hd hl k _ (memP_iff.1 j))) e
   omega
  ·exfalso
   refine h k k29_ (IsSet.ext h2.1 d.1 fun x=>⟨fun f=>?_,Yc1 hd hl k x⟩);have hb:=h2.2 x f;have g:((x.toNat:Nat):Int)=x:=k29_;cases c:memP (itL adj l k) x.toNat
   ·exact absurd ⟨x.toNat,k29_,c,memP_iff.2 (by rw [g];exact f)⟩ e
   ·have:=memP_iff.1 c
    rwa [g] at this
theorem Xv9 {l:List Int} (hl:PtsP adj.length l):∀ m,itL adj l (adj.length+m)=itL adj l adj.length:=by
 by_cases h:∃ k,k≤adj.length∧itL adj l (k+1)=itL adj l k
 ·obtain ⟨k,d,e⟩:=h
  intro m;have c:=W7_ e (adj.length+m - k);have h2:=W7_ e (adj.length - k);rw [show k+(adj.length+m - k)=adj.length+m by omega] at c;rw [show k+(adj.length - k)=adj.length by omega] at h2;rw [c,h2]
 ·exfalso
  have c:=Zo8 hd hl (adj.length+1) fun m f e=>h ⟨m,k29_,e⟩;have h2:=Vj8 (Q9_ hd hl (adj.length+1));omega
theorem L9_ {l:List Int} (hl:PtsP adj.length l) {x y:Int} (c:x∈itL adj l adj.length) (d:y∈adj.getD x.toNat []):y∈itL adj l adj.length:=by
 have h:=((J5_ hd (Q9_ hd hl adj.length)).2 y).2 (.inr ⟨x,c,d⟩);have e:itL adj l (adj.length+1)=itL adj l adj.length:=Xv9 hd hl 1;rw [← e];exact h
theorem Zg0 {l:List Int} (hl:PtsP adj.length l):∀ k x,x∈l→x∈itL adj l k
 | 0,_,h=>h
 | k+1,x,h=>Yc1 hd hl k x (Zg0 hl k x h)
end
def K7_ (adj:List (List Int)) (dst:List Int) (v s:Int):Prop :=
 (∃ k:Nat,s=(k:Int)∧Near adj dst k v∧∀ m,m<k→¬ Near adj dst m v)∨(s=-1∧∀ m,¬ Near adj dst m v)
def B6_ (adj:List (List Int)) (dst S:List Int) (i:Nat) (b:Int):Prop :=
 (b=-1∧∀ y∈S.take i,∀ k,¬ Near adj dst k y) ∨
 (∃ k,b∈S.take i∧Near adj dst k b∧(∀ y∈S.take i,∀ m,m<k→¬ Near adj dst m y)∧∀ y∈S.take i,y<b→¬ Near adj dst k y)
section
variable {adj:List (List Int)} {dst S:List Int} {i:Nat} {b s:Int}
theorem Zb8 {v:Int} {k:Nat} (h:K7_ adj dst v s) (c:Near adj dst k v) (f:∀ m,m<k→¬ Near adj dst m v):s=(k:Int):=by
 rcases h with ⟨d,rfl,e,h2⟩ | ⟨_,h⟩
 ·rcases Nat.lt_trichotomy k d with h | h | h
  ·exact absurd c (h2 k h)
  ·rw [h]
  ·exact absurd e (f d h)
 ·exact absurd c (h k)
theorem Ym0:B6_ adj dst S 0 (-1):=.inl ⟨rfl,fun y c=>by simp at c⟩
theorem K8_ (c:i<S.length):S.take (i+1)=S.take i ++ [S.getD i 0]:=by
 rw [List.take_succ_eq_append_getElem c];simp [List.getD,c]
theorem C2_ {p:Int→Prop} (d:i<S.length) (h:∀ y∈S.take i,p y) (h2:p (S.getD i 0)):∀ y∈S.take (i+1),p y:=fun y c=>by
 rw [K8_ d,List.mem_append,List.mem_singleton] at c;rcases c with c | rfl
 ·exact h y c
 ·exact h2
theorem Xj0 (d:S.Pairwise (·<·)) (c:i<S.length):∀ y∈S.take i,y<S.getD i 0:=fun y f=>by
 have h:=d;rw [← List.take_append_drop i S,List.pairwise_append] at h;refine h.2.2 y f _ ?_;have e:S.drop i=S[i] :: S.drop (i+1):=List.drop_eq_getElem_cons c;rw [e];exact List.mem_cons.2 (.inl (by simp [List.getD,c]))
theorem Yy1 (c:i<S.length) (h:B6_ adj dst S i b) (hs:K7_ adj dst (S.getD i 0) s) (j:s<0):B6_ adj dst S (i+1) b:=by
 have d:∀ m,¬ Near adj dst m (S.getD i 0):=by
  rcases hs with ⟨k,rfl,_⟩ | ⟨_,h⟩
  ·omega
  ·exact h
 rcases h with ⟨e,h⟩ | ⟨k,f,h2,h3,g⟩
 ·exact .inl ⟨e,C2_ c h d⟩
 ·exact .inr ⟨k,by rw [K8_ c];exact List.mem_append.2 (.inl f),h2,C2_ c h3 fun m _=>d m,C2_ c g fun _=>d k⟩
theorem Yy2 (c:i<S.length) (h:B6_ adj dst S i b) (hb:b=-1) (j:∀ y∈S.take i,0≤y) (hs:K7_ adj dst (S.getD i 0) s) (p:0≤s):B6_ adj dst S (i+1) (S.getD i 0):=by
 rcases hs with ⟨k,rfl,g,h2⟩ | ⟨e,_⟩
 ·have f:∀ y∈S.take i,∀ k,¬ Near adj dst k y:=by
   rcases h with ⟨_,h⟩ | ⟨_,h,_⟩
   ·exact h
   ·have:=j _ h
    omega
  exact .inr ⟨k,by rw [K8_ c];exact List.mem_append.2 (.inr y30_),g,C2_ c (fun y d m _=>f y d m) h2,C2_ c (fun y d _=>f y d k) (fun o=>by omega)⟩
 ·omega
theorem Zo9 (c:i<S.length) (h:B6_ adj dst S i b) (hb:0≤b) {g:Int} (u:K7_ adj dst b g) (hs:K7_ adj dst (S.getD i 0) s) (z:0≤s) (r:s<g):B6_ adj dst S (i+1) (S.getD i 0):=by
 rcases h with ⟨e,_⟩ | ⟨k,p,h2,h3,v⟩
 ·omega
 ·have w:=Zb8 u h2 (h3 b p)
  rcases hs with ⟨f,rfl,j,o⟩ | ⟨e,_⟩
  ·have q:f<k:=by omega
   exact .inr ⟨f,by rw [K8_ c];exact List.mem_append.2 (.inr y30_),j,C2_ c (fun y d m x=>h3 y d m k29_) o,C2_ c (fun y d _=>h3 y d f q) (fun r=>by omega)⟩
  ·omega
theorem Ym1 (q:S.Pairwise (·<·)) (c:i<S.length) (h:B6_ adj dst S i b) (hb:0≤b) {f:Int} (p:K7_ adj dst b f) (hs:K7_ adj dst (S.getD i 0) s) (x:0≤s) (o:¬ s<f):B6_ adj dst S (i+1) b:=by
 rcases h with ⟨e,_⟩ | ⟨k,d,h2,h3,j⟩
 ·omega
 ·have u:=Zb8 p h2 (h3 b d)
  have v:=Xj0 q c b d;rcases hs with ⟨y,rfl,r,g⟩ | ⟨e,_⟩
  ·exact .inr ⟨k,by rw [K8_ c];exact List.mem_append.2 (.inl d),h2,C2_ c h3 (fun m w=>g m k29_),C2_ c j (fun o=>by omega)⟩
  ·omega
end
open Classical in
theorem Yc2 (adj:List (List Int)) (dst:List Int) (v:Int):∃ s,K7_ adj dst v s:=by
 by_cases h:∃ k,Near adj dst k v
 ·obtain ⟨k,d⟩:=h
  suffices hs:∀ k,Near adj dst k v→∃ m,m≤k∧Near adj dst m v∧∀ j,j<m→¬ Near adj dst j v by
   obtain ⟨m,_,f,h2⟩:=hs k d;exact ⟨m,.inl ⟨m,rfl,f,h2⟩⟩
  intro k
  induction k using Nat.strongRecOn with
  | _ k ih =>
   intro d;by_cases c:∃ j,j<k∧Near adj dst j v
   ·obtain ⟨j,c,e⟩:=c
    obtain ⟨m,f,h2⟩:=ih j c e;exact ⟨m,k29_,h2⟩
   ·exact ⟨k,Nat.le_refl _,d,fun j g e=>c ⟨j,g,e⟩⟩
 ·exact ⟨-1,.inr ⟨rfl,fun m o=>h ⟨m,o⟩⟩⟩
theorem Zg1 (adj:List (List Int)) (dst:List Int) {S:List Int} (m:S.Pairwise (·<·)) (j:∀ y∈S,0≤y):∀ i,i≤S.length→∃ b,B6_ adj dst S i b
 | 0,_=>⟨-1,Ym0⟩
 | i+1,hi=>by
  obtain ⟨b,hb⟩:=Zg1 adj dst m j i k29_;obtain ⟨s,hs⟩:=Yc2 adj dst (S.getD i 0);have g:∀ y∈S.take i,0≤y:=fun y p=>j y (List.mem_of_mem_take p);by_cases o:s<0
  ·exact ⟨b,Yy1 k29_ hb hs o⟩
  ·by_cases d:b=-1
   ·exact ⟨_,Yy2 k29_ hb d g hs k29_⟩
   ·have c:0≤b:=by
     rcases hb with ⟨e,_⟩ | ⟨_,h,_⟩
     ·exact absurd e d
     ·exact g b h
    obtain ⟨q,k⟩:=Yc2 adj dst b;by_cases f:s<q
    ·exact ⟨_,Zo9 k29_ hb c k hs k29_ f⟩
    ·exact ⟨b,Ym1 m k29_ hb c k hs k29_ f⟩
theorem Zp0 {adj:List (List Int)} {dst:List Int} (hd:DigP adj):∀ (k:Nat) {S:List Int} {b:Int},(∀ y∈S,0≤y)→b∈S→Near adj dst k b→(∀ y∈S,∀ m,m<k→¬ Near adj dst m y)→(∀ y∈S,y<b→¬ Near adj dst k y)→∃ l,Greedy adj dst S k (b :: l)
 | 0,S,b,_,hb,hn,_,hl=>⟨[],.stop S b hb hn hl⟩
 | k+1,S,b,hpt,hb,hn,hno,hl=>by
  have f:=hd.2 b.toNat;obtain ⟨c,hc⟩:=Zg1 adj dst f.1.1 (fun y d=>(f.2 y d).1) (adj.getD b.toNat []).length (Nat.le_refl _);unfold B6_ at hc;rw [List.take_length] at hc;obtain ⟨y,d,j⟩:∃ y∈adj.getD b.toNat [],Near adj dst k y:=by
   rcases hn with h | h
   ·exact absurd h (hno b hb k k29_)
   ·exact h
  rcases hc with ⟨_,h⟩ | ⟨e,g,h2,h3,o⟩
  ·exact absurd j (h y d k)
  ·have q:e=k:=by
    rcases Nat.lt_trichotomy e k with h | h | h
    ·exfalso
     have:Near adj dst (e+1) b:=.inr ⟨c,g,h2⟩;exact hno b hb (e+1) k29_ this
    ·exact h
    ·exact absurd j (h3 y d k h)
   subst q;obtain ⟨l,p⟩:=Zp0 hd e (fun y d=>(f.2 y d).1) g h2 h3 o;exact ⟨c :: l,.step S b e _ hb hn (fun y d=>hno y d e k29_) hl p⟩
theorem Xj1 {adj:List (List Int)} {dst S:List Int} (hd:DigP adj) (c:PtsP adj.length S):(∃ n x l,Greedy adj dst S n (x :: l))∨∀ y∈S,∀ k,¬ Near adj dst k y:=by
 obtain ⟨b,hb⟩:=Zg1 adj dst c.1.1 (fun y d=>(c.2 y d).1) S.length (Nat.le_refl _);unfold B6_ at hb;rw [List.take_length] at hb;rcases hb with ⟨_,h⟩ | ⟨k,e,h2,h3,f⟩
 ·exact .inr h
 ·obtain ⟨l,hl⟩:=Zp0 hd k (fun y d=>(c.2 y d).1) e h2 h3 f
  exact .inl ⟨k,b,l,hl⟩
end Go.Proofs.YtheeajnkiniopaaGreatDoor.Wp
