/- The document's own way to what is come to, and to the shortest way, plain: of any lists of points; without the program's. -/
import Derived.Test.YtnbcaibflhgdoaaGreatDoorZI
import Derived.Test.YtnbcaibflhgdoaaGreatDoorZA
import Derived.Test.YtnbcaibflhgdoaaGreatDoorZW
import Derived.Test.YtnbcaibflhgdoaaGreatDoorX0A
import Derived.Test.YtnbcaibflhgdoaaGreatDoorX0B
set_option maxHeartbeats 8000000
set_option maxRecDepth 1000000
open Go.Lib (hid)
open Nat (le_refl)
namespace Go.Proofs.YtnbcaibflhgdoaaGreatDoor.Wp
open Go Go.RowKit
def DigP (adj:List (List Int)):Prop:=adj.length≤4096∧∀ x,IsSet (adj.getD x [])∧∀ y∈adj.getD x [],0≤y∧y<(adj.length:Int)
abbrev PtsP (n:Nat) (l:List Int):Prop:=InN n l
def nearK (adj:List (List Int)) (l:List Int):Nat→List Int
 | 0=>l
 | k+1=>Z9_ (nearK adj l k) (adj.getD (l.getD k 0).toNat [])
def nearL (adj:List (List Int)) (l:List Int):List Int:=nearK adj l l.length
def itL (adj:List (List Int)) (l:List Int):Nat→List Int
 | 0=>l
 | k+1=>nearL adj (itL adj l k)
theorem Yv1 {adj:List (List Int)} (l:List Int):∀ k,itL adj (nearL adj l) k=itL adj l (k+1)
 | 0=>rfl
 | k+1=>by
  show nearL adj (itL adj (nearL adj l) k)=nearL adj (itL adj l (k+1));rw [Yv1 l k]
theorem Zr5 {adj:List (List Int)} {l:List Int} {k:Nat} (h:itL adj l (k+1)=itL adj l k):∀ m,itL adj l (k+m)=itL adj l k
 | 0=>rfl
 | m+1=>by
  show nearL adj (itL adj l (k+m))=_;rw [Zr5 h m];exact h
theorem I9_ {n:Nat} {l:List Int} (h:PtsP n l):l.length≤n:=Y3_ h
section
variable {adj:List (List Int)} (hd:DigP adj)
include hd
theorem Zf9 {l:List Int} (hl:PtsP adj.length l):∀ k,k≤l.length→PtsP adj.length (nearK adj l k)∧∀ x,x∈nearK adj l k↔x∈l∨∃ y∈l.take k,x∈adj.getD y.toNat []
 | 0,_=>⟨hl,fun x=>by simp [nearK]⟩
 | k+1,hk=>by
  obtain ⟨d,f⟩:=Zf9 hl k q41_;have e:=J1_ d.1 (hd.2 (l.getD k 0).toNat).1;have g:l.take (k+1)=l.take k ++ [l.getD k 0]:=by
   rw [List.take_succ_eq_append_getElem (by omega:k<l.length)];simp [List.getD,show k<l.length by omega]
  refine ⟨⟨B6_ _ _,fun x j=>?_⟩,fun x=>?_⟩
  ·rcases (e x).1 j with h | h
   ·exact d.2 x h
   ·exact (hd.2 _).2 x h
  ·show x∈Z9_ (nearK adj l k) (adj.getD (l.getD k 0).toNat [])↔_
   rw [e x,f x,g];constructor
   ·rintro ((h | ⟨y,c,h⟩) | h)
    ·exact .inl h
    ·exact .inr ⟨y,List.mem_append.2 (.inl c),h⟩
    ·exact .inr ⟨_,List.mem_append.2 (.inr (List.mem_singleton.2 rfl)),h⟩
   ·rintro (h | ⟨y,c,h⟩)
    ·exact .inl (.inl h)
    ·rcases List.mem_append.1 c with c | c
     ·exact .inl (.inr ⟨y,c,h⟩)
     ·rw [List.mem_singleton] at c
      rw [c] at h;exact .inr h
theorem O7_ {l:List Int} (hl:PtsP adj.length l):PtsP adj.length (nearL adj l)∧∀ x,x∈nearL adj l↔x∈l∨∃ y∈l,x∈adj.getD y.toNat []:=by
 have:=Zf9 hd hl l.length (le_refl _);rw [List.take_length] at this;exact this
theorem C3_ {l:List Int} (hl:PtsP adj.length l):∀ k,PtsP adj.length (itL adj l k)
 | 0=>hl
 | k+1=>(O7_ hd (C3_ hl k)).1
theorem O8_ {dst:List Int}:∀ k l,PtsP adj.length l→((∃ z∈itL adj l k,z∈dst)↔∃ y∈l,Near adj dst k y)
 | 0,l,_=>Iff.rfl
 | k+1,l,hl=>by
  have d:=O7_ hd hl;rw [← Yv1 l k,O8_ k _ d.1];constructor
  ·rintro ⟨y,c,h⟩
   rcases (d.2 y).1 c with c | ⟨z,e,c⟩
   ·exact ⟨y,c,.inl h⟩
   ·exact ⟨z,e,.inr ⟨y,c,h⟩⟩
  ·rintro ⟨y,c,h | ⟨z,e,h⟩⟩
   ·exact ⟨y,(d.2 y).2 (.inl c),h⟩
   ·exact ⟨z,(d.2 z).2 (.inr ⟨y,c,e⟩),h⟩
theorem Xg7 {l:List Int} (hl:PtsP adj.length l) (k:Nat):∀ x,x∈itL adj l k→x∈itL adj l (k+1):=fun x c=>((O7_ hd (C3_ hd hl k)).2 x).2 (.inl c)
theorem Yv2 {l:List Int} (hl:PtsP adj.length l):∀ k,(∀ m,m<k→itL adj l (m+1)≠itL adj l m)→k≤(itL adj l k).length
 | 0,_=>Nat.zero_le _
 | k+1,h=>by
  have r:=Yv2 hl k fun m d=>h m q41_;have e:=C3_ hd hl k;have c:=C3_ hd hl (k+1);rw [X4_ e] at r;rw [X4_ c];by_cases f:∃ y,y<adj.length∧memP (itL adj l k) y=false∧memP (itL adj l (k+1)) y=true
  ·have:=Zt5 (p:=memP (itL adj l k)) (q:=memP (itL adj l (k+1))) (n:=adj.length) (fun v _ o=>memP_iff.2 (Xg7 hd hl k _ (memP_iff.1 o))) f
   omega
  ·exfalso
   refine h k q41_ (IsSet.ext c.1 e.1 fun x=>⟨fun g=>?_,Xg7 hd hl k x⟩);have hb:=c.2 x g;have j:((x.toNat:Nat):Int)=x:=q41_;cases d:memP (itL adj l k) x.toNat
   ·exact absurd ⟨x.toNat,q41_,d,memP_iff.2 (by rw [j];exact g)⟩ f
   ·have:=memP_iff.1 d
    rwa [j] at this
theorem Xg8 {l:List Int} (hl:PtsP adj.length l):∀ m,itL adj l (adj.length+m)=itL adj l adj.length:=by
 by_cases h:∃ k,k≤adj.length∧itL adj l (k+1)=itL adj l k
 ·obtain ⟨k,f,e⟩:=h
  intro m;have c:=Zr5 e (adj.length+m - k);have d:=Zr5 e (adj.length - k);rw [show k+(adj.length+m - k)=adj.length+m by omega] at c;rw [show k+(adj.length - k)=adj.length by omega] at d;rw [c,d]
 ·exfalso
  have c:=Yv2 hd hl (adj.length+1) fun m g e=>h ⟨m,q41_,e⟩;have d:=I9_ (C3_ hd hl (adj.length+1));omega
theorem Zl7 {l:List Int} (hl:PtsP adj.length l) {x y:Int} (c:x∈itL adj l adj.length) (d:y∈adj.getD x.toNat []):y∈itL adj l adj.length:=by
 have h:=((O7_ hd (C3_ hd hl adj.length)).2 y).2 (.inr ⟨x,c,d⟩);have e:itL adj l (adj.length+1)=itL adj l adj.length:=Xg8 hd hl 1;rw [← e];exact h
theorem Ye6 {l:List Int} (hl:PtsP adj.length l):∀ k x,x∈l→x∈itL adj l k
 | 0,_,h=>h
 | k+1,x,h=>Xg7 hd hl k x (Ye6 hl k x h)
theorem Zg0 {dst:List Int} {v:Int} (h:0≤v∧v<(adj.length:Int)) {k:Nat} (f:Near adj dst k v):∃ m,m≤adj.length∧m≤k∧Near adj dst m v:=by
 by_cases g:k≤adj.length
 ·exact ⟨k,g,le_refl _,f⟩
 ·have hl:PtsP adj.length [v]:=⟨⟨j41_,fun y c=>by rw [List.mem_singleton] at c;have:=hd.1;rw [c];exact ⟨q41_,q41_⟩⟩,fun y c=>by rw [List.mem_singleton] at c;rw [c];exact h⟩
  have d:=(O8_ hd (dst:=dst) k [v] hl).2 ⟨v,j41_,f⟩;rw [show k=adj.length+(k - adj.length) by omega,Xg8 hd hl] at d;obtain ⟨y,c,e⟩:=(O8_ hd (dst:=dst) adj.length [v] hl).1 d;rw [List.mem_singleton] at c;rw [c] at e;exact ⟨adj.length,le_refl _,q41_,e⟩
end
def K0_ (adj:List (List Int)) (dst:List Int) (v s:Int):Prop :=
 (∃ k:Nat,s=(k:Int)∧Near adj dst k v∧∀ m,m<k→¬ Near adj dst m v)∨(s=-1∧∀ m,¬ Near adj dst m v)
def Q2_ (adj:List (List Int)) (dst S:List Int) (i:Nat) (b:Int):Prop :=
 (b=-1∧∀ y∈S.take i,∀ k,¬ Near adj dst k y) ∨
 (∃ k,b∈S.take i∧Near adj dst k b∧(∀ y∈S.take i,∀ m,m<k→¬ Near adj dst m y)∧∀ y∈S.take i,y<b→¬ Near adj dst k y)
section
variable {adj:List (List Int)} {dst S:List Int} {i:Nat} {b s:Int}
theorem Zl8 {v:Int} {k:Nat} (h:K0_ adj dst v s) (c:Near adj dst k v) (g:∀ m,m<k→¬ Near adj dst m v):s=(k:Int):=by
 rcases h with ⟨d,rfl,e,f⟩ | ⟨_,h⟩
 ·rcases Nat.lt_trichotomy k d with h | h | h
  ·exact absurd c (f k h)
  ·rw [h]
  ·exact absurd e (g d h)
 ·exact absurd c (h k)
theorem Zl9:Q2_ adj dst S 0 (-1):=.inl ⟨rfl,fun y c=>by simp at c⟩
theorem O9_ (c:i<S.length):S.take (i+1)=S.take i ++ [S.getD i 0]:=by
 rw [List.take_succ_eq_append_getElem c];simp [List.getD,c]
theorem G7_ {p:Int→Prop} (e:i<S.length) (h:∀ y∈S.take i,p y) (d:p (S.getD i 0)):∀ y∈S.take (i+1),p y:=fun y c=>by
 rw [O9_ e,List.mem_append,List.mem_singleton] at c;rcases c with c | rfl
 ·exact h y c
 ·exact d
theorem Xg9 (d:S.Pairwise (·<·)) (c:i<S.length):∀ y∈S.take i,y<S.getD i 0:=fun y f=>by
 have h:=d;rw [← List.take_append_drop i S,List.pairwise_append] at h;refine h.2.2 y f _ ?_;have e:S.drop i=S[i] :: S.drop (i+1):=List.drop_eq_getElem_cons c;rw [e];exact List.mem_cons.2 (.inl (by simp [List.getD,c]))
theorem Zg1 (c:i<S.length) (h:Q2_ adj dst S i b) (hs:K0_ adj dst (S.getD i 0) s) (o:s<0):Q2_ adj dst S (i+1) b:=by
 have d:∀ m,¬ Near adj dst m (S.getD i 0):=by
  rcases hs with ⟨k,rfl,_⟩ | ⟨_,h⟩
  ·omega
  ·exact h
 rcases h with ⟨e,h⟩ | ⟨k,f,g,h3,j⟩
 ·exact .inl ⟨e,G7_ c h d⟩
 ·exact .inr ⟨k,by rw [O9_ c];exact List.mem_append.2 (.inl f),g,G7_ c h3 fun m _=>d m,G7_ c j fun _=>d k⟩
theorem Zg2 (c:i<S.length) (h:Q2_ adj dst S i b) (hb:b=-1) (o:∀ y∈S.take i,0≤y) (hs:K0_ adj dst (S.getD i 0) s) (q:0≤s):Q2_ adj dst S (i+1) (S.getD i 0):=by
 rcases hs with ⟨k,rfl,g,j⟩ | ⟨e,_⟩
 ·have f:∀ y∈S.take i,∀ k,¬ Near adj dst k y:=by
   rcases h with ⟨_,h⟩ | ⟨_,h,_⟩
   ·exact h
   ·have:=o _ h
    omega
  exact .inr ⟨k,by rw [O9_ c];exact List.mem_append.2 (.inr j41_),g,G7_ c (fun y d m _=>f y d m) j,G7_ c (fun y d _=>f y d k) (fun p=>by omega)⟩
 ·omega
theorem Zj2 (c:i<S.length) (h:Q2_ adj dst S i b) (hb:0≤b) {g:Int} (v:K0_ adj dst b g) (hs:K0_ adj dst (S.getD i 0) s) (A:0≤s) (u:s<g):Q2_ adj dst S (i+1) (S.getD i 0):=by
 rcases h with ⟨e,_⟩ | ⟨k,p,q,h3,w⟩
 ·omega
 ·have x:=Zl8 v q (h3 b p)
  rcases hs with ⟨f,rfl,j,o⟩ | ⟨e,_⟩
  ·have r:f<k:=by omega
   exact .inr ⟨f,by rw [O9_ c];exact List.mem_append.2 (.inr j41_),j,G7_ c (fun y d m z=>h3 y d m q41_) o,G7_ c (fun y d _=>h3 y d f r) (fun u=>by omega)⟩
  ·omega
theorem Zm0 (r:S.Pairwise (·<·)) (c:i<S.length) (h:Q2_ adj dst S i b) (hb:0≤b) {g:Int} (q:K0_ adj dst b g) (hs:K0_ adj dst (S.getD i 0) s) (y:0≤s) (p:¬ s<g):Q2_ adj dst S (i+1) b:=by
 rcases h with ⟨e,_⟩ | ⟨k,d,f,h3,o⟩
 ·omega
 ·have v:=Zl8 q f (h3 b d)
  have w:=Xg9 r c b d;rcases hs with ⟨z,rfl,u,j⟩ | ⟨e,_⟩
  ·exact .inr ⟨k,by rw [O9_ c];exact List.mem_append.2 (.inl d),f,G7_ c h3 (fun m x=>j m q41_),G7_ c o (fun p=>by omega)⟩
  ·omega
theorem Zj3 {n:Nat} {x:Int} {l:List Int} (c:Greedy adj dst S n (x :: l)) (h:Q2_ adj dst S S.length b):b=x:=by
 unfold Q2_ at h;rw [List.take_length] at h;have g:=c.near 0 j41_;have f:=c.mem;rcases h with ⟨_,h⟩ | ⟨k,d,e,h3,j⟩
 ·exact absurd g (h x f _)
 ·have m:k=n:=by
   rcases Nat.lt_trichotomy k n with h | h | h
   ·exact absurd e (c.none b d k h)
   ·exact h
   ·exact absurd g (h3 x f n h)
  subst m;rcases Int.lt_trichotomy b x with h | h | h
  ·cases c with
   | stop _ _ _ _ hl=>exact absurd e (hl b d h)
   | step _ _ _ _ _ _ _ hl _=>exact absurd e (hl b d h)
  ·exact h
  ·exact absurd g (j x f h)
end
open Classical in
theorem Ym6 (adj:List (List Int)) (dst:List Int) (v:Int):∃ s,K0_ adj dst v s:=by
 by_cases h:∃ k,Near adj dst k v
 ·obtain ⟨k,e⟩:=h
  suffices hs:∀ k,Near adj dst k v→∃ m,m≤k∧Near adj dst m v∧∀ j,j<m→¬ Near adj dst j v by
   obtain ⟨m,_,g,d⟩:=hs k e;exact ⟨m,.inl ⟨m,rfl,g,d⟩⟩
  intro k
  induction k using Nat.strongRecOn with
  | _ k ih =>
   intro e;by_cases c:∃ j,j<k∧Near adj dst j v
   ·obtain ⟨j,c,f⟩:=c
    obtain ⟨m,g,d⟩:=ih j c f;exact ⟨m,q41_,d⟩
   ·exact ⟨k,le_refl _,e,fun j o f=>c ⟨j,o,f⟩⟩
 ·exact ⟨-1,.inr ⟨rfl,fun m p=>h ⟨m,p⟩⟩⟩
theorem Zr6 (adj:List (List Int)) (dst:List Int) {S:List Int} (m:S.Pairwise (·<·)) (j:∀ y∈S,0≤y):∀ i,i≤S.length→∃ b,Q2_ adj dst S i b
 | 0,_=>⟨-1,Zl9⟩
 | i+1,hi=>by
  obtain ⟨b,hb⟩:=Zr6 adj dst m j i q41_;obtain ⟨s,hs⟩:=Ym6 adj dst (S.getD i 0);have g:∀ y∈S.take i,0≤y:=fun y p=>j y (List.mem_of_mem_take p);by_cases o:s<0
  ·exact ⟨b,Zg1 q41_ hb hs o⟩
  ·by_cases d:b=-1
   ·exact ⟨_,Zg2 q41_ hb d g hs q41_⟩
   ·have c:0≤b:=by
     rcases hb with ⟨e,_⟩ | ⟨_,h,_⟩
     ·exact absurd e d
     ·exact g b h
    obtain ⟨q,k⟩:=Ym6 adj dst b;by_cases f:s<q
    ·exact ⟨_,Zj2 q41_ hb c k hs q41_ f⟩
    ·exact ⟨b,Zm0 m q41_ hb c k hs q41_ f⟩
theorem Yv3 {adj:List (List Int)} {dst:List Int} (hd:DigP adj):∀ (k:Nat) {S:List Int} {b:Int},(∀ y∈S,0≤y)→b∈S→Near adj dst k b→(∀ y∈S,∀ m,m<k→¬ Near adj dst m y)→(∀ y∈S,y<b→¬ Near adj dst k y)→∃ l,Greedy adj dst S k (b :: l)
 | 0,S,b,_,hb,hn,_,hl=>⟨[],.stop S b hb hn hl⟩
 | k+1,S,b,hpt,hb,hn,hno,hl=>by
  have hA:=hd.2 b.toNat;obtain ⟨c,hc⟩:=Zr6 adj dst hA.1.1 (fun y d=>(hA.2 y d).1) (adj.getD b.toNat []).length (le_refl _);unfold Q2_ at hc;rw [List.take_length] at hc;obtain ⟨y,d,j⟩:∃ y∈adj.getD b.toNat [],Near adj dst k y:=by
   rcases hn with h | h
   ·exact absurd h (hno b hb k q41_)
   ·exact h
  rcases hc with ⟨_,h⟩ | ⟨e,f,g,h3,o⟩
  ·exact absurd j (h y d k)
  ·have q:e=k:=by
    rcases Nat.lt_trichotomy e k with h | h | h
    ·exfalso
     have:Near adj dst (e+1) b:=.inr ⟨c,f,g⟩;exact hno b hb (e+1) q41_ this
    ·exact h
    ·exact absurd j (h3 y d k h)
   subst q;obtain ⟨l,p⟩:=Yv3 hd e (fun y d=>(hA.2 y d).1) f g h3 o;exact ⟨c :: l,.step S b e _ hb hn (fun y d=>hno y d e q41_) hl p⟩
theorem Xh0 {adj:List (List Int)} {dst S:List Int} (hd:DigP adj) (c:PtsP adj.length S):(∃ n x l,Greedy adj dst S n (x :: l))∨∀ y∈S,∀ k,¬ Near adj dst k y:=by
 obtain ⟨b,hb⟩:=Zr6 adj dst c.1.1 (fun y d=>(c.2 y d).1) S.length (le_refl _);unfold Q2_ at hb;rw [List.take_length] at hb;rcases hb with ⟨_,h⟩ | ⟨k,e,f,h3,g⟩
 ·exact .inr h
 ·obtain ⟨l,hl⟩:=Yv3 hd k (fun y d=>(c.2 y d).1) e f h3 g
  exact .inl ⟨k,b,l,hl⟩
end Go.Proofs.YtnbcaibflhgdoaaGreatDoor.Wp
namespace Go.Proofs.YtnbcaibflhgdoaaGreatDoor
open Go Go.RowKit
namespace Wp
theorem T7_ (v:Value) (l:List Int) (b:Bool) (h:mayB l=b) (w:World) (hr:Row w w.heap.size v l):Calls Tryz.prog 35 #[v] w (Says w b):=k23_
def ptB (right:Int) (l:List Int):Bool:=mayB l && (decide (l.length=0) || decide (l.getD (l.length - 1) 0<right))
theorem Vt0 {right:Int} {l:List Int} (h:mayB l=false):ptB right l=false:=by simp [ptB,h]
theorem Vi9 {right:Int} {l:List Int} (h:mayB l=true) (c:l.length=0):ptB right l=true:=by simp [ptB,h,c]
theorem Vz9 {right x:Int} {l:List Int} (h:mayB l=true) (c:0<l.length) (hx:l.getD (l.length - 1) 0=x):ptB right l=decide (x<right):=by
 unfold ptB;exact q22_
def digB (adj:List (List Int)):Bool:=decide (adj.length≤4096) && adj.all (ptB adj.length)
theorem digB_off {adj:List (List Int)} (h:4096<(adj.length:Int)):digB adj=false:=k26_
theorem digB_miss {adj:List (List Int)} {i:Nat} (hi:i<adj.length) (h:ptB adj.length (adj.getD i [])=false):digB adj=false:=by
 unfold digB;exact z4_
theorem digB_all {adj:List (List Int)} (h3:¬ 4096<(adj.length:Int)) (h:∀ i,i<adj.length→ptB adj.length (adj.getD i [])=true):digB adj=true:=j36_
theorem Vk0 {n:Nat} {l:List Int} (h:ptB n l=true):PtsP n l:=by
 unfold ptB at h;rw [Bool.and_eq_true,mayB_iff] at h;obtain ⟨⟨h1,c⟩,h3⟩:=h;refine ⟨⟨h1,c⟩,fun x hx=>⟨(c x hx).1,?_⟩⟩;exact q5_
theorem Zr7 {n:Nat} {l:List Int} (h:PtsP n l):ptB n l=true:=by
 unfold ptB;rw [Bool.and_eq_true,mayB_iff];refine ⟨h.1,?_⟩;rcases Nat.eq_zero_or_pos l.length with c | c
 ·rw [decide_eq_true c];rfl
 ·rw [Bool.or_eq_true]
  right;refine decide_eq_true ?_;rw [show l.getD (l.length - 1) 0=l[l.length - 1]'q41_ by simp [List.getD,show l.length - 1<l.length by omega]];exact (h.2 _ (List.getElem_mem _)).2
theorem digB_dig {adj:List (List Int)} (h:digB adj=true):DigP adj:=by
 unfold digB at h;rw [Bool.and_eq_true,decide_eq_true_iff,List.all_eq_true] at h;refine ⟨h.1,fun x=>?_⟩;rcases Nat.lt_or_ge x adj.length with c | c
 ·rw [show adj.getD x []=adj[x] by simp [List.getD,c]]
  exact Vk0 (h.2 _ (List.getElem_mem c))
 ·rw [List.getD_eq_getElem?_getD,List.getElem?_eq_none c]
  exact ⟨⟨List.Pairwise.nil,fun y d=>by simp at d⟩,fun y d=>by simp at d⟩
theorem Ym7 {adj:List (List Int)} (h:DigP adj):digB adj=true:=digB_all (by have:=h.1;omega) fun i _=>Zr7 (h.2 i)
theorem Yv4 (n:Nat) (v:Value) (l:List Int) (w:World) (q:Row w w.heap.size v l) :
  Calls Tryz.prog 59 #[v,.int .i64 n] w (Says w (ptB n l)):=by
 have g:=hid q;obtain ⟨A,c,rfl,hcap,o⟩:=q;have s:=hid o;have z:(l.length:Int)≤9223372036854775807:=z6_;clear o hcap;rcases hm:mayB l with _ | _
 ·have d:=hid hm
  clear hm;rw [Vt0 d.out]
  go_enter Tryz.func59,Tryz.ntmps59
  go_wp2_with fail
  refine (T7_ _ l false d.out _ g.out).mono ?_;exact j38_
 ·have d:=hid hm
  clear hm;by_cases j:l.length=0
  ·rw [Vi9 d.out j]
   have y:l=[]:=List.eq_nil_of_length_eq_zero j;subst y
   go_enter Tryz.func59,Tryz.ntmps59
   go_wp2_with fail
   refine (T7_ _ [] true d.out _ g.out).mono ?_;exact j38_
  ·obtain ⟨x,k⟩:∃ x,l.getD (l.length - 1) 0=x:=⟨_,rfl⟩
   obtain ⟨al,u,halb,h⟩:=s.out (l.length - 1) q41_;have m:=hid (Vz9 (right:=(n:Int)) d.out q41_ k);rw [k] at h;subst u;obtain ⟨L,hL⟩:∃ L,l.length=L:=⟨_,rfl⟩;rw [hL] at h z j g;have hL0:¬ ((L:Int)=0):=q41_;have B:(0:Int)<(L:Int):=q41_;have C:(1:Int)≤(L:Int):=q41_;have D:IntKind.i64.wrap ((L:Int) - 1)=(L:Int) - 1:=q42_;have E:(0:Int)≤(L:Int) - 1:=q41_;have F:(L:Int) - 1<(L:Int):=q41_;have G:((L:Int) - 1).toNat=L - 1:=q41_;have Hcx:=hid h;rw [hL];clear k h hL;by_cases r:x<(n:Int)
   ·rw [m.out,decide_eq_true r]
    go_enter Tryz.func59,Tryz.ntmps59
    go_wp2_with fail
    refine (T7_ _ l true d.out _ g.out).mono ?_;exact q39_
   ·rw [m.out,decide_eq_false r]
    go_enter Tryz.func59,Tryz.ntmps59
    go_wp2_with fail
    refine (T7_ _ l true d.out _ g.out).mono ?_;exact k6_
theorem H7_ (n:Nat) (v:Value) (l:List Int) (b:Bool) (h:ptB n l=b) (w:World) (c:Row w w.heap.size v l) :
  Calls Tryz.prog 59 #[v,.int .i64 n] w (Says w b):=by
 subst h;exact Yv4 n v l w c
theorem Xh1 (v:Value) (adj:List (List Int)) (w:World) (D:Rows2 w w.heap.size v adj) :
  Calls Tryz.prog 58 #[v] w (Says w (digB adj)):=by
 obtain ⟨A,c,rfl,hcap,m⟩:=D;have H:(adj.length:Int)≤9223372036854775807:=z6_;have y:=hid m;clear m
 go_enter Tryz.func58,Tryz.ntmps58
 go_wp2
 go_loopw [3] (fun d wr=>∃ i:Nat,d=.int .i64 i∧i≤adj.length∧Below w.heap.size w wr∧∀ j,j<i→ptB adj.length (adj.getD j [])=true) (fun d _=>adj.length - (intOf d).toNat)
 case atStart=>exact ⟨0,rfl,Nat.zero_le _,Below.refl _ _,fun j q=>absurd q (Nat.not_lt_zero _)⟩
 case round =>
  obtain ⟨i,rfl,G,k,s⟩:=hrel;have Hbr:=hid k;have Hok:=hid s;clear k s;by_cases r:i<adj.length
  ·have I:(i:Int)<(adj.length:Int):=by omega
   obtain ⟨B,u,hA,hab,o,x⟩:=y.out i r;subst hA;have F:=(Hbr.out.cell (p:=B.add i) q43_).trans o;have g:=hid ((x.below Hbr.out).mono Hbr.out.size);have z:=hid (fun h=>digB_miss r h);have Hnext:Hid (ptB adj.length (adj.getD i [])=true→∀ j,j<i+1→ptB adj.length (adj.getD j [])=true):=hid fun h j q=>j11_;clear o hab Hok x;generalize adj.getD i []=l at *
   rcases hm:ptB adj.length l with _ | _
   ·have Hm:=hid hm
    rw [z.out hm];clear hm
    go_wp2_with fail
    refine (H7_ adj.length _ l false Hm.out _ g.out).mono ?_;exact z32_
   ·have Hm:=hid hm
    clear hm
    go_wp2_with fail
    refine (H7_ adj.length _ l true Hm.out _ g.out).mono ?_;exact x12_
  ·have C:i=adj.length:=by omega
   subst C;by_cases E:(adj.length:Int)≤4096
   ·have Hyes:=hid (digB_all (adj:=adj) q41_ Hok.out)
    exact q8_
   ·have Hno:=hid (digB_off (adj:=adj) q41_)
    exact j9_
theorem Ym8 (v:Value) (adj:List (List Int)) (b:Bool) (h:digB adj=b) (w:World) (c:Rows2 w w.heap.size v adj) :
  Calls Tryz.prog 58 #[v] w (Says w b):=by
 subst h;exact Xh1 v adj w c
theorem Vk1 {l:List Int} {x:Int} (h:mayB l=false):hasB l x=false:=j50_
theorem Vy0 {l:List Int} {x:Int} (h:mayB l=true):hasB l x=l.contains x:=j50_
theorem Ym9 (v:Value) (l:List Int) (x:Int) (w:World) (c:Row w w.heap.size v l) (hl:l.length≤1048576) :
  Calls Tryz.prog 61 #[v,.int .i64 x] w (Says w (hasB l x)):=by
 have Hr:=hid c;clear c;rcases hm:mayB l with _ | _
 ·have Hf:=hid (Vk1 (x:=x) hm)
  exact y12_
 ·have Hf:=hid (Vy0 (x:=x) hm)
  exact y5_
theorem Rows2.read {w:World} {B:Nat} {A:Option Addr} {n c:Nat} {adj:List (List Int)} (h:Rows2 w B (.slice A n c) adj) (x:Nat) (o:x<adj.length):∃ (d:Addr) (e:Value),A=some d∧w.cell? (d.add x)=some e∧Row w B e (adj.getD x []):=by
 obtain ⟨p,c3,f,_,k⟩:=h;injection f with e7 e8 e9;subst e7;obtain ⟨d,e,g,_,j,m⟩:=k x o;exact ⟨d,e,g,j,m⟩
theorem Row.readl {w:World} {B:Nat} {A:Option Addr} {n c:Nat} {l:List Int} (h:Row w B (.slice A n c) l) (k:Nat) (j:k<l.length):∃ d:Addr,A=some d∧w.cell? (d.add k)=some (.int .i64 (l.getD k 0)):=by
 obtain ⟨m,o,e,_,hc⟩:=h;injection e with e1 e2 e3;subst e1;obtain ⟨d,f,_,g⟩:=hc k j;exact ⟨d,f,g⟩
theorem Vq9 {n:Nat} {l:List Int} (h:PtsP n l) {k:Nat} (c:k<l.length):∃ x:Nat,l.getD k 0=(x:Int)∧x<n:=by
 have d:l.getD k 0∈l:=by
  rw [show l.getD k 0=l[k] by simp [List.getD,c]];exact List.getElem_mem c
 have:=h.2 _ d;exact ⟨(l.getD k 0).toNat,q41_,q41_⟩
section
variable {adj:List (List Int)} (hd:DigP adj)
include hd
theorem Vy1 (x:Nat):(adj.getD x []).length≤4096:=by
 have:=I9_ (n:=adj.length) (hd.2 x);have:=hd.1;omega
theorem Zm1 (v u:Value) (l:List Int) (hl:PtsP adj.length l) (w:World) (q:Rows2 w w.heap.size v adj) (p:Row w w.heap.size u l) :
  Calls Tryz.prog 63 #[v,u] w (Gives w (nearL adj l)):=by
 have D:=hid q;have j:=hid p;have h:=hid hd;have m:=hid hl;have K:=hid hd.1;have P:=I9_ hl;have Q:=hd.1;obtain ⟨A,c,rfl,_⟩:=q;obtain ⟨J,cl,rfl,_⟩:=p;clear hd hl
 go_enter Tryz.func63,Tryz.ntmps63
 go_wp2
 go_loopw [5,6] (fun I g wr=>∃ k:Nat,g=.int .i64 (k:Int)∧k≤l.length∧Hid (Row wr wr.heap.size I (nearK adj l k)∧Below w.heap.size w wr)) (fun _ g _=>l.length - (intOf g).toNat)
 case atStart=>exact ⟨0,rfl,Nat.zero_le _,j.out,Below.refl _ _⟩
 case round =>
  obtain ⟨k,rfl,hk,HS⟩:=hrel;by_cases hlt:k<l.length
  ·have O:(k:Int)<(l.length:Int):=by omega
   obtain ⟨x,d,H⟩:=Vq9 m.out hlt;have R:(x:Int)<(adj.length:Int):=q41_;obtain ⟨L,hA,hc⟩:=(j.out.up HS.out.2).readl k hlt;obtain ⟨M,S,G,N,s⟩:=(D.out.up HS.out.2).read x H;subst hA G;rw [d] at hc;have F:=hid d;have E:=hid s;have B:Hid ((nearK adj l k).length≤1048576):=hid (by
    have:=I9_ (Zf9 h.out m.out k hk).1;omega)
   have C:Hid ((adj.getD x []).length≤1048576):=hid (by have:=Vy1 h.out x;omega);clear d s
   go_wp2_with fail
   refine (A4_ _ _ (nearK adj l k) (adj.getD x []) _ HS.out.1 E.out B.out C.out).mono ?_;rintro e U ⟨T,rfl,r,o⟩;have y:=hid r;have z:=hid (Z0_ HS.out.2 (le_refl _) o);clear r o;go_wp2
   go_roundw
   case rel=>exact ⟨k+1,z42_,q41_,by unfold nearK;rw [F.out,Int.toNat_natCast];exact y.out,z.out⟩
   case measure=>simp [intOf];omega
  ·have hke:k=l.length:=by omega
   exact j24_
theorem Ye7 (v Q:Value) (dst:List Int) (q:PtsP adj.length dst) (x:Nat) (hx:x<adj.length) (w:World) (N:Rows2 w w.heap.size v adj) (K:Row w w.heap.size Q dst) :
  Calls Tryz.prog 88 #[v,.int .i64 (x:Int),Q] w fun e w'=>∃ s:Int,e=.returned (.int .i64 s)∧K0_ adj dst (x:Int) s∧Below w.heap.size w w':=by
 have HR:=hid N;have W:=hid K;have B:=hid hd;have HT:=hid q;have x5:=hd.1;have r:PtsP adj.length [(x:Int)]:=⟨⟨j41_,fun y j=>by rw [List.mem_singleton] at j;rw [j];exact ⟨q41_,q41_⟩⟩,fun y j=>by rw [List.mem_singleton] at j;rw [j];omega⟩;have H:=hid r;have V:Hid (dst.length≤1048576):=hid (by have:=I9_ q;omega);have Z:Hid (∀ k,(0<(meetL (itL adj [(x:Int)] k) dst).length)↔Near adj dst k (x:Int)):=hid (fun k=>by
  have P:IsSet (itL adj [(x:Int)] k):=(C3_ hd r k).1;have o:=O8_ hd (dst:=dst) k [(x:Int)] r;constructor
  ·intro h
   obtain ⟨z,hz⟩:=List.exists_mem_of_length_pos h;obtain ⟨C,D⟩:=(L2_ P q.1 z).1 hz;obtain ⟨y,j,p⟩:=o.1 ⟨z,C,D⟩;rw [List.mem_singleton] at j;rw [← j];exact p
  ·intro h
   obtain ⟨z,C,D⟩:=o.2 ⟨_,j41_,h⟩;exact List.length_pos_of_mem ((L2_ P q.1 z).2 ⟨C,D⟩))
 have S:Hid (∀ k,Near adj dst k (x:Int)→∃ m,m≤adj.length∧Near adj dst m (x:Int)):=hid (fun k M=>by
  obtain ⟨m,o,_,E⟩:=Zg0 hd (v:=(x:Int)) q41_ M;exact ⟨m,o,E⟩)
 have X:Hid (Row (w.alloc (.cells #[.int .i64 (x:Int)] 3)) (w.alloc (.cells #[.int .i64 (x:Int)] 3)).heap.size (.slice (some ⟨w.heap.size,0,none⟩) 1 1) [(x:Int)]):=hid (Row.lit1 w (x:Int)).here;have T:Hid (Below w.heap.size w (w.alloc (.cells #[.int .i64 (x:Int)] 3))):=hid ((Below.refl _ w).alloc (le_refl _) _);obtain ⟨A,c,rfl,_⟩:=N;obtain ⟨At,ct,rfl,_⟩:=K;clear hd q r
 go_enter Tryz.func88,Tryz.ntmps88
 go_wp2
 go_loopw [7,8] (fun vo G wr=>∃ k:Nat,G=.int .i64 (k:Int)∧k≤adj.length+1∧Hid (Row wr wr.heap.size vo (itL adj [(x:Int)] k)∧Below w.heap.size w wr∧∀ m,m<k→¬ Near adj dst m (x:Int))) (fun _ G _=>adj.length+1 - (intOf G).toNat)
 case atStart=>exact ⟨0,rfl,Nat.zero_le _,X.out,T.out,fun m d=>by omega⟩
 case round =>
  obtain ⟨k,rfl,M,g⟩:=hrel;by_cases x4:k≤adj.length
  ·have x2:(k:Int)≤(adj.length:Int):=by omega
   have Y:Hid ((itL adj [(x:Int)] k).length≤1048576):=hid (by
    have:=I9_ (C3_ B.out H.out k);omega)
   go_wp2_with fail
   refine (Yj9 _ _ (itL adj [(x:Int)] k) dst _ g.out.1 (W.out.up g.out.2.1) Y.out V.out).mono ?_;rintro e w5 ⟨v5,rfl,x3,F⟩;obtain ⟨A5,c5,rfl,-⟩:=x3;have x0:=hid (g.out.1.up F);have u:=hid (Z0_ g.out.2.1 (le_refl _) F);have d:=Z.out k;obtain ⟨L,hL⟩:∃ L,(meetL (itL adj [(x:Int)] k) dst).length=L:=⟨_,rfl⟩;rw [hL] at d ⊢;clear F hL;by_cases I:0<L
   ·have p:=hid (d.1 I)
    have x1:(0:Int)<(L:Int):=q41_;clear d;go_wp2;go_ret;exact ⟨_,rfl,.inl ⟨k,rfl,p.out,g.out.2.2⟩,u.out⟩
   ·have p:=hid (fun h=>I (d.2 h))
    have x1:¬ (0:Int)<(L:Int):=q41_;clear d
    go_wp2_with fail
    refine (Zm1 B.out _ _ (itL adj [(x:Int)] k) (C3_ B.out H.out k) _ (HR.out.up u.out) x0.out).mono ?_;rintro e w6 ⟨v6,rfl,O,J⟩;have R:=hid O;have U:=hid (Z0_ u.out (le_refl _) J);clear O J;go_wp2
    go_roundw
    case rel =>
     refine ⟨k+1,z42_,q41_,R.out,U.out,fun m d=>?_⟩;by_cases e:m=k
     ·rw [e];exact p.out
     ·exact g.out.2.2 m q41_
    case measure=>simp [intOf];omega
  ·have x2:¬ (k:Int)≤(adj.length:Int):=by omega
   go_wp2;go_ret;exact ⟨_,rfl,.inr ⟨rfl,fun m d=>by
    obtain ⟨m',o,E⟩:=S.out m d;exact g.out.2.2 m' q41_ E⟩,g.out.2.1⟩
end
open Go Go.RowKit
theorem Vy2 {adj:List (List Int)} {dst S:List Int} {i:Nat} {b:Int} (c:PtsP adj.length S) (h:Q2_ adj dst S i b):b=-1∨(0≤b∧b<(adj.length:Int)):=by
 rcases h with ⟨e,_⟩ | ⟨_,h,_⟩
 ·exact .inl e
 ·exact .inr (c.2 b (List.mem_of_mem_take h))
section
variable {adj:List (List Int)} (hd:DigP adj)
include hd
theorem Zg3 (v R H:Value) (S dst:List Int) (B:PtsP adj.length S) (F:PtsP adj.length dst) (w:World) (E:Rows2 w w.heap.size v adj) (hl:Row w w.heap.size R S) (C:Row w w.heap.size H dst) :
  Calls Tryz.prog 60 #[v,R,H] w fun e w'=>∃ b:Int,e=.returned (.int .i64 b)∧Q2_ adj dst S S.length b∧Below w.heap.size w w':=by
 have HR:=hid E;have HF:=hid C;have z:=hid hl;have HD:=hid hd;have HT:=hid F;have p:=hid B;have x8:=hd.1;have x5:=I9_ B;have J:=hid (fun x (o:x<adj.length) W (K:Below w.heap.size w W)=>Ye7 hd v H dst F x o W (E.up K) (C.up K));obtain ⟨A,c,rfl,_⟩:=E;obtain ⟨At,ct,rfl,_⟩:=C;obtain ⟨Al,cl,rfl,_⟩:=hl;clear hd F B
 go_enter Tryz.func60,Tryz.ntmps60
 go_wp2
 go_loopw [7,8] (fun vb G wr=>∃ (i:Nat) (b:Int),vb=.int .i64 b∧G=.int .i64 (i:Int)∧i≤S.length∧Hid (Q2_ adj dst S i b∧Below w.heap.size w wr)) (fun _ G _=>S.length - (intOf G).toNat)
 case atStart=>exact ⟨0,-1,rfl,rfl,Nat.zero_le _,Zl9,Below.refl _ _⟩
 case round =>
  obtain ⟨i,b,rfl,rfl,Z,d⟩:=hrel;by_cases g:i<S.length
  ·have x7:(i:Int)<(S.length:Int):=by omega
   obtain ⟨x,o,x3⟩:=Vq9 p.out g;obtain ⟨ad,hA,hc⟩:=(z.out.up d.out.2).readl i g;subst hA;rw [o] at hc;have m:=hid o;clear o
   go_wp2_with fail
   refine (J.out x x3 _ d.out.2).mono ?_;rintro e w5 ⟨s,rfl,hs,M⟩;have k:=hid (Z0_ d.out.2 (le_refl _) M);have x4:=hid hs;have r:Hid (K0_ adj dst (S.getD i 0) s):=hid (by rw [m.out];exact hs);obtain ⟨T,j,P⟩:=(z.out.up k.out).readl i g;injection j with j;subst j;rw [m.out] at P;clear hs M hc;by_cases x1:s<0
   ·have U:decide (0≤s)=false:=decide_eq_false q41_
    have h:=hid (Zg1 g d.out.1 r.out x1);go_wp2
    go_roundw
    case rel=>exact ⟨i+1,b,rfl,z42_,q41_,h.out,k.out⟩
    case measure=>simp [intOf];omega
   ·have U:decide (0≤s)=true:=decide_eq_true q41_
    have D:0≤s:=q41_;rcases Vy2 p.out d.out.1 with hb | ⟨L,x6⟩
    ·have h:=hid (Zg2 g d.out.1 hb (fun y hy=>(p.out.2 y (List.mem_of_mem_take hy)).1) r.out D)
     have X:b<0:=q41_;have V:decide (b<0)=true:=decide_eq_true X;clear hb;go_wp2
     go_roundw
     case rel=>exact ⟨i+1,(x:Int),rfl,z42_,q41_,by rw [← m.out];exact h.out,k.out⟩
     case measure=>simp [intOf];omega
    ·obtain ⟨q,rfl⟩:∃ q:Nat,b=(q:Int):=⟨b.toNat,q41_⟩
     have x2:q<adj.length:=q41_;have V:decide ((q:Int)<0)=false:=decide_eq_false q41_;have d3:¬ (q:Int)<0:=q41_
     go_wp2_with fail
     refine (J.out q x2 _ k.out).mono ?_;rintro e w6 ⟨sb,rfl,Q,N⟩;have u:=hid (Z0_ k.out (le_refl _) N);have I:=hid Q;obtain ⟨T,j,Y⟩:=(z.out.up u.out).readl i g;injection j with j;subst j;rw [m.out] at Y;clear Q N P;by_cases O:s<sb
     ·have h:=hid (Zj2 g d.out.1 L I.out r.out D O)
      go_wp2
      go_roundw
      case rel=>exact ⟨i+1,(x:Int),rfl,z42_,q41_,by rw [← m.out];exact h.out,u.out⟩
      case measure=>simp [intOf];omega
     ·have h:=hid (Zm0 p.out.1.1 g d.out.1 L I.out r.out D O)
      go_wp2
      go_roundw
      case rel=>exact ⟨i+1,(q:Int),rfl,z42_,q41_,h.out,u.out⟩
      case measure=>simp [intOf];omega
  ·have x0:i=S.length:=by omega
   clear g Z;subst x0;go_wp2;go_ret;exact ⟨_,rfl,d.out.1,d.out.2⟩
end
theorem Xz1 (v J:Value) (adj:List (List Int)) (src:List Int) (h:DigP adj) (j:PtsP adj.length src) (w:World) (H:Rows2 w w.heap.size v adj) (E:Row w w.heap.size J src) :
  Calls Tryz.prog 29 #[v,J] w (Gives w (itL adj src adj.length)):=by
 have y:=hid H;have x:=hid E;obtain ⟨A,c,rfl,_⟩:=H;obtain ⟨S,cl,rfl,_⟩:=E;have U:=h.1;have V:=I9_ j;have g:=hid h;have q:=hid j;clear h j
 go_enter Tryz.func29,Tryz.ntmps29
 go_wp2_with fail
 refine (Ym8 _ adj true (Ym7 g.out) _ y.out).mono ?_;rintro e X ⟨rfl,z⟩;have r:=hid z;clear z
 go_wp2_with fail
 refine (H7_ adj.length _ src true (Zr7 q.out) _ (x.out.up r.out)).mono ?_;rintro e d ⟨rfl,B⟩;have s:=hid (Z0_ r.out (le_refl _) B);have m:(d.alloc (.cells #[] 3)).ownsRow d.heap.size 3 1 (.slice (some ⟨d.heap.size,0,none⟩) 0 0) 0 [] :=
  World.ownsRow_made d #[] 0 (le_refl _) y42_ rfl
 have u:Hid (Below d.heap.size d (d.alloc (.cells #[] 3))):=hid ((Below.refl _ d).alloc (le_refl _) _);have N:=hid ((x.out.up s.out).up u.out);clear B
 go_wp2_with (at_builtin;refine Z6_ rfl _ _ rfl d.heap.size _ _ _ [] src rfl rfl m N.out j41_ q41_ j41_ ?_)
 intro Q p G F;have C:Below d.heap.size d p:=u.out.grown F j41_ (fun i P=>(World.ownsRow.lt m i P).1);have O:Hid (Row p p.heap.size Q src):=hid (Row.of_own G j41_);have L:=hid (Z0_ s.out (le_refl _) C);clear G F C m;go_wp2
 go_loopw [5,6] (fun R o wr=>∃ k:Nat,o=.int .i64 (k:Int)∧k≤adj.length∧Hid (Row wr wr.heap.size R (itL adj src k)∧Below w.heap.size w wr)) (fun _ o _=>adj.length - (intOf o).toNat)
 case atStart=>exact ⟨0,rfl,Nat.zero_le _,O.out,L.out⟩
 case round =>
  obtain ⟨k,rfl,hk,HS⟩:=hrel;by_cases hlt:k<adj.length
  ·have T:(k:Int)<(adj.length:Int):=by omega
   go_wp2_with fail
   refine (Zm1 g.out _ _ (itL adj src k) (C3_ g.out q.out k) _ (y.out.up HS.out.2) HS.out.1).mono ?_;rintro e Y ⟨W,rfl,I,D⟩;have K:=hid I;have M:=hid (Z0_ HS.out.2 (le_refl _) D);clear I D;go_wp2
   go_roundw
   case rel=>exact ⟨k+1,z42_,q41_,K.out,M.out⟩
   case measure=>simp [intOf];omega
  ·have hke:k=adj.length:=by omega
   exact j24_
structure Rest (adj:List (List Int)) (dst l out:List Int) (x:Int):Prop where
 ex:∃ S m rest,Greedy adj dst S m (x :: rest)∧l=out ++ rest
theorem Rest.end_ {adj:List (List Int)} {dst l out:List Int} {x:Int} (h:Rest adj dst l out x) (d:x∈dst):out=l:=by
 obtain ⟨S,m,rest,c,e⟩:=h.ex;cases c with
 | stop=>rw [e,List.append_nil]
 | step _ _ n _ h1 _ h3 _ _=>exact absurd (F4_ (Nat.zero_le n) d) (h3 x h1)
theorem Rest.next {adj:List (List Int)} {dst l out:List Int} {x:Int} (h:Rest adj dst l out x) (d:x∉dst) {b:Int} (hb:Q2_ adj dst (adj.getD x.toNat []) (adj.getD x.toNat []).length b):Rest adj dst l (out ++ [b]) b∧out.length+1≤l.length∧b∈adj.getD x.toNat []:=by
 obtain ⟨S,m,rest,c,e⟩:=h.ex;cases c with
 | stop _ _ _ h2 _=>exact absurd h2 d
 | step _ _ n rest h1 h2 h3 h4 c =>
  match rest,c with
  | [],c=>exact absurd c.length j41_
  | y :: rest,c =>
   have f:=Zj3 c hb;subst f;exact ⟨⟨_,_,rest,c,by rw [e,List.append_assoc];rfl⟩,by rw [e,List.length_append,List.length_cons];omega,c.mem⟩
def Xh2 (adj:List (List Int)) (src dst l:List Int) (b:Bool):Prop:=(b=true∧∃ n,Greedy adj dst src n l)∨(b=false∧l=[]∧∀ y∈src,∀ k,¬ Near adj dst k y)
theorem Zy9 {adj:List (List Int)} {src dst l:List Int} {b:Bool} (hd:DigP adj) (hs:PtsP adj.length src) (h:Xh2 adj src dst l b):l.length≤adj.length+1:=by
 rcases h with ⟨_,n,c⟩ | ⟨_,rfl,_⟩
 ·rw [c.length]
  have d:=c.length;cases l with
  | nil=>simp at d
  | cons x l =>
   have e:=hs.2 x c.mem;obtain ⟨m,f,g,h3⟩:=Zg0 hd e (c.near 0 j41_);have:=Nat.lt_or_ge m n;rcases this with h | h
   ·exact absurd h3 (c.none x c.mem m h)
   ·omega
 ·simp
theorem Vy3 {adj:List (List Int)} {dst S:List Int} {b:Int} (h:∀ y∈S,∀ k,¬ Near adj dst k y) (hb:Q2_ adj dst S S.length b):b=-1:=by
 rcases hb with ⟨e,_⟩ | ⟨k,c,d,_⟩
 ·exact e
 ·exact absurd d (h b (List.mem_of_mem_take c) k)
theorem Xz2 (adj:List (List Int)) (src dst l:List Int) (b:Bool) (F:DigP adj) (G:PtsP adj.length src) (h3:PtsP adj.length dst) (P:Xh2 adj src dst l b) (v vf vt:Value) (w:World) (hr:Rows2 w w.heap.size v adj) (hf:Row w w.heap.size vf src) (ht:Row w w.heap.size vt dst) :
  Calls Tryz.prog 26 #[v,vf,vt] w fun e w'=>∃ u:Value,e=.returned (.tuple #[u,.bool b])∧Row w' w'.heap.size u l∧Below w.heap.size w w':=by
 have E:=hid hr;have Y:=hid hf;have B:=hid ht;have xi:=hid (Zy9 F G P);have y3:=F.1;have y6:=I9_ G;have y7:=I9_ h3;have y1:=xi.out;have p:=hid F;have J:=hid G;have r:=hid h3;have L:=hid P;obtain ⟨A,c,rfl,_⟩:=hr;obtain ⟨Al,cl,rfl,_⟩:=hf;obtain ⟨At,ct,rfl,_⟩:=ht;clear F G h3 P
 go_enter Tryz.func26,Tryz.ntmps26
 go_wp2_with fail
 refine (Ym8 _ adj true (Ym7 p.out) _ E.out).mono ?_;rintro e w1 ⟨rfl,x1⟩;have T:=hid x1;clear x1
 go_wp2_with fail
 refine (H7_ adj.length _ src true (Zr7 J.out) _ (Y.out.up T.out)).mono ?_;rintro e w2 ⟨rfl,x2⟩;have U:=hid (Z0_ T.out (le_refl _) x2);clear x2
 go_wp2_with fail
 refine (H7_ adj.length _ dst true (Zr7 r.out) _ (B.out.up U.out)).mono ?_;rintro e w3 ⟨rfl,x3⟩;have C:=hid (Z0_ U.out (le_refl _) x3);clear x3
 go_wp2_with fail
 refine (Zg3 p.out _ _ _ src dst J.out r.out _ (E.out.up C.out) (Y.out.up C.out) (B.out.up C.out)).mono ?_;rintro e d ⟨m,rfl,xf,x4⟩;have V:=hid (Z0_ C.out (le_refl _) x4);have N:=hid xf;clear x4 xf;cases b with
 | false =>
  obtain ⟨hl,xs⟩:l=[]∧∀ y∈src,∀ k,¬ Near adj dst k y:=by
   rcases L.out with ⟨e,_⟩ | ⟨_,e,h⟩
   ·cases e
   ·exact ⟨e,h⟩
  subst hl;have hx:m=-1:=Vy3 xs N.out;have d1:m<0:=q41_;clear hx;go_wp2
  go_ret2
  exact ⟨_,rfl,Row.nil_ _ _,V.out⟩
 | true =>
  obtain ⟨n,o⟩:∃ n,Greedy adj dst src n l:=by
   rcases L.out with ⟨_,h⟩ | ⟨e,_⟩
   ·exact h
   ·cases e
  obtain ⟨y,rest,H⟩:∃ y rest,l=y :: rest:=by
   cases l with
   | nil=>exact absurd o.length j41_
   | cons y rest=>exact ⟨y,rest,rfl⟩
  rw [H] at o;have hy:=Zj3 o N.out;subst hy;have xx:=J.out.2 m o.mem;have xo:Hid (Rest adj dst l [m] m):=hid ⟨src,n,rest,o,H⟩;obtain ⟨x,rfl⟩:∃ x:Nat,m=(x:Int):=⟨m.toNat,q41_⟩;have R:x<adj.length:=q41_;have d1:¬ (x:Int)<0:=q41_;have xa:(d.alloc (.cells #[.int .i64 (x:Int)] 3)).ownsRow d.heap.size 3 1 (.slice (some ⟨d.heap.size,0,none⟩) 1 1) [(x:Int)].length (ints [(x:Int)]) :=
   ⟨rfl,.inr ⟨d.heap.size,1,_,rfl,le_refl _,heap_alloc_new d _,le_refl _,x42_,rfl,rfl⟩⟩
  have xk:=hid xa;have xg:Hid (Below d.heap.size d (d.alloc (.cells #[.int .i64 (x:Int)] 3))):=hid ((Below.refl _ d).alloc (le_refl _) _);have xq:1≤l.length:=by rw [H];simp
  clear o xx xa H N L;go_wp2
  go_loopw [8,9] (fun vx I wr=>∃ (x:Nat) (out:List Int),vx=.int .i64 (x:Int)∧x<adj.length∧out.length≤l.length∧lenOf I=out.length∧Hid (Rest adj dst l out (x:Int)∧wr.ownsRow d.heap.size 3 1 I out.length (ints out)∧Below d.heap.size d wr)) (fun _ I _=>l.length - lenOf I)
  case atStart=>exact ⟨x,[(x:Int)],rfl,R,xq,rfl,xo.out,xk.out,xg.out⟩
  case round =>
   obtain ⟨x,out,rfl,R,y4,y2,j⟩:=hrel;have D:=hid (Z0_ V.out (le_refl _) (j.out.2.2.mono (le_refl _)));have xw:=j.out.2.2.size;rcases hh:hasB dst (x:Int) with _ | _
   ·have K:=hid hh
    have x9:(x:Int)∉dst:=fun h=>by
     rw [(E0_ r.out.1 _).2 h] at hh;cases hh
    have xj:=hid x9;have y8:(x:Int)<(adj.length:Int):=q41_;clear hh x9
    go_wp2_with fail
    refine (Ym9 _ dst (x:Int) _ (B.out.up D.out) q41_).mono ?_;rintro e w6 ⟨rfl,g⟩;rw [K.out];have s:=hid (Z0_ D.out (le_refl _) g);have W:=hid (j.out.2.2.trans (g.mono xw));have M:=hid (World.ownsRow.kept j.out.2.1 (Z7_ g none) y46_);obtain ⟨xz,ua,xp,xr,xe⟩:=(E.out.up s.out).read x R;subst xp;have xn:=hid xe;clear g xe
    go_wp2_with fail
    refine (Zg3 p.out _ _ _ (adj.getD x []) dst (p.out.2 x) r.out _ (E.out.up s.out) xn.out (B.out.up s.out)).mono ?_;rintro e w7 ⟨z,rfl,hz,O⟩;have x8:=j.out.1.next xj.out (b:=z) (by rw [Int.toNat_natCast];exact hz);rw [Int.toNat_natCast] at x8;obtain ⟨xc,y5,xd⟩:=x8;have xy:=(p.out.2 x).2 z xd;obtain ⟨q,rfl⟩:∃ q:Nat,z=(q:Int):=⟨z.toNat,q41_⟩;have xt:q<adj.length:=q41_;have xu:d.heap.size≤w6.heap.size:=W.out.size;have X:=hid (W.out.trans (O.mono xu));have Z:=hid (World.ownsRow.kept M.out (Z7_ O none) y46_);have xm:=hid xc;have xv:d.heap.size≤w7.heap.size:=X.out.size;clear hz O xc xd xy xr
    go_wp2_with (at_builtin;refine Z6_ rfl _ _ rfl d.heap.size _ _ _ out [(q:Int)] rfl rfl (World.ownsRow.alloc Z.out _) (Row.lit1 _ (q:Int)) q41_ j41_ k41_ ?_)
    intro S w8 Q x6;have xb:w8.ownsRow d.heap.size 3 1 S (out ++ [(q:Int)]).length (ints (out ++ [(q:Int)])):=by rw [List.length_append];exact Q
    have x5:Below d.heap.size d w8:=(X.out.alloc xv _).grown x6 k41_ (fun i hi=>(World.ownsRow.lt Z.out i hi).1);have y0:lenOf S=out.length+1:=by
     rcases Q.2 with ⟨_,h0⟩ | ⟨_,_,_,hv,_⟩
     ·simp at h0
     ·rw [hv];simp [lenOf]
    have xl:=hid xb;have xh:=hid x5;clear Q xb x6 x5;go_wp2
    go_roundw
    case rel=>exact ⟨q,out ++ [(q:Int)],rfl,xt,by rw [List.length_append];simp;omega,by rw [List.length_append];simp;omega,xm.out,xl.out,xh.out⟩
    case measure =>
     change l.length - lenOf S<l.length - lenOf _;omega
   ·have K:=hid hh
    have x7:(x:Int)∈dst:=(E0_ r.out.1 _).1 hh;have HE:=hid (j.out.1.end_ x7);clear hh x7
    go_wp2_with fail
    refine (Ym9 _ dst (x:Int) _ (B.out.up D.out) q41_).mono ?_;rintro e w6 ⟨rfl,g⟩;rw [K.out];have s:=hid (Z0_ D.out (le_refl _) g);have M:=hid (World.ownsRow.kept j.out.2.1 (Z7_ g none) y46_);clear g;go_wp2
    go_ret2
    exact ⟨_,rfl,by rw [← HE.out];exact Row.of_own M.out rfl,s.out⟩
end Wp
end Go.Proofs.YtnbcaibflhgdoaaGreatDoor
namespace Go.Proofs.YtnbcaibflhgdoaaGreatDoor.Wp
open Go Go.RowKit
section
variable {n:Nat} {f:(Nat→Bool)→Nat} {I:List Int→Bool}
theorem Xh3 (e:n≤64) {x:Int} (d:0≤x∧x<(n:Int)):InN n [x]:=⟨⟨j41_,fun z c=>by rw [List.mem_singleton.1 c];exact ⟨q41_,q41_⟩⟩,fun z c=>by rw [List.mem_singleton.1 c];exact d⟩
theorem Xh4 (c:n≤64) {out:List Int} {x:Int} (ho:InN n out) (d:0≤x∧x<(n:Int)) (hlt:∀ y∈out,y<x):Z9_ out [x]=out ++ [x]:=by
 have h1:=Xh3 c d;refine IsSet.ext (B6_ _ _) ⟨?_,fun y hy=>?_⟩ fun y=>?_
 ·exact k20_
 ·exact j25_
 ·rw [J1_ ho.1 h1.1,List.mem_append]
theorem Zg4 (h:Rk n f) (g:n≤64) (hI:∀ t,InN n t→(I t=true↔f (memP t)=t.length)):∀ (r out:List Int),InN n out→InN n r→(∀ y∈out,∀ z∈r,y<z)→f (memP out)=out.length →
  InN n (baseL I out r)∧(∀ y∈out,y∈baseL I out r)∧(∀ y∈baseL I out r,y∈out∨y∈r)∧f (memP (baseL I out r))=(baseL I out r).length∧∀ y∈r,f (insP (memP (baseL I out r)) y.toNat)=f (memP (baseL I out r))
 | [],out,ho,_,_,hf=>⟨ho,fun _ h=>h,fun _ h=>.inl h,hf,fun _ h=>absurd h j41_⟩
 | x :: r,out,ho,hr,hlt,hf=>by
  have u:=hr.2 x j41_;have B:InN n r:=⟨⟨(List.pairwise_cons.1 hr.1.1).2,fun y hy=>hr.1.2 y j45_⟩,fun y hy=>hr.2 y j45_⟩;have F:∀ z∈r,x<z:=(List.pairwise_cons.1 hr.1.1).1;have s:=Xh4 g ho u fun y hy=>hlt y hy x j41_;have v:=Xh3 g u;have A:InN n (out ++ [x]):=by rw [← s];exact A7_ ho v
  have D:memP (out ++ [x])=insP (memP out) x.toNat:=by rw [← s,K4_ ho.1 v.1,Zr1 u.1]
  have w:=hI _ A;rw [baseL,s];by_cases hb:I (out ++ [x])=true
  ·rw [if_pos hb]
   obtain ⟨m,d,o,p,q⟩:=Zg4 h g hI r (out ++ [x]) A B (fun y hy z k=>by
    rcases List.mem_append.1 hy with hy | hy
    ·exact hlt y hy z (by simp [k])
    ·rw [List.mem_singleton.1 hy];exact F z k) (w.1 hb)
   refine ⟨m,fun y hy=>d y j45_,fun y hy=>?_,p,fun y hy=>?_⟩
   ·rcases o y hy with c | c
    ·rcases List.mem_append.1 c with c | c
     ·exact .inl c
     ·exact .inr (by rw [List.mem_singleton.1 c];simp)
    ·exact .inr (by simp [c])
   ·rcases List.mem_cons.1 hy with rfl | hy
    ·rw [I6_ (memP_iff.2 (by rw [show ((y.toNat:Nat):Int)=y by omega];exact d y j41_))]
    ·exact q y hy
  ·rw [if_neg hb]
   obtain ⟨m,d,o,p,q⟩:=Zg4 h g hI r out ho B (fun y hy z k=>hlt y hy z (by simp [k])) hf;refine ⟨m,d,fun y hy=>?_,p,fun y hy=>?_⟩
   ·rcases o y hy with c | c
    ·exact .inl c
    ·exact .inr (by simp [c])
   ·rcases List.mem_cons.1 hy with rfl | hy
    ·have j:y.toNat<n:=by omega
     have C:¬ f (memP (out ++ [y]))=(out ++ [y]).length:=fun e=>hb (w.2 e);rw [D,List.length_append,List.length_singleton] at C;have G:=h.up' (memP out) j;have H:=h.one' (memP out) j;have J:=h.dim_set (P:=memP out) (Q:=memP (baseL I out r)) (fun i _ E=>memP_iff.2 (d _ (memP_iff.1 E))) j;have K:=h.up' (memP (baseL I out r)) j;omega
    ·exact q y hy
theorem P0_ (h:Rk n f) (r:n≤64) (hI:∀ t,InN n t→(I t=true↔f (memP t)=t.length)) {s:List Int} (hs:InN n s) :
  InN n (baseL I [] s)∧(∀ y∈baseL I [] s,y∈s)∧(baseL I [] s).length=f (memP s)∧f (memP (baseL I [] s))=(baseL I [] s).length∧∀ Q,f (orP Q (memP (baseL I [] s)))=f (orP Q (memP s)):=by
 obtain ⟨m,_,o,p,q⟩:=Zg4 h r hI s [] (Xb4 n) hs (fun y c=>absurd c j41_) (by rw [Zq0,h.zero];rfl);have j:∀ y∈baseL I [] s,y∈s:=fun y c=>(o y c).resolve_left j41_;have d:∀ Q,f (orP Q (memP (baseL I [] s)))=f (orP Q (memP s)):=fun Q=>by
  have g:=h.closed (orP Q (memP (baseL I [] s))) (memP s) (fun x k v=>by
   have e:=q x (memP_iff.1 v);rw [Int.toNat_natCast] at e;have w:=h.dim_set (P:=memP (baseL I [] s)) (Q:=orP Q (memP (baseL I [] s))) (fun i _ u=>by unfold orP;rw [u];simp) k;have z:=h.up' (orP Q (memP (baseL I [] s))) k;omega) n (le_refl _)
  rw [E6_ h] at g;rw [← g];refine h.ext fun i _=>?_;unfold orP;cases hq:Q i
  ·cases hb:memP (baseL I [] s) i
   ·rfl
   ·have:=memP_iff.2 (j _ (memP_iff.1 hb))
    rw [this];rfl
  ·rfl
 refine ⟨m,j,?_,p,d⟩;have:=d noneP;rw [show orP noneP (memP (baseL I [] s))=memP (baseL I [] s) from rfl,show orP noneP (memP s)=memP s from rfl] at this;omega
end
theorem Xh5 {g h:Nat→Nat}:∀ {k:Nat},(∀ c,c<k→g c≤h c)→sumN g k≤sumN h k
 | 0,_=>le_refl _
 | k+1,e=>by
  rw [sumN,sumN];have:=Xh5 (g:=g) (h:=h) (k:=k) fun c hc=>e c q41_;have:=e k q41_;omega
theorem Xh6 {g h:Nat→Nat}:∀ {k:Nat},(∀ c,c<k→g c≤h c)→sumN g k=sumN h k→∀ c,c<k→g c=h c
 | 0,_,_,c,hc=>by omega
 | k+1,e,he,c,hc=>by
  rw [sumN,sumN] at he;have f:=Xh5 (g:=g) (h:=h) (k:=k) fun c hc=>e c q41_;have j:=e k q41_;by_cases d:c=k
  ·rw [d];omega
  ·exact Xh6 (k:=k) (fun c hc=>e c q41_) q41_ c q41_
theorem Vk2 {A n:Nat} {cls:Nat→Nat} (hc:∀ i,i<n→cls i<A) (P:Nat→Bool):sumN (clsN n cls P) A=cnt P n:=by
 have h:=(Yb0 (A:=A) (n:=n) (cls:=cls) (most:=fun _=>n) hc);have e:partR A n cls (fun _=>n) P=sumN (clsN n cls P) A:=U4_ fun c _=>Nat.min_eq_right (by unfold clsN;exact C4_ _ _);rw [← e];have m:∀ k,k≤n→partR A n cls (fun _=>n) (addK noneP P k)=cnt (addK noneP P k) n:=fun k=>by
  induction k with
  | zero=>intro _;rw [H3_,h.zero,C1_]
  | succ k d =>
   intro o;have d:=d q41_;cases hp:P k
   ·rw [S4_ hp];exact d
   ·have j:addK noneP P k k=false:=by simp [addK,noneP]
    have c1:=B2_ (n:=n) (by omega:k<n) j;have c2:=C4_ (insP (addK noneP P k) k) n;have c3:clsN n cls (addK noneP P k) (cls k)≤cnt (addK noneP P k) n:=(I7_ n).mono (P:=fun i=>addK noneP P k i && cls i==cls k) fun i _ g=>by
     rw [Bool.and_eq_true] at g;exact g.1
    rw [M0_ hp,Yz5 (hc k q41_) q41_ j,if_pos q41_,c1,d]
 have f:=m n (le_refl _);rw [E6_ h,E6_ (I7_ n)] at f;exact f
theorem Vy4 {A n:Nat} {cls most:Nat→Nat} (hc:∀ i,i<n→cls i<A) (P:Nat→Bool):partR A n cls most P=cnt P n↔∀ c,c<A→clsN n cls P c≤most c:=by
 rw [← Vk2 hc P];constructor
 ·intro h c d
  have:=Xh6 (g:=fun c=>min (most c) (clsN n cls P c)) (h:=clsN n cls P) (fun c _=>Nat.min_le_right _ _) h c d;have this:min (most c) (clsN n cls P c)=clsN n cls P c:=this;omega
 ·intro h
  exact U4_ fun c d=>Nat.min_eq_right (h c d)
theorem Vy5 {n:Nat} {cl s:List Int} (hs:InN n s) (e:∀ i,i<n→0≤cl.getD i 0) (c:Nat):cntC cl s (c:Int)=clsN n (fun i=>(cl.getD i 0).toNat) (memP s) c:=by
 have f:InN n (s.filter fun x=>cl.getD x.toNat 0==(c:Int)):=⟨⟨hs.1.1.filter _,fun x d=>hs.1.2 x (List.mem_filter.1 d).1⟩,fun x d=>hs.2 x (List.mem_filter.1 d).1⟩;unfold cntC;rw [X4_ f];unfold clsN;refine Q9_ fun i g=>?_;have h:=e i g;rw [Bool.eq_iff_iff,memP_iff,List.mem_filter,Bool.and_eq_true,memP_iff,beq_iff_eq,beq_iff_eq,Int.toNat_natCast];constructor
 ·rintro ⟨a,b⟩
  refine ⟨a,?_⟩;show (cl.getD i 0).toNat=c;omega
 ·rintro ⟨a,b⟩
  have b:(cl.getD i 0).toNat=c:=b;exact ⟨a,q41_⟩
inductive SDR (l:List (List Int)):List Int→List Int→Prop
 | nil:SDR l [] []
 | cons {x r:Int} {s rs:List Int}:r∈l.getD x.toNat []→r∉rs→SDR l s rs→SDR l (x :: s) (r :: rs)
theorem Zx0 {l:List (List Int)} (hl:∀ i,IsSet (l.getD i [])):∀ {s d:List Int},IsSet d→(G5_ l s d=true↔∃ rs,SDR l s rs∧∀ r∈rs,r∉d)
 | [],d,_=>⟨fun _=>⟨[],.nil,fun r f=>absurd f j41_⟩,fun _=>rfl⟩
 | x :: s,d,hu=>by
  rw [G5_,List.any_eq_true];have j:∀ r∈l.getD x.toNat [],IsSet [r]:=fun r f=>⟨j41_,fun z o=>by rw [List.mem_singleton.1 o];exact (hl _).2 r f⟩;constructor
  ·rintro ⟨r,f,m⟩
   obtain ⟨a,b⟩:=(Y7_ (hl _) hu r).1 f;obtain ⟨rs,g,e⟩:=(Zx0 hl (B6_ _ _)).1 m;have k:∀ q∈rs,q∉d∧q≠r:=fun q c=>⟨fun h=>e q c ((J1_ hu (j r a) q).2 (.inl h)),fun h=>e q c ((J1_ hu (j r a) q).2 (.inr (by simp [h])))⟩;refine ⟨r :: rs,.cons a (fun h=>(k r h).2 rfl) g,fun q c=>?_⟩;rcases List.mem_cons.1 c with rfl | c
   ·exact b
   ·exact (k q c).1
  ·rintro ⟨rs,g,e⟩
   cases g with
   | cons a b g =>
    rename_i r rs
    refine ⟨r,(Y7_ (hl _) hu r).2 ⟨a,e r j41_⟩,(Zx0 hl (B6_ _ _)).2 ⟨rs,g,fun q c h=>?_⟩⟩;rcases (J1_ hu (j r a) q).1 h with h | h
    ·exact e q (by simp [c]) h
    ·rw [List.mem_singleton.1 h] at c
     exact b c
theorem Xh7 {n R:Nat} {g:Nat→Nat→Prop} {P:Nat→Bool} {x:Nat} (C:x<n) (y:∀ r,g x r→r<R) (hP:covR n R g P≤cnt P n) (h:covR n R g (insP P x)=cnt P n+1):∃ r,g x r∧covR n R (fun i q=>g i q∧q≠r) P=cnt P n:=by
 refine Classical.byContradiction fun s=>?_;have s:∀ r,g x r→covR n R (fun i q=>g i q∧q≠r) P≠cnt P n:=fun r p e=>s ⟨r,p,e⟩;have z:∀ A B,CovP n g P A B→cnt P n≤cnt A n+cnt B R:=fun A B hc=>by
  have E:=M1_ (R:=R) ⟨A,B,hc,le_refl _⟩;have F:=(Zu4 n R g).one' P C;omega
 have D:∀ k,k≤R→∃ A B,CovP n g P A B∧cnt A n+cnt B R≤cnt P n∧∀ r,r<k→g x r→B r=true:=fun k=>by
  induction k with
  | zero=>exact fun _=>⟨P,noneP,fun i r _ d _=>.inl d,by rw [C1_];exact le_refl _,fun r p=>by omega⟩
  | succ k ih =>
   intro G;obtain ⟨A,B,hc,hs,hB⟩:=ih q41_;by_cases v:g x k
   ·obtain ⟨o,m,w,hs'⟩:=H9_ n R (fun i q=>g i q∧q≠k) P
    have H:covR n R (fun i q=>g i q∧q≠k) P≤cnt P n:=(Zu4 n R _).le_cnt P;have I:=s k v;have u:CovP n g P o (insP m k):=fun i r f d c=>by
     by_cases e:r=k
     ·rw [e,V2_];exact .inr rfl
     ·rw [V0_ e];exact w i r f d ⟨c,e⟩
    have hB1:=(I7_ R).one' m (show k<R by omega);have c2:=z (orP A o) (andP B (insP m k)) fun i r f d c=>by
     unfold orP andP;rcases hc i r f d c with e | e
     ·exact .inl (by rw [e];rfl)
     ·rcases u i r f d c with j | j
      ·exact .inl (by rw [j,Bool.or_true])
      ·exact .inr (by rw [e,j];rfl)
    have J:=(I7_ n).submod A o;have K:=(I7_ R).submod B (insP m k);refine ⟨andP A o,orP B (insP m k),fun i r f d c=>?_,?_,fun r p c=>?_⟩
    ·unfold orP andP
     rcases hc i r f d c with e | e
     ·rcases u i r f d c with j | j
      ·exact .inl (by rw [e,j];rfl)
      ·exact .inr (by rw [j,Bool.or_true])
     ·exact .inr (by rw [e];rfl)
    ·omega
    ·unfold orP
     by_cases e:r=k
     ·rw [e,V2_,Bool.or_true]
     ·rw [hB r q41_ c];rfl
   ·exact ⟨A,B,hc,hs,fun r p c=>hB r (by
     rcases Nat.lt_or_ge r k with h | h
     ·exact h
     ·exact absurd (show g x k by rw [show k=r by omega];exact c) v) c⟩
 obtain ⟨A,B,hc,hs,hB⟩:=D R (le_refl _);have:=M1_ (n:=n) (R:=R) (g:=g) (P:=insP P x) (k:=cnt P n) ⟨A,B,fun i r f d c=>by
  by_cases e:i=x
  ·rw [e] at c;exact .inr (hB r (y r c) c)
  ·rw [V0_ e] at d;exact hc i r f d c,hs⟩
 omega
theorem Vy6 {n:Nat} {x:Int} {s:List Int} (h:InN n (x :: s)):InN n s∧0≤x∧x<(n:Int)∧memP s x.toNat=false∧memP (x :: s)=insP (memP s) x.toNat:=by
 have d:=h.2 x j41_;have c:=List.pairwise_cons.1 h.1.1;refine ⟨⟨⟨c.2,fun y hy=>h.1.2 y j45_⟩,fun y hy=>h.2 y j45_⟩,d.1,d.2,?_,?_⟩
 ·rw [← Bool.not_eq_true,memP_iff,show ((x.toNat:Nat):Int)=x by omega]
  exact fun f=>by have:=c.1 x f;omega
 ·funext i
  rw [Bool.eq_iff_iff,memP_iff];unfold insP;rw [Bool.or_eq_true,beq_iff_eq,memP_iff,List.mem_cons];constructor
  ·rintro (e | e)
   ·exact .inl q41_
   ·exact .inr e
  ·rintro (e | e)
   ·exact .inl q41_
   ·exact .inr e
theorem Va0 {l:List (List Int)} {n R:Nat} (hR:∀ (i r:Nat),(r:Int)∈l.getD i []→r<R):∀ {s U:List Int},InN n s→covR n R (fun i r=>(r:Int)∈l.getD i []∧(r:Int)∉U) (memP s)=s.length→∃ rs,SDR l s rs∧∀ r∈rs,r∉U
 | [],U,_,_=>⟨[],.nil,fun r f=>absurd f j41_⟩
 | x :: s,U,hs,h=>by
  obtain ⟨g,v,h3,w,k⟩:=Vy6 hs;have u:x.toNat<n:=q41_;rw [k,List.length_cons,X4_ g] at h;obtain ⟨r,⟨m,o⟩,f⟩:=Xh7 u (fun r f=>hR _ r f.1) ((Zu4 n R _).le_cnt _) h;have e:(fun (i q:Nat)=>((q:Int)∈l.getD i []∧(q:Int)∉U)∧q≠r)=fun (i q:Nat)=>(q:Int)∈l.getD i []∧(q:Int)∉(r:Int) :: U:=by
   funext i q
   refine propext ⟨fun ⟨⟨a,b⟩,c⟩=>⟨a,fun d=>?_⟩,fun ⟨a,b⟩=>⟨⟨a,fun d=>b (by simp [d])⟩,fun e=>b (by simp [e])⟩⟩;rcases List.mem_cons.1 d with e | e
   ·exact c q41_
   ·exact b e
  rw [e,← X4_ g] at f;obtain ⟨rs,p,j⟩:=Va0 hR g f;refine ⟨(r:Int) :: rs,.cons m (fun hm=>j _ hm j41_) p,fun q d=>?_⟩;rcases List.mem_cons.1 d with rfl | d
  ·exact o
  ·exact fun hm=>j q d k50_
theorem Yv5 {l:List (List Int)} {A B:Nat→Bool}:∀ {s rs:List Int},SDR l s rs→(∀ x∈s,∀ r∈l.getD x.toNat [],A x.toNat=true∨B r.toNat=true)→s.length≤(s.filter fun x=>A x.toNat).length+(rs.filter fun r=>B r.toNat).length
 | _,_,.nil,_=>le_refl _
 | _,_,.cons (x:=x) (r:=r) (s:=s) (rs:=rs) a b hrs,h=>by
  have c:=Yv5 hrs fun y hy=>h y j45_;rw [List.filter_cons,List.filter_cons,List.length_cons];rcases h x j41_ r a with e | e
  ·exact q25_
  ·exact q25_
theorem Yv6 {l:List (List Int)} {R:Nat} (hR:∀ (i:Nat) (r:Int),r∈l.getD i []→0≤r∧r<(R:Int)):∀ {s rs:List Int},SDR l s rs→rs.Nodup∧∀ r∈rs,0≤r∧r<(R:Int)
 | _,_,.nil=>⟨List.nodup_nil,fun r f=>absurd f j41_⟩
 | _,_,.cons a b hrs=>by
  obtain ⟨d,e⟩:=Yv6 hR hrs;refine ⟨List.nodup_cons.2 ⟨b,d⟩,fun q c=>?_⟩;rcases List.mem_cons.1 c with rfl | c
  ·exact hR _ _ a
  ·exact e q c
theorem Xh8 {l:List (List Int)} {n R:Nat} {s:List Int} (hl:∀ i,IsSet (l.getD i [])) (hR:∀ (i:Nat) (r:Int),r∈l.getD i []→0≤r∧r<(R:Int)) (hs:InN n s):G5_ l s []=true↔covR n R (fun i r=>(r:Int)∈l.getD i []) (memP s)=s.length:=by
 rw [Zx0 hl X7_];constructor
 ·rintro ⟨rs,e,-⟩
  have f:=(Zu4 n R (fun i r=>(r:Int)∈l.getD i [])).le_cnt (memP s);rw [← X4_ hs] at f;refine Nat.le_antisymm f ?_;obtain ⟨A,B,hc,u⟩:=H9_ n R (fun i r=>(r:Int)∈l.getD i []) (memP s);have o:=Yv5 (A:=A) (B:=B) e fun x d r c=>by
   have w:=hs.2 x d;have v:=hR _ r c;exact hc x.toNat r.toNat q41_ (memP_iff.2 (by rw [show ((x.toNat:Nat):Int)=x by omega];exact d)) (show ((r.toNat:Nat):Int)∈l.getD x.toNat [] by rw [show ((r.toNat:Nat):Int)=r by omega];exact c)
  obtain ⟨k,m⟩:=Yv6 hR e;have p:(s.filter fun x=>A x.toNat).length≤cnt A n:=by
   have g:InN n (s.filter fun x=>A x.toNat):=⟨⟨hs.1.1.filter _,fun x d=>hs.1.2 x (List.mem_filter.1 d).1⟩,fun x d=>hs.2 x (List.mem_filter.1 d).1⟩;rw [X4_ g];exact (I7_ n).mono fun i _ j=>by
    have:=(List.mem_filter.1 (memP_iff.1 j)).2
    rwa [Int.toNat_natCast] at this
  have h3:(rs.filter fun r=>B r.toNat).length≤cnt B R:=by
   have:=K.nodup_le (a:=rs.filter fun r=>B r.toNat) (b:=((List.range R).filter B).map fun (q:Nat)=>(q:Int)) (k.filter _) fun r c=>by
    obtain ⟨a,b⟩:=List.mem_filter.1 c;have:=m r a;exact List.mem_map.2 ⟨r.toNat,List.mem_filter.2 ⟨List.mem_range.2 q41_,b⟩,q41_⟩
   rw [List.length_map] at this;exact this
  omega
 ·intro h
  obtain ⟨rs,e,_⟩:=Va0 (l:=l) (n:=n) (R:=R) (U:=[]) (fun i r c=>by have:=hR i _ c;omega) hs (by
   rw [show (fun (i r:Nat)=>(r:Int)∈l.getD i []∧(r:Int)∉[])=fun (i r:Nat)=>(r:Int)∈l.getD i [] by funext i r;simp];exact h)
  exact ⟨rs,e,fun r _=>by simp⟩
noncomputable def indB (k:Nat) (m:Mat) (s:List Int):Bool:=decide (rkP k m (memP s)=s.length)
theorem V4_ {k:Nat} {m:Mat} {s:List Int}:indB k m s=true↔rkP k m (memP s)=s.length:=by unfold indB;rw [decide_eq_true_iff]
theorem Vt1 {m:Mat} {s:List Int} (h:mayI m s=true):indT m s=indB 4 m s:=by rw [Bool.eq_iff_iff,V4_];exact E8_ h
theorem Ye8 (P:Nat→Bool) (a:Nat):∀ b,cnt P (a+b)=cnt P a+cnt (fun i=>P (a+i)) b
 | 0=>by simp [cnt]
 | b+1=>by rw [← Nat.add_assoc,X5_,X5_,Ye8 P a b];omega
theorem Xh9 {f:Mat→(Nat→Bool)→Nat}:∀ {l:List Mat} {P:Nat→Bool},(∀ x∈l,∀ Q,f x Q≤cnt Q (nN x))→sumR f l P≤cnt P (l.map nN).sum
 | [],P,_=>by simp [sumR]
 | x :: r,P,h=>by
  rw [sumR,List.map_cons,List.sum_cons,Ye8];have:=h x j41_ P;have:=Xh9 (f:=f) (l:=r) (P:=fun i=>P (nN x+i)) fun y hy=>h y j45_;omega
theorem Yn0 {f:Mat→(Nat→Bool)→Nat}:∀ {l:List Mat} {P:Nat→Bool},(∀ x∈l,∀ Q,f x Q≤cnt Q (nN x))→(sumR f l P=cnt P (l.map nN).sum↔∀ j,j<l.length→f (l.getD j default) (fun i=>P (offN l j+i))=cnt (fun i=>P (offN l j+i)) (nN (l.getD j default)))
 | [],P,_=>⟨fun _ j c=>absurd c j41_,fun _=>by simp [sumR,cnt]⟩
 | x :: r,P,h=>by
  have k:=h x j41_ P;have m:=Xh9 (f:=f) (l:=r) (P:=fun i=>P (nN x+i)) fun y hy=>h y j45_;have g:=Yn0 (f:=f) (l:=r) (P:=fun i=>P (nN x+i)) fun y hy=>h y j45_;have e:∀ j,offN (x :: r) (j+1)=nN x+offN r j:=fun j=>by unfold offN;simp
  rw [sumR,List.map_cons,List.sum_cons,Ye8];constructor
  ·intro hs j c
   match j with
   | 0 =>
    have d:(fun i=>P (offN (x :: r) 0+i))=P:=by funext i;simp [offN]
    rw [d];show f x P=cnt P (nN x);omega
   | j+1 =>
    have:=g.1 q41_ j (by simp at c;omega);rw [e j];simp only [Nat.add_assoc];exact this
  ·intro c
   have a:=c 0 j41_;have d:(fun i=>P (offN (x :: r) 0+i))=P:=by funext i;simp [offN]
   rw [d] at a;have a:f x P=cnt P (nN x):=a;have b:=g.2 fun j o=>by
    have:=c (j+1) k41_;rw [e j] at this;simp only [Nat.add_assoc] at this;exact this
   omega
section
variable {k:Nat} {m:Mat} {s:List Int} (hc:chk m=0) (hd:dp 4 m≤k+1) (hs:InN (nN m) s)
include hc hs
theorem ind_0 (c:m.t=0):indB (k+1) m s=decide ((s.length:Int)≤m.a):=by
 have:=X4_ hs;have ha:=chk_a hc;rw [Bool.eq_iff_iff,V4_,decide_eq_true_iff,rkP_0 c];omega
theorem ind_2 (f:m.t=2):indB (k+1) m s=(List.range m.a.toNat).all fun c=>decide ((cntC (row m 0) s (c:Int):Int)≤(row m 1).getD c 0):=by
 obtain ⟨_,u,v,j,q⟩:=Zq1 hc f;have r:=Z8_ hc;have ha:=chk_a hc;have o:∀ i,i<nN m→clsOf m i<m.a.toNat:=fun i p=>by have:=j i q41_;unfold clsOf;omega
 rw [Bool.eq_iff_iff,V4_,rkP_2 f,X4_ hs,Vy4 o,List.all_eq_true];have g:∀ c,c<m.a.toNat→(clsN (nN m) (clsOf m) (memP s) c≤Yz1 m c↔decide ((cntC (row m 0) s (c:Int):Int)≤(row m 1).getD c 0)=true):=fun c d=>by
  rw [decide_eq_true_iff,Vy5 hs (fun i p=>(j i q41_).1)];have:=q c q41_;show clsN (nN m) (clsOf m) (memP s) c≤((row m 1).getD c 0).toNat↔((clsN (nN m) (clsOf m) (memP s) c:Nat):Int)≤_;omega
 exact ⟨fun h c e=>(g c (List.mem_range.1 e)).1 (h c (List.mem_range.1 e)),fun h c d=>(g c d).2 (h c (List.mem_range.2 d))⟩
theorem ind_3 (h:m.t=3):indB (k+1) m s=G5_ m.l s []:=by
 obtain ⟨j,e⟩:=Zd5 hc h;have ha:=chk_a hc;have g:∀ i,IsSet (m.l.getD i [])∧∀ r∈m.l.getD i [],0≤r∧r<(m.a.toNat:Int):=fun i=>by
  rcases Nat.lt_or_ge i m.l.length with c | c
  ·unfold mayM at e
   rw [Bool.and_eq_true,List.all_eq_true] at e;have f:=Zo7 (e.2 _ (D4_ [] c));exact ⟨f.1,fun r d=>by have:=f.2 r d;omega⟩
  ·rw [List.getD_eq_getElem?_getD,List.getElem?_eq_none c]
   exact ⟨X7_,fun r d=>absurd d j41_⟩
 rw [Bool.eq_iff_iff,V4_,rkP_3 h,Xh8 (R:=m.a.toNat) (fun i=>(g i).1) (fun i=>(g i).2) hs];exact Iff.rfl
theorem ind_5 (c:m.t=5):indB (k+1) m s=indB k (inn m) (imgM m s):=by
 rw [Bool.eq_iff_iff,V4_,V4_,rkP_5 c,W2_ hc (.inl c) hs,show (imgM m s).length=s.length by unfold imgM;rw [List.length_map]]
include hd
theorem ind_7 (c:m.t=7):indB (k+1) m s=(decide ((s.length:Int)≤m.a) && indB k (inn m) s):=by
 obtain ⟨j,d,h3⟩:=Q1_ hc q41_;have ha:=chk_a hc;have h:=I0_ hc (.inl c);have g:=rk_ok k (inn m) d q41_;have f:=g.le_cnt (memP s);have hl:=X4_ hs;have e:nN (inn m)=nN m:=by unfold nN;rw [h]
 rw [e] at f;rw [Bool.eq_iff_iff,V4_,rkP_7 c,Bool.and_eq_true,decide_eq_true_iff,V4_];omega
theorem ind_6 (c:m.t=6):indB (k+1) m s=indB k (inn m) (Z9_ (imgM m s) (baseL (indB k (inn m)) [] (row m 0))):=by
 obtain ⟨j,g,h3⟩:=Q1_ hc q41_;have w:=Z8_ g;have o:=rk_ok k (inn m) g q41_;have A:=Zd6 hc (.inr c);have f:=Zd7 hc (.inr c) hs;obtain ⟨h,q,D,E,r⟩:=P0_ o w.2 (I:=indB k (inn m)) (fun t _=>V4_) A;have u:∀ y∈imgM m s,y∉baseL (indB k (inn m)) [] (row m 0):=fun y d hb=>by
  have C:=q y hb;have p:memP (imgM m s) y.toNat=true:=memP_iff.2 (by rw [show ((y.toNat:Nat):Int)=y by have:=f.2 y d;omega];exact d);rw [W2_ hc (.inr c) hs,imgP_iff] at p;obtain ⟨i,v,_,e⟩:=p;have:=Yz3 hc c v;rw [e,← Bool.not_eq_true,memP_iff] at this;exact this (by rw [show ((y.toNat:Nat):Int)=y by have:=f.2 y d;omega];exact C)
 have B:(Z9_ (imgM m s) (baseL (indB k (inn m)) [] (row m 0))).length=s.length+rkP k (inn m) (memP (row m 0)):=by
  have j:=Vb1 f.1 h.1;have g:meetL (imgM m s) (baseL (indB k (inn m)) [] (row m 0))=[]:=by
   cases hm:meetL (imgM m s) (baseL (indB k (inn m)) [] (row m 0)) with
   | nil=>rfl
   | cons y l =>
    have d:=(L2_ f.1 h.1 y).1 (by rw [hm];simp);exact absurd d.2 (u y d.1)
  rw [g] at j;have h3:(imgM m s).length=s.length:=by unfold imgM;rw [List.length_map]
  simp only [List.length_nil] at j;omega
 have x:rkP k (inn m) (memP (Z9_ (imgM m s) (baseL (indB k (inn m)) [] (row m 0))))=rkP k (inn m) (orP (memP (row m 0)) (imgP (nN m) (stayN m) (memP s))):=by
  rw [K4_ f.1 h.1,r,W2_ hc (.inr c) hs];exact o.ext fun i _=>by unfold orP;rw [Bool.or_comm]
 have F:=o.mono (P:=memP (row m 0)) (Q:=orP (memP (row m 0)) (imgP (nN m) (stayN m) (memP s))) fun i _ z=>by unfold orP;rw [z];rfl
 rw [Bool.eq_iff_iff,V4_,V4_,rkP_6 c,B,x];omega
theorem ind_8 (o:m.t=8):indB (k+1) m s=decide ((baseL (indB k (inn m)) [] (Z5_ (allL m.n) s)).length=(baseL (indB k (inn m)) [] (allL m.n)).length):=by
 obtain ⟨y,h,h3⟩:=Q1_ hc q41_;have j:=Z8_ h;have c:=chk_n hc;have f:=rk_ok k (inn m) h q41_;have x:=I0_ hc (.inr o);have e:nN (inn m)=nN m:=by unfold nN;rw [x]
 have u:InN (nN (inn m)) (allL m.n):=by rw [e];exact Zd3 c.1 c.2
 have v:InN (nN (inn m)) (Z5_ (allL m.n) s):=by rw [e];exact D3_ c.1 c.2 hs.1
 obtain ⟨_,_,p,_⟩:=P0_ f j.2 (I:=indB k (inn m)) (fun t _=>V4_) u;obtain ⟨_,_,c3,_⟩:=P0_ f j.2 (I:=indB k (inn m)) (fun t _=>V4_) v;have q:rkP k (inn m) (memP (allL m.n))=rkP k (inn m) allP:=f.ext fun i d=>by rw [e] at d;exact Zp0 c.1 c.2 d
 have r:rkP k (inn m) (memP (Z5_ (allL m.n) s))=rkP k (inn m) (notP (memP s)):=f.ext fun i d=>by rw [e] at d;exact O0_ c.1 c.2 hs.1 d
 have hl:=X4_ hs;have z:=f.mono (P:=notP (memP s)) (Q:=allP) fun _ _ _=>rfl;rw [p,c3,q,r,Bool.eq_iff_iff,V4_,rkP_8 o,decide_eq_true_iff];rcases Nat.eq_zero_or_pos s.length with g | g
 ·have w:s=[]:=List.eq_nil_of_length_eq_zero g
  subst w;have:notP (memP [])=allP:=by funext i;rfl
  rw [this];simp only [List.length_nil] at hl;rw [← hl];simp
 ·omega
theorem ind_9 (u:m.t=9):indB (k+1) m s=(List.range m.i.length).all fun j=>indB k (m.i.getD j default) (betL s (offN m.i j:Nat) (nN (m.i.getD j default):Nat)):=by
 obtain ⟨r,v⟩:=Zp2 hc u;have p:∀ x∈m.i,∀ Q,rkP k x Q≤cnt Q (nN x):=fun x e Q=>(rk_ok k x (within hc e).1 (by have:=(within hc e).2;omega)).le_cnt Q;have d:=Yn0 (f:=rkP k) (l:=m.i) (P:=memP s) p;rw [r] at d;rw [Bool.eq_iff_iff,V4_,rkP_9 q41_,X4_ hs,d,List.all_eq_true];have o:∀ j,j<m.i.length→((rkP k (m.i.getD j default) fun i=>memP s (offN m.i j+i))=cnt (fun i=>memP s (offN m.i j+i)) (nN (m.i.getD j default))↔indB k (m.i.getD j default) (betL s (offN m.i j:Nat) (nN (m.i.getD j default):Nat))=true):=fun j c=>by
  have e:=D4_ default c;have g:=(within hc e).1;have hb:=Yc9 (N:=nN m) (f:=offN m.i j) hs (Z8_ g).2;have q:=rk_ok k _ g (by have:=(within hc e).2;omega);rw [V4_,X4_ hb,q.ext fun i d=>Zp4 (s:=s) (f:=offN m.i j) d,Q9_ fun i d=>Zp4 (s:=s) (f:=offN m.i j) d]
 exact ⟨fun h j c=>(o j (List.mem_range.1 c)).1 (h j (List.mem_range.1 c)),fun h j c=>(o j c).2 (h j (List.mem_range.2 c))⟩
end
end Go.Proofs.YtnbcaibflhgdoaaGreatDoor.Wp
