/- The document's own way to what is come to, and to the shortest way, plain: of any lists of points; without the program's. -/
import Derived.Test.YtheeajnkiniopaaGreatDoorUAdj
import Derived.Test.YtheeajnkiniopaaGreatDoorZA
import Derived.Test.YtheeajnkiniopaaGreatDoorZO
import Derived.Test.YtheeajnkiniopaaGreatDoorZW
import Derived.Test.YtheeajnkiniopaaGreatDoorIRank
import Derived.Deep.RegionHeld3
import Derived.Test.YtheeajnkiniopaaGreatDoorX0A
import Derived.Test.YtheeajnkiniopaaGreatDoorX0B
set_option maxHeartbeats 8000000
set_option maxRecDepth 100000
open Go.Lib (hid)
open Nat (le_refl)
namespace Go.Proofs.YtheeajnkiniopaaGreatDoor.Wp
open Go Go.RowKit
def DigP (adj:List (List Int)):Prop:=adj.length≤4096∧∀ x,IsSet (adj.getD x [])∧∀ y∈adj.getD x [],0≤y∧y<(adj.length:Int)
abbrev PtsP (n:Nat) (l:List Int):Prop:=InN n l
def nearK (adj:List (List Int)) (l:List Int):Nat→List Int
 | 0=>l
 | k+1=>Y2_ (nearK adj l k) (adj.getD (l.getD k 0).toNat [])
def nearL (adj:List (List Int)) (l:List Int):List Int:=nearK adj l l.length
def itL (adj:List (List Int)) (l:List Int):Nat→List Int
 | 0=>l
 | k+1=>nearL adj (itL adj l k)
theorem Yv2 {adj:List (List Int)} (l:List Int):∀ k,itL adj (nearL adj l) k=itL adj l (k+1)
 | 0=>rfl
 | k+1=>by
  show nearL adj (itL adj (nearL adj l) k)=nearL adj (itL adj l (k+1));rw [Yv2 l k]
theorem Zq9 {adj:List (List Int)} {l:List Int} {k:Nat} (h:itL adj l (k+1)=itL adj l k):∀ m,itL adj l (k+m)=itL adj l k
 | 0=>rfl
 | m+1=>by
  show nearL adj (itL adj l (k+m))=_;rw [Zq9 h m];exact h
theorem Vo5 {n:Nat} {l:List Int} (h:PtsP n l):l.length≤n:=Y4_ h
section
variable {adj:List (List Int)} (hd:DigP adj)
include hd
theorem Yv3 {l:List Int} (hl:PtsP adj.length l):∀ k,k≤l.length→PtsP adj.length (nearK adj l k)∧∀ x,x∈nearK adj l k↔x∈l∨∃ y∈l.take k,x∈adj.getD y.toNat []
 | 0,_=>⟨hl,fun x=>by simp [nearK]⟩
 | k+1,hk=>by
  obtain ⟨d,f⟩:=Yv3 hl k x37_;have e:=Q1_ d.1 (hd.2 (l.getD k 0).toNat).1;have g:l.take (k+1)=l.take k ++ [l.getD k 0]:=by
   rw [List.take_succ_eq_append_getElem (by omega:k<l.length)];simp [List.getD,show k<l.length by omega]
  refine ⟨⟨A3_ _ _,fun x j=>?_⟩,fun x=>?_⟩
  ·rcases (e x).1 j with h | h
   ·exact d.2 x h
   ·exact (hd.2 _).2 x h
  ·show x∈Y2_ (nearK adj l k) (adj.getD (l.getD k 0).toNat [])↔_
   rw [e x,f x,g];constructor
   ·rintro ((h | ⟨y,c,h⟩) | h)
    ·exact .inl h
    ·exact .inr ⟨y,List.mem_append.2 (.inl c),h⟩
    ·exact .inr ⟨_,List.mem_append.2 (.inr (List.mem_singleton.2 rfl)),h⟩
   ·rintro (h | ⟨y,c,h⟩)
    ·exact .inl (.inl h)
    ·rcases List.mem_append.1 c with c | c
     ·exact .inl (.inr ⟨y,c,h⟩)
     ·rw [List.mem_singleton] at c
      rw [c] at h;exact .inr h
theorem A7_ {l:List Int} (hl:PtsP adj.length l):PtsP adj.length (nearL adj l)∧∀ x,x∈nearL adj l↔x∈l∨∃ y∈l,x∈adj.getD y.toNat []:=by
 have:=Yv3 hd hl l.length (le_refl _);rw [List.take_length] at this;exact this
theorem C4_ {l:List Int} (hl:PtsP adj.length l):∀ k,PtsP adj.length (itL adj l k)
 | 0=>hl
 | k+1=>(A7_ hd (C4_ hl k)).1
theorem Zf7 {dst:List Int}:∀ k l,PtsP adj.length l→((∃ z∈itL adj l k,z∈dst)↔∃ y∈l,Near adj dst k y)
 | 0,l,_=>Iff.rfl
 | k+1,l,hl=>by
  have d:=A7_ hd hl;rw [← Yv2 l k,Zf7 k _ d.1];constructor
  ·rintro ⟨y,c,h⟩
   rcases (d.2 y).1 c with c | ⟨z,e,c⟩
   ·exact ⟨y,c,.inl h⟩
   ·exact ⟨z,e,.inr ⟨y,c,h⟩⟩
  ·rintro ⟨y,c,h | ⟨z,e,h⟩⟩
   ·exact ⟨y,(d.2 y).2 (.inl c),h⟩
   ·exact ⟨z,(d.2 z).2 (.inr ⟨y,c,e⟩),h⟩
theorem Yo6 {l:List Int} (hl:PtsP adj.length l) (k:Nat):∀ x,x∈itL adj l k→x∈itL adj l (k+1):=fun x c=>((A7_ hd (C4_ hd hl k)).2 x).2 (.inl c)
theorem Yv4 {l:List Int} (hl:PtsP adj.length l):∀ k,(∀ m,m<k→itL adj l (m+1)≠itL adj l m)→k≤(itL adj l k).length
 | 0,_=>Nat.zero_le _
 | k+1,h=>by
  have r:=Yv4 hl k fun m d=>h m x37_;have e:=C4_ hd hl k;have c:=C4_ hd hl (k+1);rw [Y8_ e] at r;rw [Y8_ c];by_cases f:∃ y,y<adj.length∧memP (itL adj l k) y=false∧memP (itL adj l (k+1)) y=true
  ·have:=Yk1 (p:=memP (itL adj l k)) (q:=memP (itL adj l (k+1))) (n:=adj.length) (fun v _ o=>memP_iff.2 (Yo6 hd hl k _ (memP_iff.1 o))) f
   omega
  ·exfalso
   refine h k x37_ (IsSet.ext c.1 e.1 fun x=>⟨fun g=>?_,Yo6 hd hl k x⟩);have hb:=c.2 x g;have j:((x.toNat:Nat):Int)=x:=x37_;cases d:memP (itL adj l k) x.toNat
   ·exact absurd ⟨x.toNat,x37_,d,memP_iff.2 (by rw [j];exact g)⟩ f
   ·have:=memP_iff.1 d
    rwa [j] at this
theorem Xk9 {l:List Int} (hl:PtsP adj.length l):∀ m,itL adj l (adj.length+m)=itL adj l adj.length:=by
 by_cases h:∃ k,k≤adj.length∧itL adj l (k+1)=itL adj l k
 ·obtain ⟨k,f,e⟩:=h
  intro m;have c:=Zq9 e (adj.length+m - k);have d:=Zq9 e (adj.length - k);rw [show k+(adj.length+m - k)=adj.length+m by omega] at c;rw [show k+(adj.length - k)=adj.length by omega] at d;rw [c,d]
 ·exfalso
  have c:=Yv4 hd hl (adj.length+1) fun m g e=>h ⟨m,x37_,e⟩;have d:=Vo5 (C4_ hd hl (adj.length+1));omega
theorem R3_ {l:List Int} (hl:PtsP adj.length l) {x y:Int} (c:x∈itL adj l adj.length) (d:y∈adj.getD x.toNat []):y∈itL adj l adj.length:=by
 have h:=((A7_ hd (C4_ hd hl adj.length)).2 y).2 (.inr ⟨x,c,d⟩);have e:itL adj l (adj.length+1)=itL adj l adj.length:=Xk9 hd hl 1;rw [← e];exact h
theorem Zr1 {l:List Int} (hl:PtsP adj.length l):∀ k x,x∈l→x∈itL adj l k
 | 0,_,h=>h
 | k+1,x,h=>Yo6 hd hl k x (Zr1 hl k x h)
end
def O9_ (adj:List (List Int)) (dst:List Int) (v s:Int):Prop :=
 (∃ k:Nat,s=(k:Int)∧Near adj dst k v∧∀ m,m<k→¬ Near adj dst m v)∨(s=-1∧∀ m,¬ Near adj dst m v)
def E8_ (adj:List (List Int)) (dst S:List Int) (i:Nat) (b:Int):Prop :=
 (b=-1∧∀ y∈S.take i,∀ k,¬ Near adj dst k y) ∨
 (∃ k,b∈S.take i∧Near adj dst k b∧(∀ y∈S.take i,∀ m,m<k→¬ Near adj dst m y)∧∀ y∈S.take i,y<b→¬ Near adj dst k y)
section
variable {adj:List (List Int)} {dst S:List Int} {i:Nat} {b s:Int}
theorem Zk8 {v:Int} {k:Nat} (h:O9_ adj dst v s) (c:Near adj dst k v) (g:∀ m,m<k→¬ Near adj dst m v):s=(k:Int):=by
 rcases h with ⟨d,rfl,e,f⟩ | ⟨_,h⟩
 ·rcases Nat.lt_trichotomy k d with h | h | h
  ·exact absurd c (f k h)
  ·rw [h]
  ·exact absurd e (g d h)
 ·exact absurd c (h k)
theorem Xx3:E8_ adj dst S 0 (-1):=.inl ⟨rfl,fun y c=>by simp at c⟩
theorem P0_ (c:i<S.length):S.take (i+1)=S.take i ++ [S.getD i 0]:=by
 rw [List.take_succ_eq_append_getElem c];simp [List.getD,c]
theorem F7_ {p:Int→Prop} (e:i<S.length) (h:∀ y∈S.take i,p y) (d:p (S.getD i 0)):∀ y∈S.take (i+1),p y:=fun y c=>by
 rw [P0_ e,List.mem_append,List.mem_singleton] at c;rcases c with c | rfl
 ·exact h y c
 ·exact d
theorem Xl0 (d:S.Pairwise (·<·)) (c:i<S.length):∀ y∈S.take i,y<S.getD i 0:=fun y f=>by
 have h:=d;rw [← List.take_append_drop i S,List.pairwise_append] at h;refine h.2.2 y f _ ?_;have e:S.drop i=S[i] :: S.drop (i+1):=List.drop_eq_getElem_cons c;rw [e];exact List.mem_cons.2 (.inl (by simp [List.getD,c]))
theorem Yf3 (c:i<S.length) (h:E8_ adj dst S i b) (hs:O9_ adj dst (S.getD i 0) s) (o:s<0):E8_ adj dst S (i+1) b:=by
 have d:∀ m,¬ Near adj dst m (S.getD i 0):=by
  rcases hs with ⟨k,rfl,_⟩ | ⟨_,h⟩
  ·omega
  ·exact h
 rcases h with ⟨e,h⟩ | ⟨k,f,g,h3,j⟩
 ·exact .inl ⟨e,F7_ c h d⟩
 ·exact .inr ⟨k,by rw [P0_ c];exact List.mem_append.2 (.inl f),g,F7_ c h3 fun m _=>d m,F7_ c j fun _=>d k⟩
theorem Yf4 (c:i<S.length) (h:E8_ adj dst S i b) (hb:b=-1) (o:∀ y∈S.take i,0≤y) (hs:O9_ adj dst (S.getD i 0) s) (q:0≤s):E8_ adj dst S (i+1) (S.getD i 0):=by
 rcases hs with ⟨k,rfl,g,j⟩ | ⟨e,_⟩
 ·have f:∀ y∈S.take i,∀ k,¬ Near adj dst k y:=by
   rcases h with ⟨_,h⟩ | ⟨_,h,_⟩
   ·exact h
   ·have:=o _ h
    omega
  exact .inr ⟨k,by rw [P0_ c];exact List.mem_append.2 (.inr j37_),g,F7_ c (fun y d m _=>f y d m) j,F7_ c (fun y d _=>f y d k) (fun p=>by omega)⟩
 ·omega
theorem Yv5 (c:i<S.length) (h:E8_ adj dst S i b) (hb:0≤b) {g:Int} (v:O9_ adj dst b g) (hs:O9_ adj dst (S.getD i 0) s) (A:0≤s) (u:s<g):E8_ adj dst S (i+1) (S.getD i 0):=by
 rcases h with ⟨e,_⟩ | ⟨k,p,q,h3,w⟩
 ·omega
 ·have x:=Zk8 v q (h3 b p)
  rcases hs with ⟨f,rfl,j,o⟩ | ⟨e,_⟩
  ·have r:f<k:=by omega
   exact .inr ⟨f,by rw [P0_ c];exact List.mem_append.2 (.inr j37_),j,F7_ c (fun y d m z=>h3 y d m x37_) o,F7_ c (fun y d _=>h3 y d f r) (fun u=>by omega)⟩
  ·omega
theorem Xx4 (r:S.Pairwise (·<·)) (c:i<S.length) (h:E8_ adj dst S i b) (hb:0≤b) {g:Int} (q:O9_ adj dst b g) (hs:O9_ adj dst (S.getD i 0) s) (y:0≤s) (p:¬ s<g):E8_ adj dst S (i+1) b:=by
 rcases h with ⟨e,_⟩ | ⟨k,d,f,h3,o⟩
 ·omega
 ·have v:=Zk8 q f (h3 b d)
  have w:=Xl0 r c b d;rcases hs with ⟨z,rfl,u,j⟩ | ⟨e,_⟩
  ·exact .inr ⟨k,by rw [P0_ c];exact List.mem_append.2 (.inl d),f,F7_ c h3 (fun m x=>j m x37_),F7_ c o (fun p=>by omega)⟩
  ·omega
end
open Classical in
theorem Yo7 (adj:List (List Int)) (dst:List Int) (v:Int):∃ s,O9_ adj dst v s:=by
 by_cases h:∃ k,Near adj dst k v
 ·obtain ⟨k,e⟩:=h
  suffices hs:∀ k,Near adj dst k v→∃ m,m≤k∧Near adj dst m v∧∀ j,j<m→¬ Near adj dst j v by
   obtain ⟨m,_,g,d⟩:=hs k e;exact ⟨m,.inl ⟨m,rfl,g,d⟩⟩
  intro k
  induction k using Nat.strongRecOn with
  | _ k ih =>
   intro e;by_cases c:∃ j,j<k∧Near adj dst j v
   ·obtain ⟨j,c,f⟩:=c
    obtain ⟨m,g,d⟩:=ih j c f;exact ⟨m,x37_,d⟩
   ·exact ⟨k,le_refl _,e,fun j o f=>c ⟨j,o,f⟩⟩
 ·exact ⟨-1,.inr ⟨rfl,fun m p=>h ⟨m,p⟩⟩⟩
theorem Zr2 (adj:List (List Int)) (dst:List Int) {S:List Int} (m:S.Pairwise (·<·)) (j:∀ y∈S,0≤y):∀ i,i≤S.length→∃ b,E8_ adj dst S i b
 | 0,_=>⟨-1,Xx3⟩
 | i+1,hi=>by
  obtain ⟨b,hb⟩:=Zr2 adj dst m j i x37_;obtain ⟨s,hs⟩:=Yo7 adj dst (S.getD i 0);have g:∀ y∈S.take i,0≤y:=fun y p=>j y (List.mem_of_mem_take p);by_cases o:s<0
  ·exact ⟨b,Yf3 x37_ hb hs o⟩
  ·by_cases d:b=-1
   ·exact ⟨_,Yf4 x37_ hb d g hs x37_⟩
   ·have c:0≤b:=by
     rcases hb with ⟨e,_⟩ | ⟨_,h,_⟩
     ·exact absurd e d
     ·exact g b h
    obtain ⟨q,k⟩:=Yo7 adj dst b;by_cases f:s<q
    ·exact ⟨_,Yv5 x37_ hb c k hs x37_ f⟩
    ·exact ⟨b,Xx4 m x37_ hb c k hs x37_ f⟩
theorem Yv6 {adj:List (List Int)} {dst:List Int} (hd:DigP adj):∀ (k:Nat) {S:List Int} {b:Int},(∀ y∈S,0≤y)→b∈S→Near adj dst k b→(∀ y∈S,∀ m,m<k→¬ Near adj dst m y)→(∀ y∈S,y<b→¬ Near adj dst k y)→∃ l,Greedy adj dst S k (b :: l)
 | 0,S,b,_,hb,hn,_,hl=>⟨[],.stop S b hb hn hl⟩
 | k+1,S,b,hpt,hb,hn,hno,hl=>by
  have f:=hd.2 b.toNat;obtain ⟨c,hc⟩:=Zr2 adj dst f.1.1 (fun y d=>(f.2 y d).1) (adj.getD b.toNat []).length (le_refl _);unfold E8_ at hc;rw [List.take_length] at hc;obtain ⟨y,d,o⟩:∃ y∈adj.getD b.toNat [],Near adj dst k y:=by
   rcases hn with h | h
   ·exact absurd h (hno b hb k x37_)
   ·exact h
  rcases hc with ⟨_,h⟩ | ⟨e,g,j,h3,p⟩
  ·exact absurd o (h y d k)
  ·have r:e=k:=by
    rcases Nat.lt_trichotomy e k with h | h | h
    ·exfalso
     have:Near adj dst (e+1) b:=.inr ⟨c,g,j⟩;exact hno b hb (e+1) x37_ this
    ·exact h
    ·exact absurd o (h3 y d k h)
   subst r;obtain ⟨l,q⟩:=Yv6 hd e (fun y d=>(f.2 y d).1) g j h3 p;exact ⟨c :: l,.step S b e _ hb hn (fun y d=>hno y d e x37_) hl q⟩
theorem Xl1 {adj:List (List Int)} {dst S:List Int} (hd:DigP adj) (c:PtsP adj.length S):(∃ n x l,Greedy adj dst S n (x :: l))∨∀ y∈S,∀ k,¬ Near adj dst k y:=by
 obtain ⟨b,hb⟩:=Zr2 adj dst c.1.1 (fun y d=>(c.2 y d).1) S.length (le_refl _);unfold E8_ at hb;rw [List.take_length] at hb;rcases hb with ⟨_,h⟩ | ⟨k,e,f,h3,g⟩
 ·exact .inr h
 ·obtain ⟨l,hl⟩:=Yv6 hd k (fun y d=>(c.2 y d).1) e f h3 g
  exact .inl ⟨k,b,l,hl⟩
open Go Go.RowKit
def baseL (I:List Int→Bool):List Int→List Int→List Int
 | out,[]=>out
 | out,x :: r=>baseL I (if I (Y2_ out [x])=true then out ++ [x] else out) r
def cntC (cl s:List Int) (c:Int):Nat:=(s.filter fun x=>cl.getD x.toNat 0==c).length
def F1_ (l:List (List Int)):List Int→List Int→Bool
 | [],_=>true
 | x :: s,used=>(Z9_ (l.getD x.toNat []) used).any fun r=>F1_ l s (Y2_ used [r])
theorem Xl2 {cl s:List Int} {c:Int} {k:Nat} (d:k<s.length):cntC cl (s.take (k+1)) c=cntC cl (s.take k) c+if cl.getD (s.getD k 0).toNat 0=c then 1 else 0:=by
 unfold cntC;rw [List.take_succ_eq_append_getElem d,List.filter_append,List.length_append,show s[k]=s.getD k 0 by simp [List.getD,d]];congr 1;rw [List.filter_cons];by_cases h:cl.getD (s.getD k 0).toNat 0=c
 ·rw [if_pos h,if_pos (by rw [h];exact beq_self_eq_true c)];rfl
 ·rw [if_neg h,if_neg z41_];rfl
theorem Vo6 (cl s:List Int) (c:Int):cntC cl s c≤s.length:=List.length_filter_le _ _
theorem Row.nthV {w:World} {B:Nat} {A:Option Addr} {n c:Nat} {l:List Int} (h:Row w B (.slice A n c) l) {k:Nat} (hk:k<l.length):∃ ad,A=some ad∧∀ W,Below B w W→W.cell? (ad.add k)=some (.int .i64 (l.getD k 0)):=z12_
theorem Xl3 (vc vs:Value) (cl s:List Int) (c:Int) (w:World) (hc:Row w w.heap.size vc cl) (hs:Row w w.heap.size vs s) (v:∀ k,k<s.length→0≤s.getD k 0∧s.getD k 0<(cl.length:Int)) (T:s.length≤64) :
  Calls Tryz.prog 139 #[vc,vs,.int .i64 c] w (Tells w (cntC cl s c:Nat)):=by
 have x:=hid hc;have z:=hid hs;have C:=hid v;have S:(s.length:Int)≤64:=x37_;obtain ⟨H,L,rfl,_⟩:=hc;obtain ⟨I,cs,rfl,_⟩:=hs;clear v
 go_enter Tryz.func139,Tryz.ntmps139
 go_wp2
 go_loopw [7,8] (fun vn o wr=>∃ k:Nat,o=.int .i64 (k:Int)∧k≤s.length∧vn=.int .i64 (cntC cl (s.take k) c:Nat)∧Below w.heap.size w wr) (fun _ o _=>s.length - (intOf o).toNat)
 case atStart=>exact ⟨0,rfl,Nat.zero_le _,by rw [List.take_zero];rfl,Below.refl _ _⟩
 case round =>
  obtain ⟨k,rfl,Q,rfl,q⟩:=hrel;have e:=hid q;clear q;by_cases j:k<s.length
  ·have R:(k:Int)<(s.length:Int):=by omega
   obtain ⟨K,D,u⟩:=Row.nthV z.out j;subst D;have gs:=u _ e.out;have m:=C.out k j;have d:=hid (Xl2 (cl:=cl) (c:=c) j);have G:=Vo6 cl (s.take k) c;rw [List.length_take] at G;obtain ⟨X,p⟩:∃ X:Nat,s.getD k 0=(X:Int):=⟨(s.getD k 0).toNat,x37_⟩;rw [p] at gs m d;rw [show ((X:Int)).toNat=X from rfl] at d;obtain ⟨J,E,r⟩:=Row.nthV x.out (k:=X) x37_;subst E;have M:=r _ e.out;generalize cl.getD X 0=y at *
   generalize cntC cl (s.take k) c=N at *
   have O:(N:Int)≤64:=x37_;have P:(X:Int)<(cl.length:Int):=m.2;clear u r p m;by_cases g:y=c
   ·have h:Hid (cntC cl (s.take (k+1)) c=N+1):=hid (by rw [d.out,if_pos g])
    clear d;subst g;go_wp2
    go_roundw
    case rel=>exact ⟨k+1,y38_,x37_,by rw [h.out];go_num,e.out⟩
    exact mz_
   ·have h:Hid (cntC cl (s.take (k+1)) c=N):=hid (by rw [d.out,if_neg g,Nat.add_zero])
    have U:(y==c)=false:=by simpa using g
    clear d;go_wp2
    go_roundw
    case rel=>exact ⟨k+1,y38_,x37_,by rw [h.out],e.out⟩
    exact mz_
  ·have F:k=s.length:=by omega
   subst F;have B:Hid (s.take s.length=s):=hid List.take_length;rw [B.out];go_wp2;go_ret;exact ⟨rfl,e.out⟩
theorem Row.oneV {w:World} {B:Nat} {A:Option Addr} {n c:Nat} {l:List Int} (h:Row w B (.slice A n c) l) {i:Nat} (j:i<l.length):∃ d,A=some d∧n=l.length∧i<c∧Row w B (.slice (some (d.add i)) 1 (c - i)) [l.getD i 0]:=by
 obtain ⟨p,c',g,⟨q,r,h3⟩,m⟩:=h;injection g with e1 e2 e3;subst e1 e2 e3;obtain ⟨d,rfl,f,hc⟩:=m i j;refine ⟨d,rfl,rfl,x37_,_,_,rfl,⟨by simp;omega,x37_,fun e=>by cases e⟩,fun k o=>?_⟩;have:k=0:=by simpa using o
 subst this;exact ⟨_,rfl,by rw [Z2_];exact f,by rw [add_zero];exact hc⟩
theorem Yf5 (e:Value) (s:List Int) (f n:Int) (w:World) (h:Row w w.heap.size e s) (hs:∀ k,k<s.length→0≤s.getD k 0∧s.getD k 0≤64) (o:0≤f∧f≤1000) (q:0≤n∧n≤1000) (u:s.length≤64) :
  Calls Tryz.prog 113 #[e,.int .i64 f,.int .i64 n] w (Gives w (betL s f n)):=by
 obtain ⟨m,cs,rfl,_,d⟩:=h;have Hsk:=hid d;have Hs:=hid hs;have r:(s.length:Int)≤64:=x37_;have v:IntKind.i64.wrap (f+n)=f+n:=q38_;have hown0:(w.alloc (.cells #[] 3)).ownsRow w.heap.size 3 1 (.slice (some ⟨w.heap.size,0,none⟩) 0 0) ([]:List Int).length (ints []) :=
  World.ownsRow_made w #[] 0 (le_refl _) z38_ rfl
 have g:Below w.heap.size w (w.alloc (.cells #[] 3)):=(Below.refl _ w).alloc (le_refl _) _;clear d hs
 go_enter Tryz.func113,Tryz.ntmps113
 go_wp2
 go_loopw [7,8] (fun j c wr=>∃ k:Nat,c=.int .i64 k∧k≤s.length∧wr.ownsRow w.heap.size 3 1 j (betL (s.take k) f n).length (ints (betL (s.take k) f n))∧Below w.heap.size w wr) (fun _ c _=>s.length - (intOf c).toNat)
 case atStart=>exact ⟨0,rfl,Nat.zero_le _,hown0,g⟩
 case round =>
  exact q1_
open Go Go.RowKit
theorem Vq4 {n:Nat} (e:n≤64) {x:Int} (d:0≤x∧x<(n:Int)):InN n [x]:=⟨⟨j37_,fun z c=>by rw [List.mem_singleton.1 c];exact ⟨x37_,x37_⟩⟩,fun z c=>by rw [List.mem_singleton.1 c];exact d⟩
theorem Vo7 {n:Nat} (c:n≤64) {out:List Int} {x:Int} (ho:InN n out) (d:0≤x∧x<(n:Int)) (hlt:∀ y∈out,y<x):InN n (out ++ [x])∧InN n (Y2_ out [x]):=by
 have h1:=Vq4 c d;refine ⟨⟨⟨?_,fun y hy=>?_⟩,fun y hy=>?_⟩,⟨A3_ _ _,fun y hy=>?_⟩⟩
 ·exact z20_
 ·exact k24_
 ·rcases List.mem_append.1 hy with hy | hy
  ·exact ho.2 y hy
  ·exact h1.2 y hy
 ·rcases (Q1_ ho.1 h1.1 y).1 hy with hy | hy
  ·exact ho.2 y hy
  ·exact h1.2 y hy
theorem Xl4 {s:List Int} {k:Nat} (c:k<s.length):s.drop k=s.getD k 0 :: s.drop (k+1):=by
 rw [List.drop_eq_getElem_cons c];simp [List.getD,c]
theorem Za0 (n:Nat) (hn:n≤64) (I:List Int→Bool) (m c1 c2 c3 c4 c5 sv:Value) (s:List Int) (w:World) (hs:InN n s) (y2:s.length≤64) (T:Row w w.heap.size sv s)
  (Y:∀ (t:List Int) (vt:Value) (W:World),Below w.heap.size w W→InN n t→Row W W.heap.size vt t→Calls Tryz.prog 79 #[.agg #[m,c1,c2,c3,c4,c5],vt] W (Says W (I t))) :
  Calls Tryz.prog 49 #[.agg #[m,c1,c2,c3,c4,c5],sv] w (Gives w (baseL I [] s)):=by
 have HS:=hid hs;have xg:=hid Y;have y1:(s.length:Int)≤64:=x37_;obtain ⟨d,hW0⟩:∃ d,d=w.alloc (.cells #[m,c1,c2,c3,c4,c5] 37):=⟨_,rfl⟩;have xm:=hid hW0;have K:Hid (Below w.heap.size w d):=hid q39_;have v:w.heap.size<d.heap.size:=y39_;have HC:Hid (∀ (W:World),Below d.heap.size d W→W.cell? ⟨w.heap.size,0,none⟩=some m∧W.cell? ⟨w.heap.size,1,none⟩=some c1∧W.cell? ⟨w.heap.size,2,none⟩=some c2∧W.cell? ⟨w.heap.size,3,none⟩=some c3∧W.cell? ⟨w.heap.size,4,none⟩=some c4∧W.cell? ⟨w.heap.size,5,none⟩=some c5):=hid fun W o=>by
  have u:=Blk.new w 37 #[m,c1,c2,c3,c4,c5];rw [← hW0] at u;exact ⟨(o.cell (p:=⟨w.heap.size,0,none⟩) v).trans (u.cell 0),(o.cell (p:=⟨w.heap.size,1,none⟩) v).trans (u.cell 1),(o.cell (p:=⟨w.heap.size,2,none⟩) v).trans (u.cell 2),(o.cell (p:=⟨w.heap.size,3,none⟩) v).trans (u.cell 3),(o.cell (p:=⟨w.heap.size,4,none⟩) v).trans (u.cell 4),(o.cell (p:=⟨w.heap.size,5,none⟩) v).trans (u.cell 5)⟩
 have Z:=hid (T.up K.out);obtain ⟨As,cs,rfl,_⟩:=id T;have xb:d.heap.size=w.heap.size+1:=y39_;have x7:(d.alloc (.cells #[] 3)).ownsRow d.heap.size 3 1 (.slice (some ⟨w.heap.size+1,0,none⟩) 0 0) ([]:List Int).length (ints []):=by
  rw [← xb];exact World.ownsRow_made d #[] 0 (le_refl _) z38_ rfl
 have x0:Below d.heap.size d (d.alloc (.cells #[] 3)):=(Below.refl _ d).alloc (le_refl _) _;have xk:=hid x7;have xc:=hid x0;clear Y hs T x7 x0
 go_enter Tryz.func49,Tryz.ntmps49
 go_wp2;rw [← xm.out];clear hW0
 go_loopw [5,6] (fun vo V wr=>∃ (k:Nat) (out:List Int),V=.int .i64 (k:Int)∧k≤s.length∧Hid (baseL I out (s.drop k)=baseL I [] s∧InN n out∧(∀ y∈out,∀ z∈s.drop k,y<z)∧out.length≤k∧wr.ownsRow d.heap.size 3 1 vo out.length (ints out)∧Below d.heap.size d wr)) (fun _ V _=>s.length - (intOf V).toNat)
 case atStart=>exact ⟨0,[],rfl,Nat.zero_le _,by rw [List.drop_zero],⟨J0_,fun x B=>absurd B j37_⟩,fun y j=>absurd j j37_,Nat.zero_le _,xk.out,xc.out⟩
 case round =>
  obtain ⟨k,out,rfl,hk,g⟩:=hrel;by_cases H:k<s.length
  ·have xz:(k:Int)<(s.length:Int):=by omega
   have y3:IntKind.i64.wrap ((k:Int)+1)=(k:Int)+1:=q38_;have Q:=(Below.refl wr.heap.size wr).drew;have F:=g.out.2.2.2.2.2;obtain ⟨ad,hA,_,xw,x6⟩:=Row.oneV (Z.out.up F) H;subst hA;obtain ⟨xv,P,R⟩:=Row.nthV Z.out H;injection P with P;subst P;have S:=x6.up Q;have xx:(k:Int)+1≤(cs:Int):=x37_;have K5:Hid (∀ W,Below wr.drew.heap.size wr.drew W→W.cell? ⟨w.heap.size,0,none⟩=some m∧W.cell? ⟨w.heap.size,1,none⟩=some c1∧W.cell? ⟨w.heap.size,2,none⟩=some c2∧W.cell? ⟨w.heap.size,3,none⟩=some c3∧W.cell? ⟨w.heap.size,4,none⟩=some c4∧W.cell? ⟨w.heap.size,5,none⟩=some c5):=hid fun W o=>HC.out W (Z0_ F.drew (le_refl _) o);have r:Hid (Below wr.drew.heap.size wr.drew wr.drew):=hid (Below.refl _ _);obtain ⟨x,B⟩:∃ x,s.getD k 0=x:=⟨_,rfl⟩;rw [B] at S R;have xf:=hid R;have G:=Xl4 H;rw [B] at G;have C:=hid G;have xn:Hid (0≤x∧x<(n:Int)):=hid (HS.out.2 x (by rw [← B];simp [List.getD,H]));have xq:Hid (∀ (A:Option Addr) (n c:Nat),A=some (ad.add k)→n=1→c=cs - k→Row wr.drew wr.drew.heap.size (.slice A n c) [x]):=hid fun A n c N O h3=>by subst N O h3;exact S
   have X:=hid (Vo7 hn g.out.2.1 xn.out fun y j=>g.out.2.2.1 y j x (by rw [G];simp));have xl:=hid ((Row.of_own g.out.2.2.2.2.1 rfl).up Q);have xj:Hid (out.length≤1048576):=hid (by have:=g.out.2.2.2.1;omega);obtain ⟨z,U⟩:∃ z,I (Y2_ out [x])=z:=⟨_,rfl⟩;have HZ:=hid U;have xe:=hid (Z0_ K.out (le_refl _) (F.drew.mono (le_refl _)));have xh:Hid (∀ (vt:Value) (W:World),Below wr.drew.heap.size wr.drew W→Row W W.heap.size vt (Y2_ out [x])→Calls Tryz.prog 79 #[.agg #[m,c1,c2,c3,c4,c5],vt] W (Says W z)):=hid fun vt W N O=>by rw [← U];exact xg.out _ vt W (Z0_ xe.out (le_refl _) N) X.out.2 O
   have x5:k+1≤s.length:=x37_;have xy:(k:Int)≤(k:Int)+1:=x37_;clear x6 S G F B U R Q;go_wp2
   go_region_held3 (fun W=>W.cell? ⟨w.heap.size,0,none⟩=some m∧W.cell? ⟨w.heap.size,1,none⟩=some c1∧W.cell? ⟨w.heap.size,2,none⟩=some c2∧W.cell? ⟨w.heap.size,3,none⟩=some c3∧W.cell? ⟨w.heap.size,4,none⟩=some c4∧W.cell? ⟨w.heap.size,5,none⟩=some c5)
    (exact K5.out _ r.out)
    (first
    | (go_at_call 47;refine (H6_ _ _ out [x] _ xl.out (xq.out _ _ _ (by simp;intro h;omega) (by first | rfl | (simp;try omega)) (by first | rfl | (simp;try omega))) xj.out j37_).mono ?_;rintro e y4 ⟨xu,rfl,xa,x1⟩;replace r:=hid (Z0_ r.out (le_refl _) x1);have HU:=hid xa;clear xa x1)
    | (go_at_call_of 79 xu;refine (xh.out _ _ r.out HU.out).mono ?_;rintro e y5 ⟨rfl,x2⟩;replace r:=hid (Z0_ r.out (le_refl _) x2);clear x2))
   all_goals
    go_simp;have L:=hid (Z0_ ((Below.refl wr.heap.size wr).drew) (le_refl _) r.out);have D:=hid (Z0_ g.out.2.2.2.2.2 (le_refl _) L.out);cases z
    ·have M:Hid (baseL I out (s.drop (k+1))=baseL I [] s):=hid (by rw [← g.out.1,C.out,baseL,if_neg (by rw [HZ.out];decide)])
     have E:=hid (World.ownsRow.kept g.out.2.2.2.2.1 (Y0_ L.out none) (by cases hv:(Value.ownBlock _)<;>simp));go_wp2
     go_roundw
     case rel=>exact ⟨k+1,out,y38_,x5,M.out,g.out.2.1,fun y j q J=>g.out.2.2.1 y j q (by rw [C.out];simp [J]),by have:=g.out.2.2.2.1;omega,E.out,D.out⟩
     exact mz_
    ·have M:Hid (baseL I (out ++ [x]) (s.drop (k+1))=baseL I [] s):=hid (by rw [← g.out.1,C.out,baseL,if_pos HZ.out])
     have E:=hid (World.ownsRow.kept g.out.2.2.2.2.1 (Y0_ L.out none) (by cases hv:(Value.ownBlock _)<;>simp));have gx:=xf.out _ D.out;have xt:=D.out.size;have y0:=g.out.2.2.2.1;have xr:Hid (∀ y∈out ++ [x],∀ q∈s.drop (k+1),y<q):=hid fun y j q J=>by
      rcases List.mem_append.1 j with j | j
      ·exact g.out.2.2.1 y j q (by rw [C.out];simp [J])
      ·rw [List.mem_singleton.1 j]
       have hp:(x :: s.drop (k+1)).Pairwise (·<·):=by rw [← C.out];exact HS.out.1.1.sublist (List.drop_sublist _ _)
       exact (List.pairwise_cons.1 hp).1 q J
     go_wp2_with (at_builtin;refine Z5_ rfl _ _ rfl d.heap.size _ _ _ out [x] rfl rfl (World.ownsRow.alloc E.out _) (Row.lit1 _ x) x37_ j37_ k37_ ?_)
     intro v8 w8 x8 x4;have x9:w8.ownsRow d.heap.size 3 1 v8 (out ++ [x]).length (ints (out ++ [x])):=by rw [List.length_append,xb];exact x8
     have x3:Below d.heap.size d w8:=(D.out.alloc xt _).grown x4 k37_ (fun i hi=>(World.ownsRow.lt E.out i hi).1);have xi:=hid x9;have xd:=hid x3;clear x8 x9 x4 x3;go_wp2
     go_roundw
     case rel=>exact ⟨k+1,out ++ [x],y38_,x5,M.out,X.out.1,xr.out,by rw [List.length_append];simp;omega,xi.out,xd.out⟩
     exact mz_
  ·have xs:k=s.length:=by omega
   subst xs;have xo:Hid (out=baseL I [] s):=hid (by rw [← g.out.1,List.drop_length,baseL]);have xp:=hid (Z0_ K.out (le_refl _) g.out.2.2.2.2.2);go_wp2;go_ret;exact ⟨_,rfl,by rw [← xo.out];exact Row.of_own g.out.2.2.2.2.1 rfl,xp.out⟩
end Go.Proofs.YtheeajnkiniopaaGreatDoor.Wp
