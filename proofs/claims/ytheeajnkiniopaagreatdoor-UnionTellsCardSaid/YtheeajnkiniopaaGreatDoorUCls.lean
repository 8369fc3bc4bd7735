/- The program's search for a way among several matroids, plain: of all arcs it looks only for those that may be on a shortest way, level by level; what it tells is the same. Nothing of the program here. -/
import Derived.Test.YtheeajnkiniopaaGreatDoorZI
import Derived.Test.YtheeajnkiniopaaGreatDoorUAdj
import Derived.Test.YtheeajnkiniopaaGreatDoorIUnion
import Derived.Test.YtheeajnkiniopaaGreatDoorQWalkA
import Derived.Deep.RegionHeld3
import Derived.Test.YtheeajnkiniopaaGreatDoorX0A
import Derived.Test.YtheeajnkiniopaaGreatDoorX0B
set_option maxHeartbeats 8000000
set_option maxRecDepth 100000
open Go.Lib (hid)
open Nat (le_refl)
namespace Go.Proofs.YtheeajnkiniopaaGreatDoor.Wp
open Go Go.RowKit
section
variable {adj adj':List (List Int)} {dst S S' src:List Int}
theorem Yx8:∀ {l:List Int} {x:Int},(∀ i,i+1<(x :: l).length→(x :: l).getD (i+1) 0∈adj.getD ((x :: l).getD i 0).toNat [])→(x :: l).getD l.length 0∈dst→Near adj dst l.length x
 | [],x,_,h=>h
 | y :: l,x,ha,h=>by
  have h1:=ha 0 z40_;refine .inr ⟨y,z49_,Yx8 (l:=l) (x:=y) (fun i hi=>?_) y44_⟩;have:=ha (i+1) y48_;simpa using this
theorem Xz9 (p:∀ x,∀ y∈adj'.getD x [],y∈adj.getD x []) {m:Nat} {l:List Int} (e:Greedy adj dst S m l):∀ {S':List Int},(∀ y∈S',y∈S)→l.getD 0 0∈S'→(∀ i,i+1<l.length→l.getD (i+1) 0∈adj'.getD (l.getD i 0).toNat [])→Greedy adj' dst S' m l:=by
 have q:∀ k x,Near adj' dst k x→Near adj dst k x:=by
  intro k
  induction k with
  | zero=>exact fun x h=>h
  | succ k ih =>
   rintro x (h | ⟨y,c,h⟩)
   ·exact .inl (ih x h)
   ·exact .inr ⟨y,p _ _ c,ih y h⟩
 induction e with
 | stop S x hx hd hl =>
  intro S' d f _;exact .stop _ _ (by simpa using f) hd fun y c g=>hl y (d y c) g
 | step S x n l hx hn hno hl e ih =>
  intro S' d f ha;have o:=e.length;have r:=e.last;have s:∀ i,i+1<l.length→l.getD (i+1) 0∈adj'.getD (l.getD i 0).toNat []:=fun i hi=>by
   have:=ha (i+1) y48_;simpa using this
  have j:=ha 0 j40_;rw [List.getD_cons_zero,List.getD_cons_succ] at j;refine .step _ _ _ _ (by simpa using f) ?_ (fun y c h=>hno y (d y c) (q _ _ h)) (fun y c g h=>hl y (d y c) g (q _ _ h)) (ih (fun y c=>p _ _ c) j s);have:=Yx8 (adj:=adj') (dst:=dst) (l:=l) (x:=x) ha (by rw [o,List.getD_cons_succ];exact r)
  rwa [o] at this
theorem Ze9 (hd:DigP adj) (hs:PtsP adj.length src) {P:Int→Prop} (c:∀ x∈src,P x) (hc:∀ x,P x→∀ y∈adj.getD x.toNat [],P y):∀ k,∀ x∈itL adj src k,P x
 | 0=>c
 | k+1=>fun x d=>by
  rcases ((B0_ hd (J9_ hd hs k)).2 x).1 d with h | ⟨y,e,h⟩
  ·exact Ze9 hd hs c hc k x h
  ·exact hc y (Ze9 hd hs c hc k y e) x h
theorem W1_ (hd:DigP adj) (hs:PtsP adj.length src) {k:Nat}:∀ (j:Nat) {z:Int},z∈itL adj src j→Near adj dst k z→∃ y∈src,Near adj dst (j+k) y
 | 0,z,hz,hn=>⟨z,hz,by rwa [Nat.zero_add]⟩
 | j+1,z,hz,hn=>by
  rcases ((B0_ hd (J9_ hd hs j)).2 z).1 hz with h | ⟨y,c,h⟩
  ·obtain ⟨y,c,d⟩:=W1_ hd hs j h hn
   exact ⟨y,c,C6_ q40_ d⟩
  ·obtain ⟨f,e,d⟩:=W1_ (k:=k+1) hd hs j c (.inr ⟨z,h,hn⟩)
   exact ⟨f,e,by rwa [show j+1+k=j+(k+1) by omega]⟩
theorem Yo1 (hd:DigP adj) (hs:PtsP adj.length src) {x:Int} {j:Nat}:∀ {k:Nat},j≤k→x∈itL adj src j→x∈itL adj src k
 | 0,h,hx=>by rw [show j=0 by omega] at hx;exact hx
 | k+1,h,hx=>by
  by_cases e:j=k+1
  ·rw [← e];exact hx
  ·exact Yn8 hd hs k _ (Yo1 hd hs (k:=k) q40_ hx)
end
section
variable {ms:List Mat} {c:List Int}
noncomputable def lev (ms:List Mat) (c:List Int) (k:Nat):List Int:=itL (adjU ms c) (Z3_ c (-1)) k
noncomputable def rowU (ms:List Mat) (c:List Int) (k:Nat) (x:Int):List Int:=(upTo c.length).filter fun y=>!memP (lev ms c k) y.toNat && J2_ ms c x y
noncomputable def A4_ (ms:List Mat) (c:List Int) (x:Int):List Int:=((upTo ms.length).filter fun k=>roomB ms c x k).map fun k=>(c.length:Int)+k
def Lev (ms:List Mat) (c:List Int) (k:Nat) (x:Int):Prop:=x∈lev ms c k∧∀ j,j<k→x∉lev ms c j
theorem lev_ex {k:Nat} {x:Int} (h:x∈lev ms c k):∃ j,j≤k∧Lev ms c j x:=by
 induction k with
 | zero=>exact ⟨0,le_refl _,h,fun j d=>absurd d (Nat.not_lt_zero j)⟩
 | succ k ih =>
  by_cases p:x∈lev ms c k
  ·obtain ⟨j,d,hl⟩:=ih p
   exact ⟨j,q40_,hl⟩
  ·by_cases h3:∃ j,j<k+1∧x∈lev ms c j
   ·obtain ⟨j,d,e⟩:=h3
    have:∀ m,m≤j→x∈lev ms c m→∃ i,i≤m∧Lev ms c i x:=by
     intro m
     induction m using Nat.strongRecOn with
     | ind m ihm =>
      intro s e;by_cases o:∃ i,i<m∧x∈lev ms c i
      ·obtain ⟨i,f,g⟩:=o
       obtain ⟨q,r,hl⟩:=ihm i f q40_ g;exact ⟨q,q40_,hl⟩
      ·exact ⟨m,le_refl _,e,fun i f g=>o ⟨i,f,g⟩⟩
    obtain ⟨i,f,hl⟩:=this j (le_refl _) e;exact ⟨i,q40_,hl⟩
   ·exact ⟨k+1,le_refl _,h,fun j d e=>h3 ⟨j,d,e⟩⟩
section
theorem H4_ (h:Cls ms c) (k:Nat):InN (adjU ms c).length (lev ms c k):=J9_ (A2_ h) (K1_ h) k
theorem W2_ (h:Cls ms c) {j k:Nat} (d:j≤k) {x:Int} (e:x∈lev ms c j):x∈lev ms c k:=Yo1 (A2_ h) (K1_ h) d e
theorem Zp7 (h:Cls ms c) {k:Nat} {x y:Int} (d:x∈lev ms c k) (e:y∈(adjU ms c).getD x.toNat []):y∈lev ms c (k+1):=((B0_ (A2_ h) (H4_ h k)).2 y).2 (.inr ⟨x,d,e⟩)
theorem Yo2 (h:Cls ms c) {k:Nat} {y:Int} (f:Lev ms c (k+1) y):∃ x,Lev ms c k x∧y∈(adjU ms c).getD x.toNat []:=by
 rcases ((B0_ (A2_ h) (H4_ h k)).2 y).1 f.1 with d | ⟨x,d,ha⟩
 ·exact absurd d (f.2 k q40_)
 ·obtain ⟨j,g,hl⟩:=lev_ex d
  by_cases e:j=k
  ·subst e;exact ⟨x,hl,ha⟩
  ·exact absurd (Zp7 h hl.1 ha) (f.2 (j+1) q40_)
def E3_ (ms:List Mat) (c:List Int) (r:Nat):Prop:=∀ x∈lev ms c r,A4_ ms c x=[]
theorem W3_ {x:Nat} (d:x<c.length) {z:Int}:z∈(adjU ms c).getD x []↔z∈(upTo c.length).filter (fun y=>J2_ ms c (x:Int) y)∨z∈A4_ ms c (x:Int):=by
 rw [Ze7 d];unfold arcsU;rw [List.mem_append];rfl
theorem W4_ (h:Cls ms c) {r:Nat} (j:∀ k,k<r→E3_ ms c k):∀ x∈lev ms c r,0≤x∧x<(c.length:Int):=by
 induction r with
 | zero=>exact fun x d=>(Q1_ h.n64 (-1)).2 x d
 | succ r g =>
  intro y m;have g:=g fun k o=>j k q40_;rcases ((B0_ (A2_ h) (H4_ h r)).2 y).1 m with d | ⟨x,d,ha⟩
  ·exact g y d
  ·have p:=g x d
   have e:((x.toNat:Nat):Int)=x:=q40_;rcases (W3_ q40_).1 ha with f | f
   ·exact mem_upTo.1 (List.mem_filter.1 f).1
   ·rw [e,j r q40_ x d] at f
    cases f
end
structure Part (ms:List Mat) (c:List Int) (r:Nat) (adj:List (List Int)):Prop where
 len:adj.length=c.length+ms.length
 on:∀ x:Nat,∀ k,k<r→Lev ms c k (x:Int)→adj.getD x []=rowU ms c k (x:Int)
 off:∀ x:Nat,(∀ k,k<r→¬ Lev ms c k (x:Int))→adj.getD x []=[]
section
variable {r:Nat} {adj:List (List Int)}
theorem Part.start:Part ms c 0 (List.replicate (c.length+ms.length) []):=⟨List.length_replicate,fun _ _ d=>absurd d (Nat.not_lt_zero _),fun x _=>by
 rw [List.getD_eq_getElem?_getD,List.getElem?_replicate];split<;>rfl⟩
theorem Vl4 {k:Nat} {x:Nat} (e:x<c.length):∀ y∈rowU ms c k (x:Int),y∈(adjU ms c).getD x []:=fun y d=>by
 unfold rowU at d;rw [List.mem_filter,Bool.and_eq_true] at d;exact (W3_ e).2 (.inl (List.mem_filter.2 ⟨d.1,d.2.2⟩))
theorem Part.sub (h:Cls ms c) (m:∀ k,k<r→E3_ ms c k) (f:Part ms c r adj):∀ x,∀ y∈adj.getD x [],y∈(adjU ms c).getD x []:=fun x y d=>by
 by_cases g:∃ k,k<r∧Lev ms c k (x:Int)
 ·obtain ⟨k,e,hl⟩:=g
  have p:=W4_ h (r:=k) (fun j o=>m j q40_) _ hl.1;rw [f.on x k e hl] at d;exact Vl4 q40_ y d
 ·rw [f.off x fun k e hl=>g ⟨k,e,hl⟩] at d
  cases d
theorem Vc6 (h:Cls ms c) (k:Nat) (x:Int):InN c.length (rowU ms c k x):=by
 have e:=G9_ h.n64;unfold rowU;exact ⟨⟨e.1.filter _,fun y d=>e.2 y (List.mem_filter.1 d).1⟩,fun y d=>mem_upTo.1 (List.mem_filter.1 d).1⟩
theorem Part.dig (h:Cls ms c) (d:Part ms c r adj):DigP adj:=by
 have j:=h.n64;have m:=h.many.2;refine ⟨by rw [d.len];omega,fun x=>?_⟩;by_cases g:∃ k,k<r∧Lev ms c k (x:Int)
 ·obtain ⟨k,e,hl⟩:=g
  rw [d.on x k e hl,d.len];have:=Vc6 h k (x:Int);exact ⟨this.1,fun y f=>by have:=this.2 y f;omega⟩
 ·rw [d.off x fun k e hl=>g ⟨k,e,hl⟩]
  exact ⟨J0_,fun y f=>by cases f⟩
theorem Part.come (h:Cls ms c) (m:∀ k,k<r→E3_ ms c k) (g:Part ms c r adj):itL adj (Z3_ c (-1)) adj.length=lev ms c r:=by
 have hd:=g.dig h;have o:InN adj.length (Z3_ c (-1)):=by have:=K1_ h;rwa [D8_,← g.len] at this
 have v:=J9_ hd o adj.length;have w:=H4_ h r;refine v.1.ext w.1 fun y=>⟨fun d=>?_,fun d=>?_⟩
 ·refine Ze9 hd o (P:=fun y=>y∈lev ms c r) (fun x f=>W2_ h (Nat.zero_le _) f) (fun x f y d=>?_) _ y d
  by_cases s:∃ k,k<r∧Lev ms c k ((x.toNat:Nat):Int)
  ·obtain ⟨k,p,hl⟩:=s
   have hs:=g.sub h m _ y d;have:=Zp7 h hl.1 (y:=y) (by rw [Int.toNat_natCast];exact hs);exact W2_ h q40_ this
  ·rw [g.off x.toNat fun k p hl=>s ⟨k,p,hl⟩] at d
   cases d
 ·have:∀ k,k≤r→∀ y,y∈lev ms c k→y∈itL adj (Z3_ c (-1)) adj.length:=by
   intro k
   induction k with
   | zero=>exact fun _ y d=>Zp2 hd o _ _ d
   | succ k ih =>
    intro p y d;obtain ⟨j,A,hl⟩:=lev_ex d;by_cases e:j=k+1
    ·subst e
     obtain ⟨x,f,ha⟩:=Yo2 h hl;have B:=W4_ h (r:=k) (fun i z=>m i q40_) x f.1;have C:=W4_ h (r:=k+1) (fun i z=>m i q40_) y hl.1;have q:((x.toNat:Nat):Int)=x:=q40_;have u:((y.toNat:Nat):Int)=y:=q40_;refine P4_ hd o (ih q40_ x f.1) ?_;rw [g.on x.toNat k q40_ (by rw [q];exact f)];unfold rowU;rw [List.mem_filter,Bool.and_eq_true,Bool.not_eq_true',← Bool.not_eq_true,memP_iff,u];rcases (W3_ q40_).1 ha with h3 | h3
     ·exact ⟨(List.mem_filter.1 h3).1,hl.2 k q40_,(List.mem_filter.1 h3).2⟩
     ·rw [q,m k q40_ x f.1] at h3
      cases h3
    ·exact ih q40_ y (W2_ h q40_ hl.1)
  exact this r (le_refl _) y d
end
structure Roomed (ms:List Mat) (c:List Int) (r:Nat) (adj adj2:List (List Int)):Prop where
 len:adj2.length=adj.length
 on:∀ x:Nat,Lev ms c r (x:Int)→adj2.getD x []=A4_ ms c (x:Int)∨(adj2.getD x []=[]∧r=0∧∃ y:Nat,y<x∧Lev ms c 0 (y:Int)∧A4_ ms c (y:Int)≠[])
 off:∀ x:Nat,¬ Lev ms c r (x:Int)→adj2.getD x []=adj.getD x []
theorem Xh9 {j k:Nat} {x:Int} (d:Lev ms c j x) (e:Lev ms c k x):j=k:=by
 rcases Nat.lt_trichotomy j k with h | h | h
 ·exact absurd d.1 (e.2 j h)
 ·exact h
 ·exact absurd e.1 (d.2 k h)
theorem Yx9 {adj:List (List Int)} {dst S:List Int} {m:Nat} {x:Int} {l:List Int} (c:Greedy adj dst S m (x :: l)):∀ y∈S,y<x→¬ Near adj dst m y:=by
 cases c with
 | stop _ _ _ _ hl=>exact hl
 | step _ _ _ _ _ _ _ hl _=>exact hl
section
variable {r:Nat} {adj adj2:List (List Int)}
theorem Yo3 {x:Int} {z:Int} (f:z∈A4_ ms c x):∃ k:Nat,k<ms.length∧z=(c.length:Int)+(k:Int)∧roomB ms c x (k:Int)=true:=by
 unfold A4_ at f;obtain ⟨k,d,rfl⟩:=List.mem_map.1 f;rw [List.mem_filter,mem_upTo] at d;have e:((k.toNat:Nat):Int)=k:=q40_;exact ⟨k.toNat,q40_,by rw [e],by rw [e];exact d.2⟩
theorem Roomed.sub (h:Cls ms c) (g:∀ k,k<r→E3_ ms c k) (m:Part ms c r adj) (j:Roomed ms c r adj adj2):∀ x,∀ y∈adj2.getD x [],y∈(adjU ms c).getD x []:=fun x y d=>by
 by_cases f:Lev ms c r (x:Int)
 ·have o:=W4_ h g _ f.1
  rcases j.on x f with e | ⟨e,_,_⟩
  ·rw [e] at d
   exact (W3_ q40_).2 (.inr d)
  ·rw [e] at d;cases d
 ·rw [j.off x f] at d
  exact m.sub h g x y d
theorem Roomed.dig (h:Cls ms c) (f:Part ms c r adj) (d:Roomed ms c r adj adj2):DigP adj2:=by
 have hd:=f.dig h;refine ⟨by rw [d.len];exact hd.1,fun x=>?_⟩;rw [d.len];by_cases m:Lev ms c r (x:Int)
 ·rcases d.on x m with e | ⟨e,_,_⟩
  ·rw [e]
   have q:=h.many.2;have p:=h.n64;have j:∀ z∈A4_ ms c (x:Int),0≤z∧z<(adj.length:Int):=fun z g=>by
    obtain ⟨k,s,rfl,_⟩:=Yo3 g;rw [f.len];omega
   refine ⟨⟨?_,fun z g=>by have:=j z g;rw [f.len] at this;exact ⟨q40_,q40_⟩⟩,j⟩;unfold A4_;exact j25_
  ·rw [e];exact ⟨J0_,fun y o=>by cases o⟩
 ·rw [d.off x m]
  exact hd.2 x
theorem Roomed.way (h:Cls ms c) (o:∀ k,k<r→E3_ ms c k) (I:Part ms c r adj) (D:Roomed ms c r adj adj2) (V:∃ x:Nat,Lev ms c r (x:Int)∧A4_ ms c (x:Int)≠[]):∃ d l,Greedy (adjU ms c) (endsU ms c.length) (Z3_ c (-1)) d l∧Greedy adj2 (endsU ms c.length) (Z3_ c (-1)) d l:=by
 have hd:=A2_ h;have hs:=K1_ h;have M:∀ x:Nat,x<c.length→A4_ ms c (x:Int)≠[]→Near (adjU ms c) (endsU ms c.length) 1 (x:Int):=fun x J C=>by
  obtain ⟨z,L⟩:=List.exists_mem_of_ne_nil _ C;obtain ⟨k,R,e,_⟩:=Yo3 L;exact .inr ⟨z,by rw [Int.toNat_natCast];exact (W3_ J).2 (.inr L),mem_ends.2 ⟨k,R,e⟩⟩
 obtain ⟨x,F,C⟩:=V;have J:=W4_ h o _ F.1;obtain ⟨y,A,H⟩:=W1_ hd hs r F.1 (M x q40_ C);obtain ⟨d,a,l,f⟩:∃ n x l,Greedy (adjU ms c) (endsU ms c.length) (Z3_ c (-1)) n (x :: l):=(Yx6 (dst:=endsU ms c.length) hd hs).resolve_right fun o=>o y A _ H;have Y:d≤r+1:=Nat.not_lt.1 fun w=>f.none y A (r+1) w H;obtain ⟨p,m,K,hw⟩:=Yo0 f;have x0:=f.length;have x1:=hw.len;have Q:d=m+1:=q40_;have E:∀ i,i≤m→(p i:Int)∈lev ms c i:=by
  intro i
  induction i with
  | zero =>
   intro g;have:=f.first;rw [(hw.el 0 g).2] at this;exact this
  | succ i ih =>
   intro g;have P:=hw.el i q40_;refine Zp7 h (ih q40_) ?_;rw [Int.toNat_natCast];exact (Zp6 P.1 (hw.el (i+1) g).1).2 (hw.arc i q40_)
 have S:m=r:=by
  refine Nat.le_antisymm q40_ (Nat.not_lt.1 fun w=>?_);have s:=o m w _ (E m (le_refl _));have:(c.length:Int)+(K:Int)∈A4_ ms c (p m:Int):=j21_;rw [s] at this;cases this
 subst S;have u:∀ i,i≤m→Lev ms c i (p i:Int):=fun i g=>⟨E i g,fun j Z W=>by
  have s:=f.near i q40_;rw [(hw.el i g).2] at s;obtain ⟨B,X,T⟩:=W1_ hd hs j W s;exact f.none B X _ q40_ T⟩
 refine ⟨d,a :: l,f,Xz9 (D.sub h o I) f (fun _ A=>A) f.first fun i g=>?_⟩;by_cases v:i<m
 ·have q:=hw.el i q40_
  have O:=hw.el (i+1) q40_;rw [q.2,O.2,Int.toNat_natCast,D.off (p i) fun hl=>by have:=Xh9 hl (u i q40_);omega,I.on (p i) i v (u i q40_)];unfold rowU;rw [List.mem_filter,Bool.and_eq_true,Bool.not_eq_true',← Bool.not_eq_true,memP_iff,Int.toNat_natCast];exact ⟨mem_upTo.2 ⟨q40_,q40_⟩,(u (i+1) q40_).2 i q40_,hw.arc i v⟩
 ·have v:i=m:=by omega
  subst v;have q:=hw.el i (le_refl _);rw [q.2,hw.pt,Int.toNat_natCast];rcases D.on (p i) (u i (le_refl _)) with e | ⟨_,N,B,w,G,U⟩
  ·rw [e]
   exact j21_
  ·subst N
   have ha:a=(p 0:Int):=by simpa using q.2
   have x2:=W4_ h (r:=0) o _ G.1;have:=Yx9 f (B:Int) G.1 q40_;rw [Q] at this;exact absurd (M B q40_ U) this
theorem Roomed.none (h:Cls ms c) (o:∀ k,k<r→E3_ ms c k) (p:Part ms c r adj) (q:Roomed ms c r adj adj2) (s:∀ x:Nat,Lev ms c r (x:Int)→A4_ ms c (x:Int)=[]):E3_ ms c r∧∀ k,∀ y∈Z3_ c (-1),¬ Near adj2 (endsU ms c.length) k y:=by
 have v:∀ k,k<r+1→E3_ ms c k:=fun k f x B=>by
  obtain ⟨j,D,hl⟩:=lev_ex B;by_cases e:j<r
  ·exact o j e x hl.1
  ·have u:j=r:=by omega
   subst u;have E:=W4_ h o _ hl.1;have m:((x.toNat:Nat):Int)=x:=q40_;have:=s x.toNat (by rw [m];exact hl)
   rwa [m] at this
 refine ⟨v r q40_,?_⟩;have A:∀ x y,y∈adj2.getD x []→y<(c.length:Int):=fun x y d=>by
  by_cases hl:Lev ms c r (x:Int)
  ·rcases q.on x hl with e | ⟨e,_,_⟩
   ·rw [e,s x hl] at d;cases d
   ·rw [e] at d;cases d
  ·rw [q.off x hl] at d
   by_cases f:∃ k,k<r∧Lev ms c k (x:Int)
   ·obtain ⟨k,f,hl⟩:=f
    rw [p.on x k f hl] at d;exact ((Vc6 h k (x:Int)).2 y d).2
   ·rw [p.off x fun k w hl=>f ⟨k,w,hl⟩] at d
    cases d
 have:∀ k y,y<(c.length:Int)→¬ Near adj2 (endsU ms c.length) k y:=by
  intro k
  induction k with
  | zero=>exact fun y d g=>by obtain ⟨k,_,e⟩:=mem_ends.1 g;omega
  | succ k ih =>
   rintro y d (g | ⟨z,C,g⟩)
   ·exact ih y d g
   ·exact ih z (A _ z C) g
 exact fun k y d=>this k y ((Q1_ h.n64 (-1)).2 y d).2
end
theorem Yo4 (h:Cls ms c) {r:Nat} (H:(lev ms c (r+1)).length=(lev ms c r).length) (B:∀ k,k<r+1→E3_ ms c k):comeU ms c=lev ms c r∧StopU ms c:=by
 have hd:=A2_ h;have hs:=K1_ h;have e:lev ms c (r+1)=lev ms c r:=by
  have w:=H4_ h r;have g:=H4_ h (r+1);refine g.1.ext w.1 fun y=>⟨fun d=>?_,fun d=>W2_ h (Nat.le_succ r) d⟩;refine Classical.byContradiction fun o=>?_;obtain ⟨j,rfl⟩:∃ j:Nat,y=(j:Int):=⟨y.toNat,by have:=g.2 y d;omega⟩;have I:=g.2 _ d;have A:=Zu2 (p:=memP (lev ms c r)) (q:=memP (lev ms c (r+1))) (n:=(adjU ms c).length) (fun v _ C=>memP_iff.2 (W2_ h (Nat.le_succ r) (memP_iff.1 C))) ⟨j,q40_,by rw [← Bool.not_eq_true,memP_iff];exact o,memP_iff.2 d⟩;rw [← X3_ w,← X3_ g] at A;omega
 have u:∀ m,lev ms c (r+m)=lev ms c r:=Zq0 e;have x:comeU ms c=lev ms c r:=by
  have f:=Yf3 hd hs r;rw [show (adjU ms c).length+r=r+(adjU ms c).length by omega] at f;have s:=u (adjU ms c).length;unfold lev at s;unfold comeU lev;rw [← f,s]
 refine ⟨x,fun y d k o=>?_⟩;obtain ⟨z,D,F⟩:=(I7_ (dst:=endsU ms c.length) hd k _ hs).2 ⟨y,d,o⟩;have E:z∈lev ms c r:=by
  have f:z∈lev ms c (r+k):=W2_ h q40_ D
  rwa [u k] at f
 have:=W4_ h (r:=r) (fun k J=>B k q40_) z E;obtain ⟨K,_,G⟩:=mem_ends.1 F;omega
end
def clsTo (c:List Int) (k:Int) (j:Nat):List Int:=(upTo j).filter fun x=>c.getD x.toNat 0==k
theorem Zk2 (c:List Int) (k:Int) (j:Nat):clsTo c k (j+1)=clsTo c k j ++ if (c.getD j 0==k)=true then [(j:Int)] else []:=by
 unfold clsTo;rw [I1_,List.filter_append];congr 1;by_cases h:(c.getD j 0==k)=true
 ·rw [if_pos h]
  simp only [List.filter,Int.toNat_natCast,h]
 ·rw [if_neg h]
  rw [Bool.not_eq_true] at h;simp only [List.filter,Int.toNat_natCast,h]
theorem Yv0 (c:List Int) (k:Int) (j:Nat):(clsTo c k j).length≤j:=by
 have:=List.length_filter_le (fun x:Int=>c.getD x.toNat 0==k) (upTo j)
 rwa [Y9_] at this
theorem Yv1 (c:List Int) (k:Int):clsTo c k c.length=Z3_ c k:=rfl
def Q6_ (f:Int→Bool) (n:Int) (j:Nat):List Int:=((upTo j).filter f).map fun k=>n+k
theorem Zf0 (f:Int→Bool) (n:Int) (j:Nat):Q6_ f n (j+1)=Q6_ f n j ++ if f (j:Int)=true then [n+(j:Int)] else []:=by
 unfold Q6_;rw [I1_,List.filter_append,List.map_append];congr 1;by_cases h:f (j:Int)=true
 ·rw [if_pos h]
  simp [List.filter,h]
 ·rw [if_neg h]
  rw [Bool.not_eq_true] at h;simp [List.filter,h]
theorem Zk3 (f:Int→Bool) (n:Int) (j:Nat):(Q6_ f n j).length≤j:=by
 unfold Q6_;rw [List.length_map];have:=List.length_filter_le f (upTo j)
 rwa [Y9_] at this
theorem MatL.one {w:World} {v:Value} {ms:List Mat} (h:MatL w w.heap.size v ms) {k:Nat} (x:k<ms.length):∃ (c:Addr) (d:Nat) (f e:Value),v=.slice (some c) ms.length d ∧
  MatV w w.heap.size (.agg #[.int .i64 (ms.getD k default).t,.int .i64 (ms.getD k default).n,.int .i64 (ms.getD k default).a,.int .i64 (ms.getD k default).b,f,e]) (ms.getD k default) ∧
  ∀ W,Below w.heap.size w W→W.cell? (c.add (k * 6))=some (.int .i64 (ms.getD k default).t)∧W.cell? ⟨(c.add (k * 6)).block,(c.add (k * 6)).off+1,none⟩=some (.int .i64 (ms.getD k default).n)∧W.cell? ⟨(c.add (k * 6)).block,(c.add (k * 6)).off+2,none⟩=some (.int .i64 (ms.getD k default).a) ∧
   W.cell? ⟨(c.add (k * 6)).block,(c.add (k * 6)).off+3,none⟩=some (.int .i64 (ms.getD k default).b)∧W.cell? ⟨(c.add (k * 6)).block,(c.add (k * 6)).off+4,none⟩=some f∧W.cell? ⟨(c.add (k * 6)).block,(c.add (k * 6)).off+5,none⟩=some e:=by
 obtain ⟨A,d,rfl,_,y⟩:=h;obtain ⟨c,u,rfl,hB,hs,g⟩:=y k x;obtain ⟨f,e,z,_,_⟩:=g.open;subst z;refine ⟨c,d,f,e,rfl,g,fun W s=>?_⟩;obtain ⟨B,C,D,E,F,G,j,m,o,p,h3,q,r⟩:=hs.below s y49_;simp only [Value.agg.injEq,Array.mk.injEq,List.cons.injEq,and_true] at j;obtain ⟨rfl,rfl,rfl,rfl,rfl,rfl⟩:=j;exact ⟨m,o,p,h3,q,r⟩
theorem M1_ {w w':World} {base:Nat} {e:TypeId} {k n:Nat} {v:Value} {c:List Value} (h:w.ownsRow base e k v n c) (hb:Below w.heap.size w w'):w'.ownsRow base e k v n c :=
 h.kept (row:=none) (Z7_ hb _) (by cases d:Value.ownBlock v<;>simp)
theorem B7_ (v:Value) (c:List Int) (q:Int) (w:World) (e:Row w w.heap.size v c) (hl:c.length≤1048576):Calls Tryz.prog 18 #[v,.int .i64 q] w (GivesF w (Z3_ c q)):=by
 have HR:=hid e;obtain ⟨A,d,rfl,_⟩:=id e;have s:(c.length:Int)≤1048576:=q40_;clear e
 go_enter Tryz.func18,Tryz.ntmps18
 go_wp2
 go_loopw [5,6,7,10] (fun p _ _ h wr=>∃ j:Nat,h=.int .i64 j∧j≤c.length∧wr.ownsRow w.heap.size 3 1 p (clsTo c q j).length (ints (clsTo c q j))∧Below w.heap.size w wr) (fun _ _ _ h _=>c.length - (intOf h).toNat)
 case atStart=>exact ⟨0,rfl,Nat.zero_le _,World.ownsRow_nil _ _ _ _,Below.refl _ _⟩
 case round =>
  obtain ⟨j,rfl,r,k,hb⟩:=hrel;have Hown:=hid k;have Hb:=hid hb;clear k;by_cases hlt:j<c.length
  ·exact q2_
  ·have o:j=c.length:=by omega
   subst o;rw [Yv1] at Hown;go_wp2;go_ret;exact ⟨_,rfl,Row.of_own Hown.out rfl,Hb.out,fun g m=>(Hown.out.lt g m).1⟩
theorem F8_ (v:Value) (c:List Int) (q:Int) (w:World) (e:Row w w.heap.size v c) (hl:c.length≤1048576):Calls Tryz.prog 19 #[v,.int .i64 q] w (Gives w (Z3_ c q)):=by
 have HR:=hid e;obtain ⟨A,d,rfl,_⟩:=id e;have p:(c.length:Int)≤1048576:=q40_;clear e
 go_enter Tryz.func19,Tryz.ntmps19
 go_wp2
 go_loopw [5,6] (fun m g wr=>∃ j:Nat,g=.int .i64 j∧j≤c.length∧wr.ownsRow w.heap.size 3 1 m (clsTo c q j).length (ints (clsTo c q j))∧Below w.heap.size w wr) (fun _ g _=>c.length - (intOf g).toNat)
 case atStart=>exact ⟨0,rfl,Nat.zero_le _,World.ownsRow_made w #[] 0 (le_refl _) y41_ rfl,(Below.refl _ w).alloc (le_refl _) _⟩
 case round =>
  obtain ⟨j,rfl,o,h,hb⟩:=hrel;have Hown:=hid h;have Hb:=hid hb;clear h;by_cases hlt:j<c.length
  ·exact q2_
  ·have k:j=c.length:=by omega
   subst k;rw [Yv1] at Hown;go_wp2;go_ret;exact ⟨_,rfl,Row.of_own Hown.out rfl,Hb.out⟩
theorem Zk4 (E:Nat→Addr) (ms:List Mat) (r C P:Value) (s:List Int) (k:Nat) (x:Int) (w:World) (hl:MatL w w.heap.size r ms) (q:k<ms.length) (hs:∀ m∈ms,Sml m) (y:Row w w.heap.size P s) (x1:s.length≤1000) (G:Env E w) :
  Calls Tryz.prog 91 #[.agg #[r,C],.int .i64 (k:Int),P,.int .i64 x] w (Says w (indT (ms.getD k default) (Y1_ s [x]))):=by
 obtain ⟨g,hW0⟩:∃ g,g=w.alloc (.cells #[r,C] 47):=⟨_,rfl⟩;have S:=hid hW0;have j:Below w.heap.size w g:=q42_;have J:Blk g w.heap.size 47 #[r,C]:=x44_;have X:=hid (hs (ms.getD k default) (by rw [List.getD_eq_getElem?_getD,List.getElem?_eq_getElem q];exact List.getElem_mem q));obtain ⟨c,d,O,N,rfl,L,K⟩:=hl.one q;have x0:(k:Int)<(ms.length:Int):=q40_;generalize ms.getD k default=m at *
 have U:=hid j;have D:=hid J;have p:=(Below.refl g.heap.size g).drew;have Q:=hid ((y.up j).up p);have v:=hid ((L.up j).up p);have u:=hid ((G.up j).up p);have F:Hid (∀ W,Below g.drew.heap.size g.drew W→W.cell? ⟨w.heap.size,0,none⟩=some (.slice (some c) ms.length d)∧W.cell? (c.add (k * 6))=some (.int .i64 m.t)∧W.cell? ⟨(c.add (k * 6)).block,(c.add (k * 6)).off+1,none⟩=some (.int .i64 m.n)∧W.cell? ⟨(c.add (k * 6)).block,(c.add (k * 6)).off+2,none⟩=some (.int .i64 m.a)∧W.cell? ⟨(c.add (k * 6)).block,(c.add (k * 6)).off+3,none⟩=some (.int .i64 m.b)∧W.cell? ⟨(c.add (k * 6)).block,(c.add (k * 6)).off+4,none⟩=some (O)∧W.cell? ⟨(c.add (k * 6)).block,(c.add (k * 6)).off+5,none⟩=some (N)):=hid fun W H=>⟨(D.out.drew.below H D.out.lt).cell 0,K W (Z0_ j (le_refl _) (Z0_ p (le_refl _) H))⟩;have h:Hid (Below g.drew.heap.size g.drew g.drew):=hid (Below.refl _ _);have Z:Hid ((Y1_ s [x]).length≤1048576):=hid (by have:=Zx3 s [x];simp only [List.length_cons,List.length_nil] at this;omega);have Y:s.length≤1048576:=q40_;obtain ⟨z,B⟩:∃ z,indT m (Y1_ s [x])=z:=⟨_,rfl⟩;have T:=hid B;rw [B];obtain ⟨As,cs,rfl,_⟩:=id y;clear hW0 j J y L K hl G hs p B q
 go_enter Tryz.func91,Tryz.ntmps91
 go_wp2;rw [← S.out]
 go_region_held3 (fun W=>W.cell? ⟨w.heap.size,0,none⟩=some (.slice (some c) ms.length d)∧W.cell? (c.add (k * 6))=some (.int .i64 m.t)∧W.cell? ⟨(c.add (k * 6)).block,(c.add (k * 6)).off+1,none⟩=some (.int .i64 m.n)∧W.cell? ⟨(c.add (k * 6)).block,(c.add (k * 6)).off+2,none⟩=some (.int .i64 m.a)∧W.cell? ⟨(c.add (k * 6)).block,(c.add (k * 6)).off+3,none⟩=some (.int .i64 m.b)∧W.cell? ⟨(c.add (k * 6)).block,(c.add (k * 6)).off+4,none⟩=some (O)∧W.cell? ⟨(c.add (k * 6)).block,(c.add (k * 6)).off+5,none⟩=some (N))
  (first | exact F.out _ h.out | exact F.out _ (h.out.alloc (le_refl _) _))
  (first
  | (go_at_call 119;refine (Yy1 _ _ s [x] _ (Q.out.upA _) (Row.here (Row.lit1 _ x)) Y z40_).mono ?_;rintro e w1 ⟨v1,rfl,M,o⟩;replace o:=Z0_ ((Below.refl _ g.drew).alloc (le_refl _) _) (le_refl _) o;replace h:=hid o;replace v:=hid (v.out.up o);replace u:=hid (u.out.up o);have R:=hid M;clear M o)
  | (go_at_call 118;refine (Xi1 E m _ _ _ _ v.out X.out R.out Z.out u.out).mono ?_;rintro e w2 ⟨rfl,I⟩;rw [T.out];replace h:=hid (Z0_ h.out (le_refl _) I);clear I))
 all_goals
  have V:=hid (Z0_ U.out.drew (le_refl _) h.out);go_simp;go_wp2;go_ret;exact ⟨rfl,V.out⟩
theorem Xi0 (E:Nat→Addr) (ms:List Mat) (j s:Option Addr) (p q:Nat) (c:List Int) (x:Nat) (w:World) (hl:MatL w w.heap.size (.slice j ms.length p) ms) (hs:∀ m∈ms,Sml m) (T:Row w w.heap.size (.slice s c.length q) c) (xa:c.length≤64) (xk:ms.length≤8) (hx:x<c.length) (M:Env E w) :
  Calls Tryz.prog 65 #[.agg #[.slice j ms.length p,.slice s c.length q],.int .i64 (x:Int)] w (GivesF w (A4_ ms c (x:Int))):=by
 have xm:(x:Int)<(c.length:Int):=q40_;have xi:(c.length:Int)≤64:=q40_;have xl:(ms.length:Int)≤8:=q40_;obtain ⟨n,S⟩:∃ n:Int,(c.length:Int)=n:=⟨_,rfl⟩;have xf:=hid S;clear S;obtain ⟨o,hW0⟩:∃ o,o=w.alloc (.cells #[.slice j ms.length p,.slice s c.length q] 47):=⟨_,rfl⟩;have x5:=hid hW0;have u:Below w.heap.size w o:=q42_;have P:Blk o w.heap.size 47 #[.slice j ms.length p,.slice s c.length q]:=x44_;have Hb0:=hid u;have C:=hid P;have HL:=hid (hl.up u);have J:=hid (T.up u);have HE:=hid (M.up u);have Hs:=hid hs;clear hW0 u P hl T M hs
 go_enter Tryz.func65,Tryz.ntmps65
 have b0:(w.alloc (.cells #[.slice j ms.length p,.slice s c.length q] 47)).cell? ⟨w.heap.size,0,none⟩=some (.slice j ms.length p):=(Blk.new w _ _).cell 0;go_wp2;rw [← x5.out]
 go_loopw [5,6,10] (fun v5 _ I wr=>∃ k:Nat,I=.int .i64 k∧k≤ms.length∧wr.ownsRow o.heap.size 3 1 v5 (Q6_ (fun k=>roomB ms c (x:Int) k) (c.length:Int) k).length (ints (Q6_ (fun k=>roomB ms c (x:Int) k) (c.length:Int) k))∧Below o.heap.size o wr) (fun _ _ I _=>ms.length - (intOf I).toNat)
 case atStart=>exact ⟨0,rfl,Nat.zero_le _,World.ownsRow_nil _ _ _ _,Below.refl _ _⟩
 case round =>
  obtain ⟨k,rfl,hk,U,hb⟩:=hrel;have Hown:=hid U;have Hb:=hid hb;clear U;have X:w.heap.size<wr.heap.size:=Nat.lt_of_lt_of_le C.out.lt hb.size;have xg:=hid X;by_cases xc:k<ms.length
  ·have xj:(k:Int)<(ms.length:Int):=by omega
   have Hkr:=hid (C.out.below hb C.out.lt);obtain ⟨v,hA,R⟩:=Row.nth J.out hx;have x3:=hid (HL.out.up hb);have x4:=hid (J.out.up hb);have x2:=hid (HE.out.up hb);have Hn:=hid (Zf0 (fun k=>roomB ms c (x:Int) k) (c.length:Int) k);have x7:Hid ((Q6_ (fun k=>roomB ms c (x:Int) k) (c.length:Int) k).length≤1048576):=hid (Nat.le_trans (Zk3 _ _ _) q40_);have D:Hid (roomB ms c (x:Int) (k:Int)=(!(c.getD x 0==(k:Int)) && indT (ms.getD k default) (Y1_ (Z3_ c (k:Int)) [(x:Int)]))):=hid (by unfold roomB;rw [Int.toNat_natCast,S9_]);have Q:(Z3_ c (k:Int)).length≤1000:=by have:=Y7_ (Q1_ xa (k:Int));omega
   have x6:=hid Q;have HOc:=hid R;obtain ⟨z,Y⟩:∃ z,c.getD x 0=z:=⟨_,rfl⟩;rw [Y] at D HOc;subst hA;have HK:Hid (∀ W,Below wr.drew.heap.size wr.drew W→W.cell? ⟨w.heap.size,0,none⟩=some (.slice j ms.length p)∧W.cell? ⟨w.heap.size,1,none⟩=some (.slice (some v) c.length q)∧W.cell? (v.add x)=some (.int .i64 z)):=hid fun W hW=>k15_;generalize Q6_ (fun k=>roomB ms c (x:Int) k) (c.length:Int) k=Z at *
   have d:Hid (Below wr.drew.heap.size wr.drew wr.drew):=hid (Below.refl _ _);clear hb R Y Q X;by_cases r:(k:Int)=z
   ·have xd:((k:Int) != z)=false:=by rw [r];simp
    have xe:((k:Int)==z)=true:=by rw [r];simp
    have G:(z==(k:Int))=true:=by rw [r];simp
    have hrf:Hid (roomB ms c (x:Int) (k:Int)=false):=hid (by rw [D.out,G];rfl);go_wp2;refine Z6_ wr.heap.size wr x40_ x40_ (Below.refl _ _) ?_
    iterate 17 (first
     | go_big_quiet_skip
     | (go_big_quiet_want;apply Exists.intro;refine ⟨fun W hW=>?_,?_⟩;(· have h:=Hkr.out.below hW Hkr.out.lt;have q0:=h.cell 0;have q1:=h.cell 1;have q2:=HOc.out W (Z0_ Hb.out (le_refl _) hW);go_simp;first | exact rfl | exact ⟨rfl,rfl⟩);go_simp;go_big_quiet_on))
    refine wpQuiet_nil ?_;intro w5 F;have Hb5:=hid (Z0_ Hb.out (le_refl _) F);have Ho5:=hid (M1_ Hown.out F);clear F;exact y13_
   ·have xd:((k:Int) != z)=true:=by simpa using r
    have xe:((k:Int)==z)=false:=by simpa using r
    have G:(z==(k:Int))=false:=by simpa using fun e=>r e.symm
    obtain ⟨y,H⟩:∃ y,indT (ms.getD k default) (Y1_ (Z3_ c (k:Int)) [(x:Int)])=y:=⟨_,rfl⟩;have HY:=hid H;have hrf:Hid (roomB ms c (x:Int) (k:Int)=y):=hid (by rw [D.out,G,H];rfl);have x9:c.length≤1048576:=q40_;clear H;go_wp2
    go_region_held3 (fun W=>W.cell? ⟨w.heap.size,0,none⟩=some (.slice j ms.length p)∧W.cell? ⟨w.heap.size,1,none⟩=some (.slice (some v) c.length q)∧W.cell? (v.add x)=some (.int .i64 z))
     (exact HK.out _ d.out)
     (first
     | (go_at_call 18;refine (B7_ _ c (k:Int) _ (x4.out.up (Z0_ (Below.refl _ wr).drew (le_refl _) d.out)) x9).mono ?_;rintro e w3 ⟨v3,rfl,V,N,_⟩;replace d:=hid (Z0_ d.out (le_refl _) N);have x1:=hid V;clear V N)
     | (go_at_call 91;refine (Zk4 E ms _ _ _ (Z3_ c (k:Int)) k (x:Int) _ (x3.out.up (Z0_ (Below.refl _ wr).drew (le_refl _) d.out)) xc Hs.out x1.out x6.out (x2.out.up (Z0_ (Below.refl _ wr).drew (le_refl _) d.out))).mono ?_;rintro e w4 ⟨rfl,O⟩;rw [HY.out];replace d:=hid (Z0_ d.out (le_refl _) O);clear O))
    all_goals
     have B:=hid (Z0_ (Below.refl _ wr).drew (le_refl _) d.out);have Hb5:=hid (Z0_ Hb.out (le_refl _) B.out);have Ho5:=hid (M1_ Hown.out B.out);have b1:=(Hkr.out.below B.out Hkr.out.lt).cell 1;cases y
     ·exact y13_
     ·have xh:IntKind.i64.wrap ((c.length:Int)+(k:Int))=(c.length:Int)+(k:Int):=by rw [IntKind.wrap_i64];omega
      go_wp2_with (at_builtin;refine Z4_ rfl _ _ rfl o.heap.size _ _ _ Z [(c.length:Int)+(k:Int)] rfl rfl (Ho5.out.alloc _) (Row.lit1 _ _) (by have:=x7.out;omega) z40_ j47_ ?_)
      intro v' xn K L;have x0:=hid ((Hb5.out.alloc Hb5.out.size _).grown L j47_ (fun i hi=>(Ho5.out.lt i hi).1));have x8:=hid K;clear K L b1;go_wp2
      go_roundw
      case rel=>exact ⟨k+1,x41_,q40_,by rw [Hn.out,if_pos hrf.out,List.length_append];exact x8.out,x0.out⟩
      exact mz_
  ·have xb:k=ms.length:=by omega
   subst xb;exact z14_
end Go.Proofs.YtheeajnkiniopaaGreatDoor.Wp
