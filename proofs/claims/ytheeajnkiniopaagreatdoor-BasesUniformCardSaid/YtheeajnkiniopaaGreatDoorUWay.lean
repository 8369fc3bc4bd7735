/- The program's search for a way among several matroids, plain: of all arcs it looks only for those that may be on a shortest way, level by level; what it tells is the same. Nothing of the program here. -/
import Derived.Test.YtheeajnkiniopaaGreatDoorUMax
import Derived.Test.YtheeajnkiniopaaGreatDoorX0A
namespace Go.Proofs.YtheeajnkiniopaaGreatDoor.Wp
open Go Go.RowKit
section
variable {adj adj':List (List Int)} {dst S S' src:List Int}
theorem Zp7:∀ {l:List Int} {x:Int},(∀ i,i+1<(x :: l).length→(x :: l).getD (i+1) 0∈adj.getD ((x :: l).getD i 0).toNat [])→(x :: l).getD l.length 0∈dst→Near adj dst l.length x
 | [],x,_,h=>h
 | y :: l,x,ha,h=>by
  have c:=ha 0 y30_;refine .inr ⟨y,by simpa using c,Zp7 (l:=l) (x:=y) (fun i hi=>?_) k34_⟩;have:=ha (i+1) k35_;simpa using this
theorem Ym3 (o:∀ x,∀ y∈adj'.getD x [],y∈adj.getD x []) {m:Nat} {l:List Int} (e:Greedy adj dst S m l):∀ {S':List Int},(∀ y∈S',y∈S)→l.getD 0 0∈S'→(∀ i,i+1<l.length→l.getD (i+1) 0∈adj'.getD (l.getD i 0).toNat [])→Greedy adj' dst S' m l:=by
 have p:∀ k x,Near adj' dst k x→Near adj dst k x:=by
  intro k
  induction k with
  | zero=>exact fun x h=>h
  | succ k ih =>
   rintro x (h | ⟨y,c,h⟩)
   ·exact .inl (ih x h)
   ·exact .inr ⟨y,o _ _ c,ih y h⟩
 induction e with
 | stop S x hx hd hl =>
  intro S' d h0 _;exact .stop _ _ y37_ hd fun y c f=>hl y (d y c) f
 | step S x n l hx hn hno hl e ih =>
  intro S' d h0 ha;have j:=e.length;have q:=e.last;have r:∀ i,i+1<l.length→l.getD (i+1) 0∈adj'.getD (l.getD i 0).toNat []:=fun i hi=>by
   have:=ha (i+1) k35_;simpa using this
  have g:=ha 0 k30_;rw [List.getD_cons_zero,List.getD_cons_succ] at g;refine .step _ _ _ _ y37_ ?_ (fun y c h=>hno y (d y c) (p _ _ h)) (fun y c f h=>hl y (d y c) f (p _ _ h)) (ih (fun y c=>o _ _ c) g r);have:=Zp7 (adj:=adj') (dst:=dst) (l:=l) (x:=x) ha (by rw [j,List.getD_cons_succ];exact q)
  rwa [j] at this
theorem Zj5 (hd:DigP adj) (hs:PtsP adj.length src) {P:Int→Prop} (c:∀ x∈src,P x) (hc:∀ x,P x→∀ y∈adj.getD x.toNat [],P y):∀ k,∀ x∈itL adj src k,P x
 | 0=>c
 | k+1=>fun x d=>by
  rcases ((J5_ hd (Q9_ hd hs k)).2 x).1 d with h | ⟨y,e,h⟩
  ·exact Zj5 hd hs c hc k x h
  ·exact hc y (Zj5 hd hs c hc k y e) x h
theorem P6_ (hd:DigP adj) (hs:PtsP adj.length src) {k:Nat}:∀ (j:Nat) {z:Int},z∈itL adj src j→Near adj dst k z→∃ y∈src,Near adj dst (j+k) y
 | 0,z,hz,hn=>⟨z,hz,by rwa [Nat.zero_add]⟩
 | j+1,z,hz,hn=>by
  rcases ((J5_ hd (Q9_ hd hs j)).2 z).1 hz with h | ⟨y,c,h⟩
  ·obtain ⟨y,c,d⟩:=P6_ hd hs j h hn
   exact ⟨y,c,B0_ k29_ d⟩
  ·obtain ⟨f,e,d⟩:=P6_ (k:=k+1) hd hs j c (.inr ⟨z,h,hn⟩)
   exact ⟨f,e,by rwa [show j+1+k=j+(k+1) by omega]⟩
theorem Yc3 (hd:DigP adj) (hs:PtsP adj.length src) {x:Int} {j:Nat}:∀ {k:Nat},j≤k→x∈itL adj src j→x∈itL adj src k
 | 0,h,hx=>by rw [show j=0 by omega] at hx;exact hx
 | k+1,h,hx=>by
  by_cases e:j=k+1
  ·rw [← e];exact hx
  ·exact Yc1 hd hs k _ (Yc3 hd hs (k:=k) k29_ hx)
end
section
variable {ms:List Mat} {c:List Int}
noncomputable def lev (ms:List Mat) (c:List Int) (k:Nat):List Int:=itL (adjU ms c) (Z2_ c (-1)) k
noncomputable def rowU (ms:List Mat) (c:List Int) (k:Nat) (x:Int):List Int:=(upTo c.length).filter fun y=>!memP (lev ms c k) y.toNat && J6_ ms c x y
noncomputable def J3_ (ms:List Mat) (c:List Int) (x:Int):List Int:=((upTo ms.length).filter fun k=>roomB ms c x k).map fun k=>(c.length:Int)+k
def Lev (ms:List Mat) (c:List Int) (k:Nat) (x:Int):Prop:=x∈lev ms c k∧∀ j,j<k→x∉lev ms c j
theorem lev_ex {k:Nat} {x:Int} (h:x∈lev ms c k):∃ j,j≤k∧Lev ms c j x:=by
 induction k with
 | zero=>exact ⟨0,Nat.le_refl _,h,fun j d=>absurd d (Nat.not_lt_zero j)⟩
 | succ k ih =>
  by_cases h2:x∈lev ms c k
  ·obtain ⟨j,d,hl⟩:=ih h2
   exact ⟨j,k29_,hl⟩
  ·by_cases h3:∃ j,j<k+1∧x∈lev ms c j
   ·obtain ⟨j,d,e⟩:=h3
    have:∀ m,m≤j→x∈lev ms c m→∃ i,i≤m∧Lev ms c i x:=by
     intro m
     induction m using Nat.strongRecOn with
     | ind m ihm =>
      intro r e;by_cases o:∃ i,i<m∧x∈lev ms c i
      ·obtain ⟨i,f,g⟩:=o
       obtain ⟨p,q,hl⟩:=ihm i f k29_ g;exact ⟨p,k29_,hl⟩
      ·exact ⟨m,Nat.le_refl _,e,fun i f g=>o ⟨i,f,g⟩⟩
    obtain ⟨i,f,hl⟩:=this j (Nat.le_refl _) e;exact ⟨i,k29_,hl⟩
   ·exact ⟨k+1,Nat.le_refl _,h,fun j d e=>h3 ⟨j,d,e⟩⟩
section
theorem D9_ (h:Cls ms c) (k:Nat):InN (adjU ms c).length (lev ms c k):=Q9_ (J7_ h) (H6_ h) k
theorem P7_ (h:Cls ms c) {j k:Nat} (d:j≤k) {x:Int} (e:x∈lev ms c j):x∈lev ms c k:=Yc3 (J7_ h) (H6_ h) d e
theorem Zg7 (h:Cls ms c) {k:Nat} {x y:Int} (d:x∈lev ms c k) (e:y∈(adjU ms c).getD x.toNat []):y∈lev ms c (k+1):=((J5_ (J7_ h) (D9_ h k)).2 y).2 (.inr ⟨x,d,e⟩)
theorem Yc4 (h:Cls ms c) {k:Nat} {y:Int} (f:Lev ms c (k+1) y):∃ x,Lev ms c k x∧y∈(adjU ms c).getD x.toNat []:=by
 rcases ((J5_ (J7_ h) (D9_ h k)).2 y).1 f.1 with d | ⟨x,d,ha⟩
 ·exact absurd d (f.2 k k29_)
 ·obtain ⟨j,g,hl⟩:=lev_ex d
  by_cases e:j=k
  ·subst e;exact ⟨x,hl,ha⟩
  ·exact absurd (Zg7 h hl.1 ha) (f.2 (j+1) k29_)
def B1_ (ms:List Mat) (c:List Int) (r:Nat):Prop:=∀ x∈lev ms c r,J3_ ms c x=[]
theorem P8_ {x:Nat} (d:x<c.length) {z:Int}:z∈(adjU ms c).getD x []↔z∈(upTo c.length).filter (fun y=>J6_ ms c (x:Int) y)∨z∈J3_ ms c (x:Int):=by
 rw [Zj3 d];unfold arcsU;rw [List.mem_append];rfl
theorem P9_ (h:Cls ms c) {r:Nat} (j:∀ k,k<r→B1_ ms c k):∀ x∈lev ms c r,0≤x∧x<(c.length:Int):=by
 induction r with
 | zero=>exact fun x d=>(V3_ h.n64 (-1)).2 x d
 | succ r g =>
  intro y m;have g:=g fun k o=>j k k29_;rcases ((J5_ (J7_ h) (D9_ h r)).2 y).1 m with d | ⟨x,d,ha⟩
  ·exact g y d
  ·have p:=g x d
   have e:((x.toNat:Nat):Int)=x:=k29_;rcases (P8_ k29_).1 ha with f | f
   ·exact mem_upTo.1 (List.mem_filter.1 f).1
   ·rw [e,j r k29_ x d] at f
    cases f
end
structure Part (ms:List Mat) (c:List Int) (r:Nat) (adj:List (List Int)):Prop where
 len:adj.length=c.length+ms.length
 on:∀ x:Nat,∀ k,k<r→Lev ms c k (x:Int)→adj.getD x []=rowU ms c k (x:Int)
 off:∀ x:Nat,(∀ k,k<r→¬ Lev ms c k (x:Int))→adj.getD x []=[]
section
variable {r:Nat} {adj:List (List Int)}
theorem Part.start:Part ms c 0 (List.replicate (c.length+ms.length) []):=⟨List.length_replicate,fun _ _ d=>absurd d (Nat.not_lt_zero _),fun x _=>by
 rw [List.getD_eq_getElem?_getD,List.getElem?_replicate];split<;>rfl⟩
theorem Vq0 {k:Nat} {x:Nat} (e:x<c.length):∀ y∈rowU ms c k (x:Int),y∈(adjU ms c).getD x []:=fun y d=>by
 unfold rowU at d;rw [List.mem_filter,Bool.and_eq_true] at d;exact (P8_ e).2 (.inl (List.mem_filter.2 ⟨d.1,d.2.2⟩))
theorem Part.sub (h:Cls ms c) (m:∀ k,k<r→B1_ ms c k) (f:Part ms c r adj):∀ x,∀ y∈adj.getD x [],y∈(adjU ms c).getD x []:=fun x y d=>by
 by_cases g:∃ k,k<r∧Lev ms c k (x:Int)
 ·obtain ⟨k,e,hl⟩:=g
  have p:=P9_ h (r:=k) (fun j o=>m j k29_) _ hl.1;rw [f.on x k e hl] at d;exact Vq0 k29_ y d
 ·rw [f.off x fun k e hl=>g ⟨k,e,hl⟩] at d
  cases d
theorem Xs8 (h:Cls ms c) (k:Nat) (x:Int):InN c.length (rowU ms c k x):=by
 have e:=D4_ h.n64;unfold rowU;exact ⟨⟨e.1.filter _,fun y d=>e.2 y (List.mem_filter.1 d).1⟩,fun y d=>mem_upTo.1 (List.mem_filter.1 d).1⟩
theorem Part.dig (h:Cls ms c) (d:Part ms c r adj):DigP adj:=by
 have j:=h.n64;have m:=h.many.2;refine ⟨by rw [d.len];omega,fun x=>?_⟩;by_cases g:∃ k,k<r∧Lev ms c k (x:Int)
 ·obtain ⟨k,e,hl⟩:=g
  rw [d.on x k e hl,d.len];have:=Xs8 h k (x:Int);exact ⟨this.1,fun y f=>by have:=this.2 y f;omega⟩
 ·rw [d.off x fun k e hl=>g ⟨k,e,hl⟩]
  exact ⟨Q3_,fun y f=>by cases f⟩
theorem Part.come (h:Cls ms c) (m:∀ k,k<r→B1_ ms c k) (g:Part ms c r adj):itL adj (Z2_ c (-1)) adj.length=lev ms c r:=by
 have hd:=g.dig h;have o:InN adj.length (Z2_ c (-1)):=by have:=H6_ h;rwa [C3_,← g.len] at this
 have v:=Q9_ hd o adj.length;have h2:=D9_ h r;refine v.1.ext h2.1 fun y=>⟨fun d=>?_,fun d=>?_⟩
 ·refine Zj5 hd o (P:=fun y=>y∈lev ms c r) (fun x f=>P7_ h (Nat.zero_le _) f) (fun x f y d=>?_) _ y d
  by_cases s:∃ k,k<r∧Lev ms c k ((x.toNat:Nat):Int)
  ·obtain ⟨k,p,hl⟩:=s
   have hs:=g.sub h m _ y d;have:=Zg7 h hl.1 (y:=y) (by rw [Int.toNat_natCast];exact hs);exact P7_ h k29_ this
  ·rw [g.off x.toNat fun k p hl=>s ⟨k,p,hl⟩] at d
   cases d
 ·have:∀ k,k≤r→∀ y,y∈lev ms c k→y∈itL adj (Z2_ c (-1)) adj.length:=by
   intro k
   induction k with
   | zero=>exact fun _ y d=>Zg0 hd o _ _ d
   | succ k ih =>
    intro p y d;obtain ⟨j,z,hl⟩:=lev_ex d;by_cases e:j=k+1
    ·subst e
     obtain ⟨x,f,ha⟩:=Yc4 h hl;have A:=P9_ h (r:=k) (fun i w=>m i k29_) x f.1;have B:=P9_ h (r:=k+1) (fun i w=>m i k29_) y hl.1;have q:((x.toNat:Nat):Int)=x:=k29_;have u:((y.toNat:Nat):Int)=y:=k29_;refine L9_ hd o (ih k29_ x f.1) ?_;rw [g.on x.toNat k k29_ (by rw [q];exact f)];unfold rowU;rw [List.mem_filter,Bool.and_eq_true,Bool.not_eq_true',← Bool.not_eq_true,memP_iff,u];rcases (P8_ k29_).1 ha with h3 | h3
     ·exact ⟨(List.mem_filter.1 h3).1,hl.2 k k29_,(List.mem_filter.1 h3).2⟩
     ·rw [q,m k k29_ x f.1] at h3
      cases h3
    ·exact ih k29_ y (P7_ h k29_ hl.1)
  exact this r (Nat.le_refl _) y d
end
structure Roomed (ms:List Mat) (c:List Int) (r:Nat) (adj adj2:List (List Int)):Prop where
 len:adj2.length=adj.length
 on:∀ x:Nat,Lev ms c r (x:Int)→adj2.getD x []=J3_ ms c (x:Int)∨(adj2.getD x []=[]∧r=0∧∃ y:Nat,y<x∧Lev ms c 0 (y:Int)∧J3_ ms c (y:Int)≠[])
 off:∀ x:Nat,¬ Lev ms c r (x:Int)→adj2.getD x []=adj.getD x []
theorem Xq0 {j k:Nat} {x:Int} (d:Lev ms c j x) (h2:Lev ms c k x):j=k:=by
 rcases Nat.lt_trichotomy j k with h | h | h
 ·exact absurd d.1 (h2.2 j h)
 ·exact h
 ·exact absurd h2.1 (d.2 k h)
theorem Zp8 {adj:List (List Int)} {dst S:List Int} {m:Nat} {x:Int} {l:List Int} (c:Greedy adj dst S m (x :: l)):∀ y∈S,y<x→¬ Near adj dst m y:=by
 cases c with
 | stop _ _ _ _ hl=>exact hl
 | step _ _ _ _ _ _ _ hl _=>exact hl
section
variable {r:Nat} {adj adj2:List (List Int)}
theorem Yc5 {x:Int} {z:Int} (f:z∈J3_ ms c x):∃ k:Nat,k<ms.length∧z=(c.length:Int)+(k:Int)∧roomB ms c x (k:Int)=true:=by
 unfold J3_ at f;obtain ⟨k,d,rfl⟩:=List.mem_map.1 f;rw [List.mem_filter,mem_upTo] at d;have e:((k.toNat:Nat):Int)=k:=k29_;exact ⟨k.toNat,k29_,by rw [e],by rw [e];exact d.2⟩
theorem Roomed.sub (h:Cls ms c) (g:∀ k,k<r→B1_ ms c k) (m:Part ms c r adj) (j:Roomed ms c r adj adj2):∀ x,∀ y∈adj2.getD x [],y∈(adjU ms c).getD x []:=fun x y d=>by
 by_cases f:Lev ms c r (x:Int)
 ·have o:=P9_ h g _ f.1
  rcases j.on x f with e | ⟨e,_,_⟩
  ·rw [e] at d
   exact (P8_ k29_).2 (.inr d)
  ·rw [e] at d;cases d
 ·rw [j.off x f] at d
  exact m.sub h g x y d
theorem Roomed.dig (h:Cls ms c) (f:Part ms c r adj) (d:Roomed ms c r adj adj2):DigP adj2:=by
 have hd:=f.dig h;refine ⟨by rw [d.len];exact hd.1,fun x=>?_⟩;rw [d.len];by_cases m:Lev ms c r (x:Int)
 ·rcases d.on x m with e | ⟨e,_,_⟩
  ·rw [e]
   have q:=h.many.2;have p:=h.n64;have j:∀ z∈J3_ ms c (x:Int),0≤z∧z<(adj.length:Int):=fun z g=>by
    obtain ⟨k,s,rfl,_⟩:=Yc5 g;rw [f.len];omega
   refine ⟨⟨?_,fun z g=>by have:=j z g;rw [f.len] at this;exact ⟨k29_,k29_⟩⟩,j⟩;unfold J3_;exact j19_
  ·rw [e];exact ⟨Q3_,fun y o=>by cases o⟩
 ·rw [d.off x m]
  exact hd.2 x
theorem Roomed.way (h:Cls ms c) (o:∀ k,k<r→B1_ ms c k) (I:Part ms c r adj) (D:Roomed ms c r adj adj2) (V:∃ x:Nat,Lev ms c r (x:Int)∧J3_ ms c (x:Int)≠[]):∃ d l,Greedy (adjU ms c) (endsU ms c.length) (Z2_ c (-1)) d l∧Greedy adj2 (endsU ms c.length) (Z2_ c (-1)) d l:=by
 have hd:=J7_ h;have hs:=H6_ h;have M:∀ x:Nat,x<c.length→J3_ ms c (x:Int)≠[]→Near (adjU ms c) (endsU ms c.length) 1 (x:Int):=fun x J C=>by
  obtain ⟨z,L⟩:=List.exists_mem_of_ne_nil _ C;obtain ⟨k,R,e,_⟩:=Yc5 L;exact .inr ⟨z,by rw [Int.toNat_natCast];exact (P8_ J).2 (.inr L),mem_ends.2 ⟨k,R,e⟩⟩
 obtain ⟨x,F,C⟩:=V;have J:=P9_ h o _ F.1;obtain ⟨y,A,H⟩:=P6_ hd hs r F.1 (M x k29_ C);obtain ⟨d,a,l,f⟩:∃ n x l,Greedy (adjU ms c) (endsU ms c.length) (Z2_ c (-1)) n (x :: l):=(Xj1 (dst:=endsU ms c.length) hd hs).resolve_right fun o=>o y A _ H;have Y:d≤r+1:=Nat.not_lt.1 fun w=>f.none y A (r+1) w H;obtain ⟨p,m,K,hw⟩:=Xj3 f;have x0:=f.length;have x1:=hw.len;have Q:d=m+1:=k29_;have E:∀ i,i≤m→(p i:Int)∈lev ms c i:=by
  intro i
  induction i with
  | zero =>
   intro g;have:=f.first;rw [(hw.el 0 g).2] at this;exact this
  | succ i ih =>
   intro g;have P:=hw.el i k29_;refine Zg7 h (ih k29_) ?_;rw [Int.toNat_natCast];exact (Zg4 P.1 (hw.el (i+1) g).1).2 (hw.arc i k29_)
 have S:m=r:=by
  refine Nat.le_antisymm k29_ (Nat.not_lt.1 fun w=>?_);have s:=o m w _ (E m (Nat.le_refl _));have:(c.length:Int)+(K:Int)∈J3_ ms c (p m:Int):=z16_;rw [s] at this;cases this
 subst S;have u:∀ i,i≤m→Lev ms c i (p i:Int):=fun i g=>⟨E i g,fun j Z W=>by
  have s:=f.near i k29_;rw [(hw.el i g).2] at s;obtain ⟨B,X,T⟩:=P6_ hd hs j W s;exact f.none B X _ k29_ T⟩
 refine ⟨d,a :: l,f,Ym3 (D.sub h o I) f (fun _ A=>A) f.first fun i g=>?_⟩;by_cases v:i<m
 ·have q:=hw.el i k29_
  have O:=hw.el (i+1) k29_;rw [q.2,O.2,Int.toNat_natCast,D.off (p i) fun hl=>by have:=Xq0 hl (u i k29_);omega,I.on (p i) i v (u i k29_)];unfold rowU;rw [List.mem_filter,Bool.and_eq_true,Bool.not_eq_true',← Bool.not_eq_true,memP_iff,Int.toNat_natCast];exact ⟨mem_upTo.2 ⟨k29_,k29_⟩,(u (i+1) k29_).2 i k29_,hw.arc i v⟩
 ·have v:i=m:=by omega
  subst v;have q:=hw.el i (Nat.le_refl _);rw [q.2,hw.pt,Int.toNat_natCast];rcases D.on (p i) (u i (Nat.le_refl _)) with e | ⟨_,N,B,w,G,U⟩
  ·rw [e]
   exact z16_
  ·subst N
   have ha:a=(p 0:Int):=by simpa using q.2
   have x2:=P9_ h (r:=0) o _ G.1;have:=Zp8 f (B:Int) G.1 k29_;rw [Q] at this;exact absurd (M B k29_ U) this
theorem Roomed.none (h:Cls ms c) (o:∀ k,k<r→B1_ ms c k) (p:Part ms c r adj) (q:Roomed ms c r adj adj2) (s:∀ x:Nat,Lev ms c r (x:Int)→J3_ ms c (x:Int)=[]):B1_ ms c r∧∀ k,∀ y∈Z2_ c (-1),¬ Near adj2 (endsU ms c.length) k y:=by
 have v:∀ k,k<r+1→B1_ ms c k:=fun k f x B=>by
  obtain ⟨j,D,hl⟩:=lev_ex B;by_cases e:j<r
  ·exact o j e x hl.1
  ·have u:j=r:=by omega
   subst u;have E:=P9_ h o _ hl.1;have m:((x.toNat:Nat):Int)=x:=k29_;have:=s x.toNat (by rw [m];exact hl)
   rwa [m] at this
 refine ⟨v r k29_,?_⟩;have A:∀ x y,y∈adj2.getD x []→y<(c.length:Int):=fun x y d=>by
  by_cases hl:Lev ms c r (x:Int)
  ·rcases q.on x hl with e | ⟨e,_,_⟩
   ·rw [e,s x hl] at d;cases d
   ·rw [e] at d;cases d
  ·rw [q.off x hl] at d
   by_cases f:∃ k,k<r∧Lev ms c k (x:Int)
   ·obtain ⟨k,f,hl⟩:=f
    rw [p.on x k f hl] at d;exact ((Xs8 h k (x:Int)).2 y d).2
   ·rw [p.off x fun k w hl=>f ⟨k,w,hl⟩] at d
    cases d
 have:∀ k y,y<(c.length:Int)→¬ Near adj2 (endsU ms c.length) k y:=by
  intro k
  induction k with
  | zero=>exact fun y d g=>by obtain ⟨k,_,e⟩:=mem_ends.1 g;omega
  | succ k ih =>
   rintro y d (g | ⟨z,C,g⟩)
   ·exact ih y d g
   ·exact ih z (A _ z C) g
 exact fun k y d=>this k y ((V3_ h.n64 (-1)).2 y d).2
end
theorem Yc6 (h:Cls ms c) {r:Nat} (G:(lev ms c (r+1)).length=(lev ms c r).length) (A:∀ k,k<r+1→B1_ ms c k):comeU ms c=lev ms c r∧StopU ms c:=by
 have hd:=J7_ h;have hs:=H6_ h;have e:lev ms c (r+1)=lev ms c r:=by
  have u:=D9_ h r;have g:=D9_ h (r+1);refine g.1.ext u.1 fun y=>⟨fun d=>?_,fun d=>P7_ h (Nat.le_succ r) d⟩;refine Classical.byContradiction fun o=>?_;obtain ⟨j,rfl⟩:∃ j:Nat,y=(j:Int):=⟨y.toNat,by have:=g.2 y d;omega⟩;have H:=g.2 _ d;have x:=Yr6 (p:=memP (lev ms c r)) (q:=memP (lev ms c (r+1))) (n:=(adjU ms c).length) (fun v _ B=>memP_iff.2 (P7_ h (Nat.le_succ r) (memP_iff.1 B))) ⟨j,k29_,by rw [← Bool.not_eq_true,memP_iff];exact o,memP_iff.2 d⟩;rw [← X1_ u,← X1_ g] at x;omega
 have s:∀ m,lev ms c (r+m)=lev ms c r:=W7_ e;have w:comeU ms c=lev ms c r:=by
  have f:=Xv9 hd hs r;rw [show (adjU ms c).length+r=r+(adjU ms c).length by omega] at f;have h2:=s (adjU ms c).length;unfold lev at h2;unfold comeU lev;rw [← f,h2]
 refine ⟨w,fun y d k o=>?_⟩;obtain ⟨z,C,E⟩:=(Zj0 (dst:=endsU ms c.length) hd k _ hs).2 ⟨y,d,o⟩;have D:z∈lev ms c r:=by
  have f:z∈lev ms c (r+k):=P7_ h k29_ C
  rwa [s k] at f
 have:=P9_ h (r:=r) (fun k I=>A k k29_) z D;obtain ⟨J,_,F⟩:=mem_ends.1 E;omega
end
end Go.Proofs.YtheeajnkiniopaaGreatDoor.Wp
