/- The program's search for a way among several matroids, plain: of all arcs it looks only for those that may be on a shortest way, level by level; what it tells is the same. Nothing of the program here. -/
import Derived.Test.YtheeajnkiniopaaGreatDoorZR
import Derived.Test.YtheeajnkiniopaaGreatDoorX0A
namespace Go.Proofs.YtheeajnkiniopaaGreatDoor.Wp
open Go Go.RowKit
section
variable {adj adj':List (List Int)} {dst S S' src:List Int}
theorem Yx2:∀ {l:List Int} {x:Int},(∀ i,i+1<(x :: l).length→(x :: l).getD (i+1) 0∈adj.getD ((x :: l).getD i 0).toNat [])→(x :: l).getD l.length 0∈dst→Near adj dst l.length x
 | [],x,_,h=>h
 | y :: l,x,ha,h=>by
  have c:=ha 0 j37_;refine .inr ⟨y,by simpa using c,Yx2 (l:=l) (x:=y) (fun i hi=>?_) z41_⟩;have:=ha (i+1) z45_;simpa using this
theorem Xy1 (p:∀ x,∀ y∈adj'.getD x [],y∈adj.getD x []) {m:Nat} {l:List Int} (e:Greedy adj dst S m l):∀ {S':List Int},(∀ y∈S',y∈S)→l.getD 0 0∈S'→(∀ i,i+1<l.length→l.getD (i+1) 0∈adj'.getD (l.getD i 0).toNat [])→Greedy adj' dst S' m l:=by
 have q:∀ k x,Near adj' dst k x→Near adj dst k x:=by
  intro k
  induction k with
  | zero=>exact fun x h=>h
  | succ k ih =>
   rintro x (h | ⟨y,c,h⟩)
   ·exact .inl (ih x h)
   ·exact .inr ⟨y,p _ _ c,ih y h⟩
 induction e with
 | stop S x hx hd hl =>
  intro S' d f _;exact .stop _ _ (by simpa using f) hd fun y c g=>hl y (d y c) g
 | step S x n l hx hn hno hl e ih =>
  intro S' d f ha;have o:=e.length;have r:=e.last;have s:∀ i,i+1<l.length→l.getD (i+1) 0∈adj'.getD (l.getD i 0).toNat []:=fun i hi=>by
   have:=ha (i+1) z45_;simpa using this
  have j:=ha 0 k37_;rw [List.getD_cons_zero,List.getD_cons_succ] at j;refine .step _ _ _ _ (by simpa using f) ?_ (fun y c h=>hno y (d y c) (q _ _ h)) (fun y c g h=>hl y (d y c) g (q _ _ h)) (ih (fun y c=>p _ _ c) j s);have:=Yx2 (adj:=adj') (dst:=dst) (l:=l) (x:=x) ha (by rw [o,List.getD_cons_succ];exact r)
  rwa [o] at this
theorem Zf0 (hd:DigP adj) (hs:PtsP adj.length src) {P:Int→Prop} (c:∀ x∈src,P x) (hc:∀ x,P x→∀ y∈adj.getD x.toNat [],P y):∀ k,∀ x∈itL adj src k,P x
 | 0=>c
 | k+1=>fun x d=>by
  rcases ((A7_ hd (C4_ hd hs k)).2 x).1 d with h | ⟨y,e,h⟩
  ·exact Zf0 hd hs c hc k x h
  ·exact hc y (Zf0 hd hs c hc k y e) x h
theorem W9_ (hd:DigP adj) (hs:PtsP adj.length src) {k:Nat}:∀ (j:Nat) {z:Int},z∈itL adj src j→Near adj dst k z→∃ y∈src,Near adj dst (j+k) y
 | 0,z,hz,hn=>⟨z,hz,by rwa [Nat.zero_add]⟩
 | j+1,z,hz,hn=>by
  rcases ((A7_ hd (C4_ hd hs j)).2 z).1 hz with h | ⟨y,c,h⟩
  ·obtain ⟨y,c,d⟩:=W9_ hd hs j h hn
   exact ⟨y,c,E0_ x37_ d⟩
  ·obtain ⟨f,e,d⟩:=W9_ (k:=k+1) hd hs j c (.inr ⟨z,h,hn⟩)
   exact ⟨f,e,by rwa [show j+1+k=j+(k+1) by omega]⟩
theorem Yn3 (hd:DigP adj) (hs:PtsP adj.length src) {x:Int} {j:Nat}:∀ {k:Nat},j≤k→x∈itL adj src j→x∈itL adj src k
 | 0,h,hx=>by rw [show j=0 by omega] at hx;exact hx
 | k+1,h,hx=>by
  by_cases e:j=k+1
  ·rw [← e];exact hx
  ·exact Yo6 hd hs k _ (Yn3 hd hs (k:=k) x37_ hx)
end
section
variable {ms:List Mat} {c:List Int}
noncomputable def lev (ms:List Mat) (c:List Int) (k:Nat):List Int:=itL (adjU ms c) (Z3_ c (-1)) k
noncomputable def rowU (ms:List Mat) (c:List Int) (k:Nat) (x:Int):List Int:=(upTo c.length).filter fun y=>!memP (lev ms c k) y.toNat && A6_ ms c x y
noncomputable def A1_ (ms:List Mat) (c:List Int) (x:Int):List Int:=((upTo ms.length).filter fun k=>roomB ms c x k).map fun k=>(c.length:Int)+k
def Lev (ms:List Mat) (c:List Int) (k:Nat) (x:Int):Prop:=x∈lev ms c k∧∀ j,j<k→x∉lev ms c j
theorem lev_ex {k:Nat} {x:Int} (h:x∈lev ms c k):∃ j,j≤k∧Lev ms c j x:=by
 induction k with
 | zero=>exact ⟨0,Nat.le_refl _,h,fun j d=>absurd d (Nat.not_lt_zero j)⟩
 | succ k ih =>
  by_cases p:x∈lev ms c k
  ·obtain ⟨j,d,hl⟩:=ih p
   exact ⟨j,x37_,hl⟩
  ·by_cases h3:∃ j,j<k+1∧x∈lev ms c j
   ·obtain ⟨j,d,e⟩:=h3
    have:∀ m,m≤j→x∈lev ms c m→∃ i,i≤m∧Lev ms c i x:=by
     intro m
     induction m using Nat.strongRecOn with
     | ind m ihm =>
      intro s e;by_cases o:∃ i,i<m∧x∈lev ms c i
      ·obtain ⟨i,f,g⟩:=o
       obtain ⟨q,r,hl⟩:=ihm i f x37_ g;exact ⟨q,x37_,hl⟩
      ·exact ⟨m,Nat.le_refl _,e,fun i f g=>o ⟨i,f,g⟩⟩
    obtain ⟨i,f,hl⟩:=this j (Nat.le_refl _) e;exact ⟨i,x37_,hl⟩
   ·exact ⟨k+1,Nat.le_refl _,h,fun j d e=>h3 ⟨j,d,e⟩⟩
section
theorem H9_ (h:Cls ms c) (k:Nat):InN (adjU ms c).length (lev ms c k):=C4_ (A8_ h) (M8_ h) k
theorem Zz0 (h:Cls ms c) {j k:Nat} (d:j≤k) {x:Int} (e:x∈lev ms c j):x∈lev ms c k:=Yn3 (A8_ h) (M8_ h) d e
theorem Zp0 (h:Cls ms c) {k:Nat} {x y:Int} (d:x∈lev ms c k) (e:y∈(adjU ms c).getD x.toNat []):y∈lev ms c (k+1):=((A7_ (A8_ h) (H9_ h k)).2 y).2 (.inr ⟨x,d,e⟩)
theorem Yn4 (h:Cls ms c) {k:Nat} {y:Int} (f:Lev ms c (k+1) y):∃ x,Lev ms c k x∧y∈(adjU ms c).getD x.toNat []:=by
 rcases ((A7_ (A8_ h) (H9_ h k)).2 y).1 f.1 with d | ⟨x,d,ha⟩
 ·exact absurd d (f.2 k x37_)
 ·obtain ⟨j,g,hl⟩:=lev_ex d
  by_cases e:j=k
  ·subst e;exact ⟨x,hl,ha⟩
  ·exact absurd (Zp0 h hl.1 ha) (f.2 (j+1) x37_)
def D9_ (ms:List Mat) (c:List Int) (r:Nat):Prop:=∀ x∈lev ms c r,A1_ ms c x=[]
theorem Zz1 {x:Nat} (d:x<c.length) {z:Int}:z∈(adjU ms c).getD x []↔z∈(upTo c.length).filter (fun y=>A6_ ms c (x:Int) y)∨z∈A1_ ms c (x:Int):=by
 rw [Ze8 d];unfold arcsU;rw [List.mem_append];rfl
theorem Zz2 (h:Cls ms c) {r:Nat} (j:∀ k,k<r→D9_ ms c k):∀ x∈lev ms c r,0≤x∧x<(c.length:Int):=by
 induction r with
 | zero=>exact fun x d=>(J2_ h.n64 (-1)).2 x d
 | succ r g =>
  intro y m;have g:=g fun k o=>j k x37_;rcases ((A7_ (A8_ h) (H9_ h r)).2 y).1 m with d | ⟨x,d,ha⟩
  ·exact g y d
  ·have p:=g x d
   have e:((x.toNat:Nat):Int)=x:=x37_;rcases (Zz1 x37_).1 ha with f | f
   ·exact mem_upTo.1 (List.mem_filter.1 f).1
   ·rw [e,j r x37_ x d] at f
    cases f
end
structure Part (ms:List Mat) (c:List Int) (r:Nat) (adj:List (List Int)):Prop where
 len:adj.length=c.length+ms.length
 on:∀ x:Nat,∀ k,k<r→Lev ms c k (x:Int)→adj.getD x []=rowU ms c k (x:Int)
 off:∀ x:Nat,(∀ k,k<r→¬ Lev ms c k (x:Int))→adj.getD x []=[]
section
variable {r:Nat} {adj:List (List Int)}
theorem Part.start:Part ms c 0 (List.replicate (c.length+ms.length) []):=⟨List.length_replicate,fun _ _ d=>absurd d (Nat.not_lt_zero _),fun x _=>by
 rw [List.getD_eq_getElem?_getD,List.getElem?_replicate];split<;>rfl⟩
theorem Vn2 {k:Nat} {x:Nat} (e:x<c.length):∀ y∈rowU ms c k (x:Int),y∈(adjU ms c).getD x []:=fun y d=>by
 unfold rowU at d;rw [List.mem_filter,Bool.and_eq_true] at d;exact (Zz1 e).2 (.inl (List.mem_filter.2 ⟨d.1,d.2.2⟩))
theorem Part.sub (h:Cls ms c) (m:∀ k,k<r→D9_ ms c k) (f:Part ms c r adj):∀ x,∀ y∈adj.getD x [],y∈(adjU ms c).getD x []:=fun x y d=>by
 by_cases g:∃ k,k<r∧Lev ms c k (x:Int)
 ·obtain ⟨k,e,hl⟩:=g
  have p:=Zz2 h (r:=k) (fun j o=>m j x37_) _ hl.1;rw [f.on x k e hl] at d;exact Vn2 x37_ y d
 ·rw [f.off x fun k e hl=>g ⟨k,e,hl⟩] at d
  cases d
theorem Ve4 (h:Cls ms c) (k:Nat) (x:Int):InN c.length (rowU ms c k x):=by
 have e:=H1_ h.n64;unfold rowU;exact ⟨⟨e.1.filter _,fun y d=>e.2 y (List.mem_filter.1 d).1⟩,fun y d=>mem_upTo.1 (List.mem_filter.1 d).1⟩
theorem Part.dig (h:Cls ms c) (d:Part ms c r adj):DigP adj:=by
 have j:=h.n64;have m:=h.many.2;refine ⟨by rw [d.len];omega,fun x=>?_⟩;by_cases g:∃ k,k<r∧Lev ms c k (x:Int)
 ·obtain ⟨k,e,hl⟩:=g
  rw [d.on x k e hl,d.len];have:=Ve4 h k (x:Int);exact ⟨this.1,fun y f=>by have:=this.2 y f;omega⟩
 ·rw [d.off x fun k e hl=>g ⟨k,e,hl⟩]
  exact ⟨J0_,fun y f=>by cases f⟩
theorem Part.come (h:Cls ms c) (m:∀ k,k<r→D9_ ms c k) (g:Part ms c r adj):itL adj (Z3_ c (-1)) adj.length=lev ms c r:=by
 have hd:=g.dig h;have o:InN adj.length (Z3_ c (-1)):=by have:=M8_ h;rwa [F5_,← g.len] at this
 have v:=C4_ hd o adj.length;have w:=H9_ h r;refine v.1.ext w.1 fun y=>⟨fun d=>?_,fun d=>?_⟩
 ·refine Zf0 hd o (P:=fun y=>y∈lev ms c r) (fun x f=>Zz0 h (Nat.zero_le _) f) (fun x f y d=>?_) _ y d
  by_cases s:∃ k,k<r∧Lev ms c k ((x.toNat:Nat):Int)
  ·obtain ⟨k,p,hl⟩:=s
   have hs:=g.sub h m _ y d;have:=Zp0 h hl.1 (y:=y) (by rw [Int.toNat_natCast];exact hs);exact Zz0 h x37_ this
  ·rw [g.off x.toNat fun k p hl=>s ⟨k,p,hl⟩] at d
   cases d
 ·have:∀ k,k≤r→∀ y,y∈lev ms c k→y∈itL adj (Z3_ c (-1)) adj.length:=by
   intro k
   induction k with
   | zero=>exact fun _ y d=>Zr1 hd o _ _ d
   | succ k ih =>
    intro p y d;obtain ⟨j,A,hl⟩:=lev_ex d;by_cases e:j=k+1
    ·subst e
     obtain ⟨x,f,ha⟩:=Yn4 h hl;have B:=Zz2 h (r:=k) (fun i z=>m i x37_) x f.1;have C:=Zz2 h (r:=k+1) (fun i z=>m i x37_) y hl.1;have q:((x.toNat:Nat):Int)=x:=x37_;have u:((y.toNat:Nat):Int)=y:=x37_;refine R3_ hd o (ih x37_ x f.1) ?_;rw [g.on x.toNat k x37_ (by rw [q];exact f)];unfold rowU;rw [List.mem_filter,Bool.and_eq_true,Bool.not_eq_true',← Bool.not_eq_true,memP_iff,u];rcases (Zz1 x37_).1 ha with h3 | h3
     ·exact ⟨(List.mem_filter.1 h3).1,hl.2 k x37_,(List.mem_filter.1 h3).2⟩
     ·rw [q,m k x37_ x f.1] at h3
      cases h3
    ·exact ih x37_ y (Zz0 h x37_ hl.1)
  exact this r (Nat.le_refl _) y d
end
structure Roomed (ms:List Mat) (c:List Int) (r:Nat) (adj adj2:List (List Int)):Prop where
 len:adj2.length=adj.length
 on:∀ x:Nat,Lev ms c r (x:Int)→adj2.getD x []=A1_ ms c (x:Int)∨(adj2.getD x []=[]∧r=0∧∃ y:Nat,y<x∧Lev ms c 0 (y:Int)∧A1_ ms c (y:Int)≠[])
 off:∀ x:Nat,¬ Lev ms c r (x:Int)→adj2.getD x []=adj.getD x []
theorem Xh9 {j k:Nat} {x:Int} (d:Lev ms c j x) (e:Lev ms c k x):j=k:=by
 rcases Nat.lt_trichotomy j k with h | h | h
 ·exact absurd d.1 (e.2 j h)
 ·exact h
 ·exact absurd e.1 (d.2 k h)
theorem Yx3 {adj:List (List Int)} {dst S:List Int} {m:Nat} {x:Int} {l:List Int} (c:Greedy adj dst S m (x :: l)):∀ y∈S,y<x→¬ Near adj dst m y:=by
 cases c with
 | stop _ _ _ _ hl=>exact hl
 | step _ _ _ _ _ _ _ hl _=>exact hl
section
variable {r:Nat} {adj adj2:List (List Int)}
theorem Yn5 {x:Int} {z:Int} (f:z∈A1_ ms c x):∃ k:Nat,k<ms.length∧z=(c.length:Int)+(k:Int)∧roomB ms c x (k:Int)=true:=by
 unfold A1_ at f;obtain ⟨k,d,rfl⟩:=List.mem_map.1 f;rw [List.mem_filter,mem_upTo] at d;have e:((k.toNat:Nat):Int)=k:=x37_;exact ⟨k.toNat,x37_,by rw [e],by rw [e];exact d.2⟩
theorem Roomed.sub (h:Cls ms c) (g:∀ k,k<r→D9_ ms c k) (m:Part ms c r adj) (j:Roomed ms c r adj adj2):∀ x,∀ y∈adj2.getD x [],y∈(adjU ms c).getD x []:=fun x y d=>by
 by_cases f:Lev ms c r (x:Int)
 ·have o:=Zz2 h g _ f.1
  rcases j.on x f with e | ⟨e,_,_⟩
  ·rw [e] at d
   exact (Zz1 x37_).2 (.inr d)
  ·rw [e] at d;cases d
 ·rw [j.off x f] at d
  exact m.sub h g x y d
theorem Roomed.dig (h:Cls ms c) (f:Part ms c r adj) (d:Roomed ms c r adj adj2):DigP adj2:=by
 have hd:=f.dig h;refine ⟨by rw [d.len];exact hd.1,fun x=>?_⟩;rw [d.len];by_cases m:Lev ms c r (x:Int)
 ·rcases d.on x m with e | ⟨e,_,_⟩
  ·rw [e]
   have q:=h.many.2;have p:=h.n64;have j:∀ z∈A1_ ms c (x:Int),0≤z∧z<(adj.length:Int):=fun z g=>by
    obtain ⟨k,s,rfl,_⟩:=Yn5 g;rw [f.len];omega
   refine ⟨⟨?_,fun z g=>by have:=j z g;rw [f.len] at this;exact ⟨x37_,x37_⟩⟩,j⟩;unfold A1_;exact z23_
  ·rw [e];exact ⟨J0_,fun y o=>by cases o⟩
 ·rw [d.off x m]
  exact hd.2 x
theorem Roomed.way (h:Cls ms c) (o:∀ k,k<r→D9_ ms c k) (I:Part ms c r adj) (D:Roomed ms c r adj adj2) (V:∃ x:Nat,Lev ms c r (x:Int)∧A1_ ms c (x:Int)≠[]):∃ d l,Greedy (adjU ms c) (endsU ms c.length) (Z3_ c (-1)) d l∧Greedy adj2 (endsU ms c.length) (Z3_ c (-1)) d l:=by
 have hd:=A8_ h;have hs:=M8_ h;have M:∀ x:Nat,x<c.length→A1_ ms c (x:Int)≠[]→Near (adjU ms c) (endsU ms c.length) 1 (x:Int):=fun x J C=>by
  obtain ⟨z,L⟩:=List.exists_mem_of_ne_nil _ C;obtain ⟨k,R,e,_⟩:=Yn5 L;exact .inr ⟨z,by rw [Int.toNat_natCast];exact (Zz1 J).2 (.inr L),mem_ends.2 ⟨k,R,e⟩⟩
 obtain ⟨x,F,C⟩:=V;have J:=Zz2 h o _ F.1;obtain ⟨y,A,H⟩:=W9_ hd hs r F.1 (M x x37_ C);obtain ⟨d,a,l,f⟩:∃ n x l,Greedy (adjU ms c) (endsU ms c.length) (Z3_ c (-1)) n (x :: l):=(Xl1 (dst:=endsU ms c.length) hd hs).resolve_right fun o=>o y A _ H;have Y:d≤r+1:=Nat.not_lt.1 fun w=>f.none y A (r+1) w H;obtain ⟨p,m,K,hw⟩:=Xh6 f;have x0:=f.length;have x1:=hw.len;have Q:d=m+1:=x37_;have E:∀ i,i≤m→(p i:Int)∈lev ms c i:=by
  intro i
  induction i with
  | zero =>
   intro g;have:=f.first;rw [(hw.el 0 g).2] at this;exact this
  | succ i ih =>
   intro g;have P:=hw.el i x37_;refine Zp0 h (ih x37_) ?_;rw [Int.toNat_natCast];exact (Zo9 P.1 (hw.el (i+1) g).1).2 (hw.arc i x37_)
 have S:m=r:=by
  refine Nat.le_antisymm x37_ (Nat.not_lt.1 fun w=>?_);have s:=o m w _ (E m (Nat.le_refl _));have:(c.length:Int)+(K:Int)∈A1_ ms c (p m:Int):=z19_;rw [s] at this;cases this
 subst S;have u:∀ i,i≤m→Lev ms c i (p i:Int):=fun i g=>⟨E i g,fun j Z W=>by
  have s:=f.near i x37_;rw [(hw.el i g).2] at s;obtain ⟨B,X,T⟩:=W9_ hd hs j W s;exact f.none B X _ x37_ T⟩
 refine ⟨d,a :: l,f,Xy1 (D.sub h o I) f (fun _ A=>A) f.first fun i g=>?_⟩;by_cases v:i<m
 ·have q:=hw.el i x37_
  have O:=hw.el (i+1) x37_;rw [q.2,O.2,Int.toNat_natCast,D.off (p i) fun hl=>by have:=Xh9 hl (u i x37_);omega,I.on (p i) i v (u i x37_)];unfold rowU;rw [List.mem_filter,Bool.and_eq_true,Bool.not_eq_true',← Bool.not_eq_true,memP_iff,Int.toNat_natCast];exact ⟨mem_upTo.2 ⟨x37_,x37_⟩,(u (i+1) x37_).2 i x37_,hw.arc i v⟩
 ·have v:i=m:=by omega
  subst v;have q:=hw.el i (Nat.le_refl _);rw [q.2,hw.pt,Int.toNat_natCast];rcases D.on (p i) (u i (Nat.le_refl _)) with e | ⟨_,N,B,w,G,U⟩
  ·rw [e]
   exact z19_
  ·subst N
   have ha:a=(p 0:Int):=by simpa using q.2
   have x2:=Zz2 h (r:=0) o _ G.1;have:=Yx3 f (B:Int) G.1 x37_;rw [Q] at this;exact absurd (M B x37_ U) this
theorem Roomed.none (h:Cls ms c) (o:∀ k,k<r→D9_ ms c k) (p:Part ms c r adj) (q:Roomed ms c r adj adj2) (s:∀ x:Nat,Lev ms c r (x:Int)→A1_ ms c (x:Int)=[]):D9_ ms c r∧∀ k,∀ y∈Z3_ c (-1),¬ Near adj2 (endsU ms c.length) k y:=by
 have v:∀ k,k<r+1→D9_ ms c k:=fun k f x B=>by
  obtain ⟨j,D,hl⟩:=lev_ex B;by_cases e:j<r
  ·exact o j e x hl.1
  ·have u:j=r:=by omega
   subst u;have E:=Zz2 h o _ hl.1;have m:((x.toNat:Nat):Int)=x:=x37_;have:=s x.toNat (by rw [m];exact hl)
   rwa [m] at this
 refine ⟨v r x37_,?_⟩;have A:∀ x y,y∈adj2.getD x []→y<(c.length:Int):=fun x y d=>by
  by_cases hl:Lev ms c r (x:Int)
  ·rcases q.on x hl with e | ⟨e,_,_⟩
   ·rw [e,s x hl] at d;cases d
   ·rw [e] at d;cases d
  ·rw [q.off x hl] at d
   by_cases f:∃ k,k<r∧Lev ms c k (x:Int)
   ·obtain ⟨k,f,hl⟩:=f
    rw [p.on x k f hl] at d;exact ((Ve4 h k (x:Int)).2 y d).2
   ·rw [p.off x fun k w hl=>f ⟨k,w,hl⟩] at d
    cases d
 have:∀ k y,y<(c.length:Int)→¬ Near adj2 (endsU ms c.length) k y:=by
  intro k
  induction k with
  | zero=>exact fun y d g=>by obtain ⟨k,_,e⟩:=mem_ends.1 g;omega
  | succ k ih =>
   rintro y d (g | ⟨z,C,g⟩)
   ·exact ih y d g
   ·exact ih z (A _ z C) g
 exact fun k y d=>this k y ((J2_ h.n64 (-1)).2 y d).2
end
theorem Yn6 (h:Cls ms c) {r:Nat} (H:(lev ms c (r+1)).length=(lev ms c r).length) (B:∀ k,k<r+1→D9_ ms c k):comeU ms c=lev ms c r∧StopU ms c:=by
 have hd:=A8_ h;have hs:=M8_ h;have e:lev ms c (r+1)=lev ms c r:=by
  have w:=H9_ h r;have g:=H9_ h (r+1);refine g.1.ext w.1 fun y=>⟨fun d=>?_,fun d=>Zz0 h (Nat.le_succ r) d⟩;refine Classical.byContradiction fun o=>?_;obtain ⟨j,rfl⟩:∃ j:Nat,y=(j:Int):=⟨y.toNat,by have:=g.2 y d;omega⟩;have I:=g.2 _ d;have A:=Yk1 (p:=memP (lev ms c r)) (q:=memP (lev ms c (r+1))) (n:=(adjU ms c).length) (fun v _ C=>memP_iff.2 (Zz0 h (Nat.le_succ r) (memP_iff.1 C))) ⟨j,x37_,by rw [← Bool.not_eq_true,memP_iff];exact o,memP_iff.2 d⟩;rw [← Y8_ w,← Y8_ g] at A;omega
 have u:∀ m,lev ms c (r+m)=lev ms c r:=Zq9 e;have x:comeU ms c=lev ms c r:=by
  have f:=Xk9 hd hs r;rw [show (adjU ms c).length+r=r+(adjU ms c).length by omega] at f;have s:=u (adjU ms c).length;unfold lev at s;unfold comeU lev;rw [← f,s]
 refine ⟨x,fun y d k o=>?_⟩;obtain ⟨z,D,F⟩:=(Zf7 (dst:=endsU ms c.length) hd k _ hs).2 ⟨y,d,o⟩;have E:z∈lev ms c r:=by
  have f:z∈lev ms c (r+k):=Zz0 h x37_ D
  rwa [u k] at f
 have:=Zz2 h (r:=r) (fun k J=>B k x37_) z E;obtain ⟨K,_,G⟩:=mem_ends.1 F;omega
end
end Go.Proofs.YtheeajnkiniopaaGreatDoor.Wp
