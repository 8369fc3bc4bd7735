/- Several matroids together, plain: classes changed along a shortest way are independent again, and one element more has a class; where there is no way, what is come to bounds them. Nothing of the program here. -/
import Derived.Test.YtheeajnkiniopaaGreatDoorVReach
import Derived.Test.YtheeajnkiniopaaGreatDoorX0A
namespace Go.Proofs.YtheeajnkiniopaaGreatDoor.Wp
open Go Go.RowKit
def Z3_ (c:List Int) (k:Int):List Int:=(upTo c.length).filter fun x=>c.getD x.toNat 0==k
def mAt (ms:List Mat) (k:Int):Mat:=ms.getD k.toNat default
noncomputable def J2_ (ms:List Mat) (c:List Int) (x y:Int):Bool:=decide (0≤c.getD y.toNat 0) && (!(c.getD y.toNat 0==c.getD x.toNat 0) && indT (mAt ms (c.getD y.toNat 0)) (Y1_ (Z8_ (Z3_ c (c.getD y.toNat 0)) [y]) [x]))
noncomputable def roomB (ms:List Mat) (c:List Int) (x k:Int):Bool:=!(c.getD x.toNat 0==k) && indT (mAt ms k) (Y1_ (Z3_ c k) [x])
noncomputable def arcsU (ms:List Mat) (c:List Int) (x:Int):List Int:=((upTo c.length).filter fun y=>J2_ ms c x y) ++ ((upTo ms.length).filter fun k=>roomB ms c x k).map fun k=>(c.length:Int)+k
noncomputable def adjU (ms:List Mat) (c:List Int):List (List Int):=(upTo c.length).map (arcsU ms c) ++ List.replicate ms.length []
def endsU (ms:List Mat) (n:Nat):List Int:=(upTo ms.length).map fun k=>(n:Int)+k
structure Cls (ms:List Mat) (c:List Int):Prop where
 many:0<ms.length∧ms.length≤8
 may:∀ k,k<ms.length→chk (ms.getD k default)=0∧nN (ms.getD k default)=c.length
 rng:∀ x,x<c.length→-1≤c.getD x 0∧c.getD x 0<(ms.length:Int)
 ind:∀ k:Nat,k<ms.length→indT (ms.getD k default) (Z3_ c (k:Int))=true
section
variable {ms:List Mat} {c:List Int}
theorem mem_class {k x:Int}:x∈Z3_ c k↔(0≤x∧x<(c.length:Int))∧c.getD x.toNat 0=k:=by
 unfold Z3_;rw [List.mem_filter,mem_upTo,beq_iff_eq]
theorem class_at {k:Int} {i:Nat}:memP (Z3_ c k) i=true↔i<c.length∧c.getD i 0=k:=by
 rw [memP_iff,mem_class,Int.toNat_natCast];exact ⟨fun h=>⟨q40_,h.2⟩,fun h=>⟨⟨q40_,q40_⟩,h.2⟩⟩
theorem G9_ {k:Nat} (h:k≤64):IsSet (upTo k):=by
 refine ⟨?_,fun x c=>by rw [mem_upTo] at c;exact ⟨q40_,q40_⟩⟩;unfold upTo;exact List.pairwise_map.2 (List.pairwise_lt_range.imp fun h=>by show (_:Int)<_;exact Int.ofNat_lt.2 h)
theorem Q1_ (f:c.length≤64) (k:Int):InN c.length (Z3_ c k):=by
 have e:=G9_ f;refine ⟨⟨e.1.filter _,fun x d=>e.2 x (List.mem_filter.1 d).1⟩,fun x d=>(mem_class.1 d).1⟩
theorem Cls.n64 (h:Cls ms c):c.length≤64:=by
 have d:=h.may 0 h.many.1;have e:=(Y0_ d.1).2;omega
theorem Cls.cnt_class (h:Cls ms c) {k:Nat} (d:k<ms.length):rkP 4 (ms.getD k default) (memP (Z3_ c (k:Int)))=cnt (memP (Z3_ c (k:Int))) c.length:=by
 have e:=Vl2 (h.ind k d)
 rwa [(h.may k d).2] at e
theorem S9_ (k:Nat):mAt ms (k:Int)=ms.getD k default:=by unfold mAt;rw [Int.toNat_natCast]
theorem Ze6 (h:Cls ms c) {x y:Nat} (s:x<c.length) (o:y<c.length):J2_ ms c (x:Int) (y:Int)=true↔∃ k:Nat,k<ms.length∧c.getD y 0=(k:Int)∧c.getD x 0≠(k:Int) ∧
  rkP 4 (ms.getD k default) (insP (remP (memP (Z3_ c (k:Int))) y) x)=cnt (memP (Z3_ c (k:Int))) c.length:=by
 unfold J2_;rw [Int.toNat_natCast,Int.toNat_natCast,Bool.and_eq_true,Bool.and_eq_true,decide_eq_true_iff,Bool.not_eq_true',beq_eq_false_iff_ne];have u:=h.rng y o;constructor
 ·rintro ⟨v,f,m⟩
  obtain ⟨k,g⟩:∃ k:Nat,c.getD y 0=(k:Int):=⟨(c.getD y 0).toNat,q40_⟩;rw [g] at f m u;have j:k<ms.length:=q40_;rw [S9_] at m;have d:=h.may k j;have q:=Q1_ h.n64 (k:Int);have p:=Yx2 (h.ind k j) (x:=x) (y:=y) (by rw [d.2];exact s) (by rw [d.2];exact o);rw [d.2] at p;refine ⟨k,j,g,fun e=>f e.symm,(p.1 ?_).2.2⟩;unfold Zi8;rw [S8_ q.1,S8_ q.1,class_at.2 ⟨o,g⟩,m,show memP (Z3_ c (k:Int)) x=false from by rw [← Bool.not_eq_true,class_at];exact fun e=>f e.2.symm];rfl
 ·rintro ⟨k,j,g,f,m⟩
  have d:=h.may k j;have q:=Q1_ h.n64 (k:Int);have p:=Yx2 (h.ind k j) (x:=x) (y:=y) (by rw [d.2];exact s) (by rw [d.2];exact o);rw [d.2] at p;have r:=p.2 ⟨class_at.2 ⟨o,g⟩,by rw [← Bool.not_eq_true,class_at];exact fun e=>f e.2,m⟩;unfold Zi8 at r;rw [Bool.and_eq_true,Bool.and_eq_true] at r;rw [g,S9_];exact ⟨q40_,fun e=>f e.symm,r.2.2⟩
theorem Zp4 (h:Cls ms c) {x k:Nat} (q:x<c.length) (m:k<ms.length):roomB ms c (x:Int) (k:Int)=true↔c.getD x 0≠(k:Int) ∧
  rkP 4 (ms.getD k default) (insP (memP (Z3_ c (k:Int))) x)=cnt (memP (Z3_ c (k:Int))) c.length+1:=by
 have o:=h.may k m;have p:=Q1_ h.n64 (k:Int);have g:=Vl1 (h.ind k m) (x:=x);rw [o.2] at g;unfold roomB;rw [Int.toNat_natCast,Bool.and_eq_true,Bool.not_eq_true',beq_eq_false_iff_ne,S9_];constructor
 ·rintro ⟨d,f⟩
  refine ⟨d,(g.1 ?_).2.2⟩;unfold addG;rw [List.mem_filter,mem_upTo,S8_ p.1,o.2,f,show memP (Z3_ c (k:Int)) x=false from by rw [← Bool.not_eq_true,class_at];exact fun e=>d e.2];exact ⟨⟨q40_,q40_⟩,rfl⟩
 ·rintro ⟨d,f⟩
  have j:=g.2 ⟨q,by rw [← Bool.not_eq_true,class_at];exact fun e=>d e.2,f⟩;unfold addG at j;rw [List.mem_filter,Bool.and_eq_true] at j;exact ⟨d,j.2.2⟩
theorem D8_:(adjU ms c).length=c.length+ms.length:=by
 unfold adjU;rw [List.length_append,List.length_map,Y9_,List.length_replicate]
theorem Ze7 {x:Nat} (d:x<c.length):(adjU ms c).getD x []=arcsU ms c (x:Int):=by
 unfold adjU;rw [List.getD_eq_getElem?_getD,List.getElem?_append_left (by rw [List.length_map,Y9_];exact d)];unfold upTo;simp [d]
theorem Xh6 {x:Nat} (d:c.length≤x):(adjU ms c).getD x []=[]:=by
 unfold adjU;rw [List.getD_eq_getElem?_getD,List.getElem?_append_right (by rw [List.length_map,Y9_];exact d),List.getElem?_replicate];split<;>rfl
theorem Zp5 {x:Nat} {z:Int} (d:z∈(adjU ms c).getD x []):x<c.length∧((∃ y:Nat,y<c.length∧z=(y:Int)∧J2_ ms c (x:Int) (y:Int)=true)∨∃ k:Nat,k<ms.length∧z=(c.length:Int)+(k:Int)∧roomB ms c (x:Int) (k:Int)=true):=by
 by_cases g:x<c.length
 ·refine ⟨g,?_⟩
  rw [Ze7 g] at d;unfold arcsU at d;rw [List.mem_append,List.mem_filter,mem_upTo,List.mem_map] at d;rcases d with ⟨j,h⟩ | ⟨k,f,rfl⟩
  ·have e:((z.toNat:Nat):Int)=z:=by omega
   exact .inl ⟨z.toNat,q40_,e.symm,by rw [e];exact h⟩
  ·rw [List.mem_filter,mem_upTo] at f
   have e:((k.toNat:Nat):Int)=k:=q40_;exact .inr ⟨k.toNat,q40_,by rw [e],by rw [e];exact f.2⟩
 ·rw [Xh6 q40_] at d
  cases d
theorem Zp6 {x y:Nat} (f:x<c.length) (g:y<c.length):(y:Int)∈(adjU ms c).getD x []↔J2_ ms c (x:Int) (y:Int)=true:=by
 constructor
 ·intro h
  rcases (Zp5 h).2 with ⟨j,_,e,d⟩ | ⟨k,_,e,_⟩
  ·rw [e];exact d
  ·omega
 ·intro h
  rw [Ze7 f];unfold arcsU;rw [List.mem_append,List.mem_filter,mem_upTo];exact .inl ⟨⟨q40_,q40_⟩,h⟩
theorem Yf4 {x k:Nat} (f:x<c.length) (j:k<ms.length):(c.length:Int)+(k:Int)∈(adjU ms c).getD x []↔roomB ms c (x:Int) (k:Int)=true:=by
 constructor
 ·intro h
  rcases (Zp5 h).2 with ⟨o,m,e,d⟩ | ⟨g,_,e,d⟩
  ·omega
  ·rw [show (k:Int)=(g:Int) by omega];exact d
 ·intro h
  rw [Ze7 f];unfold arcsU;rw [List.mem_append,List.mem_map];exact .inr ⟨k,List.mem_filter.2 ⟨mem_upTo.2 ⟨q40_,q40_⟩,h⟩,rfl⟩
theorem mem_ends {n:Nat} {z:Int}:z∈endsU ms n↔∃ k:Nat,k<ms.length∧z=(n:Int)+(k:Int):=by
 unfold endsU;rw [List.mem_map];constructor
 ·rintro ⟨k,c,rfl⟩
  rw [mem_upTo] at c;exact ⟨k.toNat,q40_,q40_⟩
 ·rintro ⟨k,c,rfl⟩
  exact ⟨k,mem_upTo.2 ⟨q40_,q40_⟩,rfl⟩
structure WayU (ms:List Mat) (c l:List Int) (p:Nat→Nat) (m K:Nat):Prop where
 len:l.length=m+2
 el:∀ i,i≤m→p i<c.length∧l.getD i 0=(p i:Int)
 pt:l.getD (m+1) 0=(c.length:Int)+(K:Int)
 hK:K<ms.length
 inj:∀ i j,i≤m→j≤m→p i=p j→i=j
 first:c.getD (p 0) 0=-1
 arc:∀ i,i<m→J2_ ms c (p i) (p (i+1))=true
 last:roomB ms c (p m) K=true
 no:∀ i j,i+2≤j→j≤m→¬ J2_ ms c (p i) (p j)=true
 noK:∀ i,i<m→¬ roomB ms c (p i) K=true
theorem Yo0 {d:Nat} {l:List Int} (f:Greedy (adjU ms c) (endsU ms c.length) (Z3_ c (-1)) d l):∃ p m K,WayU ms c l p m K:=by
 have A:=f.length;have w:∀ i,i<d→0≤l.getD i 0∧l.getD i 0<(c.length:Int):=by
  intro i
  induction i with
  | zero=>intro _;exact (mem_class.1 f.first).1
  | succ i ih =>
   intro q;have B:=ih q40_;have o:=f.arcs i q40_;rcases (Zp5 o).2 with ⟨y,E,e,_⟩ | ⟨k,z,e,_⟩
   ·omega
   ·exact absurd (mem_ends.2 ⟨k,z,e⟩) (f.notLast (i+1) q)
 obtain ⟨K,u,s⟩:=mem_ends.1 f.last;have D:d≠0:=fun e=>by
  have o:=(mem_class.1 f.first).1;subst e;omega
 obtain ⟨m,rfl⟩:∃ m,d=m+1:=⟨d - 1,q40_⟩;have g:∀ i,i≤m→(l.getD i 0).toNat<c.length∧l.getD i 0=(((l.getD i 0).toNat:Nat):Int):=fun i q=>by have:=w i q40_;omega
 have v:∀ i,i+1<l.length→l.getD (i+1) 0∈(adjU ms c).getD (l.getD i 0).toNat []:=f.arcs;refine ⟨fun i=>(l.getD i 0).toNat,m,K,A,g,s,u,fun i j q r e=>?_,?_,fun i q=>?_,?_,fun i j x r e=>?_,fun i q e=>?_⟩
 ·have o:=(g i q).2
  have C:=(g j r).2;have e:(l.getD i 0).toNat=(l.getD j 0).toNat:=e;rcases Nat.lt_trichotomy i j with h | h | h
  ·exact absurd q40_ (f.inj i j h q40_)
  ·exact h
  ·exact absurd q40_ (f.inj j i h q40_)
 ·exact (mem_class.1 f.first).2
 ·have o:=v i q40_
  rw [(g (i+1) q40_).2] at o;exact (Zp6 (g i q40_).1 (g (i+1) q40_).1).1 o
 ·have o:=v m q40_
  rw [s] at o;exact (Yf4 (g m (Nat.le_refl _)).1 u).1 o
 ·refine f.straight i j x q40_ ?_
  rw [(g j r).2];exact (Zp6 (g i q40_).1 (g j r).1).2 e
 ·refine f.straight i (m+1) q40_ q40_ ?_
  rw [s];exact (Yf4 (g i q40_).1 u).2 e
def nextU (c:List Int) (y:Int):Int:=if y<(c.length:Int) then c.getD y.toNat 0 else y - (c.length:Int)
def V9_ (c:List Int):List Int→List Int→List Int
 | x :: y :: l,out=>V9_ c (y :: l) (out.set x.toNat (nextU c y))
 | _,out=>out
theorem I8_ (c:List Int):∀ (l out:List Int),(V9_ c l out).length=out.length
 | [],_=>rfl
 | [_],_=>rfl
 | x :: y :: l,out=>by rw [V9_,I8_ c (y :: l),List.length_set]
theorem I9_ (c:List Int):∀ (l out:List Int),(∀ i j,i<j→j+1<l.length→(l.getD i 0).toNat≠(l.getD j 0).toNat)→(∀ i,i+1<l.length→(l.getD i 0).toNat<out.length)→∀ x:Nat,
  (∀ j,j+1<l.length→(l.getD j 0).toNat=x→(V9_ c l out).getD x 0=nextU c (l.getD (j+1) 0))∧((∀ j,j+1<l.length→(l.getD j 0).toNat≠x)→(V9_ c l out).getD x 0=out.getD x 0)
 | [],_,_,_,x=>⟨fun j hj=>absurd hj z40_,fun _=>rfl⟩
 | [_],_,_,_,x=>⟨fun j hj=>absurd hj z40_,fun _=>rfl⟩
 | a :: b :: l,out,hd,hb,x=>by
  have d:=I9_ c (b :: l) (out.set a.toNat (nextU c b)) (fun i j k hj=>by have:=hd (i+1) (j+1) q40_ x49_;simpa using this) (fun i hi=>by have:=hb (i+1) y48_;rw [List.length_set];simpa using this) x;have ha:a.toNat<out.length:=by have:=hb 0 z40_;simpa using this
  rw [V9_];constructor
  ·intro j hj e
   cases j with
   | zero =>
    have e:a.toNat=x:=by simpa using e
    rw [d.2 fun j h g=>hd 0 (j+1) q40_ (by simpa using h) (by simpa [e] using g.symm)];rw [List.getD_eq_getElem?_getD,← e,List.getElem?_set_self ha];rfl
   | succ j =>
    rw [List.getD_cons_succ];exact d.1 j x49_ (by simpa using e)
  ·intro f
   rw [d.2 fun j hj e=>f (j+1) x49_ (by simpa using e)];rw [List.getD_eq_getElem?_getD,List.getElem?_set_ne (by have:=f 0 z40_;simpa using this),← List.getD_eq_getElem?_getD]
section
variable {l:List Int} {p:Nat→Nat} {m K:Nat}
theorem WayU.at_next (hw:WayU ms c l p m K) {j:Nat} (r:j<m):(V9_ c l c).getD (p j) 0=c.getD (p (j+1)) 0:=by
 have h:=I9_ c l c (fun i j q s e=>by
  have d:=(hw.el i y42_).2;have k:=(hw.el j y42_).2;rw [d,k,Int.toNat_natCast,Int.toNat_natCast] at e;have:=hw.inj i j y42_ y42_ e;omega) (fun i o=>by
  have d:=hw.el i y42_;rw [d.2,Int.toNat_natCast];exact d.1) (p j)
 have f:=hw.el j q40_;have g:=hw.el (j+1) q40_;rw [h.1 j y42_ (by rw [f.2,Int.toNat_natCast]),g.2];unfold nextU;rw [if_pos q40_,Int.toNat_natCast]
theorem WayU.at_last (hw:WayU ms c l p m K):(V9_ c l c).getD (p m) 0=(K:Int):=by
 have h:=I9_ c l c (fun i j o q e=>by
  have d:=(hw.el i y42_).2;have g:=(hw.el j y42_).2;rw [d,g,Int.toNat_natCast,Int.toNat_natCast] at e;have:=hw.inj i j y42_ y42_ e;omega) (fun i k=>by
  have d:=hw.el i y42_;rw [d.2,Int.toNat_natCast];exact d.1) (p m)
 have f:=hw.el m (Nat.le_refl _);rw [h.1 m y42_ (by rw [f.2,Int.toNat_natCast]),hw.pt];unfold nextU;rw [if_neg q40_];omega
theorem WayU.at_off (hw:WayU ms c l p m K) {x:Nat} (g:∀ i,i≤m→p i≠x):(V9_ c l c).getD x 0=c.getD x 0:=by
 have h:=I9_ c l c (fun i j o r e=>by
  have d:=(hw.el i y42_).2;have f:=(hw.el j y42_).2;rw [d,f,Int.toNat_natCast,Int.toNat_natCast] at e;have:=hw.inj i j y42_ y42_ e;omega) (fun i k=>by
  have d:=hw.el i y42_;rw [d.2,Int.toNat_natCast];exact d.1) x
 refine h.2 fun j q e=>?_;have d:=(hw.el j y42_).2;rw [d,Int.toNat_natCast] at e;exact g j y42_ e
theorem WayU.has (h:Cls ms c) (d:WayU ms c l p m K) {j:Nat} (e:j<m):∃ k:Nat,k<ms.length∧c.getD (p (j+1)) 0=(k:Int)∧c.getD (p j) 0≠(k:Int)∧rkP 4 (ms.getD k default) (insP (remP (memP (Z3_ c (k:Int))) (p (j+1))) (p j))=cnt (memP (Z3_ c (k:Int))) c.length :=
 (Ze6 h (d.el j q40_).1 (d.el (j+1) q40_).1).1 (d.arc j e)
def Yx7 (c:List Int) (p:Nat→Nat) (m:Nat) (k:Int):List Nat:=(List.range m).reverse.filter fun j=>c.getD (p (j+1)) 0==k
theorem mem_steps {k:Int} {j:Nat}:j∈Yx7 c p m k↔j<m∧c.getD (p (j+1)) 0=k:=by
 unfold Yx7;rw [List.mem_filter,List.mem_reverse,List.mem_range,beq_iff_eq]
theorem Zy4 (k:Int):(Yx7 c p m k).Pairwise fun a b=>b<a:=by
 unfold Yx7;exact (List.pairwise_reverse.2 List.pairwise_lt_range).filter _
def exU (c:List Int) (p:Nat→Nat) (m:Nat) (k:Int):List (Nat × Nat):=(Yx7 c p m k).map fun j=>(p (j+1),p j)
theorem mem_ex {k:Int} {q:Nat × Nat}:q∈exU c p m k↔∃ j,(j<m∧c.getD (p (j+1)) 0=k)∧q=(p (j+1),p j):=by
 unfold exU;rw [List.mem_map];exact ⟨fun ⟨j,d,e⟩=>⟨j,mem_steps.1 d,e.symm⟩,fun ⟨j,d,e⟩=>⟨j,mem_steps.2 d,e.symm⟩⟩
theorem Vl3 {k:Int} {x:Nat}:x∈(exU c p m k).map (·.1)↔∃ j,(j<m∧c.getD (p (j+1)) 0=k)∧x=p (j+1):=x14_
theorem mem_snd {k:Int} {x:Nat}:x∈(exU c p m k).map (·.2)↔∃ j,(j<m∧c.getD (p (j+1)) 0=k)∧x=p j:=x14_
theorem Xh7 (h:Cls ms c) (hw:WayU ms c l p m K) {k:Nat} (o:k<ms.length):(∀ q∈exU c p m k,(q.1<c.length∧q.2<c.length)∧memP (Z3_ c (k:Int)) q.1=true∧memP (Z3_ c (k:Int)) q.2=false) ∧
  ((exU c p m k).map (·.1)).Nodup∧((exU c p m k).map (·.2)).Nodup∧(∀ q∈exU c p m k,rkP 4 (ms.getD k default) (insP (remP (memP (Z3_ c (k:Int))) q.1) q.2)=cnt (memP (Z3_ c (k:Int))) c.length) ∧
  ((exU c p m k).Pairwise fun a b=>rkP 4 (ms.getD k default) (insP (remP (memP (Z3_ c (k:Int))) a.1) b.2)<cnt (memP (Z3_ c (k:Int))) c.length):=by
 have v:=rk_of (h.may k o).1;rw [(h.may k o).2] at v;have u:∀ j,j<m→c.getD (p (j+1)) 0=(k:Int)→memP (Z3_ c (k:Int)) (p j)=false:=fun j d e=>by
  obtain ⟨w,_,f,g,_⟩:=hw.has h d;rw [← Bool.not_eq_true,class_at];rintro ⟨_,h2⟩;rw [e] at f;exact g (h2.trans f)
 refine ⟨fun q r=>?_,?_,?_,fun q r=>?_,?_⟩
 ·obtain ⟨j,⟨d,e⟩,rfl⟩:=mem_ex.1 r
  exact ⟨⟨(hw.el (j+1) q40_).1,(hw.el j q40_).1⟩,class_at.2 ⟨(hw.el (j+1) q40_).1,e⟩,u j d e⟩
 ·exact y12_
 ·exact y12_
 ·obtain ⟨j,⟨d,e⟩,rfl⟩:=mem_ex.1 r
  obtain ⟨w,_,f,_,z⟩:=hw.has h d;rw [e] at f;have:k=w:=q40_;subst this;exact z
 ·unfold exU
  refine List.pairwise_map.2 ((Zy4 (k:Int)).imp_of_mem fun {x y} hx hy hlt=>?_);have h1:=mem_steps.1 hx;have h2:=mem_steps.1 hy;have A:memP (Z3_ c (k:Int)) (p (x+1))=true:=class_at.2 ⟨(hw.el (x+1) q40_).1,h1.2⟩;have s:=u y h2.1 h2.2;have B:=v.le_cnt (insP (remP (memP (Z3_ c (k:Int))) (p (x+1))) (p y));have c1:=M0_ (hw.el (x+1) q40_).1 A;have c2:=A5_ (hw.el y q40_).1 (P:=remP (memP (Z3_ c (k:Int))) (p (x+1))) (by unfold remP;rw [s];rfl);show rkP 4 (ms.getD k default) (insP (remP (memP (Z3_ c (k:Int))) (p (x+1))) (p y))<_;refine Nat.lt_of_le_of_ne q40_ fun e=>hw.no y (x+1) q40_ q40_ ?_;refine (Ze6 h (hw.el y q40_).1 (hw.el (x+1) q40_).1).2 ⟨k,o,h1.2,fun g=>?_,e⟩;rw [class_at.2 ⟨(hw.el y q40_).1,g⟩] at s;cases s
theorem ex_is (h:Cls ms c) (g:WayU ms c l p m K) {k:Nat} (r:k<ms.length) {i:Nat} (o:i<c.length) :
  (exch (memP (Z3_ c (k:Int))) (exU c p m k) i=true↔(∃ j,j<m∧p j=i∧c.getD (p (j+1)) 0=(k:Int))∨((∀ j,j≤m→p j≠i)∧c.getD i 0=(k:Int))):=by
 rw [Zj9 (fun q s=>((Xh7 h g r).1 q s).2),Vl3,mem_snd,class_at];constructor
 ·rintro (⟨⟨_,d⟩,f⟩ | ⟨j,⟨d,f⟩,h3⟩)
  ·refine .inr ⟨fun j u e=>?_,d⟩
   cases j with
   | zero =>
    have:=g.first;rw [e,d] at this;omega
   | succ j=>exact f ⟨j,⟨q40_,by rw [e];exact d⟩,e.symm⟩
  ·exact .inl ⟨j,d,h3.symm,f⟩
 ·rintro (⟨j,d,f,h3⟩ | ⟨d,f⟩)
  ·exact .inr ⟨j,⟨d,h3⟩,f.symm⟩
  ·exact .inl ⟨⟨o,f⟩,fun ⟨j,⟨h3,_⟩,e⟩=>d (j+1) q40_ e.symm⟩
theorem Ze8 {q:Mat} {s:List Int} {n:Nat} (hc:chk q=0) (d:nN q=n) (hs:InN n s) {P:Nat→Bool} (c:∀ i,i<n→memP s i=P i) (e:rkP 4 q P=cnt P n):indT q s=true:=by
 subst d;rw [M2_ (mayI_iff.2 ⟨hc,hs⟩),X3_ hs,(rk_of hc).ext c,(C2_ (nN q)).ext c];exact e
theorem Xh8 (h:Cls ms c) (hw:WayU ms c l p m K):Cls ms (V9_ c l c)∧(Z3_ (V9_ c l c) (-1)).length+1=(Z3_ c (-1)).length:=by
 have f:=I8_ c l c;have s:=h.n64;have R:=hw.hK;have r:∀ i:Nat,(∃ j,j<m∧p j=i)∨p m=i∨∀ j,j≤m→p j≠i:=fun i=>by
  by_cases h1:∃ j,j≤m∧p j=i
  ·obtain ⟨j,hj,e⟩:=h1
   by_cases h2:j=m
   ·subst h2;exact .inr (.inl e)
   ·exact .inl ⟨j,q40_,e⟩
  ·exact .inr (.inr fun j hj e=>h1 ⟨j,hj,e⟩)
 refine ⟨⟨h.many,fun k d=>by rw [f];exact h.may k d,fun x E=>?_,fun k d=>?_⟩,?_⟩
 ·rw [f] at E
  rcases r x with ⟨j,hj,rfl⟩ | rfl | h1
  ·rw [hw.at_next hj]
   exact h.rng _ (hw.el (j+1) q40_).1
  ·rw [hw.at_last]
   omega
  ·rw [hw.at_off h1]
   exact h.rng x E
 ·have g:=h.may k d
  have u:=Q1_ (c:=V9_ c l c) (by rw [f];exact s) (k:Int);rw [f] at u;have o:=rk_of g.1;rw [g.2] at o;obtain ⟨y,G,H,I,J⟩:=Xh7 h hw d;by_cases e:k=K
  ·subst e
   have D:=(Zp4 h (hw.el m (Nat.le_refl _)).1 d).1 hw.last;have A:=Vx2 o (h.cnt_class d) y G H (fun q C=>by
    obtain ⟨j,⟨hj,e⟩,rfl⟩:=mem_ex.1 C;have S:=o.up' (memP (Z3_ c (k:Int))) (hw.el j q40_).1;have T:=o.one' (memP (Z3_ c (k:Int))) (hw.el j q40_).1;have U:=h.cnt_class d;have V:¬ rkP 4 (ms.getD k default) (insP (memP (Z3_ c (k:Int))) (p j))=cnt (memP (Z3_ c (k:Int))) c.length+1:=fun e2=>by
     refine hw.noK j hj ((Zp4 h (hw.el j q40_).1 d).2 ⟨fun N=>?_,e2⟩);have:=((y _ C).2).2;rw [class_at.2 ⟨(hw.el j q40_).1,N⟩] at this;cases this
    show rkP 4 (ms.getD k default) (insP (memP (Z3_ c (k:Int))) (p j))=_;omega) I J (hw.el m (Nat.le_refl _)).1 (by rw [← Bool.not_eq_true,class_at];exact fun e2=>D.1 e2.2) (fun O=>by
    obtain ⟨j,⟨hj,_⟩,e2⟩:=mem_snd.1 O;have:=hw.inj m j (Nat.le_refl _) q40_ e2;omega) D.2
   refine Ze8 g.1 g.2 u (P:=insP (exch (memP (Z3_ c (k:Int))) (exU c p m k)) (p m)) (fun i hi=>?_) (A.1.trans A.2.symm);rw [Bool.eq_iff_iff,class_at,f];rcases r i with ⟨j,hj,rfl⟩ | rfl | h1
   ·rw [hw.at_next hj,X8_ (fun e2=>by have:=hw.inj _ _ q40_ (Nat.le_refl _) e2;omega),ex_is h hw d hi]
    exact y11_
   ·rw [hw.at_last,V0_]
    exact ⟨fun _=>rfl,fun _=>⟨hi,rfl⟩⟩
   ·rw [hw.at_off h1,X8_ (fun e2=>h1 m (Nat.le_refl _) e2.symm),ex_is h hw d hi]
    exact x15_
  ·have B:=Ze1 o (h.cnt_class d) y G H I J
   refine Ze8 g.1 g.2 u (P:=exch (memP (Z3_ c (k:Int))) (exU c p m k)) (fun i hi=>?_) (B.1.trans B.2.symm);rw [Bool.eq_iff_iff,class_at,f,ex_is h hw d hi];rcases r i with ⟨j,hj,rfl⟩ | rfl | h1
   ·rw [hw.at_next hj]
    exact y11_
   ·rw [hw.at_last]
    constructor
    ·intro e2
     have:=e2.2;omega
    ·rintro (⟨j',h2,h3,_⟩ | ⟨h2,_⟩)
     ·have:=hw.inj _ _ q40_ (Nat.le_refl _) h3
      omega
     ·exact absurd rfl (h2 m (Nat.le_refl _))
   ·rw [hw.at_off h1]
    exact x15_
 ·have Q:=Q1_ s (-1)
  have F:=Q1_ (c:=V9_ c l c) (by rw [f];exact s) (-1);rw [f] at F;rw [X3_ Q,X3_ F];have z:=(hw.el 0 (Nat.zero_le _)).1;have L:memP (Z3_ c (-1)) (p 0)=true:=class_at.2 ⟨z,hw.first⟩;rw [← M0_ z L];congr 1;refine (C2_ c.length).ext fun i hi=>?_;unfold remP;rw [Bool.eq_iff_iff,class_at,f,Bool.and_eq_true,class_at,Bool.not_eq_true',beq_eq_false_iff_ne];have v:∀ j,j<m→c.getD (p (j+1)) 0≠-1:=fun j hj e=>by
   obtain ⟨k,_,M,_⟩:=hw.has h hj;rw [e] at M;omega
  rcases r i with ⟨j,hj,rfl⟩ | rfl | h1
  ·rw [hw.at_next hj]
   constructor
   ·exact fun e=>absurd e.2 (v j hj)
   ·rintro ⟨⟨_,h2⟩,h3⟩
    cases j with
    | zero=>exact absurd rfl h3
    | succ j=>exact absurd h2 (v j q40_)
  ·rw [hw.at_last]
   constructor
   ·intro e
    have:=e.2;omega
   ·rintro ⟨⟨_,h2⟩,h3⟩
    rcases Nat.eq_zero_or_pos m with rfl | g
    ·exact absurd rfl h3
    ·obtain ⟨w,rfl⟩:∃ w,m=w+1:=⟨m - 1,q40_⟩
     exact absurd h2 (v w q40_)
  ·rw [hw.at_off h1]
   exact ⟨fun e=>⟨e,fun e2=>h1 0 (Nat.zero_le _) e2.symm⟩,fun e=>e.1⟩
end
end
end Go.Proofs.YtheeajnkiniopaaGreatDoor.Wp
