/- Several matroids together, plain: classes changed along a shortest way are independent again, and one element more has a class; where there is no way, what is come to bounds them. Nothing of the program here. -/
import Derived.Test.YtigobiacbficaaaGreatDoorVReach
import Derived.Test.YtigobiacbficaaaGreatDoorX0A
namespace Go.Proofs.YtigobiacbficaaaGreatDoor.Wp
open Go Go.RowKit
def Z3_ (c:List Int) (k:Int):List Int:=(upTo c.length).filter fun x=>c.getD x.toNat 0==k
def mAt (ms:List Mat) (k:Int):Mat:=ms.getD k.toNat default
noncomputable def J3_ (ms:List Mat) (c:List Int) (x y:Int):Bool:=decide (0≤c.getD y.toNat 0) && (!(c.getD y.toNat 0==c.getD x.toNat 0) && indT (mAt ms (c.getD y.toNat 0)) (Y1_ (Z8_ (Z3_ c (c.getD y.toNat 0)) [y]) [x]))
noncomputable def roomB (ms:List Mat) (c:List Int) (x k:Int):Bool:=!(c.getD x.toNat 0==k) && indT (mAt ms k) (Y1_ (Z3_ c k) [x])
noncomputable def arcsU (ms:List Mat) (c:List Int) (x:Int):List Int:=((upTo c.length).filter fun y=>J3_ ms c x y) ++ ((upTo ms.length).filter fun k=>roomB ms c x k).map fun k=>(c.length:Int)+k
noncomputable def adjU (ms:List Mat) (c:List Int):List (List Int):=(upTo c.length).map (arcsU ms c) ++ List.replicate ms.length []
def endsU (ms:List Mat) (n:Nat):List Int:=(upTo ms.length).map fun k=>(n:Int)+k
structure Cls (ms:List Mat) (c:List Int):Prop where
 many:0<ms.length∧ms.length≤8
 may:∀ k,k<ms.length→chk (ms.getD k default)=0∧nN (ms.getD k default)=c.length
 rng:∀ x,x<c.length→-1≤c.getD x 0∧c.getD x 0<(ms.length:Int)
 ind:∀ k:Nat,k<ms.length→indT (ms.getD k default) (Z3_ c (k:Int))=true
section
variable {ms:List Mat} {c:List Int}
theorem mem_class {k x:Int}:x∈Z3_ c k↔(0≤x∧x<(c.length:Int))∧c.getD x.toNat 0=k:=by
 unfold Z3_;rw [List.mem_filter,mem_upTo,beq_iff_eq]
theorem class_at {k:Int} {i:Nat}:memP (Z3_ c k) i=true↔i<c.length∧c.getD i 0=k:=by
 rw [memP_iff,mem_class,Int.toNat_natCast];exact ⟨fun h=>⟨y40_,h.2⟩,fun h=>⟨⟨y40_,y40_⟩,h.2⟩⟩
theorem H2_ {k:Nat} (h:k≤64):IsSet (upTo k):=by
 refine ⟨?_,fun x c=>by rw [mem_upTo] at c;exact ⟨y40_,y40_⟩⟩;unfold upTo;exact List.pairwise_map.2 (List.pairwise_lt_range.imp fun h=>by show (_:Int)<_;exact Int.ofNat_lt.2 h)
theorem J4_ (f:c.length≤64) (k:Int):InN c.length (Z3_ c k):=by
 have e:=H2_ f;refine ⟨⟨e.1.filter _,fun x d=>e.2 x (List.mem_filter.1 d).1⟩,fun x d=>(mem_class.1 d).1⟩
theorem Cls.n64 (h:Cls ms c):c.length≤64:=by
 have d:=h.may 0 h.many.1;have h2:=(Y0_ d.1).2;omega
theorem Cls.cnt_class (h:Cls ms c) {k:Nat} (d:k<ms.length):rkP 4 (ms.getD k default) (memP (Z3_ c (k:Int)))=cnt (memP (Z3_ c (k:Int))) c.length:=by
 have e:=Vs4 (h.ind k d)
 rwa [(h.may k d).2] at e
theorem T5_ (k:Nat):mAt ms (k:Int)=ms.getD k default:=by unfold mAt;rw [Int.toNat_natCast]
theorem Zg1 (h:Cls ms c) {x y:Nat} (r:x<c.length) (m:y<c.length):J3_ ms c (x:Int) (y:Int)=true↔∃ k:Nat,k<ms.length∧c.getD y 0=(k:Int)∧c.getD x 0≠(k:Int) ∧
  rkP 4 (ms.getD k default) (insP (remP (memP (Z3_ c (k:Int))) y) x)=cnt (memP (Z3_ c (k:Int))) c.length:=by
 unfold J3_;rw [Int.toNat_natCast,Int.toNat_natCast,Bool.and_eq_true,Bool.and_eq_true,decide_eq_true_iff,Bool.not_eq_true',beq_eq_false_iff_ne];have s:=h.rng y m;constructor
 ·rintro ⟨u,f,h2⟩
  obtain ⟨k,g⟩:∃ k:Nat,c.getD y 0=(k:Int):=⟨(c.getD y 0).toNat,y40_⟩;rw [g] at f h2 s;have j:k<ms.length:=y40_;rw [T5_] at h2;have d:=h.may k j;have p:=J4_ h.n64 (k:Int);have o:=Yq9 (h.ind k j) (x:=x) (y:=y) (by rw [d.2];exact r) (by rw [d.2];exact m);rw [d.2] at o;refine ⟨k,j,g,fun e=>f e.symm,(o.1 ?_).2.2⟩;unfold Zm1;rw [T4_ p.1,T4_ p.1,class_at.2 ⟨m,g⟩,h2,show memP (Z3_ c (k:Int)) x=false from by rw [← Bool.not_eq_true,class_at];exact fun e=>f e.2.symm];rfl
 ·rintro ⟨k,j,g,f,h2⟩
  have d:=h.may k j;have p:=J4_ h.n64 (k:Int);have o:=Yq9 (h.ind k j) (x:=x) (y:=y) (by rw [d.2];exact r) (by rw [d.2];exact m);rw [d.2] at o;have q:=o.2 ⟨class_at.2 ⟨m,g⟩,by rw [← Bool.not_eq_true,class_at];exact fun e=>f e.2,h2⟩;unfold Zm1 at q;rw [Bool.and_eq_true,Bool.and_eq_true] at q;rw [g,T5_];exact ⟨y40_,fun e=>f e.symm,q.2.2⟩
theorem Zs9 (h:Cls ms c) {x k:Nat} (p:x<c.length) (j:k<ms.length):roomB ms c (x:Int) (k:Int)=true↔c.getD x 0≠(k:Int) ∧
  rkP 4 (ms.getD k default) (insP (memP (Z3_ c (k:Int))) x)=cnt (memP (Z3_ c (k:Int))) c.length+1:=by
 have m:=h.may k j;have o:=J4_ h.n64 (k:Int);have f:=Vs3 (h.ind k j) (x:=x);rw [m.2] at f;unfold roomB;rw [Int.toNat_natCast,Bool.and_eq_true,Bool.not_eq_true',beq_eq_false_iff_ne,T5_];constructor
 ·rintro ⟨d,h2⟩
  refine ⟨d,(f.1 ?_).2.2⟩;unfold addG;rw [List.mem_filter,mem_upTo,T4_ o.1,m.2,h2,show memP (Z3_ c (k:Int)) x=false from by rw [← Bool.not_eq_true,class_at];exact fun e=>d e.2];exact ⟨⟨y40_,y40_⟩,rfl⟩
 ·rintro ⟨d,h2⟩
  have g:=f.2 ⟨p,by rw [← Bool.not_eq_true,class_at];exact fun e=>d e.2,h2⟩;unfold addG at g;rw [List.mem_filter,Bool.and_eq_true] at g;exact ⟨d,g.2.2⟩
theorem E2_:(adjU ms c).length=c.length+ms.length:=by
 unfold adjU;rw [List.length_append,List.length_map,Y8_,List.length_replicate]
theorem Zg2 {x:Nat} (d:x<c.length):(adjU ms c).getD x []=arcsU ms c (x:Int):=by
 unfold adjU;rw [List.getD_eq_getElem?_getD,List.getElem?_append_left (by rw [List.length_map,Y8_];exact d)];unfold upTo;simp [d]
theorem Xn7 {x:Nat} (d:c.length≤x):(adjU ms c).getD x []=[]:=by
 unfold adjU;rw [List.getD_eq_getElem?_getD,List.getElem?_append_right (by rw [List.length_map,Y8_];exact d),List.getElem?_replicate];split<;>rfl
theorem Zt0 {x:Nat} {z:Int} (d:z∈(adjU ms c).getD x []):x<c.length∧((∃ y:Nat,y<c.length∧z=(y:Int)∧J3_ ms c (x:Int) (y:Int)=true)∨∃ k:Nat,k<ms.length∧z=(c.length:Int)+(k:Int)∧roomB ms c (x:Int) (k:Int)=true):=by
 by_cases g:x<c.length
 ·refine ⟨g,?_⟩
  rw [Zg2 g] at d;unfold arcsU at d;rw [List.mem_append,List.mem_filter,mem_upTo,List.mem_map] at d;rcases d with ⟨h,h2⟩ | ⟨k,f,rfl⟩
  ·have e:((z.toNat:Nat):Int)=z:=by omega
   exact .inl ⟨z.toNat,y40_,e.symm,by rw [e];exact h2⟩
  ·rw [List.mem_filter,mem_upTo] at f
   have e:((k.toNat:Nat):Int)=k:=y40_;exact .inr ⟨k.toNat,y40_,by rw [e],by rw [e];exact f.2⟩
 ·rw [Xn7 y40_] at d
  cases d
theorem Zt1 {x y:Nat} (d:x<c.length) (f:y<c.length):(y:Int)∈(adjU ms c).getD x []↔J3_ ms c (x:Int) (y:Int)=true:=by
 constructor
 ·intro h
  rcases (Zt0 h).2 with ⟨g,_,e,h2⟩ | ⟨k,_,e,_⟩
  ·rw [e];exact h2
  ·omega
 ·intro h
  rw [Zg2 d];unfold arcsU;rw [List.mem_append,List.mem_filter,mem_upTo];exact .inl ⟨⟨y40_,y40_⟩,h⟩
theorem Yk1 {x k:Nat} (d:x<c.length) (g:k<ms.length):(c.length:Int)+(k:Int)∈(adjU ms c).getD x []↔roomB ms c (x:Int) (k:Int)=true:=by
 constructor
 ·intro h
  rcases (Zt0 h).2 with ⟨m,j,e,h2⟩ | ⟨f,_,e,h2⟩
  ·omega
  ·rw [show (k:Int)=(f:Int) by omega];exact h2
 ·intro h
  rw [Zg2 d];unfold arcsU;rw [List.mem_append,List.mem_map];exact .inr ⟨k,List.mem_filter.2 ⟨mem_upTo.2 ⟨y40_,y40_⟩,h⟩,rfl⟩
theorem mem_ends {n:Nat} {z:Int}:z∈endsU ms n↔∃ k:Nat,k<ms.length∧z=(n:Int)+(k:Int):=by
 unfold endsU;rw [List.mem_map];constructor
 ·rintro ⟨k,c,rfl⟩
  rw [mem_upTo] at c;exact ⟨k.toNat,y40_,y40_⟩
 ·rintro ⟨k,c,rfl⟩
  exact ⟨k,mem_upTo.2 ⟨y40_,y40_⟩,rfl⟩
structure WayU (ms:List Mat) (c l:List Int) (p:Nat→Nat) (m K:Nat):Prop where
 len:l.length=m+2
 el:∀ i,i≤m→p i<c.length∧l.getD i 0=(p i:Int)
 pt:l.getD (m+1) 0=(c.length:Int)+(K:Int)
 hK:K<ms.length
 inj:∀ i j,i≤m→j≤m→p i=p j→i=j
 first:c.getD (p 0) 0=-1
 arc:∀ i,i<m→J3_ ms c (p i) (p (i+1))=true
 last:roomB ms c (p m) K=true
 no:∀ i j,i+2≤j→j≤m→¬ J3_ ms c (p i) (p j)=true
 noK:∀ i,i<m→¬ roomB ms c (p i) K=true
theorem Yt1 {d:Nat} {l:List Int} (f:Greedy (adjU ms c) (endsU ms c.length) (Z3_ c (-1)) d l):∃ p m K,WayU ms c l p m K:=by
 have A:=f.length;have w:∀ i,i<d→0≤l.getD i 0∧l.getD i 0<(c.length:Int):=by
  intro i
  induction i with
  | zero=>intro _;exact (mem_class.1 f.first).1
  | succ i ih =>
   intro q;have B:=ih y40_;have o:=f.arcs i y40_;rcases (Zt0 o).2 with ⟨y,D,e,_⟩ | ⟨k,z,e,_⟩
   ·omega
   ·exact absurd (mem_ends.2 ⟨k,z,e⟩) (f.notLast (i+1) q)
 obtain ⟨K,u,s⟩:=mem_ends.1 f.last;have C:d≠0:=fun e=>by
  have o:=(mem_class.1 f.first).1;subst e;omega
 obtain ⟨m,rfl⟩:∃ m,d=m+1:=⟨d - 1,y40_⟩;have g:∀ i,i≤m→(l.getD i 0).toNat<c.length∧l.getD i 0=(((l.getD i 0).toNat:Nat):Int):=fun i q=>by have:=w i y40_;omega
 have v:∀ i,i+1<l.length→l.getD (i+1) 0∈(adjU ms c).getD (l.getD i 0).toNat []:=f.arcs;refine ⟨fun i=>(l.getD i 0).toNat,m,K,A,g,s,u,fun i j q r e=>?_,?_,fun i q=>?_,?_,fun i j x r e=>?_,fun i q e=>?_⟩
 ·have o:=(g i q).2
  have h2:=(g j r).2;have e:(l.getD i 0).toNat=(l.getD j 0).toNat:=e;rcases Nat.lt_trichotomy i j with h | h | h
  ·exact absurd y40_ (f.inj i j h y40_)
  ·exact h
  ·exact absurd y40_ (f.inj j i h y40_)
 ·exact (mem_class.1 f.first).2
 ·have o:=v i y40_
  rw [(g (i+1) y40_).2] at o;exact (Zt1 (g i y40_).1 (g (i+1) y40_).1).1 o
 ·have o:=v m y40_
  rw [s] at o;exact (Yk1 (g m (Nat.le_refl _)).1 u).1 o
 ·refine f.straight i j x y40_ ?_
  rw [(g j r).2];exact (Zt1 (g i y40_).1 (g j r).1).2 e
 ·refine f.straight i (m+1) y40_ y40_ ?_
  rw [s];exact (Yk1 (g i y40_).1 u).2 e
def nextU (c:List Int) (y:Int):Int:=if y<(c.length:Int) then c.getD y.toNat 0 else y - (c.length:Int)
def V9_ (c:List Int):List Int→List Int→List Int
 | x :: y :: l,out=>V9_ c (y :: l) (out.set x.toNat (nextU c y))
 | _,out=>out
theorem K3_ (c:List Int):∀ (l out:List Int),(V9_ c l out).length=out.length
 | [],_=>rfl
 | [_],_=>rfl
 | x :: y :: l,out=>by rw [V9_,K3_ c (y :: l),List.length_set]
theorem K4_ (c:List Int):∀ (l out:List Int),(∀ i j,i<j→j+1<l.length→(l.getD i 0).toNat≠(l.getD j 0).toNat)→(∀ i,i+1<l.length→(l.getD i 0).toNat<out.length)→∀ x:Nat,
  (∀ j,j+1<l.length→(l.getD j 0).toNat=x→(V9_ c l out).getD x 0=nextU c (l.getD (j+1) 0))∧((∀ j,j+1<l.length→(l.getD j 0).toNat≠x)→(V9_ c l out).getD x 0=out.getD x 0)
 | [],_,_,_,x=>⟨fun j hj=>absurd hj k40_,fun _=>rfl⟩
 | [_],_,_,_,x=>⟨fun j hj=>absurd hj k40_,fun _=>rfl⟩
 | a :: b :: l,out,hd,hb,x=>by
  have d:=K4_ c (b :: l) (out.set a.toNat (nextU c b)) (fun i j k hj=>by have:=hd (i+1) (j+1) y40_ q50_;simpa using this) (fun i hi=>by have:=hb (i+1) y48_;rw [List.length_set];simpa using this) x;have ha:a.toNat<out.length:=by have:=hb 0 k40_;simpa using this
  rw [V9_];constructor
  ·intro j hj e
   cases j with
   | zero =>
    have e:a.toNat=x:=by simpa using e
    rw [d.2 fun j h g=>hd 0 (j+1) y40_ (by simpa using h) (by simpa [e] using g.symm)];rw [List.getD_eq_getElem?_getD,← e,List.getElem?_set_self ha];rfl
   | succ j =>
    rw [List.getD_cons_succ];exact d.1 j q50_ (by simpa using e)
  ·intro f
   rw [d.2 fun j hj e=>f (j+1) q50_ (by simpa using e)];rw [List.getD_eq_getElem?_getD,List.getElem?_set_ne (by have:=f 0 k40_;simpa using this),← List.getD_eq_getElem?_getD]
section
variable {l:List Int} {p:Nat→Nat} {m K:Nat}
theorem WayU.at_next (hw:WayU ms c l p m K) {j:Nat} (q:j<m):(V9_ c l c).getD (p j) 0=c.getD (p (j+1)) 0:=by
 have h:=K4_ c l c (fun i j o r e=>by
  have d:=(hw.el i j42_).2;have h2:=(hw.el j j42_).2;rw [d,h2,Int.toNat_natCast,Int.toNat_natCast] at e;have:=hw.inj i j j42_ j42_ e;omega) (fun i k=>by
  have d:=hw.el i j42_;rw [d.2,Int.toNat_natCast];exact d.1) (p j)
 have f:=hw.el j y40_;have g:=hw.el (j+1) y40_;rw [h.1 j j42_ (by rw [f.2,Int.toNat_natCast]),g.2];unfold nextU;rw [if_pos y40_,Int.toNat_natCast]
theorem WayU.at_last (hw:WayU ms c l p m K):(V9_ c l c).getD (p m) 0=(K:Int):=by
 have h:=K4_ c l c (fun i j k o e=>by
  have d:=(hw.el i j42_).2;have h2:=(hw.el j j42_).2;rw [d,h2,Int.toNat_natCast,Int.toNat_natCast] at e;have:=hw.inj i j j42_ j42_ e;omega) (fun i g=>by
  have d:=hw.el i j42_;rw [d.2,Int.toNat_natCast];exact d.1) (p m)
 have f:=hw.el m (Nat.le_refl _);rw [h.1 m j42_ (by rw [f.2,Int.toNat_natCast]),hw.pt];unfold nextU;rw [if_neg y40_];omega
theorem WayU.at_off (hw:WayU ms c l p m K) {x:Nat} (f:∀ i,i≤m→p i≠x):(V9_ c l c).getD x 0=c.getD x 0:=by
 have h:=K4_ c l c (fun i j k q e=>by
  have d:=(hw.el i j42_).2;have h2:=(hw.el j j42_).2;rw [d,h2,Int.toNat_natCast,Int.toNat_natCast] at e;have:=hw.inj i j j42_ j42_ e;omega) (fun i g=>by
  have d:=hw.el i j42_;rw [d.2,Int.toNat_natCast];exact d.1) x
 refine h.2 fun j o e=>?_;have d:=(hw.el j j42_).2;rw [d,Int.toNat_natCast] at e;exact f j j42_ e
theorem WayU.has (h:Cls ms c) (d:WayU ms c l p m K) {j:Nat} (e:j<m):∃ k:Nat,k<ms.length∧c.getD (p (j+1)) 0=(k:Int)∧c.getD (p j) 0≠(k:Int)∧rkP 4 (ms.getD k default) (insP (remP (memP (Z3_ c (k:Int))) (p (j+1))) (p j))=cnt (memP (Z3_ c (k:Int))) c.length :=
 (Zg1 h (d.el j y40_).1 (d.el (j+1) y40_).1).1 (d.arc j e)
def Ya4 (c:List Int) (p:Nat→Nat) (m:Nat) (k:Int):List Nat:=(List.range m).reverse.filter fun j=>c.getD (p (j+1)) 0==k
theorem mem_steps {k:Int} {j:Nat}:j∈Ya4 c p m k↔j<m∧c.getD (p (j+1)) 0=k:=by
 unfold Ya4;rw [List.mem_filter,List.mem_reverse,List.mem_range,beq_iff_eq]
theorem Zx3 (k:Int):(Ya4 c p m k).Pairwise fun a b=>b<a:=by
 unfold Ya4;exact (List.pairwise_reverse.2 List.pairwise_lt_range).filter _
def exU (c:List Int) (p:Nat→Nat) (m:Nat) (k:Int):List (Nat × Nat):=(Ya4 c p m k).map fun j=>(p (j+1),p j)
theorem mem_ex {k:Int} {q:Nat × Nat}:q∈exU c p m k↔∃ j,(j<m∧c.getD (p (j+1)) 0=k)∧q=(p (j+1),p j):=by
 unfold exU;rw [List.mem_map];exact ⟨fun ⟨j,d,h2⟩=>⟨j,mem_steps.1 d,h2.symm⟩,fun ⟨j,d,h2⟩=>⟨j,mem_steps.2 d,h2.symm⟩⟩
theorem Vs5 {k:Int} {x:Nat}:x∈(exU c p m k).map (·.1)↔∃ j,(j<m∧c.getD (p (j+1)) 0=k)∧x=p (j+1):=y14_
theorem mem_snd {k:Int} {x:Nat}:x∈(exU c p m k).map (·.2)↔∃ j,(j<m∧c.getD (p (j+1)) 0=k)∧x=p j:=y14_
theorem Xn8 (h:Cls ms c) (hw:WayU ms c l p m K) {k:Nat} (o:k<ms.length):(∀ q∈exU c p m k,(q.1<c.length∧q.2<c.length)∧memP (Z3_ c (k:Int)) q.1=true∧memP (Z3_ c (k:Int)) q.2=false) ∧
  ((exU c p m k).map (·.1)).Nodup∧((exU c p m k).map (·.2)).Nodup∧(∀ q∈exU c p m k,rkP 4 (ms.getD k default) (insP (remP (memP (Z3_ c (k:Int))) q.1) q.2)=cnt (memP (Z3_ c (k:Int))) c.length) ∧
  ((exU c p m k).Pairwise fun a b=>rkP 4 (ms.getD k default) (insP (remP (memP (Z3_ c (k:Int))) a.1) b.2)<cnt (memP (Z3_ c (k:Int))) c.length):=by
 have v:=rk_of (h.may k o).1;rw [(h.may k o).2] at v;have u:∀ j,j<m→c.getD (p (j+1)) 0=(k:Int)→memP (Z3_ c (k:Int)) (p j)=false:=fun j d e=>by
  obtain ⟨w,_,f,g,_⟩:=hw.has h d;rw [← Bool.not_eq_true,class_at];rintro ⟨_,h2⟩;rw [e] at f;exact g (h2.trans f)
 refine ⟨fun q r=>?_,?_,?_,fun q r=>?_,?_⟩
 ·obtain ⟨j,⟨d,e⟩,rfl⟩:=mem_ex.1 r
  exact ⟨⟨(hw.el (j+1) y40_).1,(hw.el j y40_).1⟩,class_at.2 ⟨(hw.el (j+1) y40_).1,e⟩,u j d e⟩
 ·exact z12_
 ·exact z12_
 ·obtain ⟨j,⟨d,e⟩,rfl⟩:=mem_ex.1 r
  obtain ⟨w,_,f,_,z⟩:=hw.has h d;rw [e] at f;have:k=w:=y40_;subst this;exact z
 ·unfold exU
  refine List.pairwise_map.2 ((Zx3 (k:Int)).imp_of_mem fun {x y} hx hy hlt=>?_);have h1:=mem_steps.1 hx;have h2:=mem_steps.1 hy;have A:memP (Z3_ c (k:Int)) (p (x+1))=true:=class_at.2 ⟨(hw.el (x+1) y40_).1,h1.2⟩;have s:=u y h2.1 h2.2;have B:=v.le_cnt (insP (remP (memP (Z3_ c (k:Int))) (p (x+1))) (p y));have c1:=M2_ (hw.el (x+1) y40_).1 A;have c2:=A4_ (hw.el y y40_).1 (P:=remP (memP (Z3_ c (k:Int))) (p (x+1))) (by unfold remP;rw [s];rfl);show rkP 4 (ms.getD k default) (insP (remP (memP (Z3_ c (k:Int))) (p (x+1))) (p y))<_;refine Nat.lt_of_le_of_ne y40_ fun e=>hw.no y (x+1) y40_ y40_ ?_;refine (Zg1 h (hw.el y y40_).1 (hw.el (x+1) y40_).1).2 ⟨k,o,h1.2,fun g=>?_,e⟩;rw [class_at.2 ⟨(hw.el y y40_).1,g⟩] at s;cases s
theorem ex_is (h:Cls ms c) (f:WayU ms c l p m K) {k:Nat} (o:k<ms.length) {i:Nat} (g:i<c.length) :
  (exch (memP (Z3_ c (k:Int))) (exU c p m k) i=true↔(∃ j,j<m∧p j=i∧c.getD (p (j+1)) 0=(k:Int))∨((∀ j,j≤m→p j≠i)∧c.getD i 0=(k:Int))):=by
 rw [Za5 (fun q r=>((Xn8 h f o).1 q r).2),Vs5,mem_snd,class_at];constructor
 ·rintro (⟨⟨_,d⟩,h2⟩ | ⟨j,⟨d,h2⟩,h3⟩)
  ·refine .inr ⟨fun j s e=>?_,d⟩
   cases j with
   | zero =>
    have:=f.first;rw [e,d] at this;omega
   | succ j=>exact h2 ⟨j,⟨y40_,by rw [e];exact d⟩,e.symm⟩
  ·exact .inl ⟨j,d,h3.symm,h2⟩
 ·rintro (⟨j,d,h2,h3⟩ | ⟨d,h2⟩)
  ·exact .inr ⟨j,⟨d,h3⟩,h2.symm⟩
  ·exact .inl ⟨⟨g,h2⟩,fun ⟨j,⟨h3,_⟩,e⟩=>d (j+1) y40_ e.symm⟩
theorem Zg3 {q:Mat} {s:List Int} {n:Nat} (hc:chk q=0) (d:nN q=n) (hs:InN n s) {P:Nat→Bool} (c:∀ i,i<n→memP s i=P i) (e:rkP 4 q P=cnt P n):indT q s=true:=by
 subst d;rw [M4_ (mayI_iff.2 ⟨hc,hs⟩),Y9_ hs,(rk_of hc).ext c,(C0_ (nN q)).ext c];exact e
theorem Xn9 (h:Cls ms c) (hw:WayU ms c l p m K):Cls ms (V9_ c l c)∧(Z3_ (V9_ c l c) (-1)).length+1=(Z3_ c (-1)).length:=by
 have f:=K3_ c l c;have s:=h.n64;have R:=hw.hK;have r:∀ i:Nat,(∃ j,j<m∧p j=i)∨p m=i∨∀ j,j≤m→p j≠i:=fun i=>by
  by_cases h1:∃ j,j≤m∧p j=i
  ·obtain ⟨j,hj,e⟩:=h1
   by_cases h2:j=m
   ·subst h2;exact .inr (.inl e)
   ·exact .inl ⟨j,y40_,e⟩
  ·exact .inr (.inr fun j hj e=>h1 ⟨j,hj,e⟩)
 refine ⟨⟨h.many,fun k d=>by rw [f];exact h.may k d,fun x E=>?_,fun k d=>?_⟩,?_⟩
 ·rw [f] at E
  rcases r x with ⟨j,hj,rfl⟩ | rfl | h1
  ·rw [hw.at_next hj]
   exact h.rng _ (hw.el (j+1) y40_).1
  ·rw [hw.at_last]
   omega
  ·rw [hw.at_off h1]
   exact h.rng x E
 ·have g:=h.may k d
  have u:=J4_ (c:=V9_ c l c) (by rw [f];exact s) (k:Int);rw [f] at u;have o:=rk_of g.1;rw [g.2] at o;obtain ⟨y,G,H,I,J⟩:=Xn8 h hw d;by_cases e:k=K
  ·subst e
   have D:=(Zs9 h (hw.el m (Nat.le_refl _)).1 d).1 hw.last;have A:=Vc1 o (h.cnt_class d) y G H (fun q C=>by
    obtain ⟨j,⟨hj,e⟩,rfl⟩:=mem_ex.1 C;have S:=o.up' (memP (Z3_ c (k:Int))) (hw.el j y40_).1;have T:=o.one' (memP (Z3_ c (k:Int))) (hw.el j y40_).1;have U:=h.cnt_class d;have V:¬ rkP 4 (ms.getD k default) (insP (memP (Z3_ c (k:Int))) (p j))=cnt (memP (Z3_ c (k:Int))) c.length+1:=fun e2=>by
     refine hw.noK j hj ((Zs9 h (hw.el j y40_).1 d).2 ⟨fun N=>?_,e2⟩);have:=((y _ C).2).2;rw [class_at.2 ⟨(hw.el j y40_).1,N⟩] at this;cases this
    show rkP 4 (ms.getD k default) (insP (memP (Z3_ c (k:Int))) (p j))=_;omega) I J (hw.el m (Nat.le_refl _)).1 (by rw [← Bool.not_eq_true,class_at];exact fun e2=>D.1 e2.2) (fun O=>by
    obtain ⟨j,⟨hj,_⟩,e2⟩:=mem_snd.1 O;have:=hw.inj m j (Nat.le_refl _) y40_ e2;omega) D.2
   refine Zg3 g.1 g.2 u (P:=insP (exch (memP (Z3_ c (k:Int))) (exU c p m k)) (p m)) (fun i hi=>?_) (A.1.trans A.2.symm);rw [Bool.eq_iff_iff,class_at,f];rcases r i with ⟨j,hj,rfl⟩ | rfl | h1
   ·rw [hw.at_next hj,X8_ (fun e2=>by have:=hw.inj _ _ y40_ (Nat.le_refl _) e2;omega),ex_is h hw d hi]
    exact z11_
   ·rw [hw.at_last,V0_]
    exact ⟨fun _=>rfl,fun _=>⟨hi,rfl⟩⟩
   ·rw [hw.at_off h1,X8_ (fun e2=>h1 m (Nat.le_refl _) e2.symm),ex_is h hw d hi]
    exact z15_
  ·have B:=Zf6 o (h.cnt_class d) y G H I J
   refine Zg3 g.1 g.2 u (P:=exch (memP (Z3_ c (k:Int))) (exU c p m k)) (fun i hi=>?_) (B.1.trans B.2.symm);rw [Bool.eq_iff_iff,class_at,f,ex_is h hw d hi];rcases r i with ⟨j,hj,rfl⟩ | rfl | h1
   ·rw [hw.at_next hj]
    exact z11_
   ·rw [hw.at_last]
    constructor
    ·intro e2
     have:=e2.2;omega
    ·rintro (⟨j',h2,h3,_⟩ | ⟨h2,_⟩)
     ·have:=hw.inj _ _ y40_ (Nat.le_refl _) h3
      omega
     ·exact absurd rfl (h2 m (Nat.le_refl _))
   ·rw [hw.at_off h1]
    exact z15_
 ·have Q:=J4_ s (-1)
  have F:=J4_ (c:=V9_ c l c) (by rw [f];exact s) (-1);rw [f] at F;rw [Y9_ Q,Y9_ F];have z:=(hw.el 0 (Nat.zero_le _)).1;have L:memP (Z3_ c (-1)) (p 0)=true:=class_at.2 ⟨z,hw.first⟩;rw [← M2_ z L];congr 1;refine (C0_ c.length).ext fun i hi=>?_;unfold remP;rw [Bool.eq_iff_iff,class_at,f,Bool.and_eq_true,class_at,Bool.not_eq_true',beq_eq_false_iff_ne];have v:∀ j,j<m→c.getD (p (j+1)) 0≠-1:=fun j hj e=>by
   obtain ⟨k,_,M,_⟩:=hw.has h hj;rw [e] at M;omega
  rcases r i with ⟨j,hj,rfl⟩ | rfl | h1
  ·rw [hw.at_next hj]
   constructor
   ·exact fun e=>absurd e.2 (v j hj)
   ·rintro ⟨⟨_,h2⟩,h3⟩
    cases j with
    | zero=>exact absurd rfl h3
    | succ j=>exact absurd h2 (v j y40_)
  ·rw [hw.at_last]
   constructor
   ·intro e
    have:=e.2;omega
   ·rintro ⟨⟨_,h2⟩,h3⟩
    rcases Nat.eq_zero_or_pos m with rfl | g
    ·exact absurd rfl h3
    ·obtain ⟨w,rfl⟩:∃ w,m=w+1:=⟨m - 1,y40_⟩
     exact absurd h2 (v w y40_)
  ·rw [hw.at_off h1]
   exact ⟨fun e=>⟨e,fun e2=>h1 0 (Nat.zero_le _) e2.symm⟩,fun e=>e.1⟩
end
end
end Go.Proofs.YtigobiacbficaaaGreatDoor.Wp
