/- What the six laws of exchange hold, plain. -/
import Derived.Test.YtnbcaibflhgdoaaGreatDoorZI
import Derived.Test.YtnbcaibflhgdoaaGreatDoorVInd
import Derived.Lib.Hide
import Derived.Test.YtnbcaibflhgdoaaGreatDoorZP
import Derived.Test.YtnbcaibflhgdoaaGreatDoorZH
import Derived.Test.YtnbcaibflhgdoaaGreatDoorZX
import Derived.Deep.RegionHeld3
import Derived.Test.YtnbcaibflhgdoaaGreatDoorQTD
import Derived.Deep.Slices
import Derived.Test.YtnbcaibflhgdoaaGreatDoorX0A
import Derived.Test.YtnbcaibflhgdoaaGreatDoorX0B
set_option maxHeartbeats 8000000
set_option maxRecDepth 100000
open Go.Lib (hid)
open Nat (le_refl)
namespace Go.Proofs.YtnbcaibflhgdoaaGreatDoor.Wp
open Go Go.RowKit
theorem Za0 {k:Nat} (h:k≤64):IsSet (upTo k):=by
 by_cases c:k=0
 ·subst c;exact X7_
 ·rw [← Yj6 q41_ q41_]
  exact G0_ _
section
variable {a b m:Mat} {s:List Int}
theorem B4_ (c:nN m≤64):InN (nN m) (addG m s):=⟨(Za0 c).filter _,fun _ d=>mem_upTo.1 (List.mem_filter.1 d).1⟩
theorem Vi6 {x:Nat} (c:nN a≤x):(adjG a b s).getD x []=[]:=by
 rw [List.getD_eq_getElem?_getD,List.getElem?_eq_none (by rw [D6_];exact c)];rfl
theorem Zf4 (d:nN a≤64):DigP (adjG a b s):=by
 refine ⟨by rw [D6_];omega,fun x=>?_⟩;by_cases e:x<nN a
 ·rw [Xf0 e,D6_]
  exact ⟨(Za0 d).filter _,fun y c=>mem_upTo.1 (List.mem_filter.1 c).1⟩
 ·rw [Vi6 q41_]
  exact ⟨X7_,fun y c=>by cases c⟩
theorem Common.n64 (h:Common a b s):nN a≤64:=(Z8_ (mayI_iff.1 (J6_ h.ia)).1).2
theorem Common.set (h:Common a b s):InN (nN a) s:=(mayI_iff.1 (J6_ h.ia)).2
theorem Yw3 (h:Common a b s) (g:meetL (itL (adjG a b s) (addG a s) (adjG a b s).length) (addG b s)=[]) :
  InN (nN a) (itL (adjG a b s) (addG a s) (adjG a b s).length)∧rankT a (Z5_ (allL a.n) (itL (adjG a b s) (addG a s) (adjG a b s).length))+rankT b (itL (adjG a b s) (addG a s) (adjG a b s).length)=(s.length:Int):=by
 have hd:=Zf4 (b:=b) (s:=s) h.n64;have d:PtsP (adjG a b s).length (addG a s):=by rw [D6_];exact B4_ h.n64
 have f:=C3_ hd d (adjG a b s).length;have c:InN (nN a) (itL (adjG a b s) (addG a s) (adjG a b s).length):=by rw [D6_] at f ⊢;exact f
 refine ⟨c,Yu4 h c (Ye6 hd d _) (fun x e y j=>Zl7 hd d e (by rw [Int.toNat_natCast];exact j)) fun x e hb=>?_⟩;have hB:IsSet (addG b s):=(B4_ (by rw [h.nn];exact h.n64)).1;have:=(L2_ c.1 hB x).2 ⟨e,hb⟩;rw [g] at this;cases this
theorem Vi7 {l:List Int} (hs:IsSet s) (hl:(sortL l).length=l.length):turnL s l=Z9_ (Z5_ s (sortL l)) (Z5_ (sortL l) s):=if_pos ⟨I3_ hs,hl⟩
theorem Vz4 (s l:List Int):IsSet (turnL s l):=by
 unfold turnL;split
 ·exact B6_ _ _
 ·exact X7_
theorem Vz5 {l:List Int} (hs:IsSet s) (hl:(sortL l).length=l.length) (x:Int):x∈turnL s l↔(x∈s∧x∉sortL l)∨(x∈sortL l∧x∉s):=by
 rw [Vi7 hs hl,J1_ (J0_ _ _) (J0_ _ _),Y7_ hs (V8_ l),Y7_ (V8_ l) hs]
theorem Yw4 {x:Int} (c:IsSet [x]):Z9_ [] [x]=[x]:=IsSet.ext (B6_ _ _) c fun y=>by rw [J1_ X7_ c];simp
theorem Vz6 (hc:chk m=0) {x:Nat} (f:x<nN m):hasB (addG m []) (x:Int)=indT m [(x:Int)]:=by
 have c:=(Z8_ hc).2;have d:=Zf2 c f;have e:hasB [] (x:Int)=false:=by
  rw [← Bool.not_eq_true,E0_ X7_];simp
 rw [Bool.eq_iff_iff,E0_ (B4_ c).1];unfold addG;rw [List.mem_filter,mem_upTo,e,Yw4 d.1];simp;omega
theorem Xf9 (hs:IsSet s):turnL [] s=s:=by
 have hl:(sortL s).length=s.length:=by rw [Yg4 hs]
 refine IsSet.ext (Vz4 _ _) hs fun x=>?_;rw [Vz5 X7_ hl,Yg4 hs];simp
end
end Go.Proofs.YtnbcaibflhgdoaaGreatDoor.Wp
namespace Go.Proofs.YtnbcaibflhgdoaaGreatDoor.Wp.R
open K (updI nodup_le)
structure Dig (adj:List (List Int)):Prop where
 up:∀ x,(adj.getD x []).Pairwise (·<·)
 pt:∀ x,∀ y∈adj.getD x [],0≤y∧y<(adj.length:Int)
structure Pts (n:Nat) (l:List Int):Prop where
 up:l.Pairwise (·<·)
 pt:∀ y∈l,0≤y∧y<(n:Int)
def cAt (come:List Int) (j:Nat):Int:=come.getD j 0
def Y5_ (adj:List (List Int)) (come:List Int) (j:Nat):List Int:=adj.getD (cAt come j).toNat []
theorem M6_ {come:List Int} {q:Int} {j:Nat} (h:j<come.length):cAt (come ++ [q]) j=cAt come j:=by
 unfold cAt;rw [List.getD_eq_getElem?_getD,List.getElem?_append_left h,← List.getD_eq_getElem?_getD]
theorem Ye0 {come:List Int} {q:Int}:cAt (come ++ [q]) come.length=q:=by
 unfold cAt;rw [List.getD_eq_getElem?_getD,List.getElem?_append_right (le_refl _)];simp
theorem G2_ {come:List Int} {j:Nat} (h:j<come.length):cAt come j∈come:=by
 unfold cAt;rw [show come.getD j 0=come[j] by simp [List.getD,h]];exact List.getElem_mem h
theorem Zf5 {come:List Int} {x:Int} (h:x∈come):∃ j,j<come.length∧cAt come j=x:=by
 obtain ⟨j,c,e⟩:=List.mem_iff_getElem.1 h;exact ⟨j,c,by unfold cAt;rw [← e];simp [List.getD,c]⟩
structure Bfs (adj:List (List Int)) (src:List Int) (come:List Int) (ah:Nat→Int) (par:Nat→Nat) (i k:Nat):Prop where
 nodup:come.Nodup
 pt:∀ x∈come,0≤x∧x<(adj.length:Int)
 new:∀ x:Nat,x<adj.length→(ah x=-1↔(x:Int)∉come)
 pre:∃ rest,come=src ++ rest
 start:∀ j,j<src.length→ah (cAt come j).toNat=-2
 old:∀ j,src.length≤j→j<come.length→par j<j∧par j≤i∧ah (cAt come j).toNat=cAt come (par j)∧cAt come j∈Y5_ adj come (par j)∧(par j=i→cAt come j∈(Y5_ adj come i).take k)
 first:∀ j,src.length≤j→j<come.length→∀ m,m<par j→cAt come j∉Y5_ adj come m
 mono:∀ j l,src.length≤j→j<l→l<come.length→par j≤par l∧(par j=par l→cAt come j<cAt come l)
 closed:∀ m,m<i→m<come.length→∀ x∈Y5_ adj come m,x∈come
 some_:i<come.length→∀ x∈(Y5_ adj come i).take k,x∈come
section
variable {adj:List (List Int)} {src come:List Int} {ah:Nat→Int} {par:Nat→Nat} {i k:Nat}
theorem Xg0 (hs:Pts adj.length src) (ha:∀ x:Nat,ah x=if (x:Int)∈src then -2 else -1):Bfs adj src src ah (fun _=>0) 0 0:=by
 refine ⟨hs.up.imp fun o e=>by omega,hs.pt,fun x _=>?_,⟨[],j41_⟩,fun j g=>?_,fun j c d=>by omega,fun j c d=>by omega,fun j l c d h3=>by omega,fun m f=>by omega,fun _ x k=>by simp at k⟩
 ·rw [ha]
  split
  ·rename_i h
   exact ⟨fun e=>by omega,fun e=>absurd h e⟩
  ·rename_i h
   exact ⟨fun _=>h,fun _=>rfl⟩
 ·have f:=G2_ g
  have:=hs.pt _ f;rw [ha,if_pos]
  rwa [Int.toNat_of_nonneg this.1]
theorem Bfs.skip (h:Bfs adj src come ah par i k) (r:i<come.length) (q:Nat) (g:(Y5_ adj come i)[k]?=some (q:Int)) (y:q<adj.length) (ha:ah q≠-1):Bfs adj src come ah par i (k+1):=by
 have u:k<(Y5_ adj come i).length:=(List.getElem?_eq_some_iff.1 g).1;have m:(Y5_ adj come i).take (k+1)=(Y5_ adj come i).take k ++ [(q:Int)]:=by
  rw [List.take_succ_eq_append_getElem u,(List.getElem?_eq_some_iff.1 g).2]
 have s:(q:Int)∈come:=Classical.byContradiction fun v=>ha ((h.new q y).2 v);refine ⟨h.nodup,h.pt,h.new,h.pre,h.start,fun j o p=>?_,h.first,h.mono,h.closed,fun _ x f=>?_⟩
 ·obtain ⟨a,b,c,d,e⟩:=h.old j o p
  exact ⟨a,b,c,d,fun w=>by rw [m];exact List.mem_append.2 (.inl (e w))⟩
 ·rw [m,List.mem_append,List.mem_singleton] at f
  rcases f with f | f
  ·exact h.some_ r x f
  ·rw [f];exact s
theorem M7_ {come:List Int} {q:Int} {m:Nat} (h:m<come.length):Y5_ adj (come ++ [q]) m=Y5_ adj come m:=by unfold Y5_;rw [M6_ h]
theorem Bfs.visit (hd:Dig adj) (h:Bfs adj src come ah par i k) (s:i<come.length) (q:Nat) (u:(Y5_ adj come i)[k]?=some (q:Int)) (I:q<adj.length) (ha:ah q=-1) :
  Bfs adj src (come ++ [(q:Int)]) (updI ah q (cAt come i)) (fun j=>if j=come.length then i else par j) i (k+1):=by
 have B:k<(Y5_ adj come i).length:=(List.getElem?_eq_some_iff.1 u).1;have z:(Y5_ adj come i).take (k+1)=(Y5_ adj come i).take k ++ [(q:Int)]:=by
  rw [List.take_succ_eq_append_getElem B,(List.getElem?_eq_some_iff.1 u).2]
 have w:(q:Int)∉come:=(h.new q I).1 ha;have H:(q:Int)∈Y5_ adj come i:=List.mem_iff_getElem?.2 ⟨k,u⟩;have G:∀ x∈come,x.toNat≠q:=fun x f e=>w (by
  have:=(h.pt x f).1;rw [show (q:Int)=x by omega];exact f)
 have A:∀ x∈come,updI ah q (cAt come i) x.toNat=ah x.toNat:=fun x f=>if_neg (G x f);obtain ⟨rest,E⟩:=h.pre;have K:src.length≤come.length:=by rw [E,List.length_append];omega
 have v:∀ {j},j<(come ++ [(q:Int)]).length→j<come.length∨j=come.length:=fun {j} g=>by rw [List.length_append] at g;simp at g;omega
 refine ⟨?_,fun x f=>?_,fun x f=>?_,⟨rest ++ [(q:Int)],by rw [E,List.append_assoc]⟩,fun j g=>?_,fun j p r=>?_,fun j p r m o=>?_,fun j l p r h3=>?_,fun m o J x f=>?_,fun _ x f=>?_⟩
 ·rw [List.nodup_append]
  refine ⟨h.nodup,j41_,fun a ha b hb e=>w ?_⟩;rw [List.mem_singleton] at hb;rw [← hb,← e];exact ha
 ·rw [List.mem_append,List.mem_singleton] at f
  rcases f with f | f
  ·exact h.pt x f
  ·rw [f];omega
 ·rw [List.mem_append,List.mem_singleton,not_or]
  by_cases e:x=q
  ·subst e
   rw [show updI ah x (cAt come i) x=cAt come i from if_pos rfl];have:=(h.pt _ (G2_ s)).1;exact ⟨fun hc=>by omega,fun hc=>absurd rfl hc.2⟩
  ·rw [show updI ah q (cAt come i) x=ah x from if_neg e,h.new x f]
   exact ⟨fun hc=>⟨hc,q41_⟩,fun hc=>hc.1⟩
 ·rw [M6_ q41_,A _ (G2_ q41_)]
  exact h.start j g
 ·rcases v r with g | g
  ·rw [if_neg q41_,M6_ g,A _ (G2_ g)]
   obtain ⟨a,b,c,d,e⟩:=h.old j p g;rw [M6_ q41_,M7_ q41_];refine ⟨a,b,c,d,fun y=>?_⟩;rw [M7_ s,z];exact List.mem_append.2 (.inl (e y))
  ·subst g
   rw [if_pos rfl,Ye0,M6_ s,M7_ s];refine ⟨s,le_refl _,?_,H,fun _=>?_⟩
   ·rw [Int.toNat_natCast]
    exact if_pos rfl
   ·rw [z]
    exact List.mem_append.2 (.inr j41_)
 ·rcases v r with g | g
  ·rw [if_neg q41_] at o
   have:=(h.old j p g).1;rw [M6_ g,M7_ q41_];exact h.first j p g m o
  ·subst g
   rw [if_pos rfl] at o;rw [Ye0,M7_ q41_];exact fun f=>w (h.closed m o q41_ _ f)
 ·rcases v h3 with hl | hl
  ·rw [if_neg q41_,if_neg q41_,M6_ q41_,M6_ hl]
   exact h.mono j l p r hl
  ·subst hl
   rw [if_neg q41_,if_pos rfl,M6_ r,Ye0];obtain ⟨_,b,_,_,e⟩:=h.old j p r;refine ⟨b,fun y=>?_⟩;have o:=e y;obtain ⟨m,F,C⟩:=List.mem_iff_getElem.1 o;rw [List.length_take] at F;rw [List.getElem_take] at C;have:=List.pairwise_iff_getElem.1 (hd.up (cAt come i).toNat) m k (by show m<(Y5_ adj come i).length;omega) B q41_;rw [← C,← (List.getElem?_eq_some_iff.1 u).2];exact this
 ·have D:m<come.length:=by omega
  rw [M7_ D] at f;exact List.mem_append.2 (.inl (h.closed m o D x f))
 ·rw [M7_ s,z,List.mem_append,List.mem_singleton] at f
  rcases f with f | f
  ·exact List.mem_append.2 (.inl (h.some_ s x f))
  ·rw [f];exact List.mem_append.2 (.inr j41_)
theorem Bfs.next (h:Bfs adj src come ah par i k) (o:(Y5_ adj come i).length≤k):Bfs adj src come ah par (i+1) 0:=by
 refine ⟨h.nodup,h.pt,h.new,h.pre,h.start,fun j h1 h2=>?_,h.first,h.mono,fun m p g x f=>?_,fun _ x f=>by simp at f⟩
 ·exact y24_
 ·by_cases e:m=i
  ·subst e
   exact h.some_ g x (by rw [List.take_of_length_le o];exact f)
  ·exact h.closed m q41_ g x f
theorem Bfs.len (h:Bfs adj src come ah par i k):come.length≤adj.length:=by
 have:=nodup_le (b:=(List.range adj.length).map Int.ofNat) h.nodup fun x c=>by
  have:=h.pt x c;exact z14_
 simpa using this
def Done (adj:List (List Int)) (src come:List Int) (ah:Nat→Int) (par:Nat→Nat):Prop:=Bfs adj src come ah par come.length 0
theorem Done.closed (h:Done adj src come ah par) {x y:Int} (d:x∈come) (e:y∈adj.getD x.toNat []):y∈come:=by
 obtain ⟨j,c,rfl⟩:=Zf5 d;exact Bfs.closed h j c c y e
theorem Done.has (h:Done adj src come ah par) {x:Int} (c:x∈src):x∈come:=by
 obtain ⟨rest,e⟩:=Bfs.pre h;rw [e];exact List.mem_append.2 (.inl c)
theorem Done.least (h:Done adj src come ah par) (S:Int→Prop) (f:∀ x∈src,S x) (g:∀ x y,x∈come→S x→y∈adj.getD x.toNat []→S y):∀ x∈come,S x:=by
 have p:∀ m j,j<m→j<come.length→S (cAt come j):=by
  intro m
  induction m with
  | zero=>intro j c;omega
  | succ m ih =>
   intro j c k;obtain ⟨rest,e⟩:=Bfs.pre h;by_cases hs:j<src.length
   ·refine f _ ?_
    have:cAt come j=cAt src j:=by
     unfold cAt;rw [e,List.getD_eq_getElem?_getD,List.getElem?_append_left hs,← List.getD_eq_getElem?_getD]
    rw [this];exact G2_ hs
   ·obtain ⟨a,_,_,d,_⟩:=Bfs.old h j q41_ k
    exact g _ _ (G2_ q41_) (ih _ q41_ q41_) d
 intro x o;obtain ⟨j,c,rfl⟩:=Zf5 o;exact p (j+1) j q41_ c
inductive Way (come:List Int) (par:Nat→Nat) (ns:Nat):Nat→List Int→Prop
 | start (j:Nat):j<ns→Way come par ns j [cAt come j]
 | next (j:Nat) (l:List Int):ns≤j→Way come par ns (par j) l→Way come par ns j (l ++ [cAt come j])
theorem Vs8 (h:Done adj src come ah par):∀ j,j<come.length→∃ l,Way come par src.length j l:=by
 have e:∀ m j,j<m→j<come.length→∃ l,Way come par src.length j l:=by
  intro m
  induction m with
  | zero=>intro j c;omega
  | succ m ih =>
   intro j c d;by_cases hs:j<src.length
   ·exact ⟨_,.start j hs⟩
   ·obtain ⟨a,_⟩:=Bfs.old h j q41_ d
    obtain ⟨l,hl⟩:=ih (par j) q41_ q41_;exact ⟨_,.next j l q41_ hl⟩
 exact fun j c=>e (j+1) j q41_ c
end
end Go.Proofs.YtnbcaibflhgdoaaGreatDoor.Wp.R
namespace Go.Proofs.YtnbcaibflhgdoaaGreatDoor.Wp.R
open K (updI nodup_le)
def Zl4 (p:Int) (st:List Int × (Nat→Int)) (q:Int):List Int × (Nat→Int):=if st.2 q.toNat=-1 then (st.1 ++ [q],updI st.2 q.toNat p) else st
def A8_ (adj:List (List Int)) (st:List Int × (Nat→Int)) (i k:Nat):List Int × (Nat→Int):=((Y5_ adj st.1 i).take k).foldl (Zl4 (cAt st.1 i)) st
def stepS (adj:List (List Int)) (st:List Int × (Nat→Int)) (i:Nat):List Int × (Nat→Int):=if i<st.1.length then A8_ adj st i (Y5_ adj st.1 i).length else st
def Vs9 (src:List Int):List Int × (Nat→Int):=(src,fun x=>if (x:Int)∈src then -2 else -1)
def runS (adj:List (List Int)) (src:List Int):Nat→List Int × (Nat→Int)
 | 0=>Vs9 src
 | i+1=>stepS adj (runS adj src i) i
def finS (adj:List (List Int)) (src:List Int):List Int × (Nat→Int):=runS adj src adj.length
section
variable {adj:List (List Int)} {src:List Int} {st:List Int × (Nat→Int)} {i k:Nat}
theorem Yw5:A8_ adj st i 0=st:=rfl
theorem Zl5 (h:k<(Y5_ adj st.1 i).length):A8_ adj st i (k+1)=Zl4 (cAt st.1 i) (A8_ adj st i k) ((Y5_ adj st.1 i).getD k 0):=by
 unfold A8_;rw [List.take_succ_eq_append_getElem h,List.foldl_append];rw [show (Y5_ adj st.1 i).getD k 0=(Y5_ adj st.1 i)[k] by simp [List.getD,h]];rfl
theorem Zf6 (hd:Dig adj) (par:Nat→Nat) (hi:i<st.1.length) (h:Bfs adj src st.1 st.2 par i 0):∀ k,k≤(Y5_ adj st.1 i).length→(∃ rest,(A8_ adj st i k).1=st.1 ++ rest)∧∃ d,Bfs adj src (A8_ adj st i k).1 (A8_ adj st i k).2 d i k
 | 0,_=>⟨⟨[],by simp [Yw5]⟩,par,h⟩
 | k+1,hk=>by
  obtain ⟨⟨rest,hr⟩,d,hb⟩:=Zf6 hd par hi h k q41_;have c:k<(Y5_ adj st.1 i).length:=q41_;have f:i<(A8_ adj st i k).1.length:=by rw [hr,List.length_append];omega
  have hc:cAt (A8_ adj st i k).1 i=cAt st.1 i:=j22_;have ha:Y5_ adj (A8_ adj st i k).1 i=Y5_ adj st.1 i:=by unfold Y5_;rw [hc]
  have m:(Y5_ adj st.1 i)[k]∈Y5_ adj st.1 i:=List.getElem_mem c;have o:=hd.pt _ _ m;obtain ⟨q,g⟩:∃ q:Nat,(Y5_ adj st.1 i)[k]=(q:Int):=⟨(Y5_ adj st.1 i)[k].toNat,q41_⟩;have j:(Y5_ adj (A8_ adj st i k).1 i)[k]?=some (q:Int):=by rw [ha,List.getElem?_eq_getElem c,g]
  rw [Zl5 c,show (Y5_ adj st.1 i).getD k 0=(q:Int) by rw [← g];simp [List.getD,c]];unfold Zl4;rw [Int.toNat_natCast];split
  ·rename_i e
   have:=hb.visit hd f q j q41_ e;rw [hc] at this;exact ⟨⟨rest ++ [(q:Int)],by rw [hr,List.append_assoc]⟩,_,this⟩
  ·rename_i e
   exact ⟨⟨rest,hr⟩,d,hb.skip f q j q41_ e⟩
theorem Vz7 (hd:Dig adj) (par:Nat→Nat) (h:Bfs adj src st.1 st.2 par i 0):∃ f,Bfs adj src (stepS adj st i).1 (stepS adj st i).2 f (i+1) 0:=by
 unfold stepS;split
 ·rename_i hi
  obtain ⟨⟨rest,hr⟩,f,hb⟩:=Zf6 hd par hi h (Y5_ adj st.1 i).length (le_refl _);refine ⟨f,hb.next ?_⟩;have hc:cAt (A8_ adj st i (Y5_ adj st.1 i).length).1 i=cAt st.1 i:=j22_;unfold Y5_ at hb ⊢;rw [show adj.getD (cAt st.1 i).toNat []=Y5_ adj st.1 i from rfl] at *
  rw [hc];exact le_refl _
 ·rename_i hi
  refine ⟨par,h.nodup,h.pt,h.new,h.pre,h.start,fun j h1 h2=>?_,h.first,h.mono,fun m k g=>?_,fun h1=>by omega⟩
  ·exact y24_
  ·exact h.closed m q41_ g
theorem Ye1 (hd:Dig adj) (hs:Pts adj.length src):∀ i,∃ par,Bfs adj src (runS adj src i).1 (runS adj src i).2 par i 0
 | 0=>⟨fun _=>0,Xg0 hs fun _=>rfl⟩
 | i+1=>by
  obtain ⟨par,h⟩:=Ye1 hd hs i;exact Vz7 hd par h
theorem fin_done (hd:Dig adj) (hs:Pts adj.length src):∃ par,Done adj src (finS adj src).1 (finS adj src).2 par:=by
 obtain ⟨par,h⟩:=Ye1 hd hs adj.length;have hl:=h.len;refine ⟨par,h.nodup,h.pt,h.new,h.pre,h.start,fun j f g=>?_,h.first,h.mono,fun m k o=>h.closed m (by unfold finS at k;omega) o,fun f=>by omega⟩;obtain ⟨a,b,c,d,e⟩:=h.old j f g;unfold finS at *
 exact ⟨a,q41_,c,d,fun p=>by omega⟩
theorem Ym2 (hl:(runS adj src i).1.length≤i):∀ m,i≤m→runS adj src m=runS adj src i
 | 0,h=>by
  have:i=0:=q41_;rw [this]
 | m+1,h=>by
  by_cases e:i=m+1
  ·rw [e]
  ·have c:=Ym2 hl m q41_
   show stepS adj (runS adj src m) m=_;rw [c];unfold stepS;rw [if_neg q41_]
end
end Go.Proofs.YtnbcaibflhgdoaaGreatDoor.Wp.R
namespace Go.Proofs.YtnbcaibflhgdoaaGreatDoor.Wp.R
section
variable {adj:List (List Int)} {src come:List Int} {ah:Nat→Int} {par:Nat→Nat}
theorem Xg1 (h:Done adj src come ah par) {j:Nat} (c:j<src.length):cAt come j∈src:=by
 obtain ⟨rest,e⟩:=Bfs.pre h;have:cAt come j=cAt src j:=by
  unfold cAt;rw [e,List.getD_eq_getElem?_getD,List.getElem?_append_left c,← List.getD_eq_getElem?_getD]
 rw [this];exact G2_ c
structure WayF (adj:List (List Int)) (src come:List Int) (j:Nat) (l:List Int):Prop where
 pos:0<l.length
 last:l.getD (l.length - 1) 0=cAt come j
 head:l.getD 0 0∈src
 each:∀ i,i<l.length→∃ m,m≤j∧l.getD i 0=cAt come m∧(i+1<l.length→m<j)∧(0<i→src.length≤m)
 arc:∀ i,i+1<l.length→l.getD (i+1) 0∈adj.getD (l.getD i 0).toNat []
end
end Go.Proofs.YtnbcaibflhgdoaaGreatDoor.Wp.R
namespace Go.Proofs.YtnbcaibflhgdoaaGreatDoor.Wp.R
inductive Lev (par:Nat→Nat) (ns:Nat):Nat→Nat→Prop
 | z (j:Nat):j<ns→Lev par ns j 0
 | s (j k:Nat):ns≤j→Lev par ns (par j) k→Lev par ns j (k+1)
section
variable {adj:List (List Int)} {src dst come:List Int} {ah:Nat→Int} {par:Nat→Nat}
theorem Vq8 (h:Done adj src come ah par):∀ j,j<come.length→∃ k,Lev par src.length j k:=by
 have f:∀ m j,j<m→j<come.length→∃ k,Lev par src.length j k:=by
  intro m
  induction m with
  | zero=>intro j c;omega
  | succ m ih =>
   intro j c d;by_cases hs:j<src.length
   ·exact ⟨0,.z j hs⟩
   ·obtain ⟨a,_⟩:=Bfs.old h j q41_ d
    obtain ⟨k,e⟩:=ih (par j) q41_ q41_;exact ⟨k+1,.s j k q41_ e⟩
 exact fun j c=>f (j+1) j q41_ c
theorem Za1 (h:Done adj src come ah par):∀ {i a:Nat},Lev par src.length i a→∀ {j b:Nat},Lev par src.length j b→i≤j→j<come.length→a≤b:=by
 intro i a d
 induction d with
 | z=>intros;omega
 | s i k hs hk ih =>
  intro j b f m c;cases f with
  | z _ hz=>omega
  | s _ b' hs' hb =>
   obtain ⟨o,_⟩:=Bfs.old h j hs' c;have g:par i≤par j:=by
    by_cases e:i=j
    ·rw [e];exact le_refl _
    ·exact ((Bfs.mono h i j hs q41_ c).1)
   have:=ih hb g q41_;omega
theorem Ym3 (h:Done adj src come ah par) {i a b:Nat} (e:i<come.length) (c:Lev par src.length i a) (d:Lev par src.length i b):a=b :=
 Nat.le_antisymm (Za1 h c d (le_refl _) e) (Za1 h d c (le_refl _) e)
theorem Ye2 (h:Done adj src come ah par) {i a:Nat} (d:i<come.length) (ha:Lev par src.length i a) {y:Int} (g:y∈adj.getD (cAt come i).toNat []) :
  ∃ m b,m<come.length∧cAt come m=y∧Lev par src.length m b∧b≤a+1∧(src.length≤m→par m≤i):=by
 obtain ⟨m,c,e⟩:=Zf5 (h.closed (G2_ d) g);obtain ⟨b,hb⟩:=Vq8 h m c;have f:src.length≤m→par m≤i:=fun hs=>by
  refine Nat.le_of_not_lt fun j=>?_;exact Bfs.first h m hs c i j (by rw [e];exact g)
 refine ⟨m,b,c,e,hb,?_,f⟩;cases hb with
 | z=>omega
 | s _ b' hs hb' =>
  have:=Za1 h hb' ha (f hs) d;omega
theorem Zr3 (h:Done adj src come ah par) {j D:Nat} (f:∀ i,i<j→cAt come i∉dst) (d:Lev par src.length j D):∀ (n i a:Nat),i<come.length→Lev par src.length i a→Near adj dst n (cAt come i)→D≤a+n
 | 0,i,a,hi,ha,c=>by
  have g:j≤i:=Nat.le_of_not_lt fun k=>f i k c;exact Za1 h d ha g hi
 | n+1,i,a,hi,ha,c=>by
  rcases c with c | ⟨y,p,c⟩
  ·have:=Zr3 h f d n i a hi ha c
   omega
  ·obtain ⟨m,b,o,e,hb,q,_⟩:=Ye2 h hi ha p
   rw [← e] at c;have:=Zr3 h f d n m b o hb c;omega
theorem Yx8 (h:Done adj src come ah par) (hs:src.Pairwise (·<·)) {i m:Nat} (c:i<src.length) (f:m<src.length) (j:cAt come m<cAt come i):m<i:=by
 obtain ⟨rest,e⟩:=Bfs.pre h;have g:∀ k,k<src.length→∀ d:k<src.length,cAt come k=src[k]:=fun k d _=>by
  unfold cAt;rw [e,List.getD_eq_getElem?_getD,List.getElem?_append_left d,List.getElem?_eq_getElem d];rfl
 rw [g m f f,g i c c] at j;refine Nat.lt_of_not_le fun o=>?_;by_cases e:i=m
 ·subst e;omega
 ·have:=List.pairwise_iff_getElem.1 hs i m c f q41_
  omega
def NoE (adj:List (List Int)) (dst come:List Int) (par:Nat→Nat) (ns i k n:Nat):Prop:=∀ m,m<i→Lev par ns m k→¬ Near adj dst n (cAt come m)
theorem Yw6 (h:Done adj src come ah par) (hs:src.Pairwise (·<·)) {j D:Nat} (T:∀ i,i<j→cAt come i∉dst) (Q:Lev par src.length j D) {i:Nat} {l:List Int} (I:Way come par src.length i l) :
  i<come.length→∀ k n tail,Lev par src.length i k→k+n=D→Near adj dst n (cAt come i)→NoE adj dst come par src.length i k n→((n=0∧tail=[])∨∃ f,n=f+1∧Greedy adj dst (adj.getD (cAt come i).toNat []) f tail)→Greedy adj dst src D (l ++ tail):=by
 have g:=Zr3 h T Q
 induction I with
 | start i his =>
  intro v k n tail w L d hE C;have R:k=0:=Ym3 h v w (.z i his);subst R;have hsm:∀ y∈src,∃ m,m<src.length∧m<come.length∧cAt come m=y:=fun y hy=>by
   obtain ⟨rest,e⟩:=Bfs.pre h;obtain ⟨m,hm,J⟩:=Zf5 hy;refine ⟨m,hm,by rw [e,List.length_append];omega,?_⟩;rw [← J];unfold cAt;rw [e,List.getD_eq_getElem?_getD,List.getElem?_append_left hm,← List.getD_eq_getElem?_getD]
  rcases C with ⟨rfl,rfl⟩ | ⟨f,rfl,u⟩
  ·have:D=0:=by omega
   subst this;refine .stop _ _ (Xg1 h his) d fun y hy hlt=>?_;exact j27_
  ·have:D=f+1:=by omega
   subst this;refine .step _ _ _ _ (Xg1 h his) d (fun y hy hc=>?_) (fun y hy hlt=>?_) u
   ·obtain ⟨m,hm,S,rfl⟩:=hsm y hy
    have:=g _ _ _ S (.z m hm) hc;omega
   ·exact j27_
 | next i l hsi I ih =>
  intro v k n tail w L d hE C;obtain ⟨W,_,_,O,_⟩:=Bfs.old h i hsi v;have B:par i<come.length:=q41_;cases w with
  | z _ hz=>omega
  | s _ k' _ hk' =>
  have r:cAt come i∈adj.getD (cAt come (par i)).toNat []:=O;have hR:Near adj dst (n+1) (cAt come (par i)):=.inr ⟨_,r,d⟩;have E:∀ q,q<come.length→Lev par src.length q k'→∀ y∈adj.getD (cAt come q).toNat [],Near adj dst n y→∃ m,m<come.length∧cAt come m=y∧Lev par src.length m (k' + 1)∧src.length≤m∧par m≤q:=fun q F o y hy c=>by
   obtain ⟨m,b,hm,e,hb,x,A⟩:=Ye2 h F o hy;rw [← e] at c;have V:=g n m b hm hb c;have P:b=k' + 1:=q41_;subst P;have hsm:src.length≤m:=Nat.le_of_not_lt fun hlt=>by
    have:=Ym3 h hm hb (.z m hlt);omega
   exact ⟨m,hm,e,hb,hsm,A hsm⟩
  have M:NoE adj dst come par src.length (par i) k' (n+1):=fun q F o c=>by
   have G:q<come.length:=q41_;rcases c with c | ⟨y,hy,c⟩
   ·have:=g n q k' G o c
    omega
   ·obtain ⟨m,hm,e,hb,hsm,A⟩:=E q G o y hy c
    rw [← e] at c;refine hE m (Nat.lt_of_not_le fun x=>?_) hb c;by_cases p:i=m
    ·subst p;omega
    ·have:=(Bfs.mono h i m hsi q41_ hm).1
     omega
  have H:∀ y∈adj.getD (cAt come (par i)).toNat [],y<cAt come i→¬ Near adj dst n y:=fun y hy hlt c=>by
   obtain ⟨m,hm,e,hb,hsm,A⟩:=E (par i) B hk' y hy c;rw [← e] at c hlt;refine hE m (Nat.lt_of_not_le fun x=>?_) hb c;by_cases p:i=m
   ·subst p;omega
   ·obtain ⟨U,K⟩:=Bfs.mono h i m hsi q41_ hm
    have:=K q41_;omega
  have N:Greedy adj dst (adj.getD (cAt come (par i)).toNat []) n (cAt come i :: tail):=by
   rcases C with ⟨rfl,rfl⟩ | ⟨f,rfl,u⟩
   ·exact .stop _ _ r d fun y hy hlt hc=>H y hy hlt hc
   ·refine .step _ _ _ _ r d (fun y hy hc=>?_) H u
    obtain ⟨m,b,hm,e,hb,x,_⟩:=Ye2 h B hk' hy;rw [← e] at hc;have:=g f m b hm hb hc;omega
  have:=ih B k' (n+1) (cAt come i :: tail) hk' q41_ hR M (.inr ⟨n,rfl,N⟩);rw [List.append_assoc];exact this
theorem greedy_first (h:Done adj src come ah par) (hs:src.Pairwise (·<·)) {j:Nat} (d:j<come.length) (f:cAt come j∈dst) (e:∀ i,i<j→cAt come i∉dst) {l:List Int} (k:Way come par src.length j l):∃ n,Greedy adj dst src n l:=by
 obtain ⟨D,c⟩:=Vq8 h j d;have:=Yw6 h hs e c k d D 0 [] c q41_ f (fun m g _ hc=>e m g hc) (.inl ⟨rfl,rfl⟩);rw [List.append_nil] at this;exact ⟨D,this⟩
end
end Go.Proofs.YtnbcaibflhgdoaaGreatDoor.Wp.R
namespace Go.Proofs.YtnbcaibflhgdoaaGreatDoor.Wp
inductive Chain (a b:Mat):Nat→List Int→Prop
 | zero:Chain a b 0 []
 | succ {k:Nat} {s l:List Int} {n:Nat} {x:Int}:Chain a b k s→Greedy (adjG a b s) (addG b s) (addG a s) n (x :: l)→Chain a b (k+1) (turnL s (x :: l))
def Stop (a b:Mat) (s:List Int):Prop:=∀ y∈addG a s,∀ k,¬ Near (adjG a b s) (addG b s) k y
noncomputable def comeL (a b:Mat) (s:List Int):List Int:=itL (adjG a b s) (addG a s) (adjG a b s).length
noncomputable def upL (a b:Mat) (s:List Int):List Int:=Z5_ (allL a.n) (comeL a b s)
structure MaxIs (a b:Mat) (s u:List Int):Prop where
 ch:∃ k,Chain a b k s
 stop:Stop a b s
 up:u=upL a b s
section
variable {a b:Mat} {s t u v:List Int}
theorem Yw7 (ha:chk a=0) (hb:chk b=0) (c:a.n=b.n):Common a b []:=⟨c,Xe8 ha,Xe8 hb⟩
theorem F6_ (ha:chk a=0) (hb:chk b=0) (c:a.n=b.n) {k:Nat} (h:Chain a b k s):Common a b s∧s.length=k:=by
 induction h with
 | zero=>exact ⟨Yw7 ha hb c,rfl⟩
 | succ _ hg ih =>
  obtain ⟨e,d,f,_⟩:=Yx3 ih.1 hg;exact ⟨⟨c,d,f⟩,by rw [e,ih.2]⟩
theorem O6_ {k:Nat} (h:Chain a b k s):∀ {t:List Int},Chain a b k t→s=t:=by
 induction h with
 | zero=>intro t c;cases c;rfl
 | succ _ hg ih =>
  intro t c;cases c with
  | succ hc hg2 =>
   have e:=ih hc;subst e;rw [hg.unique hg2]
theorem Vi8 (h:Stop a b s) {n:Nat} {x:Int} {l:List Int} (c:Greedy (adjG a b s) (addG b s) (addG a s) n (x :: l)):False :=
 h x c.mem n (by simpa using c.near 0 j41_)
theorem Xg2 {k:Nat} (h:Chain a b k s):∀ {m:Nat},m<k→∃ (t:List Int) (n:Nat) (x:Int) (l:List Int),Chain a b m t∧Greedy (adjG a b t) (addG b t) (addG a t) n (x :: l):=by
 induction h with
 | zero=>intro m c;omega
 | succ hc hg ih =>
  rename_i k s l n x
  intro m c;by_cases e:m=k
  ·subst e;exact ⟨s,n,x,l,hc,hg⟩
  ·exact ih q41_
theorem Ym4 {k m:Nat} (h:Chain a b k s) (d:Chain a b m t) (hs:Stop a b t):k≤m:=by
 rcases Nat.lt_or_ge m k with f | e
 ·obtain ⟨g,n,x,l,hc,c⟩:=Xg2 h f
  rw [O6_ hc d] at c;exact (Vi8 hs c).elim
 ·exact e
theorem Yw8 (c:MaxIs a b s u) (d:MaxIs a b t v):s=t∧u=v:=by
 obtain ⟨k,f⟩:=c.ch;obtain ⟨m,g⟩:=d.ch;have e:k=m:=Nat.le_antisymm (Ym4 f g d.stop) (Ym4 g f c.stop);subst e;have h:=O6_ f g;refine ⟨h,?_⟩;rw [c.up,d.up,h]
theorem Zr4 (h:Common a b s):InN (nN a) (comeL a b s):=by
 have hd:=Zf4 (b:=b) (s:=s) h.n64;have d:PtsP (adjG a b s).length (addG a s):=by rw [D6_];exact B4_ h.n64
 have c:=C3_ hd d (adjG a b s).length;unfold comeL;rw [D6_] at c ⊢;exact c
theorem Xg3 (h:Common a b s) (hs:Stop a b s):rankT a (upL a b s)+rankT b (comeL a b s)=(s.length:Int):=by
 have hd:=Zf4 (b:=b) (s:=s) h.n64;have f:PtsP (adjG a b s).length (addG a s):=by rw [D6_];exact B4_ h.n64
 refine (Yw3 h ?_).2;refine List.eq_nil_iff_forall_not_mem.2 fun x g=>?_;obtain ⟨c,d⟩:=(L2_ (Zr4 h).1 (B4_ (by rw [h.nn];exact h.n64)).1 x).1 g;obtain ⟨y,j,e⟩:=(O8_ hd _ _ f).1 ⟨x,c,d⟩;exact hs y j _ e
theorem Xg4 {n:Int} (e:0≤n) (g:n≤64) {w:List Int} (d:InN n.toNat w):Z5_ (allL n) (Z5_ (allL n) w)=w:=by
 refine IsSet.ext (J0_ _ _) d.1 fun x=>?_;rw [Y7_ (G0_ n) (J0_ _ _),Y7_ (G0_ n) d.1,I4_ e q41_];constructor
 ·rintro ⟨f,h3⟩
  exact Classical.byContradiction fun c=>h3 ⟨f,c⟩
 ·intro c
  have:=d.2 x c;exact ⟨⟨q41_,q41_⟩,fun h=>h.2 c⟩
noncomputable def Ym5 (a b:Mat) (u:List Int):Int:=rankT a u+rankT b (Z5_ (allL a.n) u)
theorem W7_ (ha:chk a=0) (hb:chk b=0) (f:a.n=b.n) (h:MaxIs a b s u):Common a b s∧InN (nN a) u∧Ym5 a b u=(s.length:Int):=by
 obtain ⟨k,e⟩:=h.ch;obtain ⟨hc,_⟩:=F6_ ha hb f e;have c:=chk_n ha;have d:=Zr4 hc;refine ⟨hc,by rw [h.up];exact D3_ c.1 c.2 d.1,?_⟩;unfold Ym5;rw [h.up,show Z5_ (allL a.n) (upL a b s)=comeL a b s from Xg4 c.1 c.2 d];exact Xg3 hc h.stop
theorem Yx9 {m:Mat} {Q:Nat→Bool} (g:indT m t=true):cnt (andP (memP t) Q) (nN m)≤rkP 4 m Q:=by
 obtain ⟨hc,p⟩:=mayI_iff.1 (J6_ g);have c:=rk_of hc;have e:=Zy7 g;have j:=c.submod (andP (memP t) Q) (andP (memP t) (notP Q));have o:=c.le_cnt (andP (memP t) (notP Q));have h3:=c.mono (P:=andP (memP t) Q) (Q:=Q) (fun i _ h=>by unfold andP at h;simp at h;exact h.2);have k:=Yy9 (andP (memP t) Q) (andP (memP t) (notP Q)) (nN m);have d:∀ i,i<nN m→orP (andP (memP t) Q) (andP (memP t) (notP Q)) i=memP t i:=fun i _=>by simp only [orP,andP,notP];cases memP t i<;>cases Q i<;>rfl
 have f:∀ i,i<nN m→andP (andP (memP t) Q) (andP (memP t) (notP Q)) i=noneP i:=fun i _=>by simp only [andP,notP,noneP];cases memP t i<;>cases Q i<;>rfl
 rw [c.ext d,c.ext f,c.zero] at j;rw [Q9_ d,Q9_ f,C1_] at k;omega
theorem Xg5 (h:Common a b t) (e:InN (nN a) u):(t.length:Int)≤Ym5 a b u:=by
 obtain ⟨g,q⟩:=mayI_iff.1 (J6_ h.ia);obtain ⟨r,_⟩:=mayI_iff.1 (J6_ h.ib);have d:=chk_n g;have hO:InN (nN a) (Z5_ (allL a.n) u):=D3_ d.1 d.2 e.1;have s:=Yx9 (Q:=memP u) h.ia;have o:=Yx9 (Q:=memP (Z5_ (allL a.n) u)) h.ib;rw [h.nn] at o;have p:=Yy9 (andP (memP t) (memP u)) (andP (memP t) (memP (Z5_ (allL a.n) u))) (nN a);have f:∀ i,i<nN a→memP (Z5_ (allL a.n) u) i=notP (memP u) i:=fun i c=>O0_ d.1 d.2 e.1 c;have j:∀ i,i<nN a→orP (andP (memP t) (memP u)) (andP (memP t) (memP (Z5_ (allL a.n) u))) i=memP t i:=fun i c=>by
  simp only [orP,andP];rw [f i c];simp only [notP];cases memP t i<;>cases memP u i<;>rfl
 have k:∀ i,i<nN a→andP (andP (memP t) (memP u)) (andP (memP t) (memP (Z5_ (allL a.n) u))) i=noneP i:=fun i c=>by
  simp only [andP,noneP];rw [f i c];simp only [notP];cases memP t i<;>cases memP u i<;>rfl
 rw [Q9_ j,Q9_ k,C1_] at p;unfold Ym5;rw [R1_ (mayI_iff.2 ⟨g,e⟩),R1_ (m:=b) (mayI_iff.2 ⟨r,by rw [h.nn];exact hO⟩),X4_ q];omega
theorem Yv0 (ha:chk a=0) (hb:chk b=0) (c:a.n=b.n) (h:MaxIs a b s u) (d:Common a b t):t.length≤s.length:=by
 obtain ⟨_,f,e⟩:=W7_ ha hb c h;have:=Xg5 d f;omega
theorem Yw9 (d:indT a s=true):(s.length:Int)≤rankT a (allL a.n):=by
 obtain ⟨hc,e⟩:=mayI_iff.1 (J6_ d);have c:=chk_n hc;rw [R1_ (mayI_iff.2 ⟨hc,Zd3 c.1 c.2⟩),X4_ e,← Zy7 d];have:=(rk_of hc).mono (P:=memP s) (Q:=memP (allL a.n)) (fun i f _=>Zp0 c.1 c.2 f);omega
end
end Go.Proofs.YtnbcaibflhgdoaaGreatDoor.Wp
namespace Go.Proofs.YtnbcaibflhgdoaaGreatDoor
open Go Go.RowKit
namespace Wp
theorem Zj0 (n:Int) (k c2 c3 c4 c5 g q:Value) (s:List Int) (w:World) (p:Row w w.heap.size g s) (I:s.length≤1048576) :
  Calls Tryz.prog 43 #[.agg #[k,.int .i64 n,c2,c3,c4,c5,g,q]] w (Gives w (Z5_ (allL n) s)):=by
 obtain ⟨c,hW0⟩:∃ c,c=w.alloc (.cells #[k,.int .i64 n,c2,c3,c4,c5,g,q] 59):=⟨_,rfl⟩;have D:=hid hW0;have m:Below w.heap.size w c:=j43_;have v:Blk c w.heap.size 59 #[k,.int .i64 n,c2,c3,c4,c5,g,q]:=k47_;have E:=hid m;have h:=hid v;have j:=hid ((p.up m).up (Below.refl _ c).drew);have H:=B3_ n;have G:Hid (∀ W,Below c.drew.heap.size c.drew W→W.cell? ⟨w.heap.size,1,none⟩=some (.int .i64 n)∧W.cell? ⟨w.heap.size,6,none⟩=some g):=hid fun W r=>⟨(h.out.drew.below r h.out.lt).cell 1,(h.out.drew.below r h.out.lt).cell 6⟩;have d:Hid (Below c.drew.heap.size c.drew c.drew):=hid (Below.refl _ _);obtain ⟨z,cs,rfl,_⟩:=id p;clear hW0 m v p
 go_enter Tryz.func43,Tryz.ntmps43
 go_wp2;rw [← D.out]
 go_region_held3 (fun W=>W.cell? ⟨w.heap.size,1,none⟩=some (.int .i64 n)∧W.cell? ⟨w.heap.size,6,none⟩=some (.slice z s.length cs))
  (exact G.out _ d.out)
  (first
  | (go_at_call 51;refine (I5_ n _).mono ?_;rintro e L ⟨K,rfl,x,o⟩;replace d:=hid (Z0_ d.out (le_refl _) o);replace j:=hid (j.out.up o);have B:=hid x;clear x o)
  | (go_at_call 50;refine (F2_ _ _ (allL n) s _ B.out j.out H I).mono ?_;rintro e M ⟨J,rfl,y,u⟩;replace d:=hid (Z0_ d.out (le_refl _) u);have C:=hid y;clear y u))
 all_goals
  have F:=hid (Z0_ E.out.drew (le_refl _) d.out);go_simp;go_wp2;go_ret;exact ⟨J,rfl,C.out,F.out⟩
theorem Zf7 (E:Nat→Addr) (m:Mat) (h c1 c2 c3 c4 c5 B y J:Value) (s:List Int) (x:Int) (w:World) (I:MatV w w.heap.size (.agg #[h,c1,c2,c3,c4,c5]) m) (hs:Sml m) (u:Row w w.heap.size J s) (U:s.length≤1000) (D:Env E w) :
  Calls Tryz.prog 75 #[.agg #[h,c1,c2,c3,c4,c5,B,y],J,.int .i64 x] w (Says w (indT m (Z9_ s [x]))):=by
 obtain ⟨d,hW0⟩:∃ d,d=w.alloc (.cells #[h,c1,c2,c3,c4,c5,B,y] 59):=⟨_,rfl⟩;have M:=hid hW0;have o:Below w.heap.size w d:=j43_;have G:Blk d w.heap.size 59 #[h,c1,c2,c3,c4,c5,B,y]:=k47_;have O:=hid o;have c:=hid G;have p:=(Below.refl d.heap.size d).drew;have K:=hid ((u.up o).up p);have r:=hid ((I.up o).up p);have q:=hid ((D.up o).up p);have Q:=hid hs;have C:Hid (∀ W,Below d.drew.heap.size d.drew W→W.cell? ⟨w.heap.size,0,none⟩=some h∧W.cell? ⟨w.heap.size,1,none⟩=some c1∧W.cell? ⟨w.heap.size,2,none⟩=some c2∧W.cell? ⟨w.heap.size,3,none⟩=some c3∧W.cell? ⟨w.heap.size,4,none⟩=some c4∧W.cell? ⟨w.heap.size,5,none⟩=some c5):=hid fun W j=>⟨(c.out.drew.below j c.out.lt).cell 0,(c.out.drew.below j c.out.lt).cell 1,(c.out.drew.below j c.out.lt).cell 2,(c.out.drew.below j c.out.lt).cell 3,(c.out.drew.below j c.out.lt).cell 4,(c.out.drew.below j c.out.lt).cell 5⟩;have g:Hid (Below d.drew.heap.size d.drew d.drew):=hid (Below.refl _ _);have S:Hid ((Z9_ s [x]).length≤1048576):=hid (by have:=Zx3 s [x];simp only [List.length_cons,List.length_nil] at this;omega);have R:s.length≤1048576:=q41_;obtain ⟨z,v⟩:∃ z,indT m (Z9_ s [x])=z:=⟨_,rfl⟩;have N:=hid v;rw [v];obtain ⟨T,cs,rfl,_⟩:=id u;clear hW0 o G u I D hs p v
 go_enter Tryz.func75,Tryz.ntmps75
 go_wp2;rw [← M.out]
 go_region_held3 (fun W=>W.cell? ⟨w.heap.size,0,none⟩=some h∧W.cell? ⟨w.heap.size,1,none⟩=some c1∧W.cell? ⟨w.heap.size,2,none⟩=some c2∧W.cell? ⟨w.heap.size,3,none⟩=some c3∧W.cell? ⟨w.heap.size,4,none⟩=some c4∧W.cell? ⟨w.heap.size,5,none⟩=some c5)
  (first | exact C.out _ g.out | exact C.out _ (g.out.alloc (le_refl _) _))
  (first
  | (go_at_call 54;refine (Zc5 _ _ s [x] _ (K.out.upA _) (Row.here (Row.lit1 _ x)) R j41_).mono ?_;rintro e X ⟨V,rfl,H,k⟩;replace k:=Z0_ ((Below.refl _ d.drew).alloc (le_refl _) _) (le_refl _) k;replace g:=hid k;replace r:=hid (r.out.up k);replace q:=hid (q.out.up k);have L:=hid H;clear H k)
  | (go_at_call 74;refine (Zf1 E m _ _ _ _ r.out Q.out L.out S.out q.out).mono ?_;rintro e Y ⟨rfl,F⟩;rw [N.out];replace g:=hid (Z0_ g.out (le_refl _) F);clear F))
 all_goals
  have P:=hid (Z0_ O.out.drew (le_refl _) g.out);go_simp;go_wp2;go_ret;exact ⟨rfl,P.out⟩
theorem Ye3 (a b:List Int):(Z5_ a b).length≤a.length:=y28_
theorem Zj1 (E:Nat→Addr) (m:Mat) (o c1 c2 c3 c4 c5 I H:Value) (s M:List Int) (x y:Int) (w:World) (Y:MatV w w.heap.size (.agg #[o,c1,c2,c3,c4,c5]) m) (hs:Sml m) (N:Row w w.heap.size I s) (K:Row w w.heap.size H M) (x5:s.length≤64) (x4:M.length≤64) (S:Env E w) :
  Calls Tryz.prog 44 #[.agg #[o,c1,c2,c3,c4,c5,I,H],.int .i64 x,.int .i64 y] w (Says w (hasB M x || indT m (Z9_ (Z5_ s [y]) [x]))):=by
 obtain ⟨g,hW0⟩:∃ g,g=w.alloc (.cells #[o,c1,c2,c3,c4,c5,I,H] 59):=⟨_,rfl⟩;have Q:=hid hW0;have p:Below w.heap.size w g:=j43_;have U:Blk g w.heap.size 59 #[o,c1,c2,c3,c4,c5,I,H]:=k47_;have R:=hid p;have c:=hid U;have u:=(Below.refl g.heap.size g).drew;have v:=hid (N.up p);have D:=hid (K.up p);have k:=hid (Y.up p);have j:=hid (S.up p);have Hs:=hid hs;have V:M.length≤1048576:=q41_;have x3:s.length≤1048576:=q41_;have x2:(Z5_ s [y]).length≤1000:=Nat.le_trans (Ye3 _ _) q41_;obtain ⟨J,cs,rfl,_⟩:=id N;obtain ⟨C,G,rfl,_⟩:=id K;obtain ⟨q,L⟩:∃ q,hasB M x=q:=⟨_,rfl⟩;have P:=hid L;obtain ⟨z,O⟩:∃ z,indT m (Z9_ (Z5_ s [y]) [x])=z:=⟨_,rfl⟩;have HZ:=hid O;rw [L,O];clear hW0 p U N K Y S hs O L;cases q
 ·have F:Hid (∀ W,Below g.drew.heap.size g.drew W→W.cell? ⟨w.heap.size,0,none⟩=some o∧W.cell? ⟨w.heap.size,1,none⟩=some c1∧W.cell? ⟨w.heap.size,2,none⟩=some c2∧W.cell? ⟨w.heap.size,3,none⟩=some c3∧W.cell? ⟨w.heap.size,4,none⟩=some c4∧W.cell? ⟨w.heap.size,5,none⟩=some c5∧W.cell? ⟨w.heap.size,6,none⟩=some (.slice J s.length cs)∧W.cell? ⟨w.heap.size,7,none⟩=some (.slice C M.length G)):=hid fun W d=>⟨(c.out.drew.below d c.out.lt).cell 0,(c.out.drew.below d c.out.lt).cell 1,(c.out.drew.below d c.out.lt).cell 2,(c.out.drew.below d c.out.lt).cell 3,(c.out.drew.below d c.out.lt).cell 4,(c.out.drew.below d c.out.lt).cell 5,(c.out.drew.below d c.out.lt).cell 6,(c.out.drew.below d c.out.lt).cell 7⟩
  have h:Hid (Below g.drew.heap.size g.drew g.drew):=hid (Below.refl _ _);replace v:=hid (v.out.up u);replace D:=hid (D.out.up u);replace k:=hid (k.out.up u);replace j:=hid (j.out.up u);clear u;rw [Bool.false_or]
  go_enter Tryz.func44,Tryz.ntmps44
  go_wp2;rw [← Q.out]
  go_region_held3 (fun W=>W.cell? ⟨w.heap.size,0,none⟩=some o∧W.cell? ⟨w.heap.size,1,none⟩=some c1∧W.cell? ⟨w.heap.size,2,none⟩=some c2∧W.cell? ⟨w.heap.size,3,none⟩=some c3∧W.cell? ⟨w.heap.size,4,none⟩=some c4∧W.cell? ⟨w.heap.size,5,none⟩=some c5∧W.cell? ⟨w.heap.size,6,none⟩=some (.slice J s.length cs)∧W.cell? ⟨w.heap.size,7,none⟩=some (.slice C M.length G))
   (first | exact F.out _ h.out | exact F.out _ (h.out.alloc h.out.size _))
   (first
   | (go_at_call 76;refine (Xe6 _ M x _ D.out V).mono ?_;rintro e w1 ⟨rfl,B⟩;rw [P.out];replace h:=hid (Z0_ h.out (le_refl _) B);replace v:=hid (v.out.up B);replace k:=hid (k.out.up B);replace j:=hid (j.out.up B);clear B)
   | (go_at_call 50;refine (F2_ _ _ s [y] _ (v.out.upA _) (Row.here (Row.lit1 _ y)) x3 j41_).mono ?_;rintro e w2 ⟨v2,rfl,X,r⟩;replace r:=Z0_ ((Below.refl _ _).alloc (le_refl _) _) (le_refl _) r;replace k:=hid (k.out.up r);replace j:=hid (j.out.up r);replace h:=hid (Z0_ h.out (le_refl _) r);have Z:=hid X;clear X r)
   | (go_at_call 75;refine (Zf7 E m _ _ _ _ _ _ _ _ _ _ x _ k.out Hs.out Z.out x2 j.out).mono ?_;rintro e w3 ⟨rfl,T⟩;rw [HZ.out];replace h:=hid (Z0_ h.out (le_refl _) T);clear T))
  all_goals
   have x0:=hid (Z0_ R.out.drew (le_refl _) h.out);go_simp;go_wp2;go_ret;exact ⟨rfl,x0.out⟩
 ·have F:Hid (∀ W,Below g.heap.size g W→W.cell? ⟨w.heap.size,0,none⟩=some o∧W.cell? ⟨w.heap.size,1,none⟩=some c1∧W.cell? ⟨w.heap.size,2,none⟩=some c2∧W.cell? ⟨w.heap.size,3,none⟩=some c3∧W.cell? ⟨w.heap.size,4,none⟩=some c4∧W.cell? ⟨w.heap.size,5,none⟩=some c5∧W.cell? ⟨w.heap.size,6,none⟩=some (.slice J s.length cs)∧W.cell? ⟨w.heap.size,7,none⟩=some (.slice C M.length G)):=hid fun W d=>⟨(c.out.below d c.out.lt).cell 0,(c.out.below d c.out.lt).cell 1,(c.out.below d c.out.lt).cell 2,(c.out.below d c.out.lt).cell 3,(c.out.below d c.out.lt).cell 4,(c.out.below d c.out.lt).cell 5,(c.out.below d c.out.lt).cell 6,(c.out.below d c.out.lt).cell 7⟩
  have Hh:Hid (∀ W,Below g.heap.size g W→Calls Tryz.prog 76 #[.slice C M.length G,.int .i64 x] W fun e w'=>e=.returned (.bool true)∧Below g.heap.size g w'):=hid fun W d=>(Xe6 _ M x W (D.out.up d) V).mono fun _ _ ⟨h2,h3⟩=>⟨by rw [h2,P.out],Z0_ d (le_refl _) h3⟩;rw [Bool.true_or];clear u
  go_enter Tryz.func44,Tryz.ntmps44
  go_wp2;rw [← Q.out];refine Y1_ g.heap.size g x41_ x41_ (Below.refl _ _) ?_
  iterate 15 (first
   | go_big_quiet_skip
   | go_big_quiet_step (with_reducible exact Hh.out _)
   | (go_big_quiet_want;apply Exists.intro;refine ⟨fun W d=>?_,?_⟩;(· obtain ⟨k0,k1,k2,k3,k4,k5,k6,k7⟩:=F.out W d;go_simp;first | exact rfl | exact ⟨rfl,rfl⟩);go_simp;go_big_quiet_on))
  refine wpQuiet_nil ?_;intro w7 x1;go_wp2;go_ret;exact ⟨rfl,Z0_ R.out (le_refl _) x1⟩
def W8_ (w:World) (c0 c1 c2 c3 c4 c5 sv:Value) (M:List Int) (e:Ending) (w':World):Prop:=∃ (A:Option Addr) (n c:Nat),e=.returned (.agg #[c0,c1,c2,c3,c4,c5,sv,.slice A n c])∧w'.ownsRow 0 3 1 (.slice A n c) M.length (ints M)∧Below w.heap.size w w'
theorem Row.storeS {w:World} {B:Nat} {v:Value} {l:List Int} (h:Row w B v l) {p:Addr} {A:Option Addr} {n c:Nat} (d:w.cell? p=some (.slice A n c)) (u:Value):Row (w.setCell p u) B v l:=by
 obtain ⟨f,j,r,q,m⟩:=h;refine ⟨f,j,r,q,fun k o=>?_⟩;obtain ⟨g,hA,hB,hc⟩:=m k o;refine ⟨g,hA,hB,?_⟩;rw [World.cell?_setCell_other _ _ _ _ (fun e=>by rw [e,hc] at d;cases d)];exact hc
theorem X1_ (w:World) (g i:Nat) (u:Value):w.grownBy (w.setCell ⟨g,i,none⟩ u) (some g):=N2_ (World.grownBy.refl w (some g)) (.inl rfl) u
theorem sw_no {a b:Nat} (c:a≤b+1) (d:b+3≤a):False:=q41_
theorem Xg6 {p:Int→Bool} {o:List Int} {k:Nat} (c:k<o.length):(o.take (k+1)).filter p=(o.take k).filter p ++ if p (o.getD k 0)=true then [o.getD k 0] else []:=by
 rw [List.take_succ_eq_append_getElem c,List.filter_append,show o[k]=o.getD k 0 by simp [List.getD,c],List.filter_cons];split<;>rfl
theorem Zl6 (E:Nat→Addr) (m:Mat) (d c:Option Addr) (q cl j g:Nat) (sv:Value) (s:List Int) (w:World) (hv:MatV w w.heap.size (.agg #[.int .i64 m.t,.int .i64 m.n,.int .i64 m.a,.int .i64 m.b,.slice d q cl,.slice c j g]) m) (hs:Sml m) (hr:Row w w.heap.size sv s) (yh:s.length≤64) (xx:(Z5_ (allL m.n) s).length≤64) (hE:Env E w) :
  Calls Tryz.prog 42 #[.agg #[.int .i64 m.t,.int .i64 m.n,.int .i64 m.a,.int .i64 m.b,.slice d q cl,.slice c j g],sv] w (W8_ w (.int .i64 m.t) (.int .i64 m.n) (.int .i64 m.a) (.int .i64 m.b) (.slice d q cl) (.slice c j g) sv ((Z5_ (allL m.n) s).filter fun x=>indT m (Z9_ s [x]))):=by
 have xl:=hv;obtain ⟨y,cs,yc,_⟩:=id hr;subst yc;obtain ⟨o,V⟩:∃ o,Z5_ (allL m.n) s=o:=⟨_,rfl⟩;obtain ⟨p,hp⟩:∃ p:Int→Bool,p=fun x=>indT m (Z9_ s [x]):=⟨_,rfl⟩;rw [← hp,V];rw [V] at xx;have HO:=hid V;have HP:=hid hp;obtain ⟨J,K⟩:∃ J,J=((w.alloc (.cells #[.int .i64 m.t,.int .i64 m.n,.int .i64 m.a,.int .i64 m.b,.slice d q cl,.slice c j g] 25)).alloc (.cells #[.int .i64 0,.int .i64 0,.int .i64 0,.int .i64 0,.slice none 0 0,.slice none 0 0,.slice none 0 0,.slice none 0 0] 59)).alloc (.cells #[.int .i64 m.t,.int .i64 m.n,.int .i64 m.a,.int .i64 m.b,.slice d q cl,.slice c j g,.slice y s.length cs,.slice none 0 0] 59):=⟨_,rfl⟩;have x8:=hid K;have xh:Below w.heap.size w J:=by rw [K];exact (((Below.refl _ w).alloc (le_refl _) _).alloc j41_ _).alloc k41_ _
 have xo:Blk J (w.heap.size+1) 59 #[.int .i64 0,.int .i64 0,.int .i64 0,.int .i64 0,.slice none 0 0,.slice none 0 0,.slice none 0 0,.slice none 0 0]:=by
  rw [K];have:=(Blk.new (w.alloc (.cells #[.int .i64 m.t,.int .i64 m.n,.int .i64 m.a,.int .i64 m.b,.slice d q cl,.slice c j g] 25)) 59 #[.int .i64 0,.int .i64 0,.int .i64 0,.int .i64 0,.slice none 0 0,.slice none 0 0,.slice none 0 0,.slice none 0 0]).alloc (.cells #[.int .i64 m.t,.int .i64 m.n,.int .i64 m.a,.int .i64 m.b,.slice d q cl,.slice c j g,.slice y s.length cs,.slice none 0 0] 59);simpa using this
 have xj:Blk J (w.heap.size+1+1) 59 #[.int .i64 m.t,.int .i64 m.n,.int .i64 m.a,.int .i64 m.b,.slice d q cl,.slice c j g,.slice y s.length cs,.slice none 0 0]:=by
  rw [K];have:=Blk.new ((w.alloc (.cells #[.int .i64 m.t,.int .i64 m.n,.int .i64 m.a,.int .i64 m.b,.slice d q cl,.slice c j g] 25)).alloc (.cells #[.int .i64 0,.int .i64 0,.int .i64 0,.int .i64 0,.slice none 0 0,.slice none 0 0,.slice none 0 0,.slice none 0 0] 59)) 59 #[.int .i64 m.t,.int .i64 m.n,.int .i64 m.a,.int .i64 m.b,.slice d q cl,.slice c j g,.slice y s.length cs,.slice none 0 0];simpa using this
 have xn:J.heap.size=w.heap.size+3:=by rw [K];simp
 have Z:=hid xh;have x4:=hid xo;have x2:=hid xj;have xc:=hid xn;have Hr:=hid hr;have HV:=hid xl;have HE:=hid hE;have Hs:=hid hs;have ya:s.length≤1048576:=q41_;have yb:s.length≤1000:=q41_;have yg:(o.length:Int)≤64:=q41_;clear K xh xo xj xn hr xl hE hs V hp
 go_enter Tryz.func42,Tryz.ntmps42
 go_wp2_with fail
 rw [← x8.out];refine (Zj0 m.n _ _ _ _ _ _ _ s _ (Hr.out.up Z.out) ya).mono ?_;rintro e F ⟨vo,rfl,x6,N⟩;rw [HO.out] at x6;have M:=hid x6;obtain ⟨Ao,co,rfl,_⟩:=x6;have x9:=hid (Z0_ Z.out (le_refl _) N);have xf:=hid (x4.out.below N x4.out.lt);have xb:=hid (x2.out.below N x2.out.lt);have P:Hid (w.heap.size+3≤F.heap.size):=hid (by rw [← xc.out];exact N.size);clear N x4 x2 Z x8 xc;go_wp2
 go_loopw [14] (fun vk wr=>∃ (k:Nat) (z:Option Addr) (nm B:Nat),vk=.int .i64 (k:Int)∧k≤o.length∧Hid (Blk wr (w.heap.size+1) 59 #[.int .i64 0,.int .i64 0,.int .i64 0,.int .i64 0,.slice none 0 0,.slice none 0 0,.slice none 0 0,.slice none 0 0]∧Blk wr (w.heap.size+1+1) 59 #[.int .i64 m.t,.int .i64 m.n,.int .i64 m.a,.int .i64 m.b,.slice d q cl,.slice c j g,.slice y s.length cs,.slice z nm B]∧wr.ownsRow F.heap.size 3 1 (.slice z nm B) ((o.take k).filter p).length (ints ((o.take k).filter p))∧Row wr F.heap.size (.slice Ao o.length co) o∧Below w.heap.size w wr∧F.heap.size≤wr.heap.size)) (fun vk _=>o.length - (intOf vk).toNat)
 case atStart=>exact ⟨0,none,0,0,rfl,Nat.zero_le _,xf.out,xb.out,World.ownsRow_nil _ _ _ _,M.out,x9.out,le_refl _⟩
 case round =>
  obtain ⟨k,z,nm,B,rfl,hk,H⟩:=hrel;clear xf xb M x9;have r:=hid H.out.1;have u:=hid H.out.2.1;have x3:=hid H.out.2.2.1;have M:=hid H.out.2.2.2.1;have x0:=hid H.out.2.2.2.2.1;have xe:=hid H.out.2.2.2.2.2;clear H;by_cases xk:k<o.length
  ·have y8:(k:Int)<(o.length:Int):=by omega
   obtain ⟨ao,hA,xi⟩:=Row.nthV M.out xk;subst hA;have gx:=xi wr (Below.refl _ _);have xd:=hid (Xg6 (p:=p) xk);have yf:((o.take k).filter p).length≤64:=Nat.le_trans (List.length_filter_le _ _) x44_;generalize o.getD k 0=x at *
   generalize (o.take k).filter p=L at *
   have HC:Hid (∀ W,Below w.heap.size w W→Calls Tryz.prog 75 #[.agg #[.int .i64 m.t,.int .i64 m.n,.int .i64 m.a,.int .i64 m.b,.slice d q cl,.slice c j g,.slice y s.length cs,.slice z nm B],.slice y s.length cs,.int .i64 x] W (Says W (p x))):=hid fun W hW=>by rw [HP.out];exact Zf7 E m _ _ _ _ _ _ _ _ _ s x W (HV.out.up hW) Hs.out (Hr.out.up hW) yb (HE.out.up hW)
   have xq:=hid (HC.out wr x0.out);have d0:=u.out.cell 0;have d1:=u.out.cell 1;have d2:=u.out.cell 2;have d3:=u.out.cell 3;have d4:=u.out.cell 4;have d5:=u.out.cell 5;have d6:=u.out.cell 6;have R:=u.out.cell 7;have yi:IntKind.i64.wrap ((k:Int)+1)=(k:Int)+1:=q42_;clear xi HC
   go_wp2_with fail
   refine xq.out.mono ?_;rintro e w2 ⟨rfl,I⟩;have xg:=hid (r.out.below I r.out.lt);have x1:=hid (u.out.below I u.out.lt);have O:=hid (B1_ x3.out I);have x7:=hid (M.out.below (I.mono xe.out));have xa:=hid (Z0_ x0.out (le_refl _) I);have Q:=hid (Nat.le_trans xe.out I.size);clear I d0 d1 d2 d3 d4 d5 d6 R gx;rcases hpx:p x with _ | _
   ·have Hn:Hid ((o.take (k+1)).filter p=L):=hid (by rw [xd.out,if_neg (by rw [hpx];decide),List.append_nil])
    clear hpx;go_wp2
    go_roundw
    case rel=>exact ⟨k+1,z,nm,B,z42_,q41_,xg.out,x1.out,by rw [Hn.out];exact O.out,x7.out,xa.out,Q.out⟩
    case measure=>simp [intOf];omega
   ·have Hn:Hid ((o.take (k+1)).filter p=L ++ [x]):=hid (by rw [xd.out,if_pos hpx])
    have R:=x1.out.cell 7;clear hpx;have yd:F.heap.size≤w2.heap.size+1:=Nat.le_trans Q.out (Nat.le_succ _)
    go_wp2_with (at_builtin;refine Z6_ rfl _ _ rfl F.heap.size _ _ _ L [x] rfl rfl (World.ownsRow.alloc O.out _) (Row.lit1 _ x) q41_ j41_ (by simp;exact yd) ?_)
    intro v8 Y X U;have x5:∀ i,(Value.slice z nm B).ownBlock=some i→w.heap.size+3≤i:=fun i hi=>Nat.le_trans P.out (World.ownsRow.lt O.out i hi).1;have xp:=(xg.out.alloc (.cells #[.int .i64 x] 3)).grown U (fun e=>by have:=x5 _ e.symm;omega);have T:=(x1.out.alloc (.cells #[.int .i64 x] 3)).grown U (fun e=>by have:=x5 _ e.symm;omega);have S:Below F.heap.size w2 Y:=((Below.refl _ w2).alloc Q.out (.cells #[.int .i64 x] 3)).grown U k41_ (fun i hi=>(World.ownsRow.lt O.out i hi).1);obtain ⟨C,D,ye⟩:=Q3_ X;subst ye;have e7:=T.cell 7;have f7:=T.frozen 7;have xw:=hid (xp.far (p:=⟨w.heap.size+1+1,7,none⟩) (by show w.heap.size+1≠w.heap.size+1+1;omega) (.slice C (L.length+1) D));have xt:=hid (T.set_ 7 (.slice C (L.length+1) D));have xu:Hid ((Y.setCell ⟨w.heap.size+1+1,7,none⟩ (.slice C (L.length+1) D)).ownsRow F.heap.size 3 1 (.slice C (L.length+1) D) (L.length+1) (ints (L ++ [x]))):=hid (World.ownsRow.kept X (N2_ (World.grownBy.refl Y (some (w.heap.size+1+1))) (.inl rfl) _) (by
     rcases hb:(Value.slice C (L.length+1) D).ownBlock with _ | i
     ·exact .inl rfl
     ·right
      intro e;injection e with e;have h1:=(World.ownsRow.lt X i hb).1;have h2:=P.out;omega))
    have xr:=hid ((x7.out.below S).storeS e7 (.slice C (L.length+1) D));have xs:=hid ((xa.out.trans (S.mono (by have:=P.out;omega))).setCell (p:=⟨w.heap.size+1+1,7,none⟩) (by show w.heap.size≤w.heap.size+1+1;omega) (.slice C (L.length+1) D));have xv:Hid (F.heap.size≤(Y.setCell ⟨w.heap.size+1+1,7,none⟩ (.slice C (L.length+1) D)).heap.size):=hid (by simp [World.setCell];exact Nat.le_trans Q.out S.size);clear X U xp T S x5 R;go_wp2
    go_roundw
    case rel=>exact ⟨k+1,C,L.length+1,D,z42_,q41_,xw.out,xt.out,by rw [Hn.out,List.length_append];exact xu.out,xr.out,xs.out,xv.out⟩
    case measure=>simp [intOf];omega
  ·have xz:k=o.length:=by omega
   have HL:Hid ((o.take k).filter p=o.filter p):=hid (by rw [xz,List.take_length]);have y8:¬ (k:Int)<(o.length:Int):=q41_;have d0:=u.out.cell 0;have d1:=u.out.cell 1;have d2:=u.out.cell 2;have d3:=u.out.cell 3;have d4:=u.out.cell 4;have d5:=u.out.cell 5;have d6:=u.out.cell 6;have R:=u.out.cell 7;have z0:=r.out.cell 0;have z1:=r.out.cell 1;have z2:=r.out.cell 2;have z3:=r.out.cell 3;have z4:=r.out.cell 4;have z5:=r.out.cell 5;have z6:=r.out.cell 6;have z7:=r.out.cell 7;have y0:=r.out.frozen 0;have y1:=r.out.frozen 1;have y2:=r.out.frozen 2;have y3:=r.out.frozen 3;have y4:=r.out.frozen 4;have y5:=r.out.frozen 5;have y6:=r.out.frozen 6;have y7:=r.out.frozen 7;go_wp2;have G:Blk ((((((((wr.setCell ⟨w.heap.size+1,0,none⟩ (.int .i64 m.t)).setCell ⟨w.heap.size+1,1,none⟩ (.int .i64 m.n)).setCell ⟨w.heap.size+1,2,none⟩ (.int .i64 m.a)).setCell ⟨w.heap.size+1,3,none⟩ (.int .i64 m.b)).setCell ⟨w.heap.size+1,4,none⟩ (.slice d q cl)).setCell ⟨w.heap.size+1,5,none⟩ (.slice c j g)).setCell ⟨w.heap.size+1,6,none⟩ (.slice y s.length cs)).setCell ⟨w.heap.size+1,7,none⟩ (.slice z nm B)) (w.heap.size+1) 59 #[.int .i64 m.t,.int .i64 m.n,.int .i64 m.a,.int .i64 m.b,.slice d q cl,.slice c j g,.slice y s.length cs,.slice z nm B]:=by
    have h:=((((((((r.out.set_ 0 (.int .i64 m.t)).set_ 1 (.int .i64 m.n)).set_ 2 (.int .i64 m.a)).set_ 3 (.int .i64 m.b)).set_ 4 (.slice d q cl)).set_ 5 (.slice c j g)).set_ 6 (.slice y s.length cs)).set_ 7 (.slice z nm B));exact k27_
   have xy:Below w.heap.size w ((((((((wr.setCell ⟨w.heap.size+1,0,none⟩ (.int .i64 m.t)).setCell ⟨w.heap.size+1,1,none⟩ (.int .i64 m.n)).setCell ⟨w.heap.size+1,2,none⟩ (.int .i64 m.a)).setCell ⟨w.heap.size+1,3,none⟩ (.int .i64 m.b)).setCell ⟨w.heap.size+1,4,none⟩ (.slice d q cl)).setCell ⟨w.heap.size+1,5,none⟩ (.slice c j g)).setCell ⟨w.heap.size+1,6,none⟩ (.slice y s.length cs)).setCell ⟨w.heap.size+1,7,none⟩ (.slice z nm B)):=((((((((x0.out.setCell (p:=⟨w.heap.size+1,0,none⟩) (Nat.le_succ _) _).setCell (p:=⟨w.heap.size+1,1,none⟩) (Nat.le_succ _) _).setCell (p:=⟨w.heap.size+1,2,none⟩) (Nat.le_succ _) _).setCell (p:=⟨w.heap.size+1,3,none⟩) (Nat.le_succ _) _).setCell (p:=⟨w.heap.size+1,4,none⟩) (Nat.le_succ _) _).setCell (p:=⟨w.heap.size+1,5,none⟩) (Nat.le_succ _) _).setCell (p:=⟨w.heap.size+1,6,none⟩) (Nat.le_succ _) _).setCell (p:=⟨w.heap.size+1,7,none⟩) (Nat.le_succ _) _);have y9:=X9_ (X9_ (X9_ (X9_ (X9_ (X9_ (X9_ (X1_ wr (w.heap.size+1) 0 (.int .i64 m.t)) (X1_ _ (w.heap.size+1) 1 (.int .i64 m.n))) (X1_ _ (w.heap.size+1) 2 (.int .i64 m.a))) (X1_ _ (w.heap.size+1) 3 (.int .i64 m.b))) (X1_ _ (w.heap.size+1) 4 (.slice d q cl))) (X1_ _ (w.heap.size+1) 5 (.slice c j g))) (X1_ _ (w.heap.size+1) 6 (.slice y s.length cs))) (X1_ _ (w.heap.size+1) 7 (.slice z nm B));generalize ((((((((wr.setCell ⟨w.heap.size+1,0,none⟩ (.int .i64 m.t)).setCell ⟨w.heap.size+1,1,none⟩ (.int .i64 m.n)).setCell ⟨w.heap.size+1,2,none⟩ (.int .i64 m.a)).setCell ⟨w.heap.size+1,3,none⟩ (.int .i64 m.b)).setCell ⟨w.heap.size+1,4,none⟩ (.slice d q cl)).setCell ⟨w.heap.size+1,5,none⟩ (.slice c j g)).setCell ⟨w.heap.size+1,6,none⟩ (.slice y s.length cs)).setCell ⟨w.heap.size+1,7,none⟩ (.slice z nm B))=w9 at *
   have xm:=World.ownsRow.kept x3.out y9 (.inr fun e=>sw_no (World.ownsRow.lt x3.out _ e).1 P.out);have k0:w9.cell? ⟨w.heap.size+1,0,none⟩=some (.int .i64 m.t):=G.cell 0;have k1:w9.cell? ⟨w.heap.size+1,1,none⟩=some (.int .i64 m.n):=G.cell 1;have k2:w9.cell? ⟨w.heap.size+1,2,none⟩=some (.int .i64 m.a):=G.cell 2;have k3:w9.cell? ⟨w.heap.size+1,3,none⟩=some (.int .i64 m.b):=G.cell 3;have k4:w9.cell? ⟨w.heap.size+1,4,none⟩=some (.slice d q cl):=G.cell 4;have k5:w9.cell? ⟨w.heap.size+1,5,none⟩=some (.slice c j g):=G.cell 5;have k6:w9.cell? ⟨w.heap.size+1,6,none⟩=some (.slice y s.length cs):=G.cell 6;have k7:w9.cell? ⟨w.heap.size+1,7,none⟩=some (.slice z nm B):=G.cell 7;refine bodyPost_ret (v:=.agg #[.int .i64 m.t,.int .i64 m.n,.int .i64 m.a,.int .i64 m.b,.slice d q cl,.slice c j g,.slice y s.length cs,.slice z nm B]) ?_ rfl ?_
   ·simp [results,Tryz.results42,go_sem,k0,k1,k2,k3,k4,k5,k6,k7]
   ·rw [HL.out] at xm
    exact ⟨_,_,_,rfl,L.own_le xm (Nat.zero_le _),xy⟩
open Go Go.RowKit
theorem Row.behindV {w:World} {B:Nat} {d:Addr} {n c:Nat} {x:Int} {l:List Int} (h:Row w B (.slice (some d) n c) (x :: l)):Row w B (.slice (some (d.add 1)) l.length (c - 1)) l∧n=l.length+1∧1≤c:=by
 obtain ⟨A,o,e,⟨g,p,_⟩,k⟩:=h;injection e with e1 e2 e3;subst e1 e2 e3;simp only [List.length_cons] at g;refine ⟨⟨some (d.add 1),c - 1,rfl,⟨q41_,q41_,fun e=>by cases e⟩,fun i q=>?_⟩,rfl,q41_⟩;obtain ⟨m,f,hb,j⟩:=k (i+1) (by simp only [List.length_cons];omega);injection f with f;subst f;refine ⟨d.add 1,rfl,by rw [Z2_];exact hb,?_⟩;rw [Go.Deep.add_add,Nat.add_comm 1 i,j];rfl
theorem H6_ (a b:List Int):(Z5_ a b).length≤a.length:=y28_
theorem Vz8 {l:List Int} {p:Int→Bool} {k:Nat} (c:k<l.length) (h:(l.take k).any p=false):(l.take (k+1)).any p=p (l.getD k 0):=by
 rw [List.take_succ_eq_append_getElem c,List.any_append,h,show l[k]=l.getD k 0 by simp [List.getD,c]];simp
theorem Zf8 (l:List (List Int)) (hl:∀ i,IsSet (l.getD i [])) (S:∀ i,(l.getD i []).length≤64) (hL:l.length≤64):∀ (s d:List Int) (j m o:Value) (w:World),(∀ x∈s,0≤x∧x<(l.length:Int))→IsSet d→d.length+s.length≤1000→Rows2 w w.heap.size j l→Row w w.heap.size m s→Row w w.heap.size o d →
  Calls Tryz.prog 158 #[j,m,o] w (Says w (G5_ l s d))
 | [],d,j,m,o,w,_,_,_,hv,hs,hu=>by
  obtain ⟨As,cs,rfl,_⟩:=hs
  go_enter Tryz.func158,Tryz.ntmps158
  exact x4_
 | x :: s,d,j,m,o,w,hin,hus,hsz,hv,hs,hu=>by
  have ih:Hid (∀ (d:List Int) (j m o:Value) (w:World),IsSet d→d.length+s.length≤1000→Rows2 w w.heap.size j l→Row w w.heap.size m s→Row w w.heap.size o d →
   Calls Tryz.prog 158 #[j,m,o] w (Says w (G5_ l s d))):=hid fun d j m o w g p h3 h4 h5=>Zf8 l hl S hL s d j m o w (fun y hy=>hin y j45_) g p h3 h4 h5
  have HV:=hid hv;have HS:=hid hs;have HU:=hid hu;have xv:=hid hus;obtain ⟨X,Q⟩:∃ X:Nat,x=(X:Int):=⟨x.toNat,by have:=hin x j41_;omega⟩;have xn:X<l.length:=by have:=hin x j41_;omega
  have xz:(X:Int)<(l.length:Int):=q41_;have xu:=hid (hl X);have xg:=hid (S X);obtain ⟨Al,cl,rfl,_⟩:=id hv;obtain ⟨As,cs,rfl,_⟩:=id hs;obtain ⟨Au,cu,rfl,_⟩:=id hu;obtain ⟨E,hA,x5⟩:=Row.nthV hs (k:=0) j41_;subst hA;have P:=x5 w (Below.refl _ _);rw [show (x :: s).getD 0 0=(X:Int) from Q,add_zero] at P;obtain ⟨xw,ul,xm,gl,x9⟩:=Rows2.read hv X xn;subst xm;have xh:=hid x9;obtain ⟨C,_,y0⟩:=Row.behindV hs;have xc:=hid C;have y1:(1:Int)≤(cs:Int):=q41_;have y2:(s.length:Int)+1≤(cs:Int):=by obtain ⟨_,_,e,⟨g,_⟩,_⟩:=id hs;injection e with e1 I e3;subst e3;simp only [List.length_cons] at g;omega
  have xa:d.length≤1048576:=q41_;have xq:(Z5_ (l.getD X []) d).length≤64:=Nat.le_trans (H6_ _ _) (S X);have xr:((Z5_ (l.getD X []) d).length:Int)≤64:=q41_;have K:Hid (G5_ l (x :: s) d=(Z5_ (l.getD X []) d).any fun r=>G5_ l s (Z9_ d [r])):=hid (by rw [G5_,Q,Int.toNat_natCast]);have xf:=hid (J0_ (l.getD X []) d);clear hv hs hu hin hus C x9 x5 Q
  go_enter Tryz.func158,Tryz.ntmps158
  go_wp2_with fail
  refine (Q0_ _ _ (l.getD X []) d _ xh.out HU.out (by have:=xg.out;omega) xa).mono ?_;rintro e w1 ⟨v1,rfl,x7,x3⟩;have N:=hid x7;have Z:=hid x3;obtain ⟨M,hM⟩:∃ M,Z5_ (l.getD X []) d=M:=⟨_,rfl⟩;rw [hM] at N xq xr K xf;obtain ⟨Am,H,rfl,_⟩:=id N.out;have xd:=hid P;have xo:E.block<w.heap.size:=by obtain ⟨_,_,e,_,hk⟩:=HS.out;injection e with e1;subst e1;obtain ⟨a,I,hb,_⟩:=hk 0 j41_;injection I with I;rw [I];exact hb
  clear x7 x3 hM P gl;go_wp2
  go_loopw [6,8] (fun _ Y wr=>∃ k:Nat,Y=.int .i64 (k:Int)∧k≤M.length∧Hid ((M.take k).any (fun r=>G5_ l s (Z9_ d [r]))=false∧Below w1.heap.size w1 wr)) (fun _ Y _=>M.length - (intOf Y).toNat)
  case atStart=>exact ⟨0,rfl,Nat.zero_le _,j41_,Below.refl _ _⟩
  case round =>
   obtain ⟨k,rfl,hk,B⟩:=hrel;by_cases x6:k<M.length
   ·have y6:(k:Int)<(M.length:Int):=by omega
    have y8:IntKind.i64.wrap ((k:Int)+1)=(k:Int)+1:=q42_;obtain ⟨ad,hA,_,y3,T⟩:=Row.oneV (N.out.up B.out.2) x6;subst hA;have y4:(k:Int)+1≤(H:Int):=q41_;have y5:(k:Int)≤(k:Int)+1:=q41_;have v:=hid (Z0_ Z.out (le_refl _) B.out.2);obtain ⟨r,U⟩:∃ r,M.getD k 0=r:=⟨_,rfl⟩;rw [U] at T;have x1:Hid (∀ (A:Option Addr) (n c:Nat),A=some (ad.add k)→n=1→c=H - k→Row wr wr.heap.size (.slice A n c) [r]):=hid fun A n c g p h3=>by subst g p h3;exact T
    have D:=hid (Vz8 x6 B.out.1);rw [U] at D;have xe:Hid ((Z9_ d [r]).length+s.length≤1000):=hid (by have:=Zx3 d [r];simp only [List.length_cons,List.length_nil] at this hsz;omega);clear T U;obtain ⟨z,V⟩:∃ z,G5_ l s (Z9_ d [r])=z:=⟨_,rfl⟩;have F:=(Below.refl wr.heap.size wr).drew;have xk:=hid ((HU.out.up v.out).up F);have O:=hid ((HV.out.up v.out).up F);have C:=(xc.out.up v.out).up F;have x2:Hid (cs=1→s=[]):=hid fun h=>List.eq_nil_of_length_eq_zero q41_;have xi:Hid (∀ (A:Option Addr) (n c:Nat),(A=some (E.add 1)∨(s=[]∧A=some E))→n=s.length→c=cs - 1→∀ W,Below wr.drew.heap.size wr.drew W→Row W W.heap.size (.slice A n c) s):=hid fun A n c g p h3 W J=>by
     subst p h3;rcases g with rfl | ⟨g,rfl⟩
     ·exact C.up J
     ·have hc:=C.up J
      obtain ⟨_,_,e,⟨q1,q2,_⟩,_⟩:=hc;injection e with _ _ e3;subst e3;subst g;exact ⟨_,_,rfl,⟨q1,q2,fun e=>by cases e⟩,fun i hi=>absurd hi j41_⟩
    have hS1:(1:Int)≤(s.length:Int)+1:=q41_;have xx:(0:Int)≤1:=q41_;have xy:((s.length:Int)+1 - 1).toNat=s.length:=q41_;have xl:Hid (∀ (A:Option Addr) (n c:Nat),A=some (ad.add k)→n=1→c=H - k→Row wr.drew wr.drew.heap.size (.slice A n c) [r]):=hid fun A n c g p h3=>(x1.out A n c g p h3).up F;have u:Hid (Below wr.drew.heap.size wr.drew wr.drew):=hid (Below.refl _ _);have K5:Hid (∀ W,Below wr.drew.heap.size wr.drew W→W.cell? E=some (.int .i64 (X:Int))):=hid fun W J=>((Z0_ v.out.drew (le_refl _) J).cell xo).trans xd.out;have HM:Hid (∀ (j m o:Value) (W:World),Rows2 W W.heap.size j l→Row W W.heap.size m s→Row W W.heap.size o (Z9_ d [r])→Calls Tryz.prog 158 #[j,m,o] W (Says W z)):=hid fun j m o W g p h3=>by rw [← V];exact ih.out _ j m o W (B6_ _ _) xe.out g p h3
    rw [V] at D;clear V F x1 ih C;have y7:¬ H=k:=q41_;by_cases G:cs=1
    all_goals
     go_wp2
     go_region_held3 (fun W=>W.cell? E=some (.int .i64 (X:Int)))
      (exact K5.out _ u.out)
      (first
      | (go_at_call 13;refine (A4_ _ _ d [r] _ xk.out (xl.out _ _ _ (by first | rfl | (simp [Addr.add];done) | (simp [Addr.add];omega) | (simp;intro h;omega)) (by first | rfl | omega | (simp;try omega)) (by first | rfl | omega | (simp;try omega))) xa j41_).mono ?_;rintro e y9 ⟨xt,rfl,x8,R⟩;replace u:=hid (Z0_ u.out (le_refl _) R);replace O:=hid (O.out.up R);have xj:=hid x8;clear x8 R)
      | (go_at_call_of 158 xt;refine (HM.out _ _ _ _ O.out (xi.out _ _ _ (by first | exact .inl rfl | exact .inr ⟨x2.out G,rfl⟩ | exact .inl (by simp [G]) | exact .inr ⟨x2.out G,by simp [G]⟩) (by first | rfl | omega | (simp;done) | (simp;omega)) (by first | rfl | omega | (simp;done) | (simp;omega)) _ u.out) xj.out).mono ?_;rintro e ya ⟨rfl,x4⟩;replace u:=hid (Z0_ u.out (le_refl _) x4);clear x4))
     go_simp;have xb:=hid (Z0_ v.out.drew (le_refl _) u.out);have x0:=hid (Z0_ B.out.2.drew (le_refl _) u.out);cases z
     ·go_wp2
      go_roundw
      case rel=>first | exact ⟨k+1,z42_,q41_,D.out,x0.out⟩ | exact ⟨_,.int .i64 ((k:Int)+1),_,_,_,_,_,_,_,_,_,_,_,_,_,_,_,_,_,⟨k+1,z42_,q41_,D.out,x0.out⟩,by rw [G]⟩
      case measure=>simp [intOf];omega
     ·have L:Hid (G5_ l (x :: s) d=true):=hid (by
       rw [K.out];have g:=D.out;rw [List.any_eq_true] at g ⊢;obtain ⟨q,hq,xs⟩:=g;exact ⟨q,List.mem_of_mem_take hq,xs⟩)
      go_wp2;go_ret;exact ⟨by rw [L.out];rfl,xb.out⟩
   ·have xp:k=M.length:=by omega
    subst xp;have L:Hid (G5_ l (x :: s) d=false):=hid (by rw [K.out,← B.out.1,List.take_length]);have v:=hid (Z0_ Z.out (le_refl _) B.out.2);go_wp2;go_ret;exact ⟨by rw [L.out];rfl,v.out⟩
open Go Go.RowKit
theorem Xz0 (G F:Value) (s l:List Int) (w:World) (y:mayB s=true) (k:(sortL l).length=l.length) (hs:Row w w.heap.size G s) (z:Row w w.heap.size F l) (x2:s.length≤1000) (x1:l.length≤1000) :
  Calls Tryz.prog 30 #[G,F] w (Gives w (Z9_ (Z5_ s (sortL l)) (Z5_ (sortL l) s))):=by
 have r:=hid hs;have L:=hid z;have K:=hid y;obtain ⟨Z,cs,rfl,_⟩:=hs;obtain ⟨X,cp,rfl,_⟩:=z;clear y
 go_enter Tryz.func30,Tryz.ntmps30
 go_wp2_with fail
 refine (L6_ _ l _ L.out q41_).mono ?_;rintro e w1 ⟨v1,rfl,B,v⟩;have d:=hid B;have o:=hid v;obtain ⟨P,hP⟩:∃ P,sortL l=P:=⟨_,rfl⟩;have M:=hid hP;rw [hP] at d k;have g:P.length≤1048576:=q41_;have m:s.length≤1048576:=q41_;obtain ⟨Y,cq,rfl,_⟩:=id d.out;have x0:((P.length:Int) != (l.length:Int))=false:=by rw [k];simp
 clear B v hP k
 go_wp2_with fail
 refine (T7_ _ s true K.out _ (r.out.up o.out)).mono ?_;rintro e w2 ⟨rfl,h⟩;have p:=hid (Z0_ o.out (le_refl _) h);have q:=hid (d.out.up h);have u:=hid (r.out.up p.out);clear h
 go_wp2_with fail
 refine (Q0_ _ _ s P _ u.out q.out m g).mono ?_;rintro e w3 ⟨v3,rfl,C,c⟩;have O:=hid C;have H:=hid (Z0_ p.out (le_refl _) c);have N:=hid (q.out.up c);have T:=hid (u.out.up c);clear c C
 go_wp2_with fail
 refine (Q0_ _ _ P s _ N.out T.out g m).mono ?_;rintro e w4 ⟨v4,rfl,D,j⟩;have R:=hid D;have I:=hid (Z0_ H.out (le_refl _) j);have Q:=hid (O.out.up j);clear j D;have U:(Z5_ s P).length≤1048576:=Nat.le_trans (H6_ s P) m;have V:(Z5_ P s).length≤1048576:=Nat.le_trans (H6_ P s) g
 go_wp2_with fail
 refine (A4_ _ _ (Z5_ s P) (Z5_ P s) _ Q.out R.out U V).mono ?_;rintro e w5 ⟨W,rfl,E,x⟩;have S:=hid E;have J:=hid (Z0_ I.out (le_refl _) x);clear x E;go_wp2;go_ret;exact ⟨W,rfl,by rw [M.out];exact S.out,J.out⟩
theorem Ye4 (q p:Value) (s l:List Int) (w:World) (c:mayB s=false∨(mayB s=true∧(sortL l).length≠l.length)) (hs:Row w w.heap.size q s) (o:Row w w.heap.size p l) (_hsl:s.length≤1000) (F:l.length≤1000) :
  Calls Tryz.prog 30 #[q,p] w (Gives w []):=by
 have m:=hid hs;have j:=hid o;obtain ⟨z,cs,rfl,_⟩:=hs;obtain ⟨y,B,rfl,_⟩:=o;obtain ⟨P,hP⟩:∃ P,sortL l=P:=⟨_,rfl⟩;have k:=hid hP;rw [hP] at c;clear hP;rcases c with c | ⟨c,C⟩
 ·have h:=hid c
  clear c
  go_enter Tryz.func30,Tryz.ntmps30
  go_wp2_with fail
  refine (L6_ _ l _ j.out q41_).mono ?_;rintro e x ⟨v,rfl,g,d⟩;rw [k.out] at g;have HB1:=hid d;obtain ⟨r,u,rfl,_⟩:=g;clear d
  go_wp2_with fail
  refine (T7_ _ s false h.out _ (m.out.up HB1.out)).mono ?_;exact y6_
 ·have h:=hid c
  have D:((P.length:Int) != (l.length:Int))=true:=k41_;have E:((P.length:Int)==(l.length:Int))=false:=k41_;clear c
  go_enter Tryz.func30,Tryz.ntmps30
  go_wp2_with fail
  refine (L6_ _ l _ j.out q41_).mono ?_;rintro e x ⟨v,rfl,g,d⟩;rw [k.out] at g;have HB1:=hid d;obtain ⟨r,u,rfl,_⟩:=g;clear d
  go_wp2_with fail
  refine (T7_ _ s true h.out _ (m.out.up HB1.out)).mono ?_;exact y6_
theorem Ye5 (d c:Value) (s l:List Int) (w:World) (hs:Row w w.heap.size d s) (g:Row w w.heap.size c l) (k:s.length≤1000) (j:l.length≤1000) :
  Calls Tryz.prog 30 #[d,c] w (Gives w (turnL s l)):=by
 unfold turnL;by_cases h:mayB s=true∧(sortL l).length=l.length
 ·rw [if_pos h];exact Xz0 d c s l w h.1 h.2 hs g k j
 ·rw [if_neg h]
  refine Ye4 d c s l w ?_ hs g k j;exact q27_
end Wp
end Go.Proofs.YtnbcaibflhgdoaaGreatDoor
