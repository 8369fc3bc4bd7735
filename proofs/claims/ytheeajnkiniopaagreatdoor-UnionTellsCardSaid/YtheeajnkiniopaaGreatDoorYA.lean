/- Points that are come to by arcs, plain. Nothing of the program here. Levels of what is come to; the first way that is come to is the least of the shortest ones. Nothing of the program here. A common set grown along ways, plain: that it is the same whoever grows it, and that what is not come to bounds it. Nothing of the program here. -/
import Derived.Lib.Hide
import Derived.Test.YtheeajnkiniopaaGreatDoorZP
import Derived.Test.YtheeajnkiniopaaGreatDoorVReach
import Derived.Test.YtheeajnkiniopaaGreatDoorURMay
import Derived.Test.YtheeajnkiniopaaGreatDoorUAdj
import Derived.Test.YtheeajnkiniopaaGreatDoorX0A
namespace Go.Proofs.YtheeajnkiniopaaGreatDoor.Wp.R
open K (updI nodup_le)
structure Dig (adj:List (List Int)):Prop where
 up:∀ x,(adj.getD x []).Pairwise (·<·)
 pt:∀ x,∀ y∈adj.getD x [],0≤y∧y<(adj.length:Int)
structure Pts (n:Nat) (l:List Int):Prop where
 up:l.Pairwise (·<·)
 pt:∀ y∈l,0≤y∧y<(n:Int)
def cAt (come:List Int) (j:Nat):Int:=come.getD j 0
def Y5_ (adj:List (List Int)) (come:List Int) (j:Nat):List Int:=adj.getD (cAt come j).toNat []
theorem M3_ {come:List Int} {q:Int} {j:Nat} (h:j<come.length):cAt (come ++ [q]) j=cAt come j:=by
 unfold cAt;rw [List.getD_eq_getElem?_getD,List.getElem?_append_left h,← List.getD_eq_getElem?_getD]
theorem Yf6 {come:List Int} {q:Int}:cAt (come ++ [q]) come.length=q:=by
 unfold cAt;rw [List.getD_eq_getElem?_getD,List.getElem?_append_right (Nat.le_refl _)];simp
theorem F0_ {come:List Int} {j:Nat} (h:j<come.length):cAt come j∈come:=by
 unfold cAt;rw [show come.getD j 0=come[j] by simp [List.getD,h]];exact List.getElem_mem h
theorem Zf2 {come:List Int} {x:Int} (h:x∈come):∃ j,j<come.length∧cAt come j=x:=by
 obtain ⟨j,c,e⟩:=List.mem_iff_getElem.1 h;exact ⟨j,c,by unfold cAt;rw [← e];simp [List.getD,c]⟩
structure Bfs (adj:List (List Int)) (src:List Int) (come:List Int) (ah:Nat→Int) (par:Nat→Nat) (i k:Nat):Prop where
 nodup:come.Nodup
 pt:∀ x∈come,0≤x∧x<(adj.length:Int)
 new:∀ x:Nat,x<adj.length→(ah x=-1↔(x:Int)∉come)
 pre:∃ rest,come=src ++ rest
 start:∀ j,j<src.length→ah (cAt come j).toNat=-2
 old:∀ j,src.length≤j→j<come.length→par j<j∧par j≤i∧ah (cAt come j).toNat=cAt come (par j)∧cAt come j∈Y5_ adj come (par j)∧(par j=i→cAt come j∈(Y5_ adj come i).take k)
 first:∀ j,src.length≤j→j<come.length→∀ m,m<par j→cAt come j∉Y5_ adj come m
 mono:∀ j l,src.length≤j→j<l→l<come.length→par j≤par l∧(par j=par l→cAt come j<cAt come l)
 closed:∀ m,m<i→m<come.length→∀ x∈Y5_ adj come m,x∈come
 some_:i<come.length→∀ x∈(Y5_ adj come i).take k,x∈come
section
variable {adj:List (List Int)} {src come:List Int} {ah:Nat→Int} {par:Nat→Nat} {i k:Nat}
theorem Xi6 (hs:Pts adj.length src) (ha:∀ x:Nat,ah x=if (x:Int)∈src then -2 else -1):Bfs adj src src ah (fun _=>0) 0 0:=by
 refine ⟨hs.up.imp fun o e=>by omega,hs.pt,fun x _=>?_,⟨[],z40_⟩,fun j g=>?_,fun j c d=>by omega,fun j c d=>by omega,fun j l c d h3=>by omega,fun m f=>by omega,fun _ x k=>by simp at k⟩
 ·rw [ha]
  split
  ·rename_i h
   exact ⟨fun e=>by omega,fun e=>absurd h e⟩
  ·rename_i h
   exact ⟨fun _=>h,fun _=>rfl⟩
 ·have f:=F0_ g
  have:=hs.pt _ f;rw [ha,if_pos]
  rwa [Int.toNat_of_nonneg this.1]
theorem Bfs.skip (h:Bfs adj src come ah par i k) (r:i<come.length) (q:Nat) (g:(Y5_ adj come i)[k]?=some (q:Int)) (y:q<adj.length) (ha:ah q≠-1):Bfs adj src come ah par i (k+1):=by
 have u:k<(Y5_ adj come i).length:=(List.getElem?_eq_some_iff.1 g).1;have m:(Y5_ adj come i).take (k+1)=(Y5_ adj come i).take k ++ [(q:Int)]:=by
  rw [List.take_succ_eq_append_getElem u,(List.getElem?_eq_some_iff.1 g).2]
 have s:(q:Int)∈come:=Classical.byContradiction fun v=>ha ((h.new q y).2 v);refine ⟨h.nodup,h.pt,h.new,h.pre,h.start,fun j o p=>?_,h.first,h.mono,h.closed,fun _ x f=>?_⟩
 ·obtain ⟨a,b,c,d,e⟩:=h.old j o p
  exact ⟨a,b,c,d,fun w=>by rw [m];exact List.mem_append.2 (.inl (e w))⟩
 ·rw [m,List.mem_append,List.mem_singleton] at f
  rcases f with f | f
  ·exact h.some_ r x f
  ·rw [f];exact s
theorem M4_ {come:List Int} {q:Int} {m:Nat} (h:m<come.length):Y5_ adj (come ++ [q]) m=Y5_ adj come m:=by unfold Y5_;rw [M3_ h]
theorem Bfs.visit (hd:Dig adj) (h:Bfs adj src come ah par i k) (s:i<come.length) (q:Nat) (u:(Y5_ adj come i)[k]?=some (q:Int)) (I:q<adj.length) (ha:ah q=-1) :
  Bfs adj src (come ++ [(q:Int)]) (updI ah q (cAt come i)) (fun j=>if j=come.length then i else par j) i (k+1):=by
 have B:k<(Y5_ adj come i).length:=(List.getElem?_eq_some_iff.1 u).1;have z:(Y5_ adj come i).take (k+1)=(Y5_ adj come i).take k ++ [(q:Int)]:=by
  rw [List.take_succ_eq_append_getElem B,(List.getElem?_eq_some_iff.1 u).2]
 have w:(q:Int)∉come:=(h.new q I).1 ha;have H:(q:Int)∈Y5_ adj come i:=List.mem_iff_getElem?.2 ⟨k,u⟩;have G:∀ x∈come,x.toNat≠q:=fun x f e=>w (by
  have:=(h.pt x f).1;rw [show (q:Int)=x by omega];exact f)
 have A:∀ x∈come,updI ah q (cAt come i) x.toNat=ah x.toNat:=fun x f=>if_neg (G x f);obtain ⟨rest,E⟩:=h.pre;have K:src.length≤come.length:=by rw [E,List.length_append];omega
 have v:∀ {j},j<(come ++ [(q:Int)]).length→j<come.length∨j=come.length:=fun {j} g=>by rw [List.length_append] at g;simp at g;omega
 refine ⟨?_,fun x f=>?_,fun x f=>?_,⟨rest ++ [(q:Int)],by rw [E,List.append_assoc]⟩,fun j g=>?_,fun j p r=>?_,fun j p r m o=>?_,fun j l p r h3=>?_,fun m o J x f=>?_,fun _ x f=>?_⟩
 ·rw [List.nodup_append]
  refine ⟨h.nodup,z40_,fun a ha b hb e=>w ?_⟩;rw [List.mem_singleton] at hb;rw [← hb,← e];exact ha
 ·rw [List.mem_append,List.mem_singleton] at f
  rcases f with f | f
  ·exact h.pt x f
  ·rw [f];omega
 ·rw [List.mem_append,List.mem_singleton,not_or]
  by_cases e:x=q
  ·subst e
   rw [show updI ah x (cAt come i) x=cAt come i from if_pos rfl];have:=(h.pt _ (F0_ s)).1;exact ⟨fun hc=>by omega,fun hc=>absurd rfl hc.2⟩
  ·rw [show updI ah q (cAt come i) x=ah x from if_neg e,h.new x f]
   exact ⟨fun hc=>⟨hc,q40_⟩,fun hc=>hc.1⟩
 ·rw [M3_ q40_,A _ (F0_ q40_)]
  exact h.start j g
 ·rcases v r with g | g
  ·rw [if_neg q40_,M3_ g,A _ (F0_ g)]
   obtain ⟨a,b,c,d,e⟩:=h.old j p g;rw [M3_ q40_,M4_ q40_];refine ⟨a,b,c,d,fun y=>?_⟩;rw [M4_ s,z];exact List.mem_append.2 (.inl (e y))
  ·subst g
   rw [if_pos rfl,Yf6,M3_ s,M4_ s];refine ⟨s,Nat.le_refl _,?_,H,fun _=>?_⟩
   ·rw [Int.toNat_natCast]
    exact if_pos rfl
   ·rw [z]
    exact List.mem_append.2 (.inr z40_)
 ·rcases v r with g | g
  ·rw [if_neg q40_] at o
   have:=(h.old j p g).1;rw [M3_ g,M4_ q40_];exact h.first j p g m o
  ·subst g
   rw [if_pos rfl] at o;rw [Yf6,M4_ q40_];exact fun f=>w (h.closed m o q40_ _ f)
 ·rcases v h3 with hl | hl
  ·rw [if_neg q40_,if_neg q40_,M3_ q40_,M3_ hl]
   exact h.mono j l p r hl
  ·subst hl
   rw [if_neg q40_,if_pos rfl,M3_ r,Yf6];obtain ⟨_,b,_,_,e⟩:=h.old j p r;refine ⟨b,fun y=>?_⟩;have o:=e y;obtain ⟨m,F,C⟩:=List.mem_iff_getElem.1 o;rw [List.length_take] at F;rw [List.getElem_take] at C;have:=List.pairwise_iff_getElem.1 (hd.up (cAt come i).toNat) m k (by show m<(Y5_ adj come i).length;omega) B q40_;rw [← C,← (List.getElem?_eq_some_iff.1 u).2];exact this
 ·have D:m<come.length:=by omega
  rw [M4_ D] at f;exact List.mem_append.2 (.inl (h.closed m o D x f))
 ·rw [M4_ s,z,List.mem_append,List.mem_singleton] at f
  rcases f with f | f
  ·exact List.mem_append.2 (.inl (h.some_ s x f))
  ·rw [f];exact List.mem_append.2 (.inr z40_)
theorem Bfs.next (h:Bfs adj src come ah par i k) (o:(Y5_ adj come i).length≤k):Bfs adj src come ah par (i+1) 0:=by
 refine ⟨h.nodup,h.pt,h.new,h.pre,h.start,fun j h1 h2=>?_,h.first,h.mono,fun m p g x f=>?_,fun _ x f=>by simp at f⟩
 ·exact y25_
 ·by_cases e:m=i
  ·subst e
   exact h.some_ g x (by rw [List.take_of_length_le o];exact f)
  ·exact h.closed m q40_ g x f
theorem Bfs.len (h:Bfs adj src come ah par i k):come.length≤adj.length:=by
 have:=nodup_le (b:=(List.range adj.length).map Int.ofNat) h.nodup fun x c=>by
  have:=h.pt x c;exact k14_
 simpa using this
def Done (adj:List (List Int)) (src come:List Int) (ah:Nat→Int) (par:Nat→Nat):Prop:=Bfs adj src come ah par come.length 0
theorem Done.closed (h:Done adj src come ah par) {x y:Int} (d:x∈come) (e:y∈adj.getD x.toNat []):y∈come:=by
 obtain ⟨j,c,rfl⟩:=Zf2 d;exact Bfs.closed h j c c y e
theorem Done.has (h:Done adj src come ah par) {x:Int} (c:x∈src):x∈come:=by
 obtain ⟨rest,e⟩:=Bfs.pre h;rw [e];exact List.mem_append.2 (.inl c)
theorem Done.least (h:Done adj src come ah par) (S:Int→Prop) (f:∀ x∈src,S x) (g:∀ x y,x∈come→S x→y∈adj.getD x.toNat []→S y):∀ x∈come,S x:=by
 have p:∀ m j,j<m→j<come.length→S (cAt come j):=by
  intro m
  induction m with
  | zero=>intro j c;omega
  | succ m ih =>
   intro j c k;obtain ⟨rest,e⟩:=Bfs.pre h;by_cases hs:j<src.length
   ·refine f _ ?_
    have:cAt come j=cAt src j:=by
     unfold cAt;rw [e,List.getD_eq_getElem?_getD,List.getElem?_append_left hs,← List.getD_eq_getElem?_getD]
    rw [this];exact F0_ hs
   ·obtain ⟨a,_,_,d,_⟩:=Bfs.old h j q40_ k
    exact g _ _ (F0_ q40_) (ih _ q40_ q40_) d
 intro x o;obtain ⟨j,c,rfl⟩:=Zf2 o;exact p (j+1) j q40_ c
inductive Way (come:List Int) (par:Nat→Nat) (ns:Nat):Nat→List Int→Prop
 | start (j:Nat):j<ns→Way come par ns j [cAt come j]
 | next (j:Nat) (l:List Int):ns≤j→Way come par ns (par j) l→Way come par ns j (l ++ [cAt come j])
theorem Vw6 (h:Done adj src come ah par):∀ j,j<come.length→∃ l,Way come par src.length j l:=by
 have e:∀ m j,j<m→j<come.length→∃ l,Way come par src.length j l:=by
  intro m
  induction m with
  | zero=>intro j c;omega
  | succ m ih =>
   intro j c d;by_cases hs:j<src.length
   ·exact ⟨_,.start j hs⟩
   ·obtain ⟨a,_⟩:=Bfs.old h j q40_ d
    obtain ⟨l,hl⟩:=ih (par j) q40_ q40_;exact ⟨_,.next j l q40_ hl⟩
 exact fun j c=>e (j+1) j q40_ c
end
def Zk5 (p:Int) (st:List Int × (Nat→Int)) (q:Int):List Int × (Nat→Int):=if st.2 q.toNat=-1 then (st.1 ++ [q],updI st.2 q.toNat p) else st
def Q7_ (adj:List (List Int)) (st:List Int × (Nat→Int)) (i k:Nat):List Int × (Nat→Int):=((Y5_ adj st.1 i).take k).foldl (Zk5 (cAt st.1 i)) st
def stepS (adj:List (List Int)) (st:List Int × (Nat→Int)) (i:Nat):List Int × (Nat→Int):=if i<st.1.length then Q7_ adj st i (Y5_ adj st.1 i).length else st
def Vw7 (src:List Int):List Int × (Nat→Int):=(src,fun x=>if (x:Int)∈src then -2 else -1)
def runS (adj:List (List Int)) (src:List Int):Nat→List Int × (Nat→Int)
 | 0=>Vw7 src
 | i+1=>stepS adj (runS adj src i) i
def finS (adj:List (List Int)) (src:List Int):List Int × (Nat→Int):=runS adj src adj.length
section
variable {adj:List (List Int)} {src:List Int} {st:List Int × (Nat→Int)} {i k:Nat}
theorem Xy0:Q7_ adj st i 0=st:=rfl
theorem Zk6 (h:k<(Y5_ adj st.1 i).length):Q7_ adj st i (k+1)=Zk5 (cAt st.1 i) (Q7_ adj st i k) ((Y5_ adj st.1 i).getD k 0):=by
 unfold Q7_;rw [List.take_succ_eq_append_getElem h,List.foldl_append];rw [show (Y5_ adj st.1 i).getD k 0=(Y5_ adj st.1 i)[k] by simp [List.getD,h]];rfl
theorem Zf3 (hd:Dig adj) (par:Nat→Nat) (hi:i<st.1.length) (h:Bfs adj src st.1 st.2 par i 0):∀ k,k≤(Y5_ adj st.1 i).length→(∃ rest,(Q7_ adj st i k).1=st.1 ++ rest)∧∃ d,Bfs adj src (Q7_ adj st i k).1 (Q7_ adj st i k).2 d i k
 | 0,_=>⟨⟨[],by simp [Xy0]⟩,par,h⟩
 | k+1,hk=>by
  obtain ⟨⟨rest,hr⟩,d,hb⟩:=Zf3 hd par hi h k q40_;have c:k<(Y5_ adj st.1 i).length:=q40_;have f:i<(Q7_ adj st i k).1.length:=by rw [hr,List.length_append];omega
  have hc:cAt (Q7_ adj st i k).1 i=cAt st.1 i:=q24_;have ha:Y5_ adj (Q7_ adj st i k).1 i=Y5_ adj st.1 i:=by unfold Y5_;rw [hc]
  have m:(Y5_ adj st.1 i)[k]∈Y5_ adj st.1 i:=List.getElem_mem c;have o:=hd.pt _ _ m;obtain ⟨q,g⟩:∃ q:Nat,(Y5_ adj st.1 i)[k]=(q:Int):=⟨(Y5_ adj st.1 i)[k].toNat,q40_⟩;have j:(Y5_ adj (Q7_ adj st i k).1 i)[k]?=some (q:Int):=by rw [ha,List.getElem?_eq_getElem c,g]
  rw [Zk6 c,show (Y5_ adj st.1 i).getD k 0=(q:Int) by rw [← g];simp [List.getD,c]];unfold Zk5;rw [Int.toNat_natCast];split
  ·rename_i e
   have:=hb.visit hd f q j q40_ e;rw [hc] at this;exact ⟨⟨rest ++ [(q:Int)],by rw [hr,List.append_assoc]⟩,_,this⟩
  ·rename_i e
   exact ⟨⟨rest,hr⟩,d,hb.skip f q j q40_ e⟩
theorem Vx6 (hd:Dig adj) (par:Nat→Nat) (h:Bfs adj src st.1 st.2 par i 0):∃ f,Bfs adj src (stepS adj st i).1 (stepS adj st i).2 f (i+1) 0:=by
 unfold stepS;split
 ·rename_i hi
  obtain ⟨⟨rest,hr⟩,f,hb⟩:=Zf3 hd par hi h (Y5_ adj st.1 i).length (Nat.le_refl _);refine ⟨f,hb.next ?_⟩;have hc:cAt (Q7_ adj st i (Y5_ adj st.1 i).length).1 i=cAt st.1 i:=q24_;unfold Y5_ at hb ⊢;rw [show adj.getD (cAt st.1 i).toNat []=Y5_ adj st.1 i from rfl] at *
  rw [hc];exact Nat.le_refl _
 ·rename_i hi
  refine ⟨par,h.nodup,h.pt,h.new,h.pre,h.start,fun j h1 h2=>?_,h.first,h.mono,fun m k g=>?_,fun h1=>by omega⟩
  ·exact y25_
  ·exact h.closed m q40_ g
theorem Yf7 (hd:Dig adj) (hs:Pts adj.length src):∀ i,∃ par,Bfs adj src (runS adj src i).1 (runS adj src i).2 par i 0
 | 0=>⟨fun _=>0,Xi6 hs fun _=>rfl⟩
 | i+1=>by
  obtain ⟨par,h⟩:=Yf7 hd hs i;exact Vx6 hd par h
theorem fin_done (hd:Dig adj) (hs:Pts adj.length src):∃ par,Done adj src (finS adj src).1 (finS adj src).2 par:=by
 obtain ⟨par,h⟩:=Yf7 hd hs adj.length;have hl:=h.len;refine ⟨par,h.nodup,h.pt,h.new,h.pre,h.start,fun j f g=>?_,h.first,h.mono,fun m k o=>h.closed m (by unfold finS at k;omega) o,fun f=>by omega⟩;obtain ⟨a,b,c,d,e⟩:=h.old j f g;unfold finS at *
 exact ⟨a,q40_,c,d,fun p=>by omega⟩
theorem Yo5 (hl:(runS adj src i).1.length≤i):∀ m,i≤m→runS adj src m=runS adj src i
 | 0,h=>by
  have:i=0:=q40_;rw [this]
 | m+1,h=>by
  by_cases e:i=m+1
  ·rw [e]
  ·have c:=Yo5 hl m q40_
   show stepS adj (runS adj src m) m=_;rw [c];unfold stepS;rw [if_neg q40_]
end
section
variable {adj:List (List Int)} {src come:List Int} {ah:Nat→Int} {par:Nat→Nat}
theorem Xi7 (h:Done adj src come ah par) {j:Nat} (c:j<src.length):cAt come j∈src:=by
 obtain ⟨rest,e⟩:=Bfs.pre h;have:cAt come j=cAt src j:=by
  unfold cAt;rw [e,List.getD_eq_getElem?_getD,List.getElem?_append_left c,← List.getD_eq_getElem?_getD]
 rw [this];exact F0_ c
structure WayF (adj:List (List Int)) (src come:List Int) (j:Nat) (l:List Int):Prop where
 pos:0<l.length
 last:l.getD (l.length - 1) 0=cAt come j
 head:l.getD 0 0∈src
 each:∀ i,i<l.length→∃ m,m≤j∧l.getD i 0=cAt come m∧(i+1<l.length→m<j)∧(0<i→src.length≤m)
 arc:∀ i,i+1<l.length→l.getD (i+1) 0∈adj.getD (l.getD i 0).toNat []
end
inductive Lev (par:Nat→Nat) (ns:Nat):Nat→Nat→Prop
 | z (j:Nat):j<ns→Lev par ns j 0
 | s (j k:Nat):ns≤j→Lev par ns (par j) k→Lev par ns j (k+1)
section
variable {adj:List (List Int)} {src dst come:List Int} {ah:Nat→Int} {par:Nat→Nat}
theorem lev_ex (h:Done adj src come ah par):∀ j,j<come.length→∃ k,Lev par src.length j k:=by
 have f:∀ m j,j<m→j<come.length→∃ k,Lev par src.length j k:=by
  intro m
  induction m with
  | zero=>intro j c;omega
  | succ m ih =>
   intro j c d;by_cases hs:j<src.length
   ·exact ⟨0,.z j hs⟩
   ·obtain ⟨a,_⟩:=Bfs.old h j q40_ d
    obtain ⟨k,e⟩:=ih (par j) q40_ q40_;exact ⟨k+1,.s j k q40_ e⟩
 exact fun j c=>f (j+1) j q40_ c
theorem Zq2 (h:Done adj src come ah par):∀ {i a:Nat},Lev par src.length i a→∀ {j b:Nat},Lev par src.length j b→i≤j→j<come.length→a≤b:=by
 intro i a d
 induction d with
 | z=>intros;omega
 | s i k hs hk ih =>
  intro j b f m c;cases f with
  | z _ hz=>omega
  | s _ b' hs' hb =>
   obtain ⟨o,_⟩:=Bfs.old h j hs' c;have g:par i≤par j:=by
    by_cases e:i=j
    ·rw [e];exact Nat.le_refl _
    ·exact ((Bfs.mono h i j hs q40_ c).1)
   have:=ih hb g q40_;omega
theorem Yo6 (h:Done adj src come ah par) {i a b:Nat} (e:i<come.length) (c:Lev par src.length i a) (d:Lev par src.length i b):a=b :=
 Nat.le_antisymm (Zq2 h c d (Nat.le_refl _) e) (Zq2 h d c (Nat.le_refl _) e)
theorem Yf8 (h:Done adj src come ah par) {i a:Nat} (d:i<come.length) (ha:Lev par src.length i a) {y:Int} (g:y∈adj.getD (cAt come i).toNat []) :
  ∃ m b,m<come.length∧cAt come m=y∧Lev par src.length m b∧b≤a+1∧(src.length≤m→par m≤i):=by
 obtain ⟨m,c,e⟩:=Zf2 (h.closed (F0_ d) g);obtain ⟨b,hb⟩:=lev_ex h m c;have f:src.length≤m→par m≤i:=fun hs=>by
  refine Nat.le_of_not_lt fun j=>?_;exact Bfs.first h m hs c i j (by rw [e];exact g)
 refine ⟨m,b,c,e,hb,?_,f⟩;cases hb with
 | z=>omega
 | s _ b' hs hb' =>
  have:=Zq2 h hb' ha (f hs) d;omega
theorem Zp9 (h:Done adj src come ah par) {j D:Nat} (f:∀ i,i<j→cAt come i∉dst) (d:Lev par src.length j D):∀ (n i a:Nat),i<come.length→Lev par src.length i a→Near adj dst n (cAt come i)→D≤a+n
 | 0,i,a,hi,ha,c=>by
  have g:j≤i:=Nat.le_of_not_lt fun k=>f i k c;exact Zq2 h d ha g hi
 | n+1,i,a,hi,ha,c=>by
  rcases c with c | ⟨y,p,c⟩
  ·have:=Zp9 h f d n i a hi ha c
   omega
  ·obtain ⟨m,b,o,e,hb,q,_⟩:=Yf8 h hi ha p
   rw [← e] at c;have:=Zp9 h f d n m b o hb c;omega
theorem Yv3 (h:Done adj src come ah par) (hs:src.Pairwise (·<·)) {i m:Nat} (c:i<src.length) (f:m<src.length) (j:cAt come m<cAt come i):m<i:=by
 obtain ⟨rest,e⟩:=Bfs.pre h;have g:∀ k,k<src.length→∀ d:k<src.length,cAt come k=src[k]:=fun k d _=>by
  unfold cAt;rw [e,List.getD_eq_getElem?_getD,List.getElem?_append_left d,List.getElem?_eq_getElem d];rfl
 rw [g m f f,g i c c] at j;refine Nat.lt_of_not_le fun o=>?_;by_cases e:i=m
 ·subst e;omega
 ·have:=List.pairwise_iff_getElem.1 hs i m c f q40_
  omega
def NoE (adj:List (List Int)) (dst come:List Int) (par:Nat→Nat) (ns i k n:Nat):Prop:=∀ m,m<i→Lev par ns m k→¬ Near adj dst n (cAt come m)
theorem Xy1 (h:Done adj src come ah par) (hs:src.Pairwise (·<·)) {j D:Nat} (U:∀ i,i<j→cAt come i∉dst) (R:Lev par src.length j D) {i:Nat} {l:List Int} (I:Way come par src.length i l) :
  i<come.length→∀ k n tail,Lev par src.length i k→k+n=D→Near adj dst n (cAt come i)→NoE adj dst come par src.length i k n→((n=0∧tail=[])∨∃ f,n=f+1∧Greedy adj dst (adj.getD (cAt come i).toNat []) f tail)→Greedy adj dst src D (l ++ tail):=by
 have g:=Zp9 h U R
 induction I with
 | start i his =>
  intro v k n tail w L d hE C;have S:k=0:=Yo6 h v w (.z i his);subst S;have hsm:∀ y∈src,∃ m,m<src.length∧m<come.length∧cAt come m=y:=fun y hy=>by
   obtain ⟨rest,e⟩:=Bfs.pre h;obtain ⟨m,hm,J⟩:=Zf2 hy;refine ⟨m,hm,by rw [e,List.length_append];omega,?_⟩;rw [← J];unfold cAt;rw [e,List.getD_eq_getElem?_getD,List.getElem?_append_left hm,← List.getD_eq_getElem?_getD]
  rcases C with ⟨rfl,rfl⟩ | ⟨f,rfl,u⟩
  ·have:D=0:=by omega
   subst this;refine .stop _ _ (Xi7 h his) d fun y hy hlt=>?_;exact y28_
  ·have:D=f+1:=by omega
   subst this;refine .step _ _ _ _ (Xi7 h his) d (fun y hy hc=>?_) (fun y hy hlt=>?_) u
   ·obtain ⟨m,hm,T,rfl⟩:=hsm y hy
    have:=g _ _ _ T (.z m hm) hc;omega
   ·exact y28_
 | next i l hsi I ih =>
  intro v k n tail w L d hE C;obtain ⟨X,_,_,P,_⟩:=Bfs.old h i hsi v;have B:par i<come.length:=q40_;cases w with
  | z _ hz=>omega
  | s _ k' _ hk' =>
  have r:cAt come i∈adj.getD (cAt come (par i)).toNat []:=P;have O:Near adj dst (n+1) (cAt come (par i)):=.inr ⟨_,r,d⟩;have E:∀ q,q<come.length→Lev par src.length q k'→∀ y∈adj.getD (cAt come q).toNat [],Near adj dst n y→∃ m,m<come.length∧cAt come m=y∧Lev par src.length m (k' + 1)∧src.length≤m∧par m≤q:=fun q F o y hy c=>by
   obtain ⟨m,b,hm,e,hb,x,A⟩:=Yf8 h F o hy;rw [← e] at c;have W:=g n m b hm hb c;have Q:b=k' + 1:=q40_;subst Q;have hsm:src.length≤m:=Nat.le_of_not_lt fun hlt=>by
    have:=Yo6 h hm hb (.z m hlt);omega
   exact ⟨m,hm,e,hb,hsm,A hsm⟩
  have M:NoE adj dst come par src.length (par i) k' (n+1):=fun q F o c=>by
   have G:q<come.length:=q40_;rcases c with c | ⟨y,hy,c⟩
   ·have:=g n q k' G o c
    omega
   ·obtain ⟨m,hm,e,hb,hsm,A⟩:=E q G o y hy c
    rw [← e] at c;refine hE m (Nat.lt_of_not_le fun x=>?_) hb c;by_cases p:i=m
    ·subst p;omega
    ·have:=(Bfs.mono h i m hsi q40_ hm).1
     omega
  have H:∀ y∈adj.getD (cAt come (par i)).toNat [],y<cAt come i→¬ Near adj dst n y:=fun y hy hlt c=>by
   obtain ⟨m,hm,e,hb,hsm,A⟩:=E (par i) B hk' y hy c;rw [← e] at c hlt;refine hE m (Nat.lt_of_not_le fun x=>?_) hb c;by_cases p:i=m
   ·subst p;omega
   ·obtain ⟨V,K⟩:=Bfs.mono h i m hsi q40_ hm
    have:=K q40_;omega
  have N:Greedy adj dst (adj.getD (cAt come (par i)).toNat []) n (cAt come i :: tail):=by
   rcases C with ⟨rfl,rfl⟩ | ⟨f,rfl,u⟩
   ·exact .stop _ _ r d fun y hy hlt hc=>H y hy hlt hc
   ·refine .step _ _ _ _ r d (fun y hy hc=>?_) H u
    obtain ⟨m,b,hm,e,hb,x,_⟩:=Yf8 h B hk' hy;rw [← e] at hc;have:=g f m b hm hb hc;omega
  have:=ih B k' (n+1) (cAt come i :: tail) hk' q40_ O M (.inr ⟨n,rfl,N⟩);rw [List.append_assoc];exact this
theorem greedy_first (h:Done adj src come ah par) (hs:src.Pairwise (·<·)) {j:Nat} (d:j<come.length) (f:cAt come j∈dst) (e:∀ i,i<j→cAt come i∉dst) {l:List Int} (k:Way come par src.length j l):∃ n,Greedy adj dst src n l:=by
 obtain ⟨D,c⟩:=lev_ex h j d;have:=Xy1 h hs e c k d D 0 [] c q40_ f (fun m g _ hc=>e m g hc) (.inl ⟨rfl,rfl⟩);rw [List.append_nil] at this;exact ⟨D,this⟩
end
end Go.Proofs.YtheeajnkiniopaaGreatDoor.Wp.R
namespace Go.Proofs.YtheeajnkiniopaaGreatDoor.Wp
inductive Chain (a b:Mat):Nat→List Int→Prop
 | zero:Chain a b 0 []
 | succ {k:Nat} {s l:List Int} {n:Nat} {x:Int}:Chain a b k s→Greedy (adjG a b s) (addG b s) (addG a s) n (x :: l)→Chain a b (k+1) (turnL s (x :: l))
def Stop (a b:Mat) (s:List Int):Prop:=∀ y∈addG a s,∀ k,¬ Near (adjG a b s) (addG b s) k y
noncomputable def comeL (a b:Mat) (s:List Int):List Int:=itL (adjG a b s) (addG a s) (adjG a b s).length
noncomputable def upL (a b:Mat) (s:List Int):List Int:=Z8_ (allL a.n) (comeL a b s)
structure MaxIs (a b:Mat) (s u:List Int):Prop where
 ch:∃ k,Chain a b k s
 stop:Stop a b s
 up:u=upL a b s
section
variable {a b:Mat} {s t u v:List Int}
end
end Go.Proofs.YtheeajnkiniopaaGreatDoor.Wp
