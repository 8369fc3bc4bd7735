/- A common set grown along ways, plain: that it is the same whoever grows it, and that what is not come to bounds it. Nothing of the program here. Points that are come to by arcs, plain. Nothing of the program here. Levels of what is come to; the first way that is come to is the least of the shortest ones. Nothing of the program here. -/
import Derived.Test.YtgpljiijjnaofaaGreatDoorTMay
import Derived.Lib.Hide
import Derived.Test.YtgpljiijjnaofaaGreatDoorZP
import Derived.Test.YtgpljiijjnaofaaGreatDoorZE
import Derived.Test.YtgpljiijjnaofaaGreatDoorGGreat
import Derived.Deep.RegionHeld3
import Derived.Test.YtgpljiijjnaofaaGreatDoorGPlaces
import Derived.Test.YtgpljiijjnaofaaGreatDoorZT
import Derived.Test.YtgpljiijjnaofaaGreatDoorZX
import Derived.Test.YtgpljiijjnaofaaGreatDoorQTB
import Derived.Test.YtgpljiijjnaofaaGreatDoorX0A
import Derived.Test.YtgpljiijjnaofaaGreatDoorX0C
set_option maxHeartbeats 16000000
set_option maxRecDepth 100000
open Go.Lib (hid)
open Nat (le_refl)
namespace Go.Proofs.YtgpljiijjnaofaaGreatDoor.Wp
inductive Chain (a b:Mat):Nat→List Int→Prop
 | zero:Chain a b 0 []
 | succ {k:Nat} {s l:List Int} {n:Nat} {x:Int}:Chain a b k s→Greedy (adjG a b s) (addG b s) (addG a s) n (x :: l)→Chain a b (k+1) (turnL s (x :: l))
def Stop (a b:Mat) (s:List Int):Prop:=∀ y∈addG a s,∀ k,¬ Near (adjG a b s) (addG b s) k y
noncomputable def comeL (a b:Mat) (s:List Int):List Int:=itL (adjG a b s) (addG a s) (adjG a b s).length
noncomputable def upL (a b:Mat) (s:List Int):List Int:=Z4_ (allL a.n) (comeL a b s)
structure MaxIs (a b:Mat) (s u:List Int):Prop where
 ch:∃ k,Chain a b k s
 stop:Stop a b s
 up:u=upL a b s
section
variable {a b:Mat} {s t u v:List Int}
theorem Xa6 (h:Common a b s):InN (nN a) (comeL a b s):=by
 have hd:=T3_ (b:=b) (s:=s) h.n64;have d:PtsP (adjG a b s).length (addG a s):=by rw [J8_];exact J9_ h.n64
 have c:=A5_ hd d (adjG a b s).length;unfold comeL;rw [J8_] at c ⊢;exact c
theorem Xa7 (h:Common a b s) (hs:Stop a b s):rankT a (upL a b s)+rankT b (comeL a b s)=(s.length:Int):=by
 have hd:=T3_ (b:=b) (s:=s) h.n64;have f:PtsP (adjG a b s).length (addG a s):=by rw [J8_];exact J9_ h.n64
 refine (Ym9 h ?_).2;refine List.eq_nil_iff_forall_not_mem.2 fun x g=>?_;obtain ⟨c,d⟩:=(M3_ (Xa6 h).1 (J9_ (by rw [h.nn];exact h.n64)).1 x).1 g;obtain ⟨y,j,e⟩:=(H2_ hd _ _ f).1 ⟨x,c,d⟩;exact hs y j _ e
theorem Xa8 {n:Int} (e:0≤n) (g:n≤64) {w:List Int} (d:InN n.toNat w):Z4_ (allL n) (Z4_ (allL n) w)=w:=by
 refine IsSet.ext (Q2_ _ _) d.1 fun x=>?_;rw [Y2_ (C3_ n) (Q2_ _ _),Y2_ (C3_ n) d.1,G2_ e k30_];constructor
 ·rintro ⟨f,h3⟩
  exact Classical.byContradiction fun c=>h3 ⟨f,c⟩
 ·intro c
  have:=d.2 x c;exact ⟨⟨k30_,k30_⟩,fun h=>h.2 c⟩
noncomputable def Yd7 (a b:Mat) (u:List Int):Int:=rankT a u+rankT b (Z4_ (allL a.n) u)
theorem Zs1 {m:Mat} {Q:Nat→Bool} (hi:indT m t=true):cnt (andP (memP t) Q) (nN m)≤rkP 4 m Q:=by
 obtain ⟨hc,o⟩:=mayI_iff.1 (J0_ hi);have c:=rk_of hc;have e:=I6_ hi;have g:=c.submod (andP (memP t) Q) (andP (memP t) (notP Q));have k:=c.le_cnt (andP (memP t) (notP Q));have h3:=c.mono (P:=andP (memP t) Q) (Q:=Q) (fun i _ h=>by unfold andP at h;simp at h;exact h.2);have j:=Zr4 (andP (memP t) Q) (andP (memP t) (notP Q)) (nN m);have d:∀ i,i<nN m→orP (andP (memP t) Q) (andP (memP t) (notP Q)) i=memP t i:=fun i _=>by simp only [orP,andP,notP];cases memP t i<;>cases Q i<;>rfl
 have f:∀ i,i<nN m→andP (andP (memP t) Q) (andP (memP t) (notP Q)) i=noneP i:=fun i _=>by simp only [andP,notP,noneP];cases memP t i<;>cases Q i<;>rfl
 rw [c.ext d,c.ext f,c.zero] at g;rw [V8_ d,V8_ f,B3_] at j;omega
theorem Xa9 (h:Common a b t) (d:InN (nN a) u):(t.length:Int)≤Yd7 a b u:=by
 obtain ⟨f,q⟩:=mayI_iff.1 (J0_ h.ia);obtain ⟨r,_⟩:=mayI_iff.1 (J0_ h.ib);have c:=chk_n f;have p:InN (nN a) (Z4_ (allL a.n) u):=D2_ c.1 c.2 d.1;have s:=Zs1 (Q:=memP u) h.ia;have k:=Zs1 (Q:=memP (Z4_ (allL a.n) u)) h.ib;rw [h.nn] at k;have o:=Zr4 (andP (memP t) (memP u)) (andP (memP t) (memP (Z4_ (allL a.n) u))) (nN a);have e:∀ i,i<nN a→memP (Z4_ (allL a.n) u) i=notP (memP u) i:=fun i hi=>O9_ c.1 c.2 d.1 hi;have g:∀ i,i<nN a→orP (andP (memP t) (memP u)) (andP (memP t) (memP (Z4_ (allL a.n) u))) i=memP t i:=fun i hi=>by
  simp only [orP,andP];rw [e i hi];simp only [notP];cases memP t i<;>cases memP u i<;>rfl
 have j:∀ i,i<nN a→andP (andP (memP t) (memP u)) (andP (memP t) (memP (Z4_ (allL a.n) u))) i=noneP i:=fun i hi=>by
  simp only [andP,noneP];rw [e i hi];simp only [notP];cases memP t i<;>cases memP u i<;>rfl
 rw [V8_ g,V8_ j,B3_] at o;unfold Yd7;rw [Zz0 (mayI_iff.2 ⟨f,d⟩),Zz0 (m:=b) (mayI_iff.2 ⟨r,by rw [h.nn];exact p⟩),V2_ q];omega
end
end Go.Proofs.YtgpljiijjnaofaaGreatDoor.Wp
namespace Go.Proofs.YtgpljiijjnaofaaGreatDoor.Wp.R
open K (updI Q3_)
structure Dig (adj:List (List Int)):Prop where
 up:∀ x,(adj.getD x []).Pairwise (·<·)
 pt:∀ x,∀ y∈adj.getD x [],0≤y∧y<(adj.length:Int)
structure Pts (n:Nat) (l:List Int):Prop where
 up:l.Pairwise (·<·)
 pt:∀ y∈l,0≤y∧y<(n:Int)
def cAt (come:List Int) (j:Nat):Int:=come.getD j 0
def Z9_ (adj:List (List Int)) (come:List Int) (j:Nat):List Int:=adj.getD (cAt come j).toNat []
theorem I7_ {come:List Int} {q:Int} {j:Nat} (h:j<come.length):cAt (come ++ [q]) j=cAt come j:=by
 unfold cAt;rw [List.getD_eq_getElem?_getD,List.getElem?_append_left h,← List.getD_eq_getElem?_getD]
theorem Yx8 {come:List Int} {q:Int}:cAt (come ++ [q]) come.length=q:=by
 unfold cAt;rw [List.getD_eq_getElem?_getD,List.getElem?_append_right (le_refl _)];simp
theorem C6_ {come:List Int} {j:Nat} (h:j<come.length):cAt come j∈come:=by
 unfold cAt;rw [show come.getD j 0=come[j] by simp [List.getD,h]];exact List.getElem_mem h
theorem Zj9 {come:List Int} {x:Int} (h:x∈come):∃ j,j<come.length∧cAt come j=x:=by
 obtain ⟨j,c,e⟩:=List.mem_iff_getElem.1 h;exact ⟨j,c,by unfold cAt;rw [← e];simp [List.getD,c]⟩
structure Bfs (adj:List (List Int)) (src:List Int) (come:List Int) (ah:Nat→Int) (par:Nat→Nat) (i k:Nat):Prop where
 nodup:come.Nodup
 pt:∀ x∈come,0≤x∧x<(adj.length:Int)
 new:∀ x:Nat,x<adj.length→(ah x=-1↔(x:Int)∉come)
 pre:∃ rest,come=src ++ rest
 start:∀ j,j<src.length→ah (cAt come j).toNat=-2
 old:∀ j,src.length≤j→j<come.length→par j<j∧par j≤i∧ah (cAt come j).toNat=cAt come (par j)∧cAt come j∈Z9_ adj come (par j)∧(par j=i→cAt come j∈(Z9_ adj come i).take k)
 first:∀ j,src.length≤j→j<come.length→∀ m,m<par j→cAt come j∉Z9_ adj come m
 mono:∀ j l,src.length≤j→j<l→l<come.length→par j≤par l∧(par j=par l→cAt come j<cAt come l)
 closed:∀ m,m<i→m<come.length→∀ x∈Z9_ adj come m,x∈come
 some_:i<come.length→∀ x∈(Z9_ adj come i).take k,x∈come
section
variable {adj:List (List Int)} {src come:List Int} {ah:Nat→Int} {par:Nat→Nat} {i k:Nat}
theorem Xb0 (hs:Pts adj.length src) (ha:∀ x:Nat,ah x=if (x:Int)∈src then -2 else -1):Bfs adj src src ah (fun _=>0) 0 0:=by
 refine ⟨hs.up.imp fun o e=>by omega,hs.pt,fun x _=>?_,⟨[],y31_⟩,fun j g=>?_,fun j c d=>by omega,fun j c d=>by omega,fun j l c d h3=>by omega,fun m f=>by omega,fun _ x k=>by simp at k⟩
 ·rw [ha]
  split
  ·rename_i h
   exact ⟨fun e=>by omega,fun e=>absurd h e⟩
  ·rename_i h
   exact ⟨fun _=>h,fun _=>rfl⟩
 ·have f:=C6_ g
  have:=hs.pt _ f;rw [ha,if_pos]
  rwa [Int.toNat_of_nonneg this.1]
theorem Bfs.skip (h:Bfs adj src come ah par i k) (hi:i<come.length) (q:Nat) (g:(Z9_ adj come i)[k]?=some (q:Int)) (w:q<adj.length) (ha:ah q≠-1):Bfs adj src come ah par i (k+1):=by
 have s:k<(Z9_ adj come i).length:=(List.getElem?_eq_some_iff.1 g).1;have m:(Z9_ adj come i).take (k+1)=(Z9_ adj come i).take k ++ [(q:Int)]:=by
  rw [List.take_succ_eq_append_getElem s,(List.getElem?_eq_some_iff.1 g).2]
 have r:(q:Int)∈come:=Classical.byContradiction fun u=>ha ((h.new q w).2 u);refine ⟨h.nodup,h.pt,h.new,h.pre,h.start,fun j o p=>?_,h.first,h.mono,h.closed,fun _ x f=>?_⟩
 ·obtain ⟨a,b,c,d,e⟩:=h.old j o p
  exact ⟨a,b,c,d,fun v=>by rw [m];exact List.mem_append.2 (.inl (e v))⟩
 ·rw [m,List.mem_append,List.mem_singleton] at f
  rcases f with f | f
  ·exact h.some_ hi x f
  ·rw [f];exact r
theorem I8_ {come:List Int} {q:Int} {m:Nat} (h:m<come.length):Z9_ adj (come ++ [q]) m=Z9_ adj come m:=by unfold Z9_;rw [I7_ h]
theorem Bfs.visit (hd:Dig adj) (h:Bfs adj src come ah par i k) (hi:i<come.length) (q:Nat) (s:(Z9_ adj come i)[k]?=some (q:Int)) (H:q<adj.length) (ha:ah q=-1) :
  Bfs adj src (come ++ [(q:Int)]) (updI ah q (cAt come i)) (fun j=>if j=come.length then i else par j) i (k+1):=by
 have A:k<(Z9_ adj come i).length:=(List.getElem?_eq_some_iff.1 s).1;have y:(Z9_ adj come i).take (k+1)=(Z9_ adj come i).take k ++ [(q:Int)]:=by
  rw [List.take_succ_eq_append_getElem A,(List.getElem?_eq_some_iff.1 s).2]
 have v:(q:Int)∉come:=(h.new q H).1 ha;have G:(q:Int)∈Z9_ adj come i:=List.mem_iff_getElem?.2 ⟨k,s⟩;have F:∀ x∈come,x.toNat≠q:=fun x f e=>v (by
  have:=(h.pt x f).1;rw [show (q:Int)=x by omega];exact f)
 have z:∀ x∈come,updI ah q (cAt come i) x.toNat=ah x.toNat:=fun x f=>if_neg (F x f);obtain ⟨rest,D⟩:=h.pre;have J:src.length≤come.length:=by rw [D,List.length_append];omega
 have u:∀ {j},j<(come ++ [(q:Int)]).length→j<come.length∨j=come.length:=fun {j} g=>by rw [List.length_append] at g;simp at g;omega
 refine ⟨?_,fun x f=>?_,fun x f=>?_,⟨rest ++ [(q:Int)],by rw [D,List.append_assoc]⟩,fun j g=>?_,fun j p r=>?_,fun j p r m o=>?_,fun j l p r h3=>?_,fun m o I x f=>?_,fun _ x f=>?_⟩
 ·rw [List.nodup_append]
  refine ⟨h.nodup,y31_,fun a ha b hb e=>v ?_⟩;rw [List.mem_singleton] at hb;rw [← hb,← e];exact ha
 ·rw [List.mem_append,List.mem_singleton] at f
  rcases f with f | f
  ·exact h.pt x f
  ·rw [f];omega
 ·rw [List.mem_append,List.mem_singleton,not_or]
  by_cases e:x=q
  ·subst e
   rw [show updI ah x (cAt come i) x=cAt come i from if_pos rfl];have:=(h.pt _ (C6_ hi)).1;exact ⟨fun hc=>by omega,fun hc=>absurd rfl hc.2⟩
  ·rw [show updI ah q (cAt come i) x=ah x from if_neg e,h.new x f]
   exact ⟨fun hc=>⟨hc,k30_⟩,fun hc=>hc.1⟩
 ·rw [I7_ k30_,z _ (C6_ k30_)]
  exact h.start j g
 ·rcases u r with g | g
  ·rw [if_neg k30_,I7_ g,z _ (C6_ g)]
   obtain ⟨a,b,c,d,e⟩:=h.old j p g;rw [I7_ k30_,I8_ k30_];refine ⟨a,b,c,d,fun w=>?_⟩;rw [I8_ hi,y];exact List.mem_append.2 (.inl (e w))
  ·subst g
   rw [if_pos rfl,Yx8,I7_ hi,I8_ hi];refine ⟨hi,le_refl _,?_,G,fun _=>?_⟩
   ·rw [Int.toNat_natCast]
    exact if_pos rfl
   ·rw [y]
    exact List.mem_append.2 (.inr y31_)
 ·rcases u r with g | g
  ·rw [if_neg k30_] at o
   have:=(h.old j p g).1;rw [I7_ g,I8_ k30_];exact h.first j p g m o
  ·subst g
   rw [if_pos rfl] at o;rw [Yx8,I8_ k30_];exact fun f=>v (h.closed m o k30_ _ f)
 ·rcases u h3 with hl | hl
  ·rw [if_neg k30_,if_neg k30_,I7_ k30_,I7_ hl]
   exact h.mono j l p r hl
  ·subst hl
   rw [if_neg k30_,if_pos rfl,I7_ r,Yx8];obtain ⟨_,b,_,_,e⟩:=h.old j p r;refine ⟨b,fun w=>?_⟩;have o:=e w;obtain ⟨m,E,B⟩:=List.mem_iff_getElem.1 o;rw [List.length_take] at E;rw [List.getElem_take] at B;have:=List.pairwise_iff_getElem.1 (hd.up (cAt come i).toNat) m k (by show m<(Z9_ adj come i).length;omega) A k30_;rw [← B,← (List.getElem?_eq_some_iff.1 s).2];exact this
 ·have C:m<come.length:=by omega
  rw [I8_ C] at f;exact List.mem_append.2 (.inl (h.closed m o C x f))
 ·rw [I8_ hi,y,List.mem_append,List.mem_singleton] at f
  rcases f with f | f
  ·exact List.mem_append.2 (.inl (h.some_ hi x f))
  ·rw [f];exact List.mem_append.2 (.inr y31_)
theorem Bfs.next (h:Bfs adj src come ah par i k) (o:(Z9_ adj come i).length≤k):Bfs adj src come ah par (i+1) 0:=by
 refine ⟨h.nodup,h.pt,h.new,h.pre,h.start,fun j h1 h2=>?_,h.first,h.mono,fun m p g x f=>?_,fun _ x f=>by simp at f⟩
 ·exact y18_
 ·by_cases e:m=i
  ·subst e
   exact h.some_ g x (by rw [List.take_of_length_le o];exact f)
  ·exact h.closed m k30_ g x f
theorem Bfs.len (h:Bfs adj src come ah par i k):come.length≤adj.length:=by
 have:=Q3_ (b:=(List.range adj.length).map Int.ofNat) h.nodup fun x c=>by
  have:=h.pt x c;exact q11_
 simpa using this
def Done (adj:List (List Int)) (src come:List Int) (ah:Nat→Int) (par:Nat→Nat):Prop:=Bfs adj src come ah par come.length 0
theorem Done.closed (h:Done adj src come ah par) {x y:Int} (d:x∈come) (e:y∈adj.getD x.toNat []):y∈come:=by
 obtain ⟨j,c,rfl⟩:=Zj9 d;exact Bfs.closed h j c c y e
theorem Done.has (h:Done adj src come ah par) {x:Int} (c:x∈src):x∈come:=by
 obtain ⟨rest,e⟩:=Bfs.pre h;rw [e];exact List.mem_append.2 (.inl c)
theorem Done.least (h:Done adj src come ah par) (S:Int→Prop) (f:∀ x∈src,S x) (g:∀ x y,x∈come→S x→y∈adj.getD x.toNat []→S y):∀ x∈come,S x:=by
 have p:∀ m j,j<m→j<come.length→S (cAt come j):=by
  intro m
  induction m with
  | zero=>intro j c;omega
  | succ m ih =>
   intro j c k;obtain ⟨rest,e⟩:=Bfs.pre h;by_cases hs:j<src.length
   ·refine f _ ?_
    have:cAt come j=cAt src j:=by
     unfold cAt;rw [e,List.getD_eq_getElem?_getD,List.getElem?_append_left hs,← List.getD_eq_getElem?_getD]
    rw [this];exact C6_ hs
   ·obtain ⟨a,_,_,d,_⟩:=Bfs.old h j k30_ k
    exact g _ _ (C6_ k30_) (ih _ k30_ k30_) d
 intro x o;obtain ⟨j,c,rfl⟩:=Zj9 o;exact p (j+1) j k30_ c
inductive Way (come:List Int) (par:Nat→Nat) (ns:Nat):Nat→List Int→Prop
 | start (j:Nat):j<ns→Way come par ns j [cAt come j]
 | next (j:Nat) (l:List Int):ns≤j→Way come par ns (par j) l→Way come par ns j (l ++ [cAt come j])
theorem Vh9 (h:Done adj src come ah par):∀ j,j<come.length→∃ l,Way come par src.length j l:=by
 have e:∀ m j,j<m→j<come.length→∃ l,Way come par src.length j l:=by
  intro m
  induction m with
  | zero=>intro j c;omega
  | succ m ih =>
   intro j c d;by_cases hs:j<src.length
   ·exact ⟨_,.start j hs⟩
   ·obtain ⟨a,_⟩:=Bfs.old h j k30_ d
    obtain ⟨l,hl⟩:=ih (par j) k30_ k30_;exact ⟨_,.next j l k30_ hl⟩
 exact fun j c=>e (j+1) j k30_ c
end
end Go.Proofs.YtgpljiijjnaofaaGreatDoor.Wp.R
namespace Go.Proofs.YtgpljiijjnaofaaGreatDoor.Wp.R
open K (updI Q3_)
def Zd2 (p:Int) (st:List Int × (Nat→Int)) (q:Int):List Int × (Nat→Int):=if st.2 q.toNat=-1 then (st.1 ++ [q],updI st.2 q.toNat p) else st
def J6_ (adj:List (List Int)) (st:List Int × (Nat→Int)) (i k:Nat):List Int × (Nat→Int):=((Z9_ adj st.1 i).take k).foldl (Zd2 (cAt st.1 i)) st
def stepS (adj:List (List Int)) (st:List Int × (Nat→Int)) (i:Nat):List Int × (Nat→Int):=if i<st.1.length then J6_ adj st i (Z9_ adj st.1 i).length else st
def Vi0 (src:List Int):List Int × (Nat→Int):=(src,fun x=>if (x:Int)∈src then -2 else -1)
def runS (adj:List (List Int)) (src:List Int):Nat→List Int × (Nat→Int)
 | 0=>Vi0 src
 | i+1=>stepS adj (runS adj src i) i
def finS (adj:List (List Int)) (src:List Int):List Int × (Nat→Int):=runS adj src adj.length
section
variable {adj:List (List Int)} {src:List Int} {st:List Int × (Nat→Int)} {i k:Nat}
theorem Yn0:J6_ adj st i 0=st:=rfl
theorem Zd3 (h:k<(Z9_ adj st.1 i).length):J6_ adj st i (k+1)=Zd2 (cAt st.1 i) (J6_ adj st i k) ((Z9_ adj st.1 i).getD k 0):=by
 unfold J6_;rw [List.take_succ_eq_append_getElem h,List.foldl_append];rw [show (Z9_ adj st.1 i).getD k 0=(Z9_ adj st.1 i)[k] by simp [List.getD,h]];rfl
theorem Zq0 (hd:Dig adj) (par:Nat→Nat) (hi:i<st.1.length) (h:Bfs adj src st.1 st.2 par i 0):∀ k,k≤(Z9_ adj st.1 i).length→(∃ rest,(J6_ adj st i k).1=st.1 ++ rest)∧∃ d,Bfs adj src (J6_ adj st i k).1 (J6_ adj st i k).2 d i k
 | 0,_=>⟨⟨[],by simp [Yn0]⟩,par,h⟩
 | k+1,hk=>by
  obtain ⟨⟨rest,hr⟩,d,hb⟩:=Zq0 hd par hi h k k30_;have c:k<(Z9_ adj st.1 i).length:=k30_;have f:i<(J6_ adj st i k).1.length:=by rw [hr,List.length_append];omega
  have hc:cAt (J6_ adj st i k).1 i=cAt st.1 i:=y17_;have ha:Z9_ adj (J6_ adj st i k).1 i=Z9_ adj st.1 i:=by unfold Z9_;rw [hc]
  have m:(Z9_ adj st.1 i)[k]∈Z9_ adj st.1 i:=List.getElem_mem c;have o:=hd.pt _ _ m;obtain ⟨q,g⟩:∃ q:Nat,(Z9_ adj st.1 i)[k]=(q:Int):=⟨(Z9_ adj st.1 i)[k].toNat,k30_⟩;have j:(Z9_ adj (J6_ adj st i k).1 i)[k]?=some (q:Int):=by rw [ha,List.getElem?_eq_getElem c,g]
  rw [Zd3 c,show (Z9_ adj st.1 i).getD k 0=(q:Int) by rw [← g];simp [List.getD,c]];unfold Zd2;rw [Int.toNat_natCast];split
  ·rename_i e
   have:=hb.visit hd f q j k30_ e;rw [hc] at this;exact ⟨⟨rest ++ [(q:Int)],by rw [hr,List.append_assoc]⟩,_,this⟩
  ·rename_i e
   exact ⟨⟨rest,hr⟩,d,hb.skip f q j k30_ e⟩
theorem Xp2 (hd:Dig adj) (par:Nat→Nat) (h:Bfs adj src st.1 st.2 par i 0):∃ f,Bfs adj src (stepS adj st i).1 (stepS adj st i).2 f (i+1) 0:=by
 unfold stepS;split
 ·rename_i hi
  obtain ⟨⟨rest,hr⟩,f,hb⟩:=Zq0 hd par hi h (Z9_ adj st.1 i).length (le_refl _);refine ⟨f,hb.next ?_⟩;have hc:cAt (J6_ adj st i (Z9_ adj st.1 i).length).1 i=cAt st.1 i:=y17_;unfold Z9_ at hb ⊢;rw [show adj.getD (cAt st.1 i).toNat []=Z9_ adj st.1 i from rfl] at *
  rw [hc];exact le_refl _
 ·rename_i hi
  refine ⟨par,h.nodup,h.pt,h.new,h.pre,h.start,fun j h1 h2=>?_,h.first,h.mono,fun m k g=>?_,fun h1=>by omega⟩
  ·exact y18_
  ·exact h.closed m k30_ g
theorem Yx9 (hd:Dig adj) (hs:Pts adj.length src):∀ i,∃ par,Bfs adj src (runS adj src i).1 (runS adj src i).2 par i 0
 | 0=>⟨fun _=>0,Xb0 hs fun _=>rfl⟩
 | i+1=>by
  obtain ⟨par,h⟩:=Yx9 hd hs i;exact Xp2 hd par h
theorem fin_done (hd:Dig adj) (hs:Pts adj.length src):∃ par,Done adj src (finS adj src).1 (finS adj src).2 par:=by
 obtain ⟨par,h⟩:=Yx9 hd hs adj.length;have hl:=h.len;refine ⟨par,h.nodup,h.pt,h.new,h.pre,h.start,fun j f g=>?_,h.first,h.mono,fun m k o=>h.closed m (by unfold finS at k;omega) o,fun f=>by omega⟩;obtain ⟨a,b,c,d,e⟩:=h.old j f g;unfold finS at *
 exact ⟨a,k30_,c,d,fun p=>by omega⟩
theorem Yd8 (hl:(runS adj src i).1.length≤i):∀ m,i≤m→runS adj src m=runS adj src i
 | 0,h=>by
  have:i=0:=k30_;rw [this]
 | m+1,h=>by
  by_cases e:i=m+1
  ·rw [e]
  ·have c:=Yd8 hl m k30_
   show stepS adj (runS adj src m) m=_;rw [c];unfold stepS;rw [if_neg k30_]
end
end Go.Proofs.YtgpljiijjnaofaaGreatDoor.Wp.R
namespace Go.Proofs.YtgpljiijjnaofaaGreatDoor.Wp.R
section
variable {adj:List (List Int)} {src come:List Int} {ah:Nat→Int} {par:Nat→Nat}
theorem Xb1 (h:Done adj src come ah par) {j:Nat} (c:j<src.length):cAt come j∈src:=by
 obtain ⟨rest,e⟩:=Bfs.pre h;have:cAt come j=cAt src j:=by
  unfold cAt;rw [e,List.getD_eq_getElem?_getD,List.getElem?_append_left c,← List.getD_eq_getElem?_getD]
 rw [this];exact C6_ c
structure WayF (adj:List (List Int)) (src come:List Int) (j:Nat) (l:List Int):Prop where
 pos:0<l.length
 last:l.getD (l.length - 1) 0=cAt come j
 head:l.getD 0 0∈src
 each:∀ i,i<l.length→∃ m,m≤j∧l.getD i 0=cAt come m∧(i+1<l.length→m<j)∧(0<i→src.length≤m)
 arc:∀ i,i+1<l.length→l.getD (i+1) 0∈adj.getD (l.getD i 0).toNat []
end
end Go.Proofs.YtgpljiijjnaofaaGreatDoor.Wp.R
namespace Go.Proofs.YtgpljiijjnaofaaGreatDoor.Wp.R
inductive Lev (par:Nat→Nat) (ns:Nat):Nat→Nat→Prop
 | z (j:Nat):j<ns→Lev par ns j 0
 | s (j k:Nat):ns≤j→Lev par ns (par j) k→Lev par ns j (k+1)
section
variable {adj:List (List Int)} {src dst come:List Int} {ah:Nat→Int} {par:Nat→Nat}
theorem Xt4 (h:Done adj src come ah par):∀ j,j<come.length→∃ k,Lev par src.length j k:=by
 have f:∀ m j,j<m→j<come.length→∃ k,Lev par src.length j k:=by
  intro m
  induction m with
  | zero=>intro j c;omega
  | succ m ih =>
   intro j c d;by_cases hs:j<src.length
   ·exact ⟨0,.z j hs⟩
   ·obtain ⟨a,_⟩:=Bfs.old h j k30_ d
    obtain ⟨k,e⟩:=ih (par j) k30_ k30_;exact ⟨k+1,.s j k k30_ e⟩
 exact fun j c=>f (j+1) j k30_ c
theorem Zz3 (h:Done adj src come ah par):∀ {i a:Nat},Lev par src.length i a→∀ {j b:Nat},Lev par src.length j b→i≤j→j<come.length→a≤b:=by
 intro i a hi
 induction hi with
 | z=>intros;omega
 | s i k hs hk ih =>
  intro j b d g c;cases d with
  | z _ hz=>omega
  | s _ b' hs' hb =>
   obtain ⟨m,_⟩:=Bfs.old h j hs' c;have f:par i≤par j:=by
    by_cases e:i=j
    ·rw [e];exact le_refl _
    ·exact ((Bfs.mono h i j hs k30_ c).1)
   have:=ih hb f k30_;omega
theorem Yd9 (h:Done adj src come ah par) {i a b:Nat} (hi:i<come.length) (c:Lev par src.length i a) (d:Lev par src.length i b):a=b :=
 Nat.le_antisymm (Zz3 h c d (le_refl _) hi) (Zz3 h d c (le_refl _) hi)
theorem Yv0 (h:Done adj src come ah par) {i a:Nat} (hi:i<come.length) (ha:Lev par src.length i a) {y:Int} (f:y∈adj.getD (cAt come i).toNat []) :
  ∃ m b,m<come.length∧cAt come m=y∧Lev par src.length m b∧b≤a+1∧(src.length≤m→par m≤i):=by
 obtain ⟨m,c,e⟩:=Zj9 (h.closed (C6_ hi) f);obtain ⟨b,hb⟩:=Xt4 h m c;have d:src.length≤m→par m≤i:=fun hs=>by
  refine Nat.le_of_not_lt fun g=>?_;exact Bfs.first h m hs c i g (by rw [e];exact f)
 refine ⟨m,b,c,e,hb,?_,d⟩;cases hb with
 | z=>omega
 | s _ b' hs hb' =>
  have:=Zz3 h hb' ha (d hs) hi;omega
theorem Zi5 (h:Done adj src come ah par) {j D:Nat} (f:∀ i,i<j→cAt come i∉dst) (d:Lev par src.length j D):∀ (n i a:Nat),i<come.length→Lev par src.length i a→Near adj dst n (cAt come i)→D≤a+n
 | 0,i,a,hi,ha,c=>by
  have g:j≤i:=Nat.le_of_not_lt fun k=>f i k c;exact Zz3 h d ha g hi
 | n+1,i,a,hi,ha,c=>by
  rcases c with c | ⟨y,p,c⟩
  ·have:=Zi5 h f d n i a hi ha c
   omega
  ·obtain ⟨m,b,o,e,hb,q,_⟩:=Yv0 h hi ha p
   rw [← e] at c;have:=Zi5 h f d n m b o hb c;omega
theorem Zs2 (h:Done adj src come ah par) (hs:src.Pairwise (·<·)) {i m:Nat} (hi:i<src.length) (d:m<src.length) (g:cAt come m<cAt come i):m<i:=by
 obtain ⟨rest,e⟩:=Bfs.pre h;have f:∀ k,k<src.length→∀ c:k<src.length,cAt come k=src[k]:=fun k c _=>by
  unfold cAt;rw [e,List.getD_eq_getElem?_getD,List.getElem?_append_left c,List.getElem?_eq_getElem c];rfl
 rw [f m d d,f i hi hi] at g;refine Nat.lt_of_not_le fun j=>?_;by_cases e:i=m
 ·subst e;omega
 ·have:=List.pairwise_iff_getElem.1 hs i m hi d k30_
  omega
def NoE (adj:List (List Int)) (dst come:List Int) (par:Nat→Nat) (ns i k n:Nat):Prop:=∀ m,m<i→Lev par ns m k→¬ Near adj dst n (cAt come m)
theorem Yn1 (h:Done adj src come ah par) (hs:src.Pairwise (·<·)) {j D:Nat} (T:∀ i,i<j→cAt come i∉dst) (Q:Lev par src.length j D) {i:Nat} {l:List Int} (H:Way come par src.length i l) :
  i<come.length→∀ k n tail,Lev par src.length i k→k+n=D→Near adj dst n (cAt come i)→NoE adj dst come par src.length i k n→((n=0∧tail=[])∨∃ f,n=f+1∧Greedy adj dst (adj.getD (cAt come i).toNat []) f tail)→Greedy adj dst src D (l ++ tail):=by
 have g:=Zi5 h T Q
 induction H with
 | start i his =>
  intro hi k n tail v K d hE B;have R:k=0:=Yd9 h hi v (.z i his);subst R;have hsm:∀ y∈src,∃ m,m<src.length∧m<come.length∧cAt come m=y:=fun y hy=>by
   obtain ⟨rest,e⟩:=Bfs.pre h;obtain ⟨m,hm,I⟩:=Zj9 hy;refine ⟨m,hm,by rw [e,List.length_append];omega,?_⟩;rw [← I];unfold cAt;rw [e,List.getD_eq_getElem?_getD,List.getElem?_append_left hm,← List.getD_eq_getElem?_getD]
  rcases B with ⟨rfl,rfl⟩ | ⟨f,rfl,u⟩
  ·have:D=0:=by omega
   subst this;refine .stop _ _ (Xb1 h his) d fun y hy hlt=>?_;exact q21_
  ·have:D=f+1:=by omega
   subst this;refine .step _ _ _ _ (Xb1 h his) d (fun y hy hc=>?_) (fun y hy hlt=>?_) u
   ·obtain ⟨m,hm,S,rfl⟩:=hsm y hy
    have:=g _ _ _ S (.z m hm) hc;omega
   ·exact q21_
 | next i l hsi H ih =>
  intro hi k n tail v K d hE B;obtain ⟨W,_,_,O,_⟩:=Bfs.old h i hsi hi;have A:par i<come.length:=k30_;cases v with
  | z _ hz=>omega
  | s _ k' _ hk' =>
  have r:cAt come i∈adj.getD (cAt come (par i)).toNat []:=O;have N:Near adj dst (n+1) (cAt come (par i)):=.inr ⟨_,r,d⟩;have C:∀ q,q<come.length→Lev par src.length q k'→∀ y∈adj.getD (cAt come q).toNat [],Near adj dst n y→∃ m,m<come.length∧cAt come m=y∧Lev par src.length m (k' + 1)∧src.length≤m∧par m≤q:=fun q E o y hy c=>by
   obtain ⟨m,b,hm,e,hb,w,x⟩:=Yv0 h E o hy;rw [← e] at c;have V:=g n m b hm hb c;have P:b=k' + 1:=k30_;subst P;have hsm:src.length≤m:=Nat.le_of_not_lt fun hlt=>by
    have:=Yd9 h hm hb (.z m hlt);omega
   exact ⟨m,hm,e,hb,hsm,x hsm⟩
  have L:NoE adj dst come par src.length (par i) k' (n+1):=fun q E o c=>by
   have F:q<come.length:=k30_;rcases c with c | ⟨y,hy,c⟩
   ·have:=g n q k' F o c
    omega
   ·obtain ⟨m,hm,e,hb,hsm,x⟩:=C q F o y hy c
    rw [← e] at c;refine hE m (Nat.lt_of_not_le fun w=>?_) hb c;by_cases p:i=m
    ·subst p;omega
    ·have:=(Bfs.mono h i m hsi k30_ hm).1
     omega
  have G:∀ y∈adj.getD (cAt come (par i)).toNat [],y<cAt come i→¬ Near adj dst n y:=fun y hy hlt c=>by
   obtain ⟨m,hm,e,hb,hsm,x⟩:=C (par i) A hk' y hy c;rw [← e] at c hlt;refine hE m (Nat.lt_of_not_le fun w=>?_) hb c;by_cases p:i=m
   ·subst p;omega
   ·obtain ⟨U,J⟩:=Bfs.mono h i m hsi k30_ hm
    have:=J k30_;omega
  have M:Greedy adj dst (adj.getD (cAt come (par i)).toNat []) n (cAt come i :: tail):=by
   rcases B with ⟨rfl,rfl⟩ | ⟨f,rfl,u⟩
   ·exact .stop _ _ r d fun y hy hlt hc=>G y hy hlt hc
   ·refine .step _ _ _ _ r d (fun y hy hc=>?_) G u
    obtain ⟨m,b,hm,e,hb,w,_⟩:=Yv0 h A hk' hy;rw [← e] at hc;have:=g f m b hm hb hc;omega
  have:=ih A k' (n+1) (cAt come i :: tail) hk' k30_ N L (.inr ⟨n,rfl,M⟩);rw [List.append_assoc];exact this
theorem greedy_first (h:Done adj src come ah par) (hs:src.Pairwise (·<·)) {j:Nat} (d:j<come.length) (f:cAt come j∈dst) (e:∀ i,i<j→cAt come i∉dst) {l:List Int} (k:Way come par src.length j l):∃ n,Greedy adj dst src n l:=by
 obtain ⟨D,c⟩:=Xt4 h j d;have:=Yn1 h hs e c k d D 0 [] c k30_ f (fun m g _ hc=>e m g hc) (.inl ⟨rfl,rfl⟩);rw [List.append_nil] at this;exact ⟨D,this⟩
end
end Go.Proofs.YtgpljiijjnaofaaGreatDoor.Wp.R
namespace Go.Proofs.YtgpljiijjnaofaaGreatDoor.Wp
open Go Go.RowKit
def gapG (s A B:List Int) (x y:Int):Int:=if hasB s x=true then wt A x - wt A y else wt B y - wt B x
def K2_ (s A B:List Int) (adj:List (List Int)):List (List Int):=(upTo adj.length).map fun x=>(adj.getD x.toNat []).filter fun y=>decide (gapG s A B x y=0)
def topL (w l:List Int):List Int:=l.filter fun x=>l.all fun y=>decide (wt w y≤wt w x)
section
variable {s A B w l:List Int} {adj:List (List Int)}
theorem Zd4 (hs:IsSet s) {x y:Nat} (c:memP s x=true):gapG s A B x y=A.getD x 0 - A.getD y 0:=by
 unfold gapG;rw [T1_ hs,if_pos c];rfl
theorem T4_ (hs:IsSet s) {x y:Nat} (c:memP s x=false):gapG s A B x y=B.getD y 0 - B.getD x 0:=by
 unfold gapG;rw [T1_ hs,c,if_neg z31_];rfl
theorem L6_:(K2_ s A B adj).length=adj.length:=by unfold K2_;rw [List.length_map,Q4_]
theorem Zi6 {x:Nat} (c:x<adj.length):(K2_ s A B adj).getD x []=(adj.getD x []).filter fun y=>decide (gapG s A B x y=0):=by
 unfold K2_ upTo;simp [List.getD,c]
theorem L7_ {x:Nat} {y:Int} (c:x<adj.length):y∈(K2_ s A B adj).getD x []↔y∈adj.getD x []∧gapG s A B x y=0:=by
 rw [Zi6 c,List.mem_filter,decide_eq_true_iff]
theorem Xb2 {x:Nat} (c:adj.length≤x):(K2_ s A B adj).getD x []=[]:=by
 rw [List.getD_eq_getElem?_getD,List.getElem?_eq_none (by rw [L6_];exact c)];rfl
theorem Xb3 (hd:DigP adj):DigP (K2_ s A B adj):=by
 refine ⟨by rw [L6_];exact hd.1,fun x=>?_⟩;by_cases d:x<adj.length
 ·rw [Zi6 d,L6_]
  exact ⟨(hd.2 x).1.filter _,fun y c=>(hd.2 x).2 y (List.mem_filter.1 c).1⟩
 ·rw [Xb2 k30_]
  exact ⟨A2_,fun y c=>by cases c⟩
theorem O1_ {x:Int} (h:x∈topL w l):x∈l:=(List.mem_filter.1 h).1
theorem Zq1 {x:Int} (h:x∈topL w l):∀ y:Nat,(y:Int)∈l→w.getD y 0≤wt w x:=fun y d=>by
 have c:=List.all_eq_true.1 (List.mem_filter.1 h).2 y d;exact of_decide_eq_true c
theorem Zq2 {x:Int} (h:x∈l) (c:∀ y∈l,wt w y≤wt w x):x∈topL w l:=List.mem_filter.2 ⟨h,List.all_eq_true.2 fun y d=>decide_eq_true (c y d)⟩
theorem Yv1 {n:Nat} (h:InN n l):InN n (topL w l):=⟨h.1.filter _,fun x c=>h.2 x (O1_ c)⟩
end
section
variable {a b:Mat} {s A B:List Int}
theorem Yn2 (h:Common a b s) (xf:Ex (nN a) (rkP 4 a) (memP s) fun i=>A.getD i 0) (xg:Ex (nN a) (rkP 4 b) (memP s) fun i=>B.getD i 0) {d:Nat} {l:List Int}
  (q:Greedy (K2_ s A B (adjG a b s)) (topL B (addG b s)) (topL A (addG a s)) d l) :
  (turnL s l).length=s.length+1∧Common a b (turnL s l)∧Ex (nN a) (rkP 4 a) (memP (turnL s l)) (fun i=>A.getD i 0)∧Ex (nN a) (rkP 4 b) (memP (turnL s l)) fun i=>B.getD i 0:=by
 obtain ⟨Q,v⟩:=mayI_iff.1 (J0_ h.ia);obtain ⟨x0,_⟩:=mayI_iff.1 (J0_ h.ib);have hn:=(Y7_ Q).2;have xn:=q.length;have J:=rk_of Q;have F:=rk_of x0;rw [h.nn] at F;have Y:=I6_ h.ia;have M:=I6_ h.ib;rw [h.nn] at M;have W:∀ i,i<l.length→0≤l.getD i 0∧l.getD i 0<(nN a:Int):=by
  intro i
  induction i with
  | zero=>intro _;exact mem_upTo.1 (List.mem_filter.1 (O1_ q.first)).1
  | succ i ih =>
   intro hi;have u:=ih k30_;have o:=q.arcs i hi;exact Xt2 (x:=(l.getD i 0).toNat) (b:=b) (s:=s) k30_ ((L7_ (by rw [J8_];omega)).1 o).1
 obtain ⟨p,hp⟩:∃ p:Nat→Nat,∀ i,p i=(l.getD i 0).toNat:=⟨_,fun _=>rfl⟩;have r:∀ i,i<l.length→l.getD i 0=(p i:Int):=fun i hi=>by rw [hp];have:=W i hi;omega
 have c:∀ i,i<l.length→p i<nN a:=fun i hi=>by have:=W i hi;have:=r i hi;omega
 have X:∀ i j,i<l.length→j<l.length→(l.getD j 0∈(K2_ s A B (adjG a b s)).getD (l.getD i 0).toNat []↔(p j:Int)∈(adjG a b s).getD (p i) []∧gapG s A B (p i) (p j)=0):=fun i j hi hj=>by
  have:=c i hi;rw [r j hj,r i hi,Int.toNat_natCast,L7_ (by rw [J8_];exact this)]
 have P:∀ i,i+1<l.length→(p (i+1):Int)∈(adjG a b s).getD (p i) []:=fun i hi=>((X i (i+1) k30_ hi).1 (q.arcs i hi)).1;have x4:∀ i,i+1<l.length→gapG s A B (p i) (p (i+1))=0:=fun i hi=>((X i (i+1) k30_ hi).1 (q.arcs i hi)).2;have x7:∀ i j,i+2≤j→j<l.length→gapG s A B (p i) (p j)=0→¬ (p j:Int)∈(adjG a b s).getD (p i) []:=fun i j I hj u o=>q.straight i j I hj ((X i j k30_ hj).2 ⟨o,u⟩);have V:∀ i,i<l.length→memP s (p i)=decide (i % 2=1):=by
  intro i
  induction i with
  | zero =>
   intro hi;have o:=O1_ q.first;rw [r 0 hi,I5_ h.ia] at o;rw [o.2.1];rfl
  | succ i ih =>
   intro hi;have u:=ih k30_;rcases (G6_ h (c i k30_) (c (i+1) hi)).1 (P i hi) with ⟨o,h2,_⟩ | ⟨o,h2,_⟩
   ·rw [o] at u
    have:=of_decide_eq_true u.symm;rw [h2];exact (decide_eq_false k30_).symm
   ·rw [h2] at u
    have:=of_decide_eq_false u.symm;rw [o];exact (decide_eq_true k30_).symm
 have T:=O1_ q.last;rw [r d k30_,I5_ h.ib,h.nn] at T;have xm:d % 2=0:=by
  have o:=V d k30_;rw [T.2.1] at o;have:=of_decide_eq_false o.symm;omega
 obtain ⟨k,rfl⟩:∃ k,d=2 * k:=⟨d / 2,k30_⟩;have x5:∀ i j,i≤2 * k→j≤2 * k→p i=p j→i=j:=fun i j hi hj e=>by
  rcases Nat.lt_trichotomy i j with U | xh | U
  ·exact absurd (by rw [r i k30_,r j k30_,e]) (q.inj i j U k30_)
  ·exact xh
  ·exact absurd (by rw [r i k30_,r j k30_,e]) (q.inj j i U k30_)
 have w:∀ i,i≤k→memP s (p (2 * i))=false:=fun i hi=>by rw [V _ k30_];exact decide_eq_false k30_
 have hwi:∀ i,i<k→memP s (p (2 * i+1))=true:=fun i hi=>by rw [V _ k30_];exact decide_eq_true k30_
 have C:Zig (nN a) (memP s) p k:=⟨fun i hi=>c i k30_,x5,w,hwi⟩;have gA:∀ {x y:Nat},memP s x=true→gapG s A B x y=A.getD x 0 - A.getD y 0:=fun g=>Zd4 v.1 g;have gB:∀ {x y:Nat},memP s x=false→gapG s A B x y=B.getD y 0 - B.getD x 0:=fun g=>T4_ v.1 g;have xb:∀ {f:(Nat→Bool)→Nat},Rk (nN a) f→∀ {x y:Nat},x<nN a→y<nN a→memP s y=true→memP s x=false→¬ f (insP (remP (memP s) y) x)=cnt (memP s) (nN a)→f (insP (remP (memP s) y) x)<cnt (memP s) (nN a):=fun L x y g D o h2 xk=>by
  have l1:=L.le_cnt (insP (remP (memP s) y) x);have c1:=M5_ g D o h2;omega
 have one:∀ {f:(Nat→Bool)→Nat},Rk (nN a) f→f (memP s)=cnt (memP s) (nN a)→∀ {x:Nat},x<nN a→¬ f (insP (memP s) x)=cnt (memP s) (nN a)+1→f (insP (memP s) x)=f (memP s):=fun L hs x g xk=>by
  have u1:=L.up' (memP s) g;have u2:=L.one' (memP s) g;omega
 have x2:=O1_ q.first;have x1:∀ z:Nat,(z:Int)∈addG a s→A.getD z 0≤A.getD (p 0) 0:=fun z C=>by
  have:=Zq1 q.first z C
  rwa [r 0 k30_] at this
 have x6:∀ z:Nat,(z:Int)∈addG b s→B.getD z 0≤B.getD (p (2 * k)) 0:=fun z C=>by
  have:=Zq1 q.last z C
  rwa [r _ k30_] at this
 rw [r 0 k30_,I5_ h.ia] at x2;have x8:WStraight (nN a) (rkP 4 a) (memP s) p k (fun i=>A.getD i 0):=by
  refine ⟨x2.2.2,fun z C N R=>x1 z ((I5_ h.ia).2 ⟨C,N,R⟩),fun i hi E=>?_,fun i hi=>?_,fun i hi=>?_,fun i j I hj E=>?_,xf⟩
  ·refine one J Y (c _ k30_) fun e=>q.notFirst (2 * i+2) k30_ k30_ ?_
   rw [r _ k30_];have G:=(I5_ h.ia).2 ⟨c _ k30_,w (i+1) k30_,e⟩;refine Zq2 G fun y D=>?_;have xl:=mem_upTo.1 (List.mem_filter.1 D).1;have:=x1 y.toNat (by rwa [show ((y.toNat:Nat):Int)=y by omega]);show A.getD y.toNat 0≤A.getD (p (2 * i+2)) 0
   try simp only at E
   omega
  ·rcases (G6_ h (c (2 * i+1) k30_) (c (2 * i+2) k30_)).1 (P (2 * i+1) k30_) with ⟨_,_,h3⟩ | ⟨o,_,_⟩
   ·exact h3
   ·have:=w (i+1) k30_
    rw [show 2 * (i+1)=2 * i+2 by omega,o] at this;cases this
  ·have:=x4 (2 * i+1) k30_
   rw [gA (hwi i hi),show 2 * i+1+1=2 * i+2 from rfl] at this;show A.getD (p (2 * i+1)) 0=A.getD (p (2 * i+2)) 0;omega
  ·refine xb J (c _ k30_) (c _ k30_) (hwi i k30_) (w (j+1) k30_) fun e=>x7 (2 * i+1) (2 * j+2) k30_ k30_ ?_ ?_
   ·rw [gA (hwi i k30_)];(try simp only at E);omega
   ·exact (G6_ h (c _ k30_) (c _ k30_)).2 (.inl ⟨hwi i k30_,w (j+1) k30_,e⟩)
 have xa:Zig (nN a) (memP s) (fun i=>p (2 * k - i)) k:=by
  refine ⟨fun i _=>c _ k30_,fun i j hi hj e=>by have:=x5 _ _ k30_ k30_ e;omega,fun i hi=>?_,fun i hi=>?_⟩
  ·show memP s (p (2 * k - 2 * i))=false
   rw [show 2 * k - 2 * i=2 * (k - i) by omega];exact w _ k30_
  ·show memP s (p (2 * k - (2 * i+1)))=true
   exact j20_
 have x9:WStraight (nN a) (rkP 4 b) (memP s) (fun i=>p (2 * k - i)) k (fun i=>B.getD i 0):=by
  refine ⟨T.2.2,fun z C N R=>x6 z ((I5_ h.ib).2 ⟨by rw [h.nn];exact C,N,by rw [h.nn];exact R⟩),fun i hi E=>?_,fun i hi=>?_,fun i hi=>?_,fun i j I hj E=>?_,xg⟩
  ·show rkP 4 b (insP (memP s) (p (2 * k - (2 * i+2))))=_
   refine one F M (c _ k30_) fun e=>q.notLast (2 * k - (2 * i+2)) k30_ ?_;rw [r _ k30_];have G:(p (2 * k - (2 * i+2)):Int)∈addG b s:=by
    rw [I5_ h.ib,h.nn];refine ⟨c _ k30_,?_,e⟩;rw [show 2 * k - (2 * i+2)=2 * (k - i - 1) by omega];exact w _ k30_
   refine Zq2 G fun y D=>?_;have xl:=mem_upTo.1 (List.mem_filter.1 D).1;have:=x6 y.toNat (by rwa [show ((y.toNat:Nat):Int)=y by omega]);show B.getD y.toNat 0≤B.getD (p (2 * k - (2 * i+2))) 0
   try simp only [Nat.sub_zero] at E
   omega
  ·show rkP 4 b (insP (remP (memP s) (p (2 * k - (2 * i+1)))) (p (2 * k - (2 * i+2))))=_
   have e1:2 * k - (2 * i+1)=2 * k - (2 * i+2)+1:=k30_;have u:=P (2 * k - (2 * i+2)) k30_;rw [← e1] at u;rcases (G6_ h (c _ k30_) (c _ k30_)).1 u with ⟨o,_,_⟩ | ⟨_,_,h3⟩
   ·have:=w (k - i - 1) k30_
    rw [show 2 * (k - i - 1)=2 * k - (2 * i+2) by omega,o] at this;cases this
   ·exact h3
  ·show B.getD (p (2 * k - (2 * i+1))) 0=B.getD (p (2 * k - (2 * i+2))) 0
   have u:=x4 (2 * k - (2 * i+2)) k30_;have g:=w (k - i - 1) k30_;rw [show 2 * (k - i - 1)=2 * k - (2 * i+2) by omega] at g;rw [gB g,show 2 * k - (2 * i+2)+1=2 * k - (2 * i+1) by omega] at u;omega
  ·show rkP 4 b (insP (remP (memP s) (p (2 * k - (2 * i+1)))) (p (2 * k - (2 * j+2))))<_
   have D:memP s (p (2 * k - (2 * i+1)))=true:=j20_;have g:memP s (p (2 * k - (2 * j+2)))=false:=by
    rw [show 2 * k - (2 * j+2)=2 * (k - j - 1) by omega];exact w _ k30_
   refine xb F (c _ k30_) (c _ k30_) D g fun e=>x7 (2 * k - (2 * j+2)) (2 * k - (2 * i+1)) k30_ k30_ ?_ ?_
   ·rw [gB g];(try simp only at E);omega
   ·exact (G6_ h (c _ k30_) (c _ k30_)).2 (.inr ⟨D,g,e⟩)
 have ta:=Zd1 J Y C x8;have tb:=Zd1 F M xa x9;have xc:=Xa0 J Y C x8;have xd:=Xa0 F M xa x9;have xi:∀ i:Nat,(i:Int)∈l↔∃ j,j≤2 * k∧p j=i:=fun i=>by
  constructor
  ·intro hi
   obtain ⟨j,hj,e⟩:=List.mem_iff_getElem.1 hi;have:=r j hj;rw [show l.getD j 0=l[j] by simp [List.getD,hj],e] at this;exact ⟨j,k30_,k30_⟩
  ·rintro ⟨j,hj,e⟩
   rw [← e,← r j k30_];exact Y4_ 0 k30_
 have G:∀ x∈l,0≤x∧x<(nN a:Int):=fun x g=>by
  obtain ⟨j,hj,e⟩:=List.mem_iff_getElem.1 g;have:=W j hj
  rwa [show l.getD j 0=l[j] by simp [List.getD,hj],e] at this
 have x3:∀ x∈l,Fit x:=fun x g=>by have:=G x g;exact ⟨k30_,k30_⟩
 have xj:l.Nodup:=by
  rw [List.nodup_iff_pairwise_ne,List.pairwise_iff_getElem];intro i j hi hj I e;refine q.inj i j I hj ?_;simp [List.getD,hi,hj,e]
 have K:InN (nN a) (sortL l):=⟨E2_ l,fun x g=>G x ((B6_ x l).1 g).1⟩;have ht:turnL s l=X2_ (Z4_ s (sortL l)) (Z4_ (sortL l) s):=by
  unfold turnL;rw [if_pos ⟨I3_ v.1,Xp0 xj x3⟩]
 have O:InN (nN a) (turnL s l):=by rw [ht];exact A0_ (Zx6 v K) (Zx6 K v)
 have hany:∀ i:Nat,((List.range (2 * k+1)).any fun j=>p j==i)=true↔(i:Int)∈l:=fun i=>by
  rw [List.any_eq_true,xi];constructor
  ·rintro ⟨j,hj,e⟩;rw [List.mem_range] at hj;exact ⟨j,k30_,by simpa using e⟩
  ·rintro ⟨j,hj,e⟩;exact ⟨j,List.mem_range.2 k30_,by simpa using e⟩
 have eT:∀ i,memP (turnL s l) i=turnP (memP s) p k i:=fun i=>by
  rw [Bool.eq_iff_iff,memP_iff,ht,E3_ (Q2_ _ _) (Q2_ _ _),Y2_ v.1 K.1,Y2_ K.1 v.1,B6_];unfold turnP;rw [bne_iff_ne];have hf:(i:Int)∈l→Fit (i:Int):=fun h=>x3 _ h;rw [← memP_iff];cases o:memP s i<;>cases h2:((List.range (2 * k+1)).any fun j=>p j==i)
  ·exact k18_
  ·have:=(hany i).1 h2
   simp [this,hf this]
  ·exact k18_
  ·have:=(hany i).1 h2
   simp [this,hf this]
 have Z:∀ i,i<nN a→turnP (memP s) (fun i=>p (2 * k - i)) k i=turnP (memP s) p k i:=fun i _=>z4_;rw [F.ext Z,V8_ Z] at tb;have H:memP (turnL s l)=turnP (memP s) p k:=funext eT;have S:(turnL s l).length=s.length+1:=by rw [V2_ O,V2_ v,H];exact ta.2
 have xe:turnP (memP s) (fun i=>p (2 * k - i)) k=turnP (memP s) p k:=funext fun i=>z4_;rw [xe,← H] at xd;rw [← H] at xc;refine ⟨S,⟨h.n,?_,?_⟩,Yd4 J xc,Yd4 F xd⟩
 ·rw [D3_ (mayI_iff.2 ⟨Q,O⟩),H,S,V2_ v]
  exact ta.1
 ·rw [D3_ (m:=b) (mayI_iff.2 ⟨x0,by rw [h.nn];exact O⟩),H,S,V2_ v]
  exact tb.1
end
def mostL (w l:List Int):Int:=l.foldl (fun m x=>max m (wt w x)) (-9223372036854775808)
def gapsL (s A B:List Int) (adj:List (List Int)) (src dst come:List Int):List Int :=
 come.flatMap (fun x=>(Z4_ (adj.getD x.toNat []) come).map (gapG s A B x)) ++ ((Z4_ src come).map (fun x=>mostL A src - wt A x) ++ (meetL dst come).map (fun x=>mostL B dst - wt B x))
def X7_ (w l:List Int) (d:Int):List Int:=(List.range w.length).map fun i=>w.getD i 0+if memP l i=true then d else 0
theorem R2_ (w l:List Int) (d:Int):(X7_ w l d).length=w.length:=by simp [X7_]
theorem Zz4 {w l:List Int} {d:Int} {i:Nat} (hi:i<w.length):(X7_ w l d).getD i 0=w.getD i 0+if memP l i=true then d else 0:=by
 unfold X7_;simp [List.getD,hi]
theorem Zq3 (w:List Int):∀ (l:List Int) (m:Int),m≤l.foldl (fun m x=>max m (wt w x)) m∧(∀ y∈l,wt w y≤l.foldl (fun m x=>max m (wt w x)) m)∧(l.foldl (fun m x=>max m (wt w x)) m=m∨∃ z∈l,wt w z=l.foldl (fun m x=>max m (wt w x)) m)
 | [],m=>⟨Int.le_refl _,fun y c=>(by cases c),.inl rfl⟩
 | x :: l,m=>by
  obtain ⟨f,d,h3⟩:=Zq3 w l (max m (wt w x));rw [List.foldl_cons];refine ⟨k30_,fun y c=>?_,?_⟩
  ·rcases List.mem_cons.1 c with rfl | c
   ·omega
   ·exact d y c
  ·rcases h3 with h3 | ⟨z,e,h3⟩
   ·by_cases g:wt w x≤m
    ·exact .inl k30_
    ·exact .inr ⟨x,y31_,k30_⟩
   ·exact .inr ⟨z,by simp [e],h3⟩
theorem E8_ {w l:List Int} {y:Int} (h:y∈l):wt w y≤mostL w l:=(Zq3 w l _).2.1 y h
theorem R3_ {w l:List Int} (h:l≠[]) (hb:∀ y∈l,-9223372036854775808≤wt w y):∃ z∈l,wt w z=mostL w l:=by
 rcases (Zq3 w l (-9223372036854775808)).2.2 with e | c
 ·obtain ⟨y,d⟩:=List.exists_mem_of_ne_nil l h
  refine ⟨y,d,?_⟩;have c:=E8_ (w:=w) d;have f:=hb y d;unfold mostL at c ⊢;omega
 ·exact c
structure Sp (a b:Mat) (w s A B:List Int):Prop where
 com:Common a b s
 la:A.length=nN a
 lb:B.length=nN a
 sum:∀ i,i<nN a→A.getD i 0+B.getD i 0=w.getD i 0
 ea:Ex (nN a) (rkP 4 a) (memP s) fun i=>A.getD i 0
 eb:Ex (nN a) (rkP 4 b) (memP s) fun i=>B.getD i 0
noncomputable def J7_ (a b:Mat) (s A B:List Int):List (List Int):=K2_ s A B (adjG a b s)
noncomputable def comeS (a b:Mat) (s A B:List Int):List Int:=itL (J7_ a b s A B) (topL A (addG a s)) (J7_ a b s A B).length
def NoWay (a b:Mat) (s A B:List Int):Prop:=∀ y∈topL A (addG a s),∀ k,¬ Near (J7_ a b s A B) (topL B (addG b s)) k y
noncomputable def gapsS (a b:Mat) (s A B:List Int):List Int:=gapsL s A B (adjG a b s) (addG a s) (addG b s) (comeS a b s A B)
def MinIs (d:Int) (l:List Int):Prop:=d∈l∧∀ x∈l,d≤x
section
variable {a b:Mat} {w s A B:List Int} {d:Int}
theorem Common.dstIn (h:Common a b s):InN (nN a) (addG b s):=by have:=J9_ (m:=b) (s:=s) (by rw [h.nn];exact h.n64);rwa [h.nn] at this
theorem B1_:(J7_ a b s A B).length=nN a:=by unfold J7_;rw [L6_,J8_]
theorem B2_ (h:Common a b s):DigP (J7_ a b s A B):=Xb3 (T3_ h.n64)
theorem I9_ (h:Common a b s):PtsP (J7_ a b s A B).length (topL A (addG a s)):=by rw [B1_];exact Yv1 (J9_ h.n64)
theorem D4_ (h:Common a b s):InN (nN a) (comeS a b s A B):=by
 have:=A5_ (B2_ (A:=A) (B:=B) h) (I9_ h) (J7_ a b s A B).length;unfold comeS;rw [B1_] at this ⊢;exact this
theorem Zs3 (h:Common a b s) {x:Int} (c:x∈topL A (addG a s)):x∈comeS a b s A B:=Zi2 (B2_ h) (I9_ h) _ x c
theorem Zs4 (h:Common a b s) {x:Nat} {y:Int} (e:x<nN a) (d:(x:Int)∈comeS a b s A B) (f:y∈(adjG a b s).getD x []) (c:gapG s A B x y=0):y∈comeS a b s A B :=
 T2_ (B2_ h) (I9_ h) d (by
  unfold J7_;rw [Int.toNat_natCast,L7_ (by rw [J8_];exact e)];exact ⟨f,c⟩)
theorem Zs5 (h:Common a b s):NoWay a b s A B↔∀ x∈comeS a b s A B,x∉topL B (addG b s):=by
 have hd:=B2_ (A:=A) (B:=B) h;have f:=I9_ (A:=A) (B:=B) h;constructor
 ·intro e x g hb
  obtain ⟨y,c,d⟩:=(H2_ hd _ _ f).1 ⟨x,g,hb⟩;exact e y c _ d
 ·intro e y c k d
  have j:=f.2 y c;obtain ⟨m,o,_,p⟩:=Zj8 hd j d;obtain ⟨x,g,hb⟩:=(H2_ (dst:=topL B (addG b s)) hd (J7_ a b s A B).length _ f).2 ⟨y,c,R1_ o p⟩;exact e x g hb
theorem R4_ (h:Common a b s) {g:Int}:g∈gapsS a b s A B ↔
  (∃ x y:Nat,x<nN a∧y<nN a∧(x:Int)∈comeS a b s A B∧(y:Int)∈(adjG a b s).getD x []∧(y:Int)∉comeS a b s A B∧g=gapG s A B x y) ∨
  (∃ x:Nat,x<nN a∧(x:Int)∈addG a s∧(x:Int)∉comeS a b s A B∧g=mostL A (addG a s) - A.getD x 0) ∨
  (∃ x:Nat,x<nN a∧(x:Int)∈addG b s∧(x:Int)∈comeS a b s A B∧g=mostL B (addG b s) - B.getD x 0):=by
 have j:=D4_ (A:=A) (B:=B) h;have o:=J9_ (m:=a) (s:=s) h.n64;have p:=h.dstIn;have hd:=T3_ (b:=b) (s:=s) h.n64;unfold gapsS gapsL;rw [List.mem_append,List.mem_append,List.mem_flatMap,List.mem_map,List.mem_map];constructor
 ·rintro (⟨x,f,r⟩ | ⟨x,f,rfl⟩ | ⟨x,f,rfl⟩)
  ·obtain ⟨y,q,rfl⟩:=List.mem_map.1 r
   obtain ⟨u,v⟩:=(Y2_ (hd.2 _).1 j.1 y).1 q;have c:=j.2 x f;have e:=(hd.2 _).2 y u;rw [J8_] at e;have d:((x.toNat:Nat):Int)=x:=k30_;have k:((y.toNat:Nat):Int)=y:=k30_;exact .inl ⟨x.toNat,y.toNat,k30_,k30_,by rwa [d],by rwa [k],by rwa [k],by rw [d,k]⟩
  ·obtain ⟨c,e⟩:=(Y2_ o.1 j.1 x).1 f
   have h3:=o.2 x c;have d:((x.toNat:Nat):Int)=x:=k30_;exact .inr (.inl ⟨x.toNat,k30_,by rwa [d],by rwa [d],rfl⟩)
  ·obtain ⟨c,e⟩:=(M3_ p.1 j.1 x).1 f
   have h3:=p.2 x c;have d:((x.toNat:Nat):Int)=x:=k30_;exact .inr (.inr ⟨x.toNat,k30_,by rwa [d],by rwa [d],rfl⟩)
 ·rintro (⟨x,y,f,q,c,e,h3,rfl⟩ | ⟨x,f,c,e,rfl⟩ | ⟨x,f,c,e,rfl⟩)
  ·exact .inl ⟨x,c,List.mem_map.2 ⟨y,(Y2_ (hd.2 _).1 j.1 _).2 ⟨by rwa [Int.toNat_natCast],h3⟩,rfl⟩⟩
  ·exact .inr (.inl ⟨x,(Y2_ o.1 j.1 _).2 ⟨c,e⟩,rfl⟩)
  ·exact .inr (.inr ⟨x,(M3_ p.1 j.1 _).2 ⟨c,e⟩,rfl⟩)
theorem Sp.gap (h:Sp a b w s A B) {x y:Nat} (e:x<nN a) (f:y<nN a) (ha:(y:Int)∈(adjG a b s).getD x []):0≤gapG s A B x y:=by
 rcases (G6_ h.com e f).1 ha with ⟨c,d,h3⟩ | ⟨c,d,h3⟩
 ·rw [Zd4 h.com.set.1 c]
  have:=h.ea x y e f c d h3;simp only at this;omega
 ·rw [T4_ h.com.set.1 d]
  have:=h.eb y x f e c d h3;simp only at this;omega
theorem F7_ {l:List Int} {n:Nat} (hl:InN n l) {p:Int→Prop} (h:∀ i:Nat,i<n→(i:Int)∈l→p i):∀ x∈l,p x:=fun x c=>by
 have:=hl.2 x c;have e:((x.toNat:Nat):Int)=x:=k30_;rw [← e];exact h _ k30_ (by rwa [e])
theorem Sp.shift (h:Sp a b w s A B) (x2:NoWay a b s A B) (hd:MinIs d (gapsS a b s A B)) (hA:∀ i,i<nN a→-9223372036854775808≤A.getD i 0) :
  0<d∧Sp a b w s (X7_ A (comeS a b s A B) (-d)) (X7_ B (comeS a b s A B) d)∧(∀ x∈comeS a b s A B,x∈comeS a b s (X7_ A (comeS a b s A B) (-d)) (X7_ B (comeS a b s A B) d)) ∧
   ((∃ x∈comeS a b s (X7_ A (comeS a b s A B) (-d)) (X7_ B (comeS a b s A B) d),x∉comeS a b s A B)∨¬ NoWay a b s (X7_ A (comeS a b s A B) (-d)) (X7_ B (comeS a b s A B) d)):=by
 have hc:=h.com;have E:=hc.set.1;have U:=D4_ (A:=A) (B:=B) hc;have Q:=fun {x:Int}=>Zs3 (B:=B) (A:=A) hc (x:=x);have V:=fun {x:Nat} {y:Int}=>Zs4 (A:=A) (B:=B) hc (x:=x) (y:=y);have x4:=(Zs5 hc).1 x2;have H:=J9_ (m:=a) (s:=s) hc.n64;have hT:=hc.dstIn;have v:=fun {g:Int}=>R4_ (A:=A) (B:=B) hc (g:=g);generalize x1:comeS a b s A B=W at *
 obtain ⟨Y,I⟩:=hd;have x5:0<d:=by
  rcases v.1 Y with ⟨x,y,c,f,j,o,h3,e⟩ | ⟨x,c,j,o,e⟩ | ⟨x,c,j,o,e⟩
  ·have g0:=h.gap c f o
   by_cases G:gapG s A B x y=0
   ·exact absurd (V c j o G) h3
   ·omega
  ·have K:=E8_ (w:=A) j
   have P:A.getD x 0≤mostL A (addG a s):=K;by_cases G:A.getD x 0=mostL A (addG a s)
   ·exact absurd (Q (Zq2 j fun y f=>by show wt A y≤A.getD x 0;rw [G];exact E8_ f)) o
   ·omega
  ·have P:B.getD x 0≤mostL B (addG b s):=E8_ (w:=B) j
   by_cases G:B.getD x 0=mostL B (addG b s)
   ·exact absurd (Zq2 j fun y f=>by show wt B y≤B.getD x 0;rw [G];exact E8_ f) (x4 _ o)
   ·omega
 obtain ⟨A',N⟩:∃ A',A'=X7_ A W (-d):=⟨_,rfl⟩;obtain ⟨B',O⟩:∃ B',B'=X7_ B W d:=⟨_,rfl⟩;have p:∀ i,i<nN a→A'.getD i 0=A.getD i 0+if memP W i=true then -d else 0:=fun i hi=>by rw [N];exact Zz4 (by rw [h.la];exact hi)
 have r:∀ i,i<nN a→B'.getD i 0=B.getD i 0+if memP W i=true then d else 0:=fun i hi=>by rw [O];exact Zz4 (by rw [h.lb];exact hi)
 rw [← N,← O];have x6:Sp a b w s A' B':=by
  refine ⟨hc,by rw [N,R2_];exact h.la,by rw [O,R2_];exact h.lb,fun i hi=>?_,fun y x f c D C J=>?_,fun y x f c D C J=>?_⟩
  ·have:=h.sum i hi
   rw [p i hi,r i hi];split<;>omega
  ·have u:=h.ea y x f c D C J
   simp only at u ⊢;rw [p x c,p y f];cases q:memP W x
   ·cases hyW:memP W y
    ·exact y20_
    ·have j:=I _ (v.2 (.inl ⟨y,x,f,c,memP_iff.1 hyW,(G6_ hc f c).2 (.inl ⟨D,C,J⟩),fun S=>(by rw [memP_iff.2 S] at q;cases q),rfl⟩))
     rw [Zd4 E D] at j;simp only [Bool.false_eq_true,if_false,if_true];omega
   ·simp only [if_true];split<;>omega
  ·have u:=h.eb y x f c D C J
   simp only at u ⊢;rw [r x c,r y f];cases hyW:memP W y
   ·cases q:memP W x
    ·exact y20_
    ·have j:=I _ (v.2 (.inl ⟨x,y,c,f,memP_iff.1 q,(G6_ hc c f).2 (.inr ⟨D,C,J⟩),fun S=>(by rw [memP_iff.2 S] at hyW;cases hyW),rfl⟩))
     rw [T4_ E C] at j;simp only [Bool.false_eq_true,if_false,if_true];omega
   ·simp only [if_true];split<;>omega
 have x9:=D4_ (A:=A') (B:=B') hc;have Z:=fun {x:Int}=>Zs3 (B:=B') (A:=A') hc (x:=x);have X:=fun {x:Nat} {y:Int}=>Zs4 (A:=A') (B:=B') hc (x:=x) (y:=y);have x7:∀ x∈topL A (addG a s),x∈topL A' (addG a s):=F7_ (Yv1 H) fun x c L=>by
  have q:=Q L;refine Zq2 (O1_ L) (F7_ H fun y f F=>?_);show A'.getD y 0≤A'.getD x 0;have K:=Zq1 L y F;have K:A.getD y 0≤A.getD x 0:=K;rw [p x c,p y f,memP_iff.2 q];simp only [if_true];cases hyW:memP W y
  ·have j:=I _ (v.2 (.inr (.inl ⟨y,f,F,fun o=>(by rw [memP_iff.2 o] at hyW;cases hyW),rfl⟩)))
   obtain ⟨z,hz,ez⟩:=R3_ (w:=A) (l:=addG a s) (List.ne_nil_of_mem F) (F7_ H fun i hi _=>hA i hi);have o:wt A z≤A.getD x 0:=by
    have:=H.2 z hz;have h3:=Zq1 L z.toNat (by rwa [show ((z.toNat:Nat):Int)=z by omega]);exact h3
   exact q20_
  ·simp only [if_true];omega
 have R:∀ x∈W,x∈comeS a b s A' B':=by
  have x8:∀ k,∀ x∈itL (J7_ a b s A B) (topL A (addG a s)) k,x∈W∧x∈comeS a b s A' B':=by
   intro k
   induction k with
   | zero=>exact fun x c=>⟨Q c,Z (x7 x c)⟩
   | succ k ih =>
    intro x c;have hd:=B2_ (A:=A) (B:=B) hc;rcases ((E7_ hd (A5_ hd (I9_ hc) k)).2 x).1 c with c | ⟨y,f,c⟩
    ·exact ih x c
    ·obtain ⟨y1,y2⟩:=ih y f
     have xb:=U.2 y y1;have M:((y.toNat:Nat):Int)=y:=k30_;unfold J7_ at c;rw [L7_ (by rw [J8_];omega)] at c;have q:=V (x:=y.toNat) (y:=x) k30_ (by rwa [M]) c.1 c.2;have xa:=U.2 x q;have T:((x.toNat:Nat):Int)=x:=k30_;refine ⟨q,X (x:=y.toNat) (y:=x) k30_ (by rwa [M]) c.1 ?_⟩;have u:=c.2;rw [← T] at u ⊢;have m1:memP W y.toNat=true:=by rw [memP_iff,M];exact y1
     have m2:memP W x.toNat=true:=by rw [memP_iff,T];exact q
     cases hys:memP s y.toNat
     ·rw [T4_ E hys] at u ⊢
      rw [r _ k30_,r _ k30_,m1,m2];simp only [if_true];omega
     ·rw [Zd4 E hys] at u ⊢
      rw [p _ k30_,p _ k30_,m1,m2];simp only [if_true];omega
  rw [← x1];exact fun x c=>(x8 _ x c).2
 refine ⟨x5,x6,R,?_⟩;rcases v.1 Y with ⟨x,y,c,f,j,o,h3,e⟩ | ⟨x,c,j,o,e⟩ | ⟨x,c,j,o,e⟩
 ·refine .inl ⟨(y:Int),X c (R _ j) o ?_,h3⟩
  have m1:memP W x=true:=memP_iff.2 j;have m2:memP W y=false:=by rw [← Bool.not_eq_true,memP_iff];exact h3
  cases hxs:memP s x
  ·rw [T4_ E hxs] at e ⊢
   rw [r _ c,r _ f,m1,m2];simp only [if_true,Bool.false_eq_true,if_false];omega
  ·rw [Zd4 E hxs] at e ⊢
   rw [p _ c,p _ f,m1,m2];simp only [if_true,Bool.false_eq_true,if_false];omega
 ·refine .inl ⟨(x:Int),Z (Zq2 j (F7_ H fun y f F=>?_)),o⟩
  show A'.getD y 0≤A'.getD x 0;have m1:memP W x=false:=by rw [← Bool.not_eq_true,memP_iff];exact o
  have P:A.getD y 0≤mostL A (addG a s):=E8_ (w:=A) F;rw [p x c,p y f,m1];simp only [Bool.false_eq_true,if_false];cases hyW:memP W y
  ·have j:=I _ (v.2 (.inr (.inl ⟨y,f,F,fun o=>(by rw [memP_iff.2 o] at hyW;cases hyW),rfl⟩)))
   exact q20_
  ·simp only [if_true];omega
 ·refine .inr fun x3=>(Zs5 hc).1 x3 (x:Int) (R _ o) (Zq2 j (F7_ hT fun y f x0=>?_))
  show B'.getD y 0≤B'.getD x 0;have m1:memP W x=true:=memP_iff.2 o;have P:B.getD y 0≤mostL B (addG b s):=E8_ (w:=B) x0;rw [r x c,r y f,m1];simp only [if_true];cases hyW:memP W y
  ·exact q20_
  ·have j:=I _ (v.2 (.inr (.inr ⟨y,f,x0,memP_iff.1 hyW,rfl⟩)))
   simp only [if_true];omega
theorem Xb4 (h:Sp a b w s A B) (f:∀ i,i<nN a→-2147483648≤w.getD i 0∧w.getD i 0≤2147483648) {m:Int} (o:∀ x∈topL A (addG a s),wt A x=m) :
  ∀ k,∀ x∈itL (J7_ a b s A B) (topL A (addG a s)) k,m - 4294967296 * (k:Int)≤wt A x∧wt A x≤m+4294967296 * (k:Int):=by
 have hc:=h.com;have v:=hc.set.1;intro k
 induction k with
 | zero=>exact fun x c=>by have:=o x c;omega
 | succ k ih =>
  intro x c;have hd:=B2_ (A:=A) (B:=B) hc;have e:=A5_ hd (I9_ hc) k;rcases ((E7_ hd e).2 x).1 c with c | ⟨y,g,c⟩
  ·have:=ih x c;omega
  ·have u:=ih y g
   have q:=e.2 y g;rw [B1_] at q;have j:((y.toNat:Nat):Int)=y:=k30_;have p:=(hd.2 _).2 x c;rw [B1_] at p;have r:((x.toNat:Nat):Int)=x:=k30_;unfold J7_ at c;rw [L7_ (by rw [J8_];omega),j] at c;have d:=c.2;have z:=h.sum x.toNat k30_;have C:=h.sum y.toNat k30_;have D:=f x.toNat k30_;have E:=f y.toNat k30_;unfold gapG at d;unfold wt at *
   split at d<;>omega
theorem Sp.low (h:Sp a b w s A B) (hd:MinIs d (gapsS a b s A B)) (U:0<d) (g:∀ i,i<nN a→-2147483648≤w.getD i 0∧w.getD i 0≤2147483648) {D:Int} (Q:D≤4611686018427387904) (hA:∀ i,i<nN a→-D≤A.getD i 0∧A.getD i 0≤2147483648) :
  ∀ i,i<nN a→-(D+1099511627776)≤(X7_ A (comeS a b s A B) (-d)).getD i 0∧(X7_ A (comeS a b s A B) (-d)).getD i 0≤2147483648:=by
 have hc:=h.com;have C:=hc.set.1;have R:=D4_ (A:=A) (B:=B) hc;have r:=J9_ (m:=a) (s:=s) hc.n64;have u:=hc.dstIn;have S:=hc.n64;intro i hi;have O:=hA i hi;rw [Zz4 (by rw [h.la];exact hi)];cases hiW:memP (comeS a b s A B) i
 ·exact y20_
 ·simp only [if_true]
  refine ⟨?_,k30_⟩;have E:addG a s≠[]:=fun e=>by
   have f:=memP_iff.1 hiW;unfold comeS at f;have:∀ k,itL (J7_ a b s A B) (topL A (addG a s)) k=[]:=fun k=>by
    induction k with
    | zero=>rw [e];rfl
    | succ k ih=>show nearL _ _=[];rw [ih];rfl
   rw [this] at f;cases f
  obtain ⟨z,I,N⟩:=R3_ (w:=A) E (F7_ r fun i hi _=>by have:=(hA i hi).1;show _≤A.getD i 0;omega);have F:=Xb4 h g (m:=mostL A (addG a s)) (fun x c=>by
   have f:=E8_ (w:=A) (O1_ c);have j:=r.2 z I;have h3:=Zq1 c z.toNat (by rwa [show ((z.toNat:Nat):Int)=z by omega]);have h3:wt A z≤wt A x:=h3;omega) (J7_ a b s A B).length
  have o:∀ x:Nat,(x:Int)∈comeS a b s A B→mostL A (addG a s) - 274877906944≤A.getD x 0∧A.getD x 0≤mostL A (addG a s)+274877906944:=fun x c=>by
   have:=F x c;rw [B1_] at this;unfold wt at this;rw [Int.toNat_natCast] at this;omega
  have T:=o i (memP_iff.1 hiW);rcases (R4_ hc).1 hd.1 with ⟨x,y,c,p,f,j,h3,e⟩ | ⟨x,c,f,j,e⟩ | ⟨x,c,f,j,e⟩
  ·have G:=o x f
   have P:=hA y p;have J:=h.sum x c;have K:=h.sum y p;have L:=g x c;have M:=g y p;cases hxs:memP s x
   ·rw [T4_ C hxs] at e
    omega
   ·rw [Zd4 C hxs] at e
    omega
  ·have:=hA x c
   omega
  ·have G:=o x j
   obtain ⟨v,H,q⟩:=R3_ (w:=B) (l:=addG b s) (List.ne_nil_of_mem f) (F7_ u fun i hi _=>by
    have:=h.sum i hi;have:=g i hi;have:=hA i hi;show _≤B.getD i 0;omega)
   have V:=u.2 v H;have q:B.getD v.toNat 0=mostL B (addG b s):=q;have J:=h.sum x c;have K:=h.sum v.toNat k30_;have L:=g x c;have M:=g v.toNat k30_;have:=hA v.toNat k30_;omega
theorem Sp.stop (h:Sp a b w s A B) (C:gapsS a b s A B=[]):Stop a b s:=by
 have hc:=h.com;have H:=D4_ (A:=A) (B:=B) hc;have p:=J9_ (m:=a) (s:=s) hc.n64;have G:=hc.dstIn;have none:∀ {g:Int},¬ g∈gapsS a b s A B:=fun q=>by rw [C] at q;cases q
 have j:=fun {g:Int}=>R4_ (A:=A) (B:=B) hc (g:=g);have u:∀ x∈addG a s,x∈comeS a b s A B:=F7_ p fun x E F=>Classical.byContradiction fun c=>none (j.2 (.inr (.inl ⟨x,E,F,c,rfl⟩)));have v:∀ k,∀ y:Nat,y<nN a→(y:Int)∈comeS a b s A B→¬ Near (adjG a b s) (addG b s) k y:=by
  intro k
  induction k with
  | zero=>exact fun y d e c=>none (j.2 (.inr (.inr ⟨y,d,c,e,rfl⟩)))
  | succ k ih =>
   intro y d e c;rcases c with c | ⟨z,f,c⟩
   ·exact ih y d e c
   ·rw [Int.toNat_natCast] at f
    have J:=Xt2 d f;have r:((z.toNat:Nat):Int)=z:=k30_;rw [← r] at f c;refine ih z.toNat k30_ ?_ c;exact Classical.byContradiction fun D=>none (j.2 (.inl ⟨y,z.toNat,d,k30_,e,f,D,rfl⟩))
 intro y d k c;have I:=p.2 y d;have o:((y.toNat:Nat):Int)=y:=k30_;exact v k y.toNat k30_ (by rw [o];exact u y d) (by rwa [o])
theorem Zi7 {t:List Int} (h:Common a b s) (hs:Stop a b s) (f:Common a b t):t.length≤s.length:=by
 have c:=chk_n (mayI_iff.1 (J0_ h.ia)).1;have d:=Xa6 h;have g:=D2_ c.1 c.2 d.1;have j:=Xa9 f g;have e:Yd7 a b (Z4_ (allL a.n) (comeL a b s))=(s.length:Int):=by
  unfold Yd7;rw [Xa8 c.1 c.2 d];exact Xa7 h hs
 omega
theorem Sp.best (h:Sp a b w s A B) {t:List Int} (c:Common a b t) (hl:t.length=s.length):sumW w t≤sumW w s:=by
 have f:=rk_of (mayI_iff.1 (J0_ h.com.ia)).1;have d:=rk_of (mayI_iff.1 (J0_ h.com.ib)).1;rw [h.com.nn] at d;have m:=I6_ h.com.ia;have j:=I6_ h.com.ib;have o:=I6_ c.ia;have k:=I6_ c.ib;rw [h.com.nn] at j k;have hc:cnt (memP t) (nN a)=cnt (memP s) (nN a):=by rw [← V2_ c.set,← V2_ h.com.set,hl]
 have p:=Xa1 f (Zh8 f m h.ea) o hc;have q:=Xa1 d (Zh8 d j h.eb) k hc;rw [Zr7 w c.set,Zr7 w h.com.set];have e:∀ P,sumP (fun i=>w.getD i 0) P (nN a)=sumP (fun i=>A.getD i 0) P (nN a)+sumP (fun i=>B.getD i 0) P (nN a):=fun P=>by
  rw [Zz1 (g:=fun i=>A.getD i 0+B.getD i 0) (Q:=P) (fun _ _=>rfl) fun i hi=>(h.sum i hi).symm];exact Yd6 _ _ P _
 rw [e,e];omega
end
end Go.Proofs.YtgpljiijjnaofaaGreatDoor.Wp
namespace Go.Proofs.YtgpljiijjnaofaaGreatDoor
open Go Go.RowKit
namespace Wp
def Yv2 (w:World) (g:Nat) (lb:Array Value) (P:Int→Bool) (l:List Int):Prop :=
 ∀ x∈l,∀ (W:World),Below w.heap.size w W→Calls Tryz.prog g (#[.int .i64 x] ++ lb) W fun e W'=>e=.returned (.bool (P x))∧Below W.heap.size W W'
theorem A6_ {w w':World} {base:Nat} {e:TypeId} {k n:Nat} {v:Value} {c:List Value} (h:w.ownsRow base e k v n c) (hb:Below w.heap.size w w'):w'.ownsRow base e k v n c :=
 h.kept (row:=none) (Y5_ hb _) (by cases d:Value.ownBlock v<;>simp)
theorem Yv3 {l:List Int} {P:Int→Bool} {k:Nat} (h:k<l.length):(l.take (k+1)).filter P=(l.take k).filter P ++ if P (l.getD k 0)=true then [l.getD k 0] else []:=by
 rw [List.take_succ_eq_append_getElem h,List.filter_append,show l.getD k 0=l[k] by simp [List.getD,h]];cases hp:P l[k]<;>simp [hp]
theorem Zi8 (g:Nat) (M:Array Value) (P:Int→Bool) (v:Value) (l:List Int) (w:World) (T:∀ args w,(callFunc g args).run Tryz.prog w=.ok (.enter g args) w) (R:Row w w.heap.size v l) (hl:l.length≤1048576) (L:Yv2 w g M P l) :
  Calls Tryz.prog 56 #[v,.func (.func g) #[] M] w (Gives w (l.filter P)):=by
 obtain ⟨A,c,rfl,_,y⟩:=R;have C:=hid y;have G:=hid L;have V:(l.length:Int)≤1048576:=k30_;clear y L
 go_enter Tryz.func56,Tryz.ntmps56
 go_wp2
 go_loopw [5,10] (fun S B wr=>∃ k:Nat,B=.int .i64 k∧k≤l.length∧wr.ownsRow w.heap.size 3 1 S ((l.take k).filter P).length (ints ((l.take k).filter P))∧Below w.heap.size w wr) (fun _ B _=>l.length - (intOf B).toNat)
 case atStart=>exact ⟨0,rfl,Nat.zero_le _,World.ownsRow_nil _ _ _ _,Below.refl _ _⟩
 case round =>
  obtain ⟨k,rfl,y,m,hb⟩:=hrel;have d:=hid hb;have j:=hid m;clear hb m;by_cases z:k<l.length
  ·obtain ⟨O,hA,hab,hc⟩:=C.out k z
   subst hA;have U:=(d.out.cell (p:=O.add k) y32_).trans hc;have q:=hid (G.out (l.getD k 0) (Y4_ 0 z) _ d.out);have D:=hid (Yv3 (P:=P) z);have W:(k:Int)<(l.length:Int):=k30_;have K:((l.take k).filter P).length≤1048576:=Nat.le_trans (List.length_filter_le _ _) (Nat.le_trans (List.length_take_le _ _) k30_);have N:=hid K;clear K;generalize l.getD k 0=x at *
   clear hc C G;rcases hq:P x with _ | _
   ·rw [hq] at q
    have u:=hid hq;clear hq
    go_wp2_with fail
    refine (q.out).mono ?_;rintro e w' ⟨rfl,h⟩;have s:=hid (A6_ j.out h);have r:=hid (d.out.trans (h.mono d.out.size));clear h;go_wp2
    go_roundw
    case rel=>exact ⟨k+1,z32_,k30_,by rw [D.out,u.out,if_neg z31_,List.append_nil];exact s.out,r.out⟩
    case measure=>simp [intOf];omega
   ·rw [hq] at q
    have u:=hid hq;clear hq
    go_wp2_with fail
    refine (q.out).mono ?_;rintro e w' ⟨rfl,h⟩;have m:=A6_ j.out h;have J:=d.out.trans (h.mono d.out.size);have o:=hid J;have E:=hid m;generalize (l.take k).filter P=F at *
    clear h j
    go_wp2_with (at_builtin;refine Y6_ rfl _ _ rfl w.heap.size _ _ _ F [x] rfl rfl (E.out.alloc _) (Row.lit1 _ x) (by have:=N.out;omega) y31_ (by have:=o.out.size;simp;omega) ?_)
    intro X Y H I;have r:=hid ((o.out.alloc o.out.size _).grown I (by have:=o.out.size;simp;omega) (fun i hi=>(E.out.lt i hi).1));have s:=hid H;clear H I m J;go_wp2
    go_roundw
    case rel=>exact ⟨k+1,z32_,k30_,by rw [D.out,u.out,if_pos rfl,List.length_append];exact s.out,r.out⟩
    case measure=>simp [intOf];omega
  ·have Q:k=l.length:=by omega
   subst Q;rw [List.take_length] at j;go_wp2;go_ret;exact ⟨_,rfl,Row.of_own j.out rfl,d.out⟩
def WIn (ws l:List Int):Prop:=(∀ x∈l,0≤x∧x<(ws.length:Int))∧∀ x∈ws,-9223372036854775808≤x∧x≤9223372036854775807
theorem Xb5 {ws l:List Int} {k:Nat} (h:k<l.length):mostL ws (l.take (k+1))=max (mostL ws (l.take k)) (wt ws (l.getD k 0)):=by
 unfold mostL;rw [List.take_succ_eq_append_getElem h,List.foldl_append,show l.getD k 0=l[k] by simp [List.getD,h]];rfl
theorem wt_in {ws l:List Int} (h:WIn ws l) {x:Int} (c:x∈l):-9223372036854775808≤wt ws x∧wt ws x≤9223372036854775807:=by
 have:=h.1 x c;exact h.2 _ (Y4_ 0 k30_)
theorem Yn3 {ws l:List Int} (h:WIn ws l):l.filter (fun x=>wt ws x==mostL ws l)=topL ws l:=by
 unfold topL;refine List.filter_congr fun x d=>?_;rw [Bool.eq_iff_iff,beq_iff_eq,List.all_eq_true];constructor
 ·intro e y c
  have:=E8_ (w:=ws) c;exact decide_eq_true k30_
 ·intro f
  obtain ⟨z,g,j⟩:=R3_ (w:=ws) (l:=l) (List.ne_nil_of_mem d) fun y c=>(wt_in h c).1;have k:=of_decide_eq_true (f z g);have m:=E8_ (w:=ws) d;omega
theorem Zi9 (q v:Value) (ws l:List Int) (w:World) (h:Row w w.heap.size q ws) (g:Row w w.heap.size v l) (hl:l.length≤1048576) (hi:WIn ws l) :
  Calls Tryz.prog 58 #[q,v] w (Tells w (mostL ws l)):=by
 have s:=hid h;have r:=hid g;have u:=hid hi;obtain ⟨D,G,rfl,_⟩:=id h;obtain ⟨A,c,rfl,_⟩:=id g;have L:(l.length:Int)≤1048576:=k30_;clear h g hi
 go_enter Tryz.func58,Tryz.ntmps58
 go_wp2
 go_loopw [5,10] (fun C j wr=>∃ k:Nat,j=.int .i64 k∧k≤l.length∧C=.int .i64 (mostL ws (l.take k))∧Below w.heap.size w wr) (fun _ j _=>l.length - (intOf j).toNat)
 case atStart=>exact ⟨0,rfl,Nat.zero_le _,rfl,Below.refl _ _⟩
 case round =>
  obtain ⟨k,rfl,K,rfl,hb⟩:=hrel;have Hb:=hid hb;by_cases e:k<l.length
  ·have M:(k:Int)<(l.length:Int):=by omega
   obtain ⟨E,hA,m⟩:=Row.nth r.out e;subst hA;have H:=m wr hb;have p:=u.out.1 _ (Y4_ 0 e);have d:=hid (Xb5 (ws:=ws) e);generalize l.getD k 0=x at *
   obtain ⟨i,rfl⟩:∃ i:Nat,x=(i:Int):=⟨x.toNat,k30_⟩;have J:(i:Int)<(ws.length:Int):=p.2;obtain ⟨F,y,o⟩:=Row.nth s.out (k:=i) k30_;subst y;have I:=o wr hb;unfold wt at d;rw [Int.toNat_natCast] at d;generalize ws.getD i 0=z at *
   generalize mostL ws (l.take k)=t at *
   clear m o hb p;go_wp2
   go_roundw
   case rel=>exact ⟨k+1,z32_,k30_,by rw [d.out],Hb.out⟩
   case measure=>simp [intOf];omega
  ·have B:k=l.length:=by omega
   subst B;rw [List.take_length];exact x22_
theorem Yv4 (ws l:List Int) (r:Value) (B C:Nat) (w:World) (hB:B<w.heap.size) (D:C<w.heap.size) (hc:w.cell? ⟨B,0,none⟩=some r) (hd:w.cell? ⟨C,0,none⟩=some (.int .i64 (mostL ws l))) (g:Row w w.heap.size r ws) (hi:WIn ws l) :
  Yv2 w 59 #[.pointer (some ⟨B,0,none⟩),.pointer (some ⟨C,0,none⟩)] (fun x=>wt ws x==mostL ws l) l:=by
 intro x o W d;have q:=hi.1 x o;obtain ⟨i,rfl⟩:∃ i:Nat,x=(i:Int):=⟨x.toNat,k30_⟩;obtain ⟨A,c,rfl,_⟩:=id g;have j:=(d.cell (p:=⟨B,0,none⟩) hB).trans hc;have v:=(d.cell (p:=⟨C,0,none⟩) D).trans hd;have E:(i:Int)<(ws.length:Int):=q.2;obtain ⟨h,hA,m⟩:=Row.nth g (k:=i) k30_;subst hA;have u:=m W d;show Calls Tryz.prog 59 #[.int .i64 (i:Int),.pointer (some ⟨B,0,none⟩),.pointer (some ⟨C,0,none⟩)] W fun e s=>e=.returned (.bool (ws.getD i 0==mostL ws l))∧Below W.heap.size W s;clear m g hi o q hc hd;generalize ws.getD i 0=y at *
 generalize mostL ws l=z at *
 have F:=j
 go_enter Tryz.func59,Tryz.ntmps59
 go_wp2
 go_region_held3 (fun W=>W.cell? ⟨B,0,none⟩=some (.slice (some h) ws.length c)∧W.cell? ⟨C,0,none⟩=some (.int .i64 z)∧W.cell? (h.add i)=some (.int .i64 y)) (exact ⟨j,v,u⟩) (fail)
 all_goals
  go_wp2;go_ret;exact ⟨rfl,(Below.refl _ _).drew⟩
theorem U5_ (G v:Value) (ws l:List Int) (w:World) (r:Row w w.heap.size G ws) (q:Row w w.heap.size v l) (hl:l.length≤1048576) (hi:WIn ws l) :
  Calls Tryz.prog 34 #[G,v] w (Gives w (topL ws l)):=by
 obtain ⟨k,o,rfl,_⟩:=id r;obtain ⟨N,O,rfl,_⟩:=id q;obtain ⟨X,g⟩:∃ X,w.alloc (.cells #[.slice k ws.length o] 26)=X:=⟨_,rfl⟩;have z:=hid g;have j:Below w.heap.size w X:=by rw [← g];exact (Below.refl _ w).alloc (le_refl _) _
 have hK:Blk X w.heap.size 26 #[.slice k ws.length o]:=by rw [← g];exact Blk.new w _ _
 have m:=hid hK;have L:=hid j;have y:=hid (r.up j);have u:=hid (q.up j);have B:=hid hi;have M:=hid (Yn3 hi);clear r q g hK j hi
 go_enter Tryz.func34,Tryz.ntmps34
 have P:=(by simpa [z.out] using m.out.cell 0:X.cell? ⟨w.heap.size,0,none⟩=some (.slice k ws.length o))
 go_wp2_with fail
 rw [z.out];refine (Zi9 _ _ ws l X y.out u.out hl B.out).mono ?_;rintro e c ⟨rfl,C⟩;have K:=hid C;clear C
 go_wp2_with fail
 obtain ⟨Y,h⟩:∃ Y,c.alloc (.cells #[.int .i64 (mostL ws l)] 3)=Y:=⟨_,rfl⟩;rw [h];have E:Below c.heap.size c Y:=by rw [← h];exact (Below.refl _ c).alloc (le_refl _) _
 have p:Blk Y c.heap.size 3 #[.int .i64 (mostL ws l)]:=by rw [← h];exact Blk.new c _ _
 have d:=hid (Z0_ K.out (le_refl _) E);have I:=hid (Z0_ L.out (le_refl _) d.out);have s:=hid (m.out.below d.out m.out.lt);refine (Zi8 59 _ (fun x=>wt ws x==mostL ws l) _ l Y (enters_of Tryz.func59 q31_ rfl) (u.out.up d.out) hl (Yv4 ws l _ w.heap.size c.heap.size Y s.out.lt p.lt (s.out.cell 0) (p.cell 0) (y.out.up d.out) B.out)).mono ?_;rw [M.out];rintro e R ⟨Q,rfl,F,D⟩;have H:=hid (Z0_ I.out (le_refl _) D);have J:=hid F;clear D F h E p;go_wp2;go_ret;exact ⟨_,rfl,J.out,H.out⟩
open Go.RowKit
theorem Xb6 {s:List Int} (h:IsSet s):∀ x∈s,x≤s.getD (s.length - 1) 0:=by
 intro x c;obtain ⟨i,hi,rfl⟩:=List.mem_iff_getElem.1 c;have hl:s.length - 1<s.length:=k30_;rw [show s.getD (s.length - 1) 0=s[s.length - 1] by simp [List.getD,hl]];by_cases e:i=s.length - 1
 ·subst e;exact Int.le_refl _
 ·have:=List.pairwise_iff_getElem.1 h.1 i (s.length - 1) hi hl k30_
  omega
theorem Xb7 {w s:List Int} (h:mayB s=false):C5_ w s=0:=by
 unfold C5_;rw [if_neg];rintro ⟨c,_⟩;rw [h] at c;cases c
theorem Yn4 {w s:List Int} (hl:0<s.length) (h:(w.length:Int)≤s.getD (s.length - 1) 0):C5_ w s=0:=by
 unfold C5_;rw [if_neg];rintro ⟨_,c⟩;have:=c _ (Y4_ 0 (show s.length - 1<s.length by omega));omega
theorem Zd5 {w s:List Int} (h:mayB s=true) (hl:∀ x∈s,x<(w.length:Int)):C5_ w s=addW w s:=by
 unfold C5_;exact if_pos ⟨h,hl⟩
theorem Zs6 {w s:List Int} {k:Nat} (h:k<s.length):addW w (s.take (k+1))=IntKind.i64.wrap (addW w (s.take k)+wt w (s.getD k 0)):=by
 unfold addW;rw [List.take_succ_eq_append_getElem h,List.foldl_append];exact z22_
theorem Yn5 (P vs:Value) (ws s:List Int) (w:World) (H:Row w w.heap.size P ws) (G:Row w w.heap.size vs s):Calls Tryz.prog 23 #[P,vs] w (Tells w (C5_ ws s)):=by
 have R:=hid H;have c:=hid G;obtain ⟨Aw,cw,rfl,D,_⟩:=id H;obtain ⟨As,cs,rfl,C,_⟩:=id G;have r:s.length≤9223372036854775807:=by have X:=C.1;have v:=C.2.1;unfold maxLen at v;omega
 have x6:(s.length:Int)≤9223372036854775807:=k30_;have x7:(ws.length:Int)≤9223372036854775807:=by have X:=D.1;have v:=D.2.1;unfold maxLen at v;omega
 clear H G D C;rcases hm:mayB s with _ | _
 ·rw [Xb7 hm]
  go_enter Tryz.func23,Tryz.ntmps23
  go_wp2_with fail
  refine (may_any _ s _ c.out r).mono ?_;rintro e g ⟨rfl,hb1⟩;rw [hm];exact j11_
 ·by_cases W:0<s.length
  ·have x3:(0:Int)<(s.length:Int):=by omega
   obtain ⟨L,m⟩:∃ L:Nat,s.length=L+1:=⟨s.length - 1,k30_⟩;obtain ⟨ad,hA,p⟩:=Row.nth c.out (k:=L) k30_;subst hA;have q:=Xb6 (mayB_iff.1 hm);rw [show s.length - 1=L by omega] at q;have x4:(s.length:Int) - 1=(L:Int):=k30_;by_cases N:(ws.length:Int)≤s.getD L 0
   ·rw [Yn4 W (by rw [show s.length - 1=L by omega];exact N)]
    have Q:=hid m;have j:=hid p;generalize s.getD L 0=y at *
    have Z:(L:Int)<(s.length:Int):=k30_;clear q p m
    go_enter Tryz.func23,Tryz.ntmps23
    go_wp2_with fail
    refine (may_any _ s _ c.out r).mono ?_;rintro e g ⟨rfl,hb1⟩;rw [hm];have J:=j.out g hb1;exact j18_
   ·have x0:s.getD L 0<(ws.length:Int):=by omega
    have B:∀ x∈s,x<(ws.length:Int):=fun x d=>by have:=q x d;omega
    rw [Zd5 hm B];have T:Hid (∀ x∈s,0≤x):=hid fun x d=>((mayB_iff.1 hm).2 x d).1;have S:=hid B;have j:=hid p;have Q:=hid m;have U:=hid (fun k h=>Zs6 (w:=ws) (s:=s) (k:=k) h);obtain ⟨y,O⟩:∃ y,s.getD L 0=y:=⟨_,rfl⟩;rw [O] at x0 j;have Z:(L:Int)<(s.length:Int):=k30_;clear q p m N B O
    go_enter Tryz.func23,Tryz.ntmps23
    go_wp2_with fail
    refine (may_any _ s _ c.out r).mono ?_;rintro e g ⟨rfl,hb1⟩;rw [hm];have J:=j.out g hb1;have HB1:=hid hb1;clear hb1;go_wp2
    go_loopw [5,29] (fun vn I wr=>∃ k:Nat,I=.int .i64 k∧k≤s.length∧vn=.int .i64 (addW ws (s.take k))∧Below w.heap.size w wr) (fun _ I _=>s.length - (intOf I).toNat)
    case atStart=>exact ⟨0,rfl,Nat.zero_le _,rfl,HB1.out⟩
    case round =>
     obtain ⟨k,rfl,hk,rfl,o⟩:=hrel;have Hbr:=hid o;by_cases E:k<s.length
     ·have x5:(k:Int)<(s.length:Int):=by omega
      obtain ⟨x2,hA,K⟩:=Row.nth c.out E;injection hA with hA;subst hA;have g2:=K wr o;have F:=Y4_ (0:Int) E;have x8:=T.out _ F;have x9:=S.out _ F;have u:=hid (U.out k E);generalize s.getD k 0=x at *
      obtain ⟨i,rfl⟩:∃ i:Nat,x=(i:Int):=⟨x.toNat,k30_⟩;obtain ⟨aw,Y,M⟩:=Row.nth R.out (k:=i) k30_;subst Y;have g3:=M wr o;unfold wt at u;rw [Int.toNat_natCast] at u;generalize ws.getD i 0=z at *
      generalize addW ws (s.take k)=t at *
      clear F K M o J;go_wp2
      go_roundw
      case rel=>exact ⟨k+1,z32_,k30_,by rw [u.out,Zn5],Hbr.out⟩
      case measure=>simp [intOf];omega
     ·have x1:k=s.length:=by omega
      subst x1;have V:Hid (s.take s.length=s):=hid List.take_length;rw [V.out];exact x11_
  ·have he:s=[]:=List.eq_nil_of_length_eq_zero k30_
   subst he;rw [Zd5 hm (fun x d=>by cases d)]
   go_enter Tryz.func23,Tryz.ntmps23
   go_wp2_with fail
   refine (may_any _ [] _ c.out r).mono ?_;rintro e g ⟨rfl,hb1⟩;rw [hm];go_wp2;refine wp_loop_rounds 1 ?_;rw [rounds_succ];exact j11_
open Go Go.RowKit
def SplL (w:World) (B:Nat) (v:Value) (L:List (List Int × List Int × List Int)):Prop :=
 ∃ A c,v=.slice A L.length c∧(L.length≤c∧c≤maxLen∧(A=none→c=0)) ∧
  ∀ k,k<L.length→∃ (ad:Addr) (sv va vb:Value),A=some ad∧ad.block<B∧w.cell? (ad.add (k * 3))=some sv∧w.cell? ⟨(ad.add (k * 3)).block,(ad.add (k * 3)).off+1,none⟩=some va∧w.cell? ⟨(ad.add (k * 3)).block,(ad.add (k * 3)).off+2,none⟩=some vb ∧
   Row w B sv (L.getD k default).1∧Row w B va (L.getD k default).2.1∧Row w B vb (L.getD k default).2.2
theorem SplL.below {w w':World} {B:Nat} {v:Value} {L:List (List Int × List Int × List Int)} (h:SplL w B v L) (hb:Below B w w'):SplL w' B v L:=by
 obtain ⟨A,c,q,p,m⟩:=h;refine ⟨A,c,q,p,fun k o=>?_⟩;obtain ⟨e,x,y,z,hA,hab,f,g,j,r,s,u⟩:=m k o;have d:(e.add (k * 3)).block<B:=y32_;exact ⟨e,x,y,z,hA,hab,(hb.cell d).trans f,(hb.cell (by exact d)).trans g,(hb.cell (by exact d)).trans j,r.below hb,s.below hb,u.below hb⟩
theorem SplL.mono {w:World} {B C:Nat} {v:Value} {L:List (List Int × List Int × List Int)} (h:SplL w B v L) (hl:B≤C):SplL w C v L:=by
 obtain ⟨A,c,q,p,m⟩:=h;refine ⟨A,c,q,p,fun k o=>?_⟩;obtain ⟨d,x,y,z,hA,j,e,f,g,r,s,u⟩:=m k o;exact ⟨d,x,y,z,hA,Nat.lt_of_lt_of_le j hl,e,f,g,r.mono hl,s.mono hl,u.mono hl⟩
theorem SplL.up {w w':World} {v:Value} {L:List (List Int × List Int × List Int)} (h:SplL w w.heap.size v L) (hb:Below w.heap.size w w'):SplL w' w'.heap.size v L:=(h.below hb).mono hb.size
def D0_ (ws:List Int) (L:List (List Int × List Int × List Int)):Nat→Int × Int
 | 0=>(-1,0)
 | k+1=>if (D0_ ws L k).1<0∨(D0_ ws L k).2<C5_ ws (L.getD k default).1 then ((k:Int),C5_ ws (L.getD k default).1) else D0_ ws L k
theorem Zq4 (v Q:Value) (L:List (List Int × List Int × List Int)) (ws:List Int) (w:World) (hl:SplL w w.heap.size v L) (u:Row w w.heap.size Q ws) :
  Calls Tryz.prog 11 #[v,Q] w (Tells w (D0_ ws L L.length).1):=by
 have R:=hid hl;have T:=hid u;obtain ⟨A,c,rfl,hc,_⟩:=id hl;obtain ⟨Aw,cw,rfl,_⟩:=id u;have x3:(L.length:Int)≤9223372036854775807:=by have h:=hc.1;have g:=hc.2.1;unfold maxLen at g;omega
 clear hl u hc
 go_enter Tryz.func11,Tryz.ntmps11
 go_wp2
 go_loopw [5,6,12] (fun v5 v6 z wr=>∃ k:Nat,z=.int .i64 k∧k≤L.length∧v5=.int .i64 (D0_ ws L k).1∧v6=.int .i64 (D0_ ws L k).2∧Below w.heap.size w wr) (fun _ _ z _=>L.length - (intOf z).toNat)
 case atStart=>exact ⟨0,rfl,Nat.zero_le _,rfl,rfl,Below.refl _ _⟩
 case round =>
  obtain ⟨k,rfl,hk,rfl,rfl,hb⟩:=hrel;have Hb:=hid hb;by_cases x2:k<L.length
  ·have x4:(k:Int)<(L.length:Int):=by omega
   obtain ⟨A',c',hv,_,J⟩:=R.out;obtain ⟨j,N,O,P,hA,hab,H,h,g,y,K,M⟩:=J k x2;cases hv;subst hA;have q:(j.add (k * 3)).block<w.heap.size:=y32_;have X:=(hb.cell q).trans H;have Y:=(hb.cell (p:=⟨(j.add (k * 3)).block,(j.add (k * 3)).off+1,none⟩) q).trans h;have Z:=(hb.cell (p:=⟨(j.add (k * 3)).block,(j.add (k * 3)).off+2,none⟩) q).trans g;have S:=hid ((y.up hb).upA (.cells #[N,O,P] 36));have U:=hid ((T.out.up hb).upA (.cells #[N,O,P] 36));obtain ⟨E,cs,rfl,_⟩:=id y;obtain ⟨C,F,rfl,_⟩:=id K;obtain ⟨D,G,rfl,_⟩:=id M;have V:=hid (Blk.new wr 36 #[.slice E (L.getD k default).1.length cs,.slice C (L.getD k default).2.1.length F,.slice D (L.getD k default).2.2.length G]);have x0:=V.out.cell 0;have d:Hid (D0_ ws L (k+1)=if (D0_ ws L k).1<0∨(D0_ ws L k).2<C5_ ws (L.getD k default).1 then ((k:Int),C5_ ws (L.getD k default).1) else D0_ ws L k):=hid rfl;obtain ⟨o,r⟩:∃ o,D0_ ws L k=o:=⟨_,rfl⟩;obtain ⟨W,mm⟩:=o;rw [r] at d;rw [r];clear hb H h g y K M J r;generalize (L.getD k default).1=s at *
   generalize (L.getD k default).2.1=sa at *
   generalize (L.getD k default).2.2=sb at *
   go_wp2_with fail
   refine (Yn5 _ _ ws s _ U.out S.out).mono ?_;rintro e w2 ⟨rfl,I⟩;have m:=hid (Z0_ (Hb.out.alloc Hb.out.size (.cells #[.slice E s.length cs,.slice C sa.length F,.slice D sb.length G] 36)) (le_refl _) I);obtain ⟨B,x⟩:∃ B,C5_ ws s=B:=⟨_,rfl⟩;rw [x] at d;rw [x];clear I X Y Z x0 x;by_cases h:W<0
   ·go_wp2
    go_roundw
    case rel=>exact ⟨k+1,z32_,k30_,by rw [d.out,if_pos (.inl h)],by rw [d.out,if_pos (.inl h)],m.out⟩
    case measure=>simp [intOf];omega
   ·by_cases g:mm<B
    ·go_wp2
     go_roundw
     case rel=>exact ⟨k+1,z32_,k30_,by rw [d.out,if_pos (.inr g)],by rw [d.out,if_pos (.inr g)],m.out⟩
     case measure=>simp [intOf];omega
    ·replace d:=hid (d.out.trans (if_neg (not_or.2 ⟨h,g⟩)))
     go_wp2
     go_roundw
     case rel=>exact ⟨k+1,z32_,k30_,by rw [d.out],by rw [d.out],m.out⟩
     case measure=>simp [intOf];omega
  ·have x1:k=L.length:=by omega
   subst x1;clear hb;exact x22_
open Go Go.RowKit
theorem U6_ (n:Int) (k c2 c3 c4 c5 g q:Value) (s:List Int) (w:World) (p:Row w w.heap.size g s) (I:s.length≤1048576) :
  Calls Tryz.prog 53 #[.agg #[k,.int .i64 n,c2,c3,c4,c5,g,q]] w (Gives w (Z4_ (allL n) s)):=by
 obtain ⟨c,hW0⟩:∃ c,c=w.alloc (.cells #[k,.int .i64 n,c2,c3,c4,c5,g,q] 78):=⟨_,rfl⟩;have D:=hid hW0;have m:Below w.heap.size w c:=j37_;have v:Blk c w.heap.size 78 #[k,.int .i64 n,c2,c3,c4,c5,g,q]:=by rw [hW0];exact Blk.new w _ _
 have E:=hid m;have h:=hid v;have j:=hid ((p.up m).up (Below.refl _ c).drew);have H:=G1_ n;have G:Hid (∀ W,Below c.drew.heap.size c.drew W→W.cell? ⟨w.heap.size,1,none⟩=some (.int .i64 n)∧W.cell? ⟨w.heap.size,6,none⟩=some g):=hid fun W r=>⟨(h.out.drew.below r h.out.lt).cell 1,(h.out.drew.below r h.out.lt).cell 6⟩;have d:Hid (Below c.drew.heap.size c.drew c.drew):=hid (Below.refl _ _);obtain ⟨z,cs,rfl,_⟩:=id p;clear hW0 m v p
 go_enter Tryz.func53,Tryz.ntmps53
 go_wp2;rw [← D.out]
 go_region_held3 (fun W=>W.cell? ⟨w.heap.size,1,none⟩=some (.int .i64 n)∧W.cell? ⟨w.heap.size,6,none⟩=some (.slice z s.length cs))
  (exact G.out _ d.out)
  (first
  | (go_at_call 85;refine (I4_ n _).mono ?_;rintro e L ⟨K,rfl,x,o⟩;replace d:=hid (Z0_ d.out (le_refl _) o);replace j:=hid (j.out.up o);have B:=hid x;clear x o)
  | (go_at_call 67;refine (E5_ _ _ (allL n) s _ B.out j.out H I).mono ?_;rintro e M ⟨J,rfl,y,u⟩;replace d:=hid (Z0_ d.out (le_refl _) u);have C:=hid y;clear y u))
 all_goals
  have F:=hid (Z0_ E.out.drew (le_refl _) d.out);go_simp;go_wp2;go_ret;exact ⟨J,rfl,C.out,F.out⟩
theorem Zq5 (E:Nat→Addr) (m:Mat) (h c1 c2 c3 c4 c5 B y J:Value) (s:List Int) (x:Int) (w:World) (I:MatV w w.heap.size (.agg #[h,c1,c2,c3,c4,c5]) m) (hs:Sml m) (u:Row w w.heap.size J s) (U:s.length≤1000) (D:Env E w) :
  Calls Tryz.prog 84 #[.agg #[h,c1,c2,c3,c4,c5,B,y],J,.int .i64 x] w (Says w (indT m (X2_ s [x]))):=by
 obtain ⟨d,hW0⟩:∃ d,d=w.alloc (.cells #[h,c1,c2,c3,c4,c5,B,y] 78):=⟨_,rfl⟩;have M:=hid hW0;have o:Below w.heap.size w d:=j37_;have G:Blk d w.heap.size 78 #[h,c1,c2,c3,c4,c5,B,y]:=by rw [hW0];exact Blk.new w _ _
 have O:=hid o;have c:=hid G;have p:=(Below.refl d.heap.size d).drew;have K:=hid ((u.up o).up p);have r:=hid ((I.up o).up p);have q:=hid ((D.up o).up p);have Q:=hid hs;have C:Hid (∀ W,Below d.drew.heap.size d.drew W→W.cell? ⟨w.heap.size,0,none⟩=some h∧W.cell? ⟨w.heap.size,1,none⟩=some c1∧W.cell? ⟨w.heap.size,2,none⟩=some c2∧W.cell? ⟨w.heap.size,3,none⟩=some c3∧W.cell? ⟨w.heap.size,4,none⟩=some c4∧W.cell? ⟨w.heap.size,5,none⟩=some c5):=hid fun W j=>⟨(c.out.drew.below j c.out.lt).cell 0,(c.out.drew.below j c.out.lt).cell 1,(c.out.drew.below j c.out.lt).cell 2,(c.out.drew.below j c.out.lt).cell 3,(c.out.drew.below j c.out.lt).cell 4,(c.out.drew.below j c.out.lt).cell 5⟩;have g:Hid (Below d.drew.heap.size d.drew d.drew):=hid (Below.refl _ _);have S:Hid ((X2_ s [x]).length≤1048576):=hid (by have:=Zo6 s [x];simp only [List.length_cons,List.length_nil] at this;omega);have R:s.length≤1048576:=k30_;obtain ⟨z,v⟩:∃ z,indT m (X2_ s [x])=z:=⟨_,rfl⟩;have N:=hid v;rw [v];obtain ⟨T,cs,rfl,_⟩:=id u;clear hW0 o G u I D hs p v
 go_enter Tryz.func84,Tryz.ntmps84
 go_wp2;rw [← M.out]
 go_region_held3 (fun W=>W.cell? ⟨w.heap.size,0,none⟩=some h∧W.cell? ⟨w.heap.size,1,none⟩=some c1∧W.cell? ⟨w.heap.size,2,none⟩=some c2∧W.cell? ⟨w.heap.size,3,none⟩=some c3∧W.cell? ⟨w.heap.size,4,none⟩=some c4∧W.cell? ⟨w.heap.size,5,none⟩=some c5)
  (first | exact C.out _ g.out | exact C.out _ (g.out.alloc (le_refl _) _))
  (first
  | (go_at_call 66;refine (Zn4 _ _ s [x] _ (K.out.upA _) (Row.here (Row.lit1 _ x)) R y31_).mono ?_;rintro e X ⟨V,rfl,H,k⟩;replace k:=Z0_ ((Below.refl _ d.drew).alloc (le_refl _) _) (le_refl _) k;replace g:=hid k;replace r:=hid (r.out.up k);replace q:=hid (q.out.up k);have L:=hid H;clear H k)
  | (go_at_call 83;refine (Zj6 E m _ _ _ _ r.out Q.out L.out S.out q.out).mono ?_;rintro e Y ⟨rfl,F⟩;rw [N.out];replace g:=hid (Z0_ g.out (le_refl _) F);clear F))
 all_goals
  have P:=hid (Z0_ O.out.drew (le_refl _) g.out);go_simp;go_wp2;go_ret;exact ⟨rfl,P.out⟩
theorem K0_ (a b:List Int):(Z4_ a b).length≤a.length:=by
 unfold Z4_ partL;exact q17_
theorem U7_ (E:Nat→Addr) (m:Mat) (o c1 c2 c3 c4 c5 I H:Value) (s M:List Int) (x y:Int) (w:World) (Y:MatV w w.heap.size (.agg #[o,c1,c2,c3,c4,c5]) m) (hs:Sml m) (N:Row w w.heap.size I s) (K:Row w w.heap.size H M) (x5:s.length≤64) (x4:M.length≤64) (S:Env E w) :
  Calls Tryz.prog 54 #[.agg #[o,c1,c2,c3,c4,c5,I,H],.int .i64 x,.int .i64 y] w (Says w (hasB M x || indT m (X2_ (Z4_ s [y]) [x]))):=by
 obtain ⟨g,hW0⟩:∃ g,g=w.alloc (.cells #[o,c1,c2,c3,c4,c5,I,H] 78):=⟨_,rfl⟩;have Q:=hid hW0;have p:Below w.heap.size w g:=j37_;have U:Blk g w.heap.size 78 #[o,c1,c2,c3,c4,c5,I,H]:=by rw [hW0];exact Blk.new w _ _
 have R:=hid p;have c:=hid U;have u:=(Below.refl g.heap.size g).drew;have v:=hid (N.up p);have D:=hid (K.up p);have k:=hid (Y.up p);have j:=hid (S.up p);have Hs:=hid hs;have V:M.length≤1048576:=k30_;have x3:s.length≤1048576:=k30_;have x2:(Z4_ s [y]).length≤1000:=Nat.le_trans (K0_ _ _) k30_;obtain ⟨J,cs,rfl,_⟩:=id N;obtain ⟨C,G,rfl,_⟩:=id K;obtain ⟨q,L⟩:∃ q,hasB M x=q:=⟨_,rfl⟩;have P:=hid L;obtain ⟨z,O⟩:∃ z,indT m (X2_ (Z4_ s [y]) [x])=z:=⟨_,rfl⟩;have HZ:=hid O;rw [L,O];clear hW0 p U N K Y S hs O L;cases q
 ·have F:Hid (∀ W,Below g.drew.heap.size g.drew W→W.cell? ⟨w.heap.size,0,none⟩=some o∧W.cell? ⟨w.heap.size,1,none⟩=some c1∧W.cell? ⟨w.heap.size,2,none⟩=some c2∧W.cell? ⟨w.heap.size,3,none⟩=some c3∧W.cell? ⟨w.heap.size,4,none⟩=some c4∧W.cell? ⟨w.heap.size,5,none⟩=some c5∧W.cell? ⟨w.heap.size,6,none⟩=some (.slice J s.length cs)∧W.cell? ⟨w.heap.size,7,none⟩=some (.slice C M.length G)):=hid fun W d=>⟨(c.out.drew.below d c.out.lt).cell 0,(c.out.drew.below d c.out.lt).cell 1,(c.out.drew.below d c.out.lt).cell 2,(c.out.drew.below d c.out.lt).cell 3,(c.out.drew.below d c.out.lt).cell 4,(c.out.drew.below d c.out.lt).cell 5,(c.out.drew.below d c.out.lt).cell 6,(c.out.drew.below d c.out.lt).cell 7⟩
  have h:Hid (Below g.drew.heap.size g.drew g.drew):=hid (Below.refl _ _);replace v:=hid (v.out.up u);replace D:=hid (D.out.up u);replace k:=hid (k.out.up u);replace j:=hid (j.out.up u);clear u;rw [Bool.false_or]
  go_enter Tryz.func54,Tryz.ntmps54
  go_wp2;rw [← Q.out]
  go_region_held3 (fun W=>W.cell? ⟨w.heap.size,0,none⟩=some o∧W.cell? ⟨w.heap.size,1,none⟩=some c1∧W.cell? ⟨w.heap.size,2,none⟩=some c2∧W.cell? ⟨w.heap.size,3,none⟩=some c3∧W.cell? ⟨w.heap.size,4,none⟩=some c4∧W.cell? ⟨w.heap.size,5,none⟩=some c5∧W.cell? ⟨w.heap.size,6,none⟩=some (.slice J s.length cs)∧W.cell? ⟨w.heap.size,7,none⟩=some (.slice C M.length G))
   (first | exact F.out _ h.out | exact F.out _ (h.out.alloc h.out.size _))
   (first
   | (go_at_call 55;refine (Zi4 _ M x _ D.out V).mono ?_;rintro e w1 ⟨rfl,B⟩;rw [P.out];replace h:=hid (Z0_ h.out (le_refl _) B);replace v:=hid (v.out.up B);replace k:=hid (k.out.up B);replace j:=hid (j.out.up B);clear B)
   | (go_at_call 67;refine (E5_ _ _ s [y] _ (v.out.upA _) (Row.here (Row.lit1 _ y)) x3 y31_).mono ?_;rintro e w2 ⟨v2,rfl,X,r⟩;replace r:=Z0_ ((Below.refl _ _).alloc (le_refl _) _) (le_refl _) r;replace k:=hid (k.out.up r);replace j:=hid (j.out.up r);replace h:=hid (Z0_ h.out (le_refl _) r);have Z:=hid X;clear X r)
   | (go_at_call 84;refine (Zq5 E m _ _ _ _ _ _ _ _ _ _ x _ k.out Hs.out Z.out x2 j.out).mono ?_;rintro e w3 ⟨rfl,T⟩;rw [HZ.out];replace h:=hid (Z0_ h.out (le_refl _) T);clear T))
  all_goals
   have x0:=hid (Z0_ R.out.drew (le_refl _) h.out);go_simp;go_wp2;go_ret;exact ⟨rfl,x0.out⟩
 ·have F:Hid (∀ W,Below g.heap.size g W→W.cell? ⟨w.heap.size,0,none⟩=some o∧W.cell? ⟨w.heap.size,1,none⟩=some c1∧W.cell? ⟨w.heap.size,2,none⟩=some c2∧W.cell? ⟨w.heap.size,3,none⟩=some c3∧W.cell? ⟨w.heap.size,4,none⟩=some c4∧W.cell? ⟨w.heap.size,5,none⟩=some c5∧W.cell? ⟨w.heap.size,6,none⟩=some (.slice J s.length cs)∧W.cell? ⟨w.heap.size,7,none⟩=some (.slice C M.length G)):=hid fun W d=>⟨(c.out.below d c.out.lt).cell 0,(c.out.below d c.out.lt).cell 1,(c.out.below d c.out.lt).cell 2,(c.out.below d c.out.lt).cell 3,(c.out.below d c.out.lt).cell 4,(c.out.below d c.out.lt).cell 5,(c.out.below d c.out.lt).cell 6,(c.out.below d c.out.lt).cell 7⟩
  have Hh:Hid (∀ W,Below g.heap.size g W→Calls Tryz.prog 55 #[.slice C M.length G,.int .i64 x] W fun e w'=>e=.returned (.bool true)∧Below g.heap.size g w'):=hid fun W d=>(Zi4 _ M x W (D.out.up d) V).mono fun _ _ ⟨h2,h3⟩=>⟨by rw [h2,P.out],Z0_ d (le_refl _) h3⟩;rw [Bool.true_or];clear u
  go_enter Tryz.func54,Tryz.ntmps54
  go_wp2;rw [← Q.out];refine Z6_ g.heap.size g q31_ q31_ (Below.refl _ _) ?_
  iterate 15 (first
   | go_big_quiet_skip
   | go_big_quiet_step (with_reducible exact Hh.out _)
   | (go_big_quiet_want;apply Exists.intro;refine ⟨fun W d=>?_,?_⟩;(· obtain ⟨k0,k1,k2,k3,k4,k5,k6,k7⟩:=F.out W d;go_simp;first | exact rfl | exact ⟨rfl,rfl⟩);go_simp;go_big_quiet_on))
  refine wpQuiet_nil ?_;intro w7 x1;go_wp2;go_ret;exact ⟨rfl,Z0_ R.out (le_refl _) x1⟩
def R5_ (w:World) (c0 c1 c2 c3 c4 c5 sv:Value) (M:List Int) (e:Ending) (w':World):Prop:=∃ (A:Option Addr) (n c:Nat),e=.returned (.agg #[c0,c1,c2,c3,c4,c5,sv,.slice A n c])∧w'.ownsRow w.heap.size 3 1 (.slice A n c) M.length (ints M)∧Below w.heap.size w w'
theorem Row.storeS {w:World} {B:Nat} {v:Value} {l:List Int} (h:Row w B v l) {p:Addr} {A:Option Addr} {n c:Nat} (d:w.cell? p=some (.slice A n c)) (u:Value):Row (w.setCell p u) B v l:=by
 obtain ⟨A',g,q,o,j⟩:=h;refine ⟨A',g,q,o,fun k m=>?_⟩;obtain ⟨f,hA,hB,hc⟩:=j k m;refine ⟨f,hA,hB,?_⟩;rw [World.cell?_setCell_other _ _ _ _ (fun e=>by rw [e,hc] at d;cases d)];exact hc
theorem Y3_ (w:World) (g i:Nat) (u:Value):w.grownBy (w.setCell ⟨g,i,none⟩ u) (some g):=L2_ (World.grownBy.refl w (some g)) (.inl rfl) u
theorem sw_no {a b:Nat} (c:a≤b+1) (d:b+3≤a):False:=k30_
theorem Xb8 {p:Int→Bool} {o:List Int} {k:Nat} (c:k<o.length):(o.take (k+1)).filter p=(o.take k).filter p ++ if p (o.getD k 0)=true then [o.getD k 0] else []:=by
 rw [List.take_succ_eq_append_getElem c,List.filter_append,show o[k]=o.getD k 0 by simp [List.getD,c],List.filter_cons];split<;>rfl
theorem Zd6 (E:Nat→Addr) (m:Mat) (d c:Option Addr) (r j q g:Nat) (sv:Value) (s:List Int) (w:World) (hv:MatV w w.heap.size (.agg #[.int .i64 m.t,.int .i64 m.n,.int .i64 m.a,.int .i64 m.b,.slice d r j,.slice c q g]) m) (hs:Sml m) (hr:Row w w.heap.size sv s) (yi:s.length≤64) (xy:(Z4_ (allL m.n) s).length≤64) (hE:Env E w) :
  Calls Tryz.prog 52 #[.agg #[.int .i64 m.t,.int .i64 m.n,.int .i64 m.a,.int .i64 m.b,.slice d r j,.slice c q g],sv] w (R5_ w (.int .i64 m.t) (.int .i64 m.n) (.int .i64 m.a) (.int .i64 m.b) (.slice d r j) (.slice c q g) sv ((Z4_ (allL m.n) s).filter fun x=>indT m (X2_ s [x]))):=by
 have xm:=hv;obtain ⟨z,cs,yd,_⟩:=id hr;subst yd;obtain ⟨o,X⟩:∃ o,Z4_ (allL m.n) s=o:=⟨_,rfl⟩;obtain ⟨p,hp⟩:∃ p:Int→Bool,p=fun x=>indT m (X2_ s [x]):=⟨_,rfl⟩;rw [← hp,X];rw [X] at xy;have HO:=hid X;have HP:=hid hp;obtain ⟨K,M⟩:∃ K,K=((w.alloc (.cells #[.int .i64 m.t,.int .i64 m.n,.int .i64 m.a,.int .i64 m.b,.slice d r j,.slice c q g] 25)).alloc (.cells #[.int .i64 0,.int .i64 0,.int .i64 0,.int .i64 0,.slice none 0 0,.slice none 0 0,.slice none 0 0,.slice none 0 0] 78)).alloc (.cells #[.int .i64 m.t,.int .i64 m.n,.int .i64 m.a,.int .i64 m.b,.slice d r j,.slice c q g,.slice z s.length cs,.slice none 0 0] 78):=⟨_,rfl⟩;have x9:=hid M;have xi:Below w.heap.size w K:=by rw [M];exact (((Below.refl _ w).alloc (le_refl _) _).alloc y31_ _).alloc j31_ _
 have xp:Blk K (w.heap.size+1) 78 #[.int .i64 0,.int .i64 0,.int .i64 0,.int .i64 0,.slice none 0 0,.slice none 0 0,.slice none 0 0,.slice none 0 0]:=by
  rw [M];have:=(Blk.new (w.alloc (.cells #[.int .i64 m.t,.int .i64 m.n,.int .i64 m.a,.int .i64 m.b,.slice d r j,.slice c q g] 25)) 78 #[.int .i64 0,.int .i64 0,.int .i64 0,.int .i64 0,.slice none 0 0,.slice none 0 0,.slice none 0 0,.slice none 0 0]).alloc (.cells #[.int .i64 m.t,.int .i64 m.n,.int .i64 m.a,.int .i64 m.b,.slice d r j,.slice c q g,.slice z s.length cs,.slice none 0 0] 78);simpa using this
 have xk:Blk K (w.heap.size+1+1) 78 #[.int .i64 m.t,.int .i64 m.n,.int .i64 m.a,.int .i64 m.b,.slice d r j,.slice c q g,.slice z s.length cs,.slice none 0 0]:=by
  rw [M];have:=Blk.new ((w.alloc (.cells #[.int .i64 m.t,.int .i64 m.n,.int .i64 m.a,.int .i64 m.b,.slice d r j,.slice c q g] 25)).alloc (.cells #[.int .i64 0,.int .i64 0,.int .i64 0,.int .i64 0,.slice none 0 0,.slice none 0 0,.slice none 0 0,.slice none 0 0] 78)) 78 #[.int .i64 m.t,.int .i64 m.n,.int .i64 m.a,.int .i64 m.b,.slice d r j,.slice c q g,.slice z s.length cs,.slice none 0 0];simpa using this
 have xo:K.heap.size=w.heap.size+3:=by rw [M];simp
 have x0:=hid xi;have x5:=hid xp;have x3:=hid xk;have xd:=hid xo;have Hr:=hid hr;have HV:=hid xm;have HE:=hid hE;have Hs:=hid hs;have yb:s.length≤1048576:=k30_;have yc:s.length≤1000:=k30_;have yh:(o.length:Int)≤64:=k30_;clear M xi xp xk xo hr xm hE hs X hp
 go_enter Tryz.func52,Tryz.ntmps52
 go_wp2_with fail
 rw [← x9.out];refine (U6_ m.n _ _ _ _ _ _ _ s _ (Hr.out.up x0.out) yb).mono ?_;rintro e G ⟨vo,rfl,x7,P⟩;rw [HO.out] at x7;have N:=hid x7;obtain ⟨Ao,co,rfl,_⟩:=x7;have xa:=hid (Z0_ x0.out (le_refl _) P);have xg:=hid (x5.out.below P x5.out.lt);have xc:=hid (x3.out.below P x3.out.lt);have O:Hid (w.heap.size+3≤G.heap.size):=hid (by rw [← xd.out];exact P.size);clear P x5 x3 x0 x9 xd;go_wp2
 go_loopw [14] (fun vk wr=>∃ (k:Nat) (B:Option Addr) (nm C:Nat),vk=.int .i64 (k:Int)∧k≤o.length∧Hid (Blk wr (w.heap.size+1) 78 #[.int .i64 0,.int .i64 0,.int .i64 0,.int .i64 0,.slice none 0 0,.slice none 0 0,.slice none 0 0,.slice none 0 0]∧Blk wr (w.heap.size+1+1) 78 #[.int .i64 m.t,.int .i64 m.n,.int .i64 m.a,.int .i64 m.b,.slice d r j,.slice c q g,.slice z s.length cs,.slice B nm C]∧wr.ownsRow G.heap.size 3 1 (.slice B nm C) ((o.take k).filter p).length (ints ((o.take k).filter p))∧Row wr G.heap.size (.slice Ao o.length co) o∧Below w.heap.size w wr∧G.heap.size≤wr.heap.size)) (fun vk _=>o.length - (intOf vk).toNat)
 case atStart=>exact ⟨0,none,0,0,rfl,Nat.zero_le _,xg.out,xc.out,World.ownsRow_nil _ _ _ _,N.out,xa.out,le_refl _⟩
 case round =>
  obtain ⟨k,B,nm,C,rfl,hk,I⟩:=hrel;clear xg xc N xa;have u:=hid I.out.1;have y:=hid I.out.2.1;have x4:=hid I.out.2.2.1;have N:=hid I.out.2.2.2.1;have x1:=hid I.out.2.2.2.2.1;have xf:=hid I.out.2.2.2.2.2;clear I;by_cases xl:k<o.length
  ·have y9:(k:Int)<(o.length:Int):=by omega
   obtain ⟨ao,hA,xj⟩:=Row.nthV N.out xl;subst hA;have gx:=xj wr (Below.refl _ _);have xe:=hid (Xb8 (p:=p) xl);have yg:((o.take k).filter p).length≤64:=Nat.le_trans (List.length_filter_le _ _) x35_;generalize o.getD k 0=x at *
   generalize (o.take k).filter p=L at *
   have HC:Hid (∀ W,Below w.heap.size w W→Calls Tryz.prog 84 #[.agg #[.int .i64 m.t,.int .i64 m.n,.int .i64 m.a,.int .i64 m.b,.slice d r j,.slice c q g,.slice z s.length cs,.slice B nm C],.slice z s.length cs,.int .i64 x] W (Says W (p x))):=hid fun W hW=>by rw [HP.out];exact Zq5 E m _ _ _ _ _ _ _ _ _ s x W (HV.out.up hW) Hs.out (Hr.out.up hW) yc (HE.out.up hW)
   have xr:=hid (HC.out wr x1.out);have d0:=y.out.cell 0;have d1:=y.out.cell 1;have d2:=y.out.cell 2;have d3:=y.out.cell 3;have d4:=y.out.cell 4;have d5:=y.out.cell 5;have d6:=y.out.cell 6;have S:=y.out.cell 7;have yj:IntKind.i64.wrap ((k:Int)+1)=(k:Int)+1:=k31_;clear xj HC
   go_wp2_with fail
   refine xr.out.mono ?_;rintro e w2 ⟨rfl,J⟩;have xh:=hid (u.out.below J u.out.lt);have x2:=hid (y.out.below J y.out.lt);have Q:=hid (P7_ x4.out J);have x8:=hid (N.out.below (J.mono xf.out));have xb:=hid (Z0_ x1.out (le_refl _) J);have R:=hid (Nat.le_trans xf.out J.size);clear J d0 d1 d2 d3 d4 d5 d6 S gx;rcases hpx:p x with _ | _
   ·have Hn:Hid ((o.take (k+1)).filter p=L):=hid (by rw [xe.out,if_neg (by rw [hpx];decide),List.append_nil])
    clear hpx;go_wp2
    go_roundw
    case rel=>exact ⟨k+1,B,nm,C,z32_,k30_,xh.out,x2.out,by rw [Hn.out];exact Q.out,x8.out,xb.out,R.out⟩
    case measure=>simp [intOf];omega
   ·have Hn:Hid ((o.take (k+1)).filter p=L ++ [x]):=hid (by rw [xe.out,if_pos hpx])
    have S:=x2.out.cell 7;clear hpx;have ye:G.heap.size≤w2.heap.size+1:=Nat.le_trans R.out (Nat.le_succ _)
    go_wp2_with (at_builtin;refine Y6_ rfl _ _ rfl G.heap.size _ _ _ L [x] rfl rfl (World.ownsRow.alloc Q.out _) (Row.lit1 _ x) k30_ y31_ (by simp;exact ye) ?_)
    intro v8 Z Y V;have x6:∀ i,(Value.slice B nm C).ownBlock=some i→w.heap.size+3≤i:=fun i hi=>Nat.le_trans O.out (World.ownsRow.lt Q.out i hi).1;have xq:=(xh.out.alloc (.cells #[.int .i64 x] 3)).grown V (fun e=>by have:=x6 _ e.symm;omega);have U:=(x2.out.alloc (.cells #[.int .i64 x] 3)).grown V (fun e=>by have:=x6 _ e.symm;omega);have T:Below G.heap.size w2 Z:=((Below.refl _ w2).alloc R.out (.cells #[.int .i64 x] 3)).grown V j31_ (fun i hi=>(World.ownsRow.lt Q.out i hi).1);obtain ⟨D,F,yf⟩:=L3_ Y;subst yf;have e7:=U.cell 7;have f7:=U.frozen 7;have xx:=hid (xq.far (p:=⟨w.heap.size+1+1,7,none⟩) (by show w.heap.size+1≠w.heap.size+1+1;omega) (.slice D (L.length+1) F));have xu:=hid (U.set_ 7 (.slice D (L.length+1) F));have xv:Hid ((Z.setCell ⟨w.heap.size+1+1,7,none⟩ (.slice D (L.length+1) F)).ownsRow G.heap.size 3 1 (.slice D (L.length+1) F) (L.length+1) (ints (L ++ [x]))):=hid (World.ownsRow.kept Y (L2_ (World.grownBy.refl Z (some (w.heap.size+1+1))) (.inl rfl) _) (by
     rcases hb:(Value.slice D (L.length+1) F).ownBlock with _ | i
     ·exact .inl rfl
     ·right
      intro e;injection e with e;have h1:=(World.ownsRow.lt Y i hb).1;have h2:=O.out;omega))
    have xs:=hid ((x8.out.below T).storeS e7 (.slice D (L.length+1) F));have xt:=hid ((xb.out.trans (T.mono (by have:=O.out;omega))).setCell (p:=⟨w.heap.size+1+1,7,none⟩) (by show w.heap.size≤w.heap.size+1+1;omega) (.slice D (L.length+1) F));have xw:Hid (G.heap.size≤(Z.setCell ⟨w.heap.size+1+1,7,none⟩ (.slice D (L.length+1) F)).heap.size):=hid (by simp [World.setCell];exact Nat.le_trans R.out T.size);clear Y V xq U T x6 S;go_wp2
    go_roundw
    case rel=>exact ⟨k+1,D,L.length+1,F,z32_,k30_,xx.out,xu.out,by rw [Hn.out,List.length_append];exact xv.out,xs.out,xt.out,xw.out⟩
    case measure=>simp [intOf];omega
  ·have y8:k=o.length:=by omega
   have HL:Hid ((o.take k).filter p=o.filter p):=hid (by rw [y8,List.take_length]);have y9:¬ (k:Int)<(o.length:Int):=k30_;have d0:=y.out.cell 0;have d1:=y.out.cell 1;have d2:=y.out.cell 2;have d3:=y.out.cell 3;have d4:=y.out.cell 4;have d5:=y.out.cell 5;have d6:=y.out.cell 6;have S:=y.out.cell 7;have z0:=u.out.cell 0;have z1:=u.out.cell 1;have z2:=u.out.cell 2;have z3:=u.out.cell 3;have z4:=u.out.cell 4;have z5:=u.out.cell 5;have z6:=u.out.cell 6;have z7:=u.out.cell 7;have y0:=u.out.frozen 0;have y1:=u.out.frozen 1;have y2:=u.out.frozen 2;have y3:=u.out.frozen 3;have y4:=u.out.frozen 4;have y5:=u.out.frozen 5;have y6:=u.out.frozen 6;have y7:=u.out.frozen 7;go_wp2;have H:Blk ((((((((wr.setCell ⟨w.heap.size+1,0,none⟩ (.int .i64 m.t)).setCell ⟨w.heap.size+1,1,none⟩ (.int .i64 m.n)).setCell ⟨w.heap.size+1,2,none⟩ (.int .i64 m.a)).setCell ⟨w.heap.size+1,3,none⟩ (.int .i64 m.b)).setCell ⟨w.heap.size+1,4,none⟩ (.slice d r j)).setCell ⟨w.heap.size+1,5,none⟩ (.slice c q g)).setCell ⟨w.heap.size+1,6,none⟩ (.slice z s.length cs)).setCell ⟨w.heap.size+1,7,none⟩ (.slice B nm C)) (w.heap.size+1) 78 #[.int .i64 m.t,.int .i64 m.n,.int .i64 m.a,.int .i64 m.b,.slice d r j,.slice c q g,.slice z s.length cs,.slice B nm C]:=by
    have h:=((((((((u.out.set_ 0 (.int .i64 m.t)).set_ 1 (.int .i64 m.n)).set_ 2 (.int .i64 m.a)).set_ 3 (.int .i64 m.b)).set_ 4 (.slice d r j)).set_ 5 (.slice c q g)).set_ 6 (.slice z s.length cs)).set_ 7 (.slice B nm C));exact x21_
   have xz:Below w.heap.size w ((((((((wr.setCell ⟨w.heap.size+1,0,none⟩ (.int .i64 m.t)).setCell ⟨w.heap.size+1,1,none⟩ (.int .i64 m.n)).setCell ⟨w.heap.size+1,2,none⟩ (.int .i64 m.a)).setCell ⟨w.heap.size+1,3,none⟩ (.int .i64 m.b)).setCell ⟨w.heap.size+1,4,none⟩ (.slice d r j)).setCell ⟨w.heap.size+1,5,none⟩ (.slice c q g)).setCell ⟨w.heap.size+1,6,none⟩ (.slice z s.length cs)).setCell ⟨w.heap.size+1,7,none⟩ (.slice B nm C)):=((((((((x1.out.setCell (p:=⟨w.heap.size+1,0,none⟩) (Nat.le_succ _) _).setCell (p:=⟨w.heap.size+1,1,none⟩) (Nat.le_succ _) _).setCell (p:=⟨w.heap.size+1,2,none⟩) (Nat.le_succ _) _).setCell (p:=⟨w.heap.size+1,3,none⟩) (Nat.le_succ _) _).setCell (p:=⟨w.heap.size+1,4,none⟩) (Nat.le_succ _) _).setCell (p:=⟨w.heap.size+1,5,none⟩) (Nat.le_succ _) _).setCell (p:=⟨w.heap.size+1,6,none⟩) (Nat.le_succ _) _).setCell (p:=⟨w.heap.size+1,7,none⟩) (Nat.le_succ _) _);have ya:=X6_ (X6_ (X6_ (X6_ (X6_ (X6_ (X6_ (Y3_ wr (w.heap.size+1) 0 (.int .i64 m.t)) (Y3_ _ (w.heap.size+1) 1 (.int .i64 m.n))) (Y3_ _ (w.heap.size+1) 2 (.int .i64 m.a))) (Y3_ _ (w.heap.size+1) 3 (.int .i64 m.b))) (Y3_ _ (w.heap.size+1) 4 (.slice d r j))) (Y3_ _ (w.heap.size+1) 5 (.slice c q g))) (Y3_ _ (w.heap.size+1) 6 (.slice z s.length cs))) (Y3_ _ (w.heap.size+1) 7 (.slice B nm C));generalize ((((((((wr.setCell ⟨w.heap.size+1,0,none⟩ (.int .i64 m.t)).setCell ⟨w.heap.size+1,1,none⟩ (.int .i64 m.n)).setCell ⟨w.heap.size+1,2,none⟩ (.int .i64 m.a)).setCell ⟨w.heap.size+1,3,none⟩ (.int .i64 m.b)).setCell ⟨w.heap.size+1,4,none⟩ (.slice d r j)).setCell ⟨w.heap.size+1,5,none⟩ (.slice c q g)).setCell ⟨w.heap.size+1,6,none⟩ (.slice z s.length cs)).setCell ⟨w.heap.size+1,7,none⟩ (.slice B nm C))=w9 at *
   have xn:=World.ownsRow.kept x4.out ya (.inr fun e=>sw_no (World.ownsRow.lt x4.out _ e).1 O.out);have k0:w9.cell? ⟨w.heap.size+1,0,none⟩=some (.int .i64 m.t):=H.cell 0;have k1:w9.cell? ⟨w.heap.size+1,1,none⟩=some (.int .i64 m.n):=H.cell 1;have k2:w9.cell? ⟨w.heap.size+1,2,none⟩=some (.int .i64 m.a):=H.cell 2;have k3:w9.cell? ⟨w.heap.size+1,3,none⟩=some (.int .i64 m.b):=H.cell 3;have k4:w9.cell? ⟨w.heap.size+1,4,none⟩=some (.slice d r j):=H.cell 4;have k5:w9.cell? ⟨w.heap.size+1,5,none⟩=some (.slice c q g):=H.cell 5;have k6:w9.cell? ⟨w.heap.size+1,6,none⟩=some (.slice z s.length cs):=H.cell 6;have k7:w9.cell? ⟨w.heap.size+1,7,none⟩=some (.slice B nm C):=H.cell 7;refine bodyPost_ret (v:=.agg #[.int .i64 m.t,.int .i64 m.n,.int .i64 m.a,.int .i64 m.b,.slice d r j,.slice c q g,.slice z s.length cs,.slice B nm C]) ?_ rfl ?_
   ·simp [results,Tryz.results52,go_sem,k0,k1,k2,k3,k4,k5,k6,k7]
   ·rw [HL.out] at xn
    exact ⟨_,_,_,rfl,L.own_le xn (by have:=O.out;omega),xz⟩
end Wp
end Go.Proofs.YtgpljiijjnaofaaGreatDoor
namespace Go.Proofs.YtgpljiijjnaofaaGreatDoor.Wp
open Go Go.RowKit
inductive Shifts (a b:Mat) (s A B:List Int):Nat→List Int→List Int→Prop
 | zero:Shifts a b s A B 0 A B
 | succ {k:Nat} {A' B':List Int} {d:Int}:Shifts a b s A B k A' B'→NoWay a b s A' B'→MinIs d (gapsS a b s A' B')→Shifts a b s A B (k+1) (X7_ A' (comeS a b s A' B') (-d)) (X7_ B' (comeS a b s A' B') d)
def Xb9 (a b:Mat) (s A B s' A' B':List Int):Prop:=∃ k n x l,Shifts a b s A B k A' B'∧Greedy (J7_ a b s A' B') (topL B' (addG b s)) (topL A' (addG a s)) n (x :: l)∧s'=turnL s (x :: l)
def Ends (a b:Mat) (s A B:List Int):Prop:=∃ k A' B',Shifts a b s A B k A' B'∧NoWay a b s A' B'∧gapsS a b s A' B'=[]
section
variable {a b:Mat} {w s A B A' B':List Int} {d D:Int} {k:Nat}
structure At (a b:Mat) (w s A B:List Int) (D:Int) (k:Nat) (A' B':List Int):Prop where
 sh:Shifts a b s A B k A' B'
 sp:Sp a b w s A' B'
 low:∀ i,i<nN a→-(D+1099511627776 * (k:Int))≤A'.getD i 0∧A'.getD i 0≤2147483648
 cnt:k≤(comeS a b s A' B').length∨¬ NoWay a b s A' B'
theorem At.start (h:Sp a b w s A B) (hA:∀ i,i<nN a→-D≤A.getD i 0∧A.getD i 0≤2147483648):At a b w s A B D 0 A B :=
 ⟨.zero,h,fun i hi=>by have:=hA i hi;omega,.inl (Nat.zero_le _)⟩
theorem At.few (h:At a b w s A B D k A' B') (d:NoWay a b s A' B'):k≤nN a:=by
 have e:=h.cnt.resolve_right fun c=>c d;have:=X1_ (D4_ (A:=A') (B:=B') h.sp.com);omega
theorem At.next (v:∀ i,i<nN a→-2147483648≤w.getD i 0∧w.getD i 0≤2147483648) (h:At a b w s A B D k A' B') (C:0≤D∧D≤1152921504606846976) (c:NoWay a b s A' B') (hd:MinIs d (gapsS a b s A' B')) :
  At a b w s A B D (k+1) (X7_ A' (comeS a b s A' B') (-d)) (X7_ B' (comeS a b s A' B') d):=by
 have E:=h.few c;have F:=h.sp.com.n64;obtain ⟨o,f,p,h3⟩:=h.sp.shift c hd (fun i hi=>by have:=(h.low i hi).1;omega);refine ⟨h.sh.succ c hd,f,fun i hi=>?_,?_⟩
 ·have:=h.sp.low hd o v (D:=D+1099511627776 * (k:Int)) k30_ h.low i hi
  omega
 ·rcases h3 with ⟨x,g,y⟩ | h3
  ·left
   have r:=h.cnt.resolve_right fun u=>u c;have z:=D4_ (A:=A') (B:=B') h.sp.com;have m:=D4_ (A:=X7_ A' (comeS a b s A' B') (-d)) (B:=X7_ B' (comeS a b s A' B') d) f.com;have G:=m.2 x g;obtain ⟨j,rfl⟩:∃ j:Nat,x=(j:Int):=⟨x.toNat,k30_⟩;have q:j<nN a:=k30_;have c1:=V9_ (P:=memP (comeS a b s A' B')) q (by rw [← Bool.not_eq_true,memP_iff];exact y);have c2:=(Zx0 (nN a)).mono (P:=insP (memP (comeS a b s A' B')) j) (Q:=memP (comeS a b s (X7_ A' (comeS a b s A' B') (-d)) (X7_ B' (comeS a b s A' B') d))) fun i _ hi=>by
    by_cases e:i=j
    ·rw [e];exact memP_iff.2 g
    ·rw [Z8_ e] at hi
     exact memP_iff.2 (p _ (memP_iff.1 hi))
   rw [V2_ z] at r;rw [V2_ m];omega
  ·exact .inr h3
theorem At.small (h:At a b w s A B D k A' B') (f:∀ i,i<nN a→-2147483648≤w.getD i 0∧w.getD i 0≤2147483648) (j:0≤D∧D≤576460752303423488) (m:k≤66) :
  (∀ x∈A',-1152921504606846976≤x∧x≤1152921504606846976)∧∀ x∈B',-1152921504606846976≤x∧x≤1152921504606846976:=by
 constructor
 ·intro x d
  obtain ⟨i,hi,rfl⟩:=List.mem_iff_getElem.1 d;have:=h.low i (by rw [← h.sp.la];exact hi);rw [show A'.getD i 0=A'[i] by simp [List.getD,hi]] at this;omega
 ·intro x d
  obtain ⟨i,hi,rfl⟩:=List.mem_iff_getElem.1 d;have c:i<nN a:=by rw [← h.sp.lb];exact hi
  have g:=h.low i c;have e:=h.sp.sum i c;have h3:=f i c;rw [show B'.getD i 0=B'[i] by simp [List.getD,hi]] at e;omega
theorem At.turn (h:At a b w s A B D k A' B') {n:Nat} {x:Int} {l:List Int} (c:Greedy (J7_ a b s A' B') (topL B' (addG b s)) (topL A' (addG a s)) n (x :: l)) :
  Xb9 a b s A B (turnL s (x :: l)) A' B'∧Sp a b w (turnL s (x :: l)) A' B'∧(turnL s (x :: l)).length=s.length+1:=by
 obtain ⟨d,e,h3,f⟩:=Yn2 h.sp.com h.sp.ea h.sp.eb c;exact ⟨⟨k,n,x,l,h.sh,c,rfl⟩,⟨e,h.sp.la,h.sp.lb,h.sp.sum,h3,f⟩,d⟩
end
end Go.Proofs.YtgpljiijjnaofaaGreatDoor.Wp
namespace Go.Proofs.YtgpljiijjnaofaaGreatDoor
open Go Go.RowKit
namespace Wp
def outS (x:Int):Bool:=decide (x < -2147483648) || decide (2147483648<x)
def may15 (a b:Mat) (s:List Int):Bool:=decide (a.n=b.n) && (decide ((s.length:Int)=a.n) && (!(s.any outS) && ((chk a==0) && (chk b==0))))
theorem Xp3 (x:Int) (W:World):Calls Tryz.prog 27 #[.int .i64 x] W fun e d=>e=.returned (.bool (outS x))∧Below W.heap.size W d:=by
 unfold outS;by_cases c:x < -2147483648
 ·rw [decide_eq_true c,Bool.true_or]
  go_enter Tryz.func27,Tryz.ntmps27
  exact q3_
 ·have g:-2147483648≤x:=by omega
  rw [decide_eq_false c,Bool.false_or];clear c
  go_enter Tryz.func27,Tryz.ntmps27
  go_wp2;go_ret;refine ⟨?_,Below.refl _ _⟩;show Ending.returned (.bool (decide (x < -2147483648) || decide (2147483648<x)))=_;rw [decide_eq_false (show ¬ x < -2147483648 by omega),Bool.false_or]
theorem Xp4 (w:World):Tests w 27 #[] outS:=fun x W _=>Xp3 x W
theorem Zk0 (E:Nat→Addr) (a b:Mat) (va vb sv:Value) (s:List Int) (w:World) (ha:MatV w w.heap.size va a) (hb:MatV w w.heap.size vb b) (x2:Sml a) (x3:Sml b) (N:Row w w.heap.size sv s) (xj:s.length≤1048576) (hE:Env E w) :
  Calls Tryz.prog 17 #[va,vb,sv] w (Says w (may15 a b s)):=by
 obtain ⟨y,O⟩:∃ y,decide (a.n=b.n)=y:=⟨_,rfl⟩;obtain ⟨z,P⟩:∃ z,decide ((s.length:Int)=a.n)=z:=⟨_,rfl⟩;obtain ⟨o,M⟩:∃ o,s.any outS=o:=⟨_,rfl⟩;obtain ⟨Z,K⟩:∃ c,chk a=c:=⟨_,rfl⟩;obtain ⟨cb,L⟩:∃ c,chk b=c:=⟨_,rfl⟩;have xm:(a.n==b.n)=y:=by rw [← O];rfl
 have xn:((s.length:Int)==a.n)=z:=by rw [← P];rfl
 have x1:may15 a b s=(y && (z && (!o && ((Z==0) && (cb==0))))):=by unfold may15;rw [O,P,M,K,L]
 rw [x1];have HC:Hid (∀ W u,Row W W.heap.size u s→Calls Tryz.prog 28 #[u,.func (.func 27) #[] #[]] W (Says W o)) :=
  hid fun W u hu=>by rw [← M];exact F3_ 27 #[] outS u s W (enters_of Tryz.func27 q31_ rfl) hu xj (Xp4 W)
 have x5:=hid K;have x6:=hid L;have xd:=hid x2;have xe:=hid x3;obtain ⟨la,ia,xk,xh,xf⟩:=ha.open;obtain ⟨lb,ib,xl,xi,xg⟩:=hb.open;obtain ⟨x,H,rfl,_⟩:=xh;obtain ⟨v,G,rfl,_⟩:=xf;obtain ⟨C,J,rfl,_⟩:=xi;obtain ⟨B,I,rfl,_⟩:=xg;obtain ⟨As,cs,rfl,_⟩:=id N;subst xk xl;obtain ⟨k,m⟩:∃ k,(w.alloc (.cells #[.int .i64 a.t,.int .i64 a.n,.int .i64 a.a,.int .i64 a.b,.slice x a.l.length H,.slice v a.i.length G] 25)).alloc (.cells #[.int .i64 b.t,.int .i64 b.n,.int .i64 b.a,.int .i64 b.b,.slice C b.l.length J,.slice B b.i.length I] 25)=k:=⟨_,rfl⟩;have HW2:=hid m;have j:Below w.heap.size w k:=by rw [← m];exact ((Below.refl _ w).alloc (le_refl _) _).alloc y31_ _
 have D:Hid (Blk k w.heap.size 25 #[.int .i64 a.t,.int .i64 a.n,.int .i64 a.a,.int .i64 a.b,.slice x a.l.length H,.slice v a.i.length G]):=hid (by rw [← m];exact (Blk.new w _ _).alloc _);have F:Hid (Blk k (w.heap.size+1) 25 #[.int .i64 b.t,.int .i64 b.n,.int .i64 b.a,.int .i64 b.b,.slice C b.l.length J,.slice B b.i.length I]):=hid (by
  rw [← m];have:=Blk.new (w.alloc (.cells #[.int .i64 a.t,.int .i64 a.n,.int .i64 a.a,.int .i64 a.b,.slice x a.l.length H,.slice v a.i.length G] 25)) 25 #[.int .i64 b.t,.int .i64 b.n,.int .i64 b.a,.int .i64 b.b,.slice C b.l.length J,.slice B b.i.length I];simpa using this)
 have Hb0:=hid j;have x8:=hid (ha.up j);have xa:=hid (hb.up j);have HR:=hid (N.up j);have HE:=hid (hE.up j);have q:=D.out.cell 1;have r:=F.out.cell 1;clear x1 ha hb x2 x3 N hE m j O P M K L;cases y
 ·exact j27_
 cases z
 ·exact j27_
 go_enter Tryz.func17,Tryz.ntmps17
 go_wp2_with fail
 rw [HW2.out]
 go_wp2_with fail
 refine (HC.out _ _ HR.out).mono ?_;rintro e w3 ⟨rfl,d⟩;have U:=hid (Z0_ Hb0.out (le_refl _) d);have x9:=hid (x8.out.up d);have xb:=hid (xa.out.up d);have X:=hid (HE.out.up d);have g:=hid (D.out.below d D.out.lt);have Y:=hid (F.out.below d F.out.lt);clear d q r xm xn;cases o;rotate_left
 ·go_wp2
  go_ret;exact ⟨rfl,U.out⟩
 have q:=g.out.cell 0;have r:=g.out.cell 1;have Q:=g.out.cell 2;have R:=g.out.cell 3;have S:=g.out.cell 4;have T:=g.out.cell 5
 go_wp2_with fail
 refine (Q1_ E a _ _ x9.out xd.out X.out).mono ?_;rintro e w4 ⟨rfl,p⟩;rw [x5.out];have V:=hid (Z0_ U.out (le_refl _) p);have xc:=hid (xb.out.up p);have x7:=hid (X.out.up p);have h:=hid (Y.out.below p Y.out.lt);clear p q r Q R S T;cases hx:(Z==0)
 ·go_wp2
  go_ret;exact ⟨by first | rfl | (rw [hx];rfl),V.out⟩
 have q:=h.out.cell 0;have r:=h.out.cell 1;have Q:=h.out.cell 2;have R:=h.out.cell 3;have S:=h.out.cell 4;have T:=h.out.cell 5
 go_wp2_with fail
 refine (Q1_ E b _ _ xc.out xe.out x7.out).mono ?_;rintro e w5 ⟨rfl,x0⟩;rw [x6.out];have x4:=hid (Z0_ V.out (le_refl _) x0);clear x0 q r Q R S T;go_wp2;go_ret;exact ⟨by first | rfl | (rw [hx];rfl) | simp,x4.out⟩
open Go Go.RowKit
def rwT (ws s:List Int):Int:=if okA (ws.length:Int) s=true then addW ws s else 0
theorem Yv5 (F vs:Value) (ws s:List Int) (w:World) (r:Row w w.heap.size F ws) (q:Row w w.heap.size vs s) (x0:s.length≤1048576) (p:okA (ws.length:Int) s=true→∀ x∈s,0≤x∧x<(ws.length:Int)):Calls Tryz.prog 13 #[F,vs] w (Tells w (rwT ws s)):=by
 have H:=hid r;have j:=hid q;obtain ⟨T,U,rfl,c,_⟩:=id r;obtain ⟨S,cs,rfl,_⟩:=id q;have x1:(s.length:Int)≤1048576:=k30_;have x2:(ws.length:Int)≤9223372036854775807:=by have Y:=c.1;have N:=c.2.1;unfold maxLen at N;omega
 clear r q c;unfold rwT;obtain ⟨o,h⟩:∃ o,okA (ws.length:Int) s=o:=⟨_,rfl⟩;have B:=hid h;rw [h] at p;have I:=hid p;rw [h];clear h p;cases o
 ·go_enter Tryz.func13,Tryz.ntmps13
  go_wp2
  go_loopw [5,6] (fun v d wr=>v=.int .i64 0∧d=.int .i64 0∧wr=w) (fun _ _ _=>0)
  case atStart=>exact ⟨rfl,rfl,rfl⟩
  case round =>
   obtain ⟨rfl,rfl,rfl⟩:=hrel;by_cases g:0<s.length
   ·have E:(0:Int)<(s.length:Int):=by omega
    go_wp2_with fail
    refine (P4_ _ s _ _ j.out).mono ?_;rintro e R ⟨rfl,hb1⟩;rw [B.out];exact j18_
   ·have E:¬ (0:Int)<(s.length:Int):=by omega
    exact q3_
 ·go_enter Tryz.func13,Tryz.ntmps13
  go_wp2
  go_loopw [5,6] (fun v d wr=>∃ k:Nat,d=.int .i64 k∧k≤s.length∧v=.int .i64 (addW ws (s.take k))∧Below w.heap.size w wr) (fun _ d _=>s.length - (intOf d).toNat)
  case atStart=>exact ⟨0,rfl,Nat.zero_le _,rfl,Below.refl _ _⟩
  case round =>
   obtain ⟨k,rfl,Z,rfl,hb⟩:=hrel;have Hb:=hid hb;by_cases g:k<s.length
   ·have E:(k:Int)<(s.length:Int):=by omega
    obtain ⟨L,hA,D⟩:=Row.nth j.out g;subst hA;have P:=I.out (by trivial) _ (Y4_ 0 g);have m:=hid (Zs6 (w:=ws) g);obtain ⟨x,u⟩:∃ x:Nat,s.getD k 0=(x:Int):=⟨(s.getD k 0).toNat,k30_⟩;rw [u] at P m;have Q:x<ws.length:=k30_;have x3:(x:Int)<(ws.length:Int):=k30_;obtain ⟨M,hA,c⟩:=Row.nth H.out Q;subst hA;have G:=hid (j.out.up hb);have K:Hid (∀ W,Below wr.heap.size wr W→W.cell? (L.add k)=some (.int .i64 (x:Int))∧W.cell? (M.add x)=some (.int .i64 (ws.getD x 0))):=hid fun W C=>⟨by rw [D W (Z0_ Hb.out (le_refl _) C),u],c W (Z0_ Hb.out (le_refl _) C)⟩;clear hb D c u
    go_wp2_with fail
    refine (P4_ _ s _ _ G.out).mono ?_;rintro e R ⟨rfl,hb1⟩;rw [B.out];obtain ⟨V,X⟩:=K.out _ hb1;have HB1:=hid (Z0_ Hb.out (le_refl _) hb1);have J:Hid (wt ws (x:Int)=ws.getD x 0):=hid rfl;rw [J.out] at m;generalize ws.getD x 0=z at *
    generalize addW ws (s.take k)=y at *
    clear hb1;go_wp2
    go_roundw
    case rel=>exact ⟨k+1,z32_,k30_,by rw [m.out];first | rfl | (congr 1;done) | (congr 1;rw [IntKind.wrap_i64];done) | (rw [IntKind.wrap_i64];rfl) | (simp [IntKind.wrap_i64];unfold wrap64;rfl) | (simp [IntKind.wrap_i64];unfold wrap64;omega),HB1.out⟩
    case measure=>simp [intOf];omega
   ·have O:k=s.length:=by omega
    subst O;rw [List.take_length];clear hb;exact x22_
open Go Go.RowKit
theorem Zs7 {a b:Mat} {s:List Int} {k:Nat} (c:k<s.length) (h:outS (s.getD k 0)=true):may15 a b s=false:=by
 have:s.any outS=true:=List.any_eq_true.2 ⟨_,Y4_ 0 c,h⟩;unfold may15;rw [this];simp
theorem Xp5 {a b:Mat} {s:List Int} (h:∀ k,k<s.length→outS (s.getD k 0)=false):may15 a b s=(mayP a b && decide ((s.length:Int)=a.n)):=by
 have:s.any outS=false:=List.any_eq_false.2 fun x c=>by
  obtain ⟨i,hi,rfl⟩:=List.mem_iff_getElem.1 c;have:=h i hi;rw [show s.getD i 0=s[i] by simp [List.getD,hi]] at this;rw [this];decide
 unfold may15 mayP;rw [this];cases decide (a.n=b.n)<;>cases decide ((s.length:Int)=a.n)<;>cases (chk a==0)<;>cases (chk b==0)<;>rfl
theorem M6_ (a b:Mat) (O P N:Value) (s:List Int) (w:World) (ha:MatV w w.heap.size O a) (hb:MatV w w.heap.size P b) (L:Sml a) (M:Sml b) (B:Row w w.heap.size N s) :
  Calls Tryz.prog 9 #[O,P,N] w (Says w (may15 a b s)):=by
 obtain ⟨la,ia,x6,x4,x1⟩:=ha.open;obtain ⟨lb,ib,x7,x5,x2⟩:=hb.open;obtain ⟨Al,cl,rfl,_⟩:=x4;obtain ⟨Ai,ci,rfl,_⟩:=x1;obtain ⟨Bl,dl,rfl,_⟩:=x5;obtain ⟨Bi,di,rfl,_⟩:=x2;obtain ⟨As,cs,rfl,v,_⟩:=id B;subst x6 x7;have xa:(s.length:Int)≤9223372036854775807:=by have d:=v.1;have c:=v.2.1;unfold maxLen at c;omega
 clear v;obtain ⟨X,hX⟩:∃ X,(w.alloc (.cells #[.int .i64 a.t,.int .i64 a.n,.int .i64 a.a,.int .i64 a.b,.slice Al a.l.length cl,.slice Ai a.i.length ci] 25)).alloc (.cells #[.int .i64 b.t,.int .i64 b.n,.int .i64 b.a,.int .i64 b.b,.slice Bl b.l.length dl,.slice Bi b.i.length di] 25)=X:=⟨_,rfl⟩;have T:=hid hX;have h:Below w.heap.size w X:=by rw [← hX];exact ((Below.refl _ w).alloc (le_refl _) _).alloc y31_ _
 have H:Blk X w.heap.size 25 #[.int .i64 a.t,.int .i64 a.n,.int .i64 a.a,.int .i64 a.b,.slice Al a.l.length cl,.slice Ai a.i.length ci]:=j33_;have I:Blk X (w.heap.size+1) 25 #[.int .i64 b.t,.int .i64 b.n,.int .i64 b.a,.int .i64 b.b,.slice Bl b.l.length dl,.slice Bi b.i.length di]:=by
  rw [← hX];exact y3_
 have S:=hid (B.up h);have p:=hid H;have R:=hid I;have q:=hid h;have Q:=hid (Xa5 a b _ _ X (ha.up h) (hb.up h) L M);clear ha hb L M B hX h H I
 go_enter Tryz.func9,Tryz.ntmps9
 go_wp2_with fail
 rw [T.out]
 go_loopw [6,7] (fun v6 D wr=>v6=.bool false∧∃ k:Nat,D=.int .i64 k∧k≤s.length∧(∀ i,i<k→outS (s.getD i 0)=false)∧wr=X) (fun _ D _=>s.length - (intOf D).toNat)
 case atStart=>exact ⟨rfl,0,rfl,Nat.zero_le _,fun i hi=>absurd hi (Nat.not_lt_zero i),rfl⟩
 case round =>
  obtain ⟨rfl,k,rfl,hk,K,rfl⟩:=hrel;have G:=hid K;clear K;by_cases z:k<s.length
  ·have x9:(k:Int)<(s.length:Int):=by omega
   obtain ⟨ad,hA,J⟩:=Row.nth S.out z;subst hA;have g0:=J wr (Below.refl _ _);obtain ⟨x,C⟩:∃ x,s.getD k 0=x:=⟨_,rfl⟩;have r:=hid C;rw [C] at g0;clear J C;by_cases d:x < -2147483648
   ·go_wp2
    go_ret;refine ⟨?_,q.out⟩;rw [Zs7 z (by rw [r.out];unfold outS;rw [decide_eq_true d];rfl)]
    try rfl
   ·by_cases c:2147483648<x
    ·have x0:-2147483648≤x:=by omega
     go_wp2;go_ret;refine ⟨?_,q.out⟩;rw [Zs7 z (by rw [r.out];unfold outS;rw [decide_eq_true c,Bool.or_true])]
     try rfl
    ·have x0:-2147483648≤x:=by omega
     have x8:x≤2147483648:=k30_;have F:Hid (∀ i,i<k+1→outS (s.getD i 0)=false):=hid fun i hi=>by
      by_cases e:i=k
      ·rw [e,r.out]
       unfold outS;rw [decide_eq_false d,decide_eq_false c];rfl
      ·exact G.out i k30_
     go_wp2
     go_roundw
     case rel=>first | exact ⟨rfl,k+1,z32_,k30_,F.out,rfl⟩ | exact ⟨rfl,k+1,z32_,k30_,F.out,trivial⟩
     case measure=>simp [intOf];omega
  ·have x3:k=s.length:=by omega
   subst x3;have g:=hid (Xp5 (a:=a) (b:=b) G.out);rw [g.out];obtain ⟨y,o⟩:∃ y,decide ((s.length:Int)=a.n)=y:=⟨_,rfl⟩
   try rw [o]
   have j:=hid o;have xb:((s.length:Int)==a.n)=y:=by rw [← o];rfl
   have d:=p.out;have c:=R.out;have U:=d.cell 0;have c1:=d.cell 1;have c2:=d.cell 2;have c3:=d.cell 3;have c4:=d.cell 4;have c5:=d.cell 5;have V:=c.cell 0;have W:=c.cell 1;have Y:=c.cell 2;have Z:=c.cell 3;have d4:=c.cell 4;have d5:=c.cell 5;clear d c o
   go_wp2_with fail
   refine Q.out.mono ?_;rintro e w1 ⟨rfl,u⟩;have E:=hid (Z0_ q.out (le_refl _) u);have e1:=(p.out.below u p.out.lt).cell 1;clear u U c1 c2 c3 c4 c5 V W Y Z d4 d5;generalize mayP a b=m at *
   cases m
   ·go_wp2
    go_ret;refine ⟨?_,E.out⟩
    first | rfl | (simp;done) | ((try simp);rw [g.out,j.out];done) | ((try simp);rw [g.out,j.out];rfl)
   ·cases y
    all_goals
     go_wp2;go_ret;refine ⟨?_,E.out⟩
     first | rfl | (simp;done) | ((try simp);rw [g.out,j.out];done) | ((try simp);rw [g.out,j.out];rfl)
end Wp
end Go.Proofs.YtgpljiijjnaofaaGreatDoor
