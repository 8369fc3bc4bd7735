/- A common set grown along ways, plain: that it is the same whoever grows it, and that what is not come to bounds it. Nothing of the program here. Points that are come to by arcs, plain. Nothing of the program here. Levels of what is come to; the first way that is come to is the least of the shortest ones. Nothing of the program here. -/
import Derived.Test.YtnaebbjodfnooaaGreatDoorZR
import Derived.Lib.Hide
import Derived.Test.YtnaebbjodfnooaaGreatDoorZP
import Derived.Test.YtnaebbjodfnooaaGreatDoorX0A
namespace Go.Proofs.YtnaebbjodfnooaaGreatDoor.Wp
inductive Chain (a b:Mat):Nat→List Int→Prop
 | zero:Chain a b 0 []
 | succ {k:Nat} {s l:List Int} {n:Nat} {x:Int}:Chain a b k s→Greedy (adjG a b s) (addG b s) (addG a s) n (x :: l)→Chain a b (k+1) (turnL s (x :: l))
def Stop (a b:Mat) (s:List Int):Prop:=∀ y∈addG a s,∀ k,¬ Near (adjG a b s) (addG b s) k y
noncomputable def comeL (a b:Mat) (s:List Int):List Int:=itL (adjG a b s) (addG a s) (adjG a b s).length
noncomputable def upL (a b:Mat) (s:List Int):List Int:=Z5_ (allL a.n) (comeL a b s)
structure MaxIs (a b:Mat) (s u:List Int):Prop where
 ch:∃ k,Chain a b k s
 stop:Stop a b s
 up:u=upL a b s
section
variable {a b:Mat} {s t u v:List Int}
theorem Xg8 (h:Common a b s):InN (nN a) (comeL a b s):=by
 have hd:=Zx0 (b:=b) (s:=s) h.n64;have d:PtsP (adjG a b s).length (addG a s):=by rw [B0_];exact B1_ h.n64
 have c:=D0_ hd d (adjG a b s).length;unfold comeL;rw [B0_] at c ⊢;exact c
theorem Xg9 (h:Common a b s) (hs:Stop a b s):rankT a (upL a b s)+rankT b (comeL a b s)=(s.length:Int):=by
 have hd:=Zx0 (b:=b) (s:=s) h.n64;have f:PtsP (adjG a b s).length (addG a s):=by rw [B0_];exact B1_ h.n64
 refine (Xv3 h ?_).2;refine List.eq_nil_iff_forall_not_mem.2 fun x g=>?_;obtain ⟨c,d⟩:=(G4_ (Xg8 h).1 (B1_ (by rw [h.nn];exact h.n64)).1 x).1 g;obtain ⟨y,j,e⟩:=(K9_ hd _ _ f).1 ⟨x,c,d⟩;exact hs y j _ e
theorem Xh0 {n:Int} (e:0≤n) (g:n≤64) {w:List Int} (d:InN n.toNat w):Z5_ (allL n) (Z5_ (allL n) w)=w:=by
 refine IsSet.ext (Q1_ _ _) d.1 fun x=>?_;rw [Y4_ (F7_ n) (Q1_ _ _),Y4_ (F7_ n) d.1,K0_ e x37_];constructor
 ·rintro ⟨f,h3⟩
  exact Classical.byContradiction fun c=>h3 ⟨f,c⟩
 ·intro c
  have:=d.2 x c;exact ⟨⟨x37_,x37_⟩,fun h=>h.2 c⟩
noncomputable def Yn8 (a b:Mat) (u:List Int):Int:=rankT a u+rankT b (Z5_ (allL a.n) u)
theorem Yx2 {m:Mat} {Q:Nat→Bool} (hi:indT m t=true):cnt (andP (memP t) Q) (nN m)≤rkP 4 m Q:=by
 obtain ⟨hc,o⟩:=mayI_iff.1 (J7_ hi);have c:=rk_of hc;have e:=M8_ hi;have g:=c.submod (andP (memP t) Q) (andP (memP t) (notP Q));have k:=c.le_cnt (andP (memP t) (notP Q));have h3:=c.mono (P:=andP (memP t) Q) (Q:=Q) (fun i _ h=>by unfold andP at h;simp at h;exact h.2);have j:=Yj2 (andP (memP t) Q) (andP (memP t) (notP Q)) (nN m);have d:∀ i,i<nN m→orP (andP (memP t) Q) (andP (memP t) (notP Q)) i=memP t i:=fun i _=>by simp only [orP,andP,notP];cases memP t i<;>cases Q i<;>rfl
 have f:∀ i,i<nN m→andP (andP (memP t) Q) (andP (memP t) (notP Q)) i=noneP i:=fun i _=>by simp only [andP,notP,noneP];cases memP t i<;>cases Q i<;>rfl
 rw [c.ext d,c.ext f,c.zero] at g;rw [V9_ d,V9_ f,B5_] at j;omega
theorem Xh1 (h:Common a b t) (d:InN (nN a) u):(t.length:Int)≤Yn8 a b u:=by
 obtain ⟨f,q⟩:=mayI_iff.1 (J7_ h.ia);obtain ⟨r,_⟩:=mayI_iff.1 (J7_ h.ib);have c:=chk_n f;have p:InN (nN a) (Z5_ (allL a.n) u):=D3_ c.1 c.2 d.1;have s:=Yx2 (Q:=memP u) h.ia;have k:=Yx2 (Q:=memP (Z5_ (allL a.n) u)) h.ib;rw [h.nn] at k;have o:=Yj2 (andP (memP t) (memP u)) (andP (memP t) (memP (Z5_ (allL a.n) u))) (nN a);have e:∀ i,i<nN a→memP (Z5_ (allL a.n) u) i=notP (memP u) i:=fun i hi=>P4_ c.1 c.2 d.1 hi;have g:∀ i,i<nN a→orP (andP (memP t) (memP u)) (andP (memP t) (memP (Z5_ (allL a.n) u))) i=memP t i:=fun i hi=>by
  simp only [orP,andP];rw [e i hi];simp only [notP];cases memP t i<;>cases memP u i<;>rfl
 have j:∀ i,i<nN a→andP (andP (memP t) (memP u)) (andP (memP t) (memP (Z5_ (allL a.n) u))) i=noneP i:=fun i hi=>by
  simp only [andP,noneP];rw [e i hi];simp only [notP];cases memP t i<;>cases memP u i<;>rfl
 rw [V9_ g,V9_ j,B5_] at o;unfold Yn8;rw [Zq5 (mayI_iff.2 ⟨f,d⟩),Zq5 (m:=b) (mayI_iff.2 ⟨r,by rw [h.nn];exact p⟩),X3_ q];omega
end
end Go.Proofs.YtnaebbjodfnooaaGreatDoor.Wp
namespace Go.Proofs.YtnaebbjodfnooaaGreatDoor.Wp.R
open K (updI nodup_le)
structure Dig (adj:List (List Int)):Prop where
 up:∀ x,(adj.getD x []).Pairwise (·<·)
 pt:∀ x,∀ y∈adj.getD x [],0≤y∧y<(adj.length:Int)
structure Pts (n:Nat) (l:List Int):Prop where
 up:l.Pairwise (·<·)
 pt:∀ y∈l,0≤y∧y<(n:Int)
def cAt (come:List Int) (j:Nat):Int:=come.getD j 0
def Y8_ (adj:List (List Int)) (come:List Int) (j:Nat):List Int:=adj.getD (cAt come j).toNat []
theorem M3_ {come:List Int} {q:Int} {j:Nat} (h:j<come.length):cAt (come ++ [q]) j=cAt come j:=by
 unfold cAt;rw [List.getD_eq_getElem?_getD,List.getElem?_append_left h,← List.getD_eq_getElem?_getD]
theorem Ye9 {come:List Int} {q:Int}:cAt (come ++ [q]) come.length=q:=by
 unfold cAt;rw [List.getD_eq_getElem?_getD,List.getElem?_append_right (Nat.le_refl _)];simp
theorem F8_ {come:List Int} {j:Nat} (h:j<come.length):cAt come j∈come:=by
 unfold cAt;rw [show come.getD j 0=come[j] by simp [List.getD,h]];exact List.getElem_mem h
theorem Zd5 {come:List Int} {x:Int} (h:x∈come):∃ j,j<come.length∧cAt come j=x:=by
 obtain ⟨j,c,e⟩:=List.mem_iff_getElem.1 h;exact ⟨j,c,by unfold cAt;rw [← e];simp [List.getD,c]⟩
structure Bfs (adj:List (List Int)) (src:List Int) (come:List Int) (ah:Nat→Int) (par:Nat→Nat) (i k:Nat):Prop where
 nodup:come.Nodup
 pt:∀ x∈come,0≤x∧x<(adj.length:Int)
 new:∀ x:Nat,x<adj.length→(ah x=-1↔(x:Int)∉come)
 pre:∃ rest,come=src ++ rest
 start:∀ j,j<src.length→ah (cAt come j).toNat=-2
 old:∀ j,src.length≤j→j<come.length→par j<j∧par j≤i∧ah (cAt come j).toNat=cAt come (par j)∧cAt come j∈Y8_ adj come (par j)∧(par j=i→cAt come j∈(Y8_ adj come i).take k)
 first:∀ j,src.length≤j→j<come.length→∀ m,m<par j→cAt come j∉Y8_ adj come m
 mono:∀ j l,src.length≤j→j<l→l<come.length→par j≤par l∧(par j=par l→cAt come j<cAt come l)
 closed:∀ m,m<i→m<come.length→∀ x∈Y8_ adj come m,x∈come
 some_:i<come.length→∀ x∈(Y8_ adj come i).take k,x∈come
section
variable {adj:List (List Int)} {src come:List Int} {ah:Nat→Int} {par:Nat→Nat} {i k:Nat}
theorem Xh2 (hs:Pts adj.length src) (ha:∀ x:Nat,ah x=if (x:Int)∈src then -2 else -1):Bfs adj src src ah (fun _=>0) 0 0:=by
 refine ⟨hs.up.imp fun o e=>by omega,hs.pt,fun x _=>?_,⟨[],j37_⟩,fun j g=>?_,fun j c d=>by omega,fun j c d=>by omega,fun j l c d h3=>by omega,fun m f=>by omega,fun _ x k=>by simp at k⟩
 ·rw [ha]
  split
  ·rename_i h
   exact ⟨fun e=>by omega,fun e=>absurd h e⟩
  ·rename_i h
   exact ⟨fun _=>h,fun _=>rfl⟩
 ·have f:=F8_ g
  have:=hs.pt _ f;rw [ha,if_pos]
  rwa [Int.toNat_of_nonneg this.1]
theorem Bfs.skip (h:Bfs adj src come ah par i k) (hi:i<come.length) (q:Nat) (g:(Y8_ adj come i)[k]?=some (q:Int)) (w:q<adj.length) (ha:ah q≠-1):Bfs adj src come ah par i (k+1):=by
 have s:k<(Y8_ adj come i).length:=(List.getElem?_eq_some_iff.1 g).1;have m:(Y8_ adj come i).take (k+1)=(Y8_ adj come i).take k ++ [(q:Int)]:=by
  rw [List.take_succ_eq_append_getElem s,(List.getElem?_eq_some_iff.1 g).2]
 have r:(q:Int)∈come:=Classical.byContradiction fun u=>ha ((h.new q w).2 u);refine ⟨h.nodup,h.pt,h.new,h.pre,h.start,fun j o p=>?_,h.first,h.mono,h.closed,fun _ x f=>?_⟩
 ·obtain ⟨a,b,c,d,e⟩:=h.old j o p
  exact ⟨a,b,c,d,fun v=>by rw [m];exact List.mem_append.2 (.inl (e v))⟩
 ·rw [m,List.mem_append,List.mem_singleton] at f
  rcases f with f | f
  ·exact h.some_ hi x f
  ·rw [f];exact r
theorem M4_ {come:List Int} {q:Int} {m:Nat} (h:m<come.length):Y8_ adj (come ++ [q]) m=Y8_ adj come m:=by unfold Y8_;rw [M3_ h]
theorem Bfs.visit (hd:Dig adj) (h:Bfs adj src come ah par i k) (hi:i<come.length) (q:Nat) (s:(Y8_ adj come i)[k]?=some (q:Int)) (H:q<adj.length) (ha:ah q=-1) :
  Bfs adj src (come ++ [(q:Int)]) (updI ah q (cAt come i)) (fun j=>if j=come.length then i else par j) i (k+1):=by
 have A:k<(Y8_ adj come i).length:=(List.getElem?_eq_some_iff.1 s).1;have y:(Y8_ adj come i).take (k+1)=(Y8_ adj come i).take k ++ [(q:Int)]:=by
  rw [List.take_succ_eq_append_getElem A,(List.getElem?_eq_some_iff.1 s).2]
 have v:(q:Int)∉come:=(h.new q H).1 ha;have G:(q:Int)∈Y8_ adj come i:=List.mem_iff_getElem?.2 ⟨k,s⟩;have F:∀ x∈come,x.toNat≠q:=fun x f e=>v (by
  have:=(h.pt x f).1;rw [show (q:Int)=x by omega];exact f)
 have z:∀ x∈come,updI ah q (cAt come i) x.toNat=ah x.toNat:=fun x f=>if_neg (F x f);obtain ⟨rest,D⟩:=h.pre;have J:src.length≤come.length:=by rw [D,List.length_append];omega
 have u:∀ {j},j<(come ++ [(q:Int)]).length→j<come.length∨j=come.length:=fun {j} g=>by rw [List.length_append] at g;simp at g;omega
 refine ⟨?_,fun x f=>?_,fun x f=>?_,⟨rest ++ [(q:Int)],by rw [D,List.append_assoc]⟩,fun j g=>?_,fun j p r=>?_,fun j p r m o=>?_,fun j l p r h3=>?_,fun m o I x f=>?_,fun _ x f=>?_⟩
 ·rw [List.nodup_append]
  refine ⟨h.nodup,j37_,fun a ha b hb e=>v ?_⟩;rw [List.mem_singleton] at hb;rw [← hb,← e];exact ha
 ·rw [List.mem_append,List.mem_singleton] at f
  rcases f with f | f
  ·exact h.pt x f
  ·rw [f];omega
 ·rw [List.mem_append,List.mem_singleton,not_or]
  by_cases e:x=q
  ·subst e
   rw [show updI ah x (cAt come i) x=cAt come i from if_pos rfl];have:=(h.pt _ (F8_ hi)).1;exact ⟨fun hc=>by omega,fun hc=>absurd rfl hc.2⟩
  ·rw [show updI ah q (cAt come i) x=ah x from if_neg e,h.new x f]
   exact ⟨fun hc=>⟨hc,x37_⟩,fun hc=>hc.1⟩
 ·rw [M3_ x37_,z _ (F8_ x37_)]
  exact h.start j g
 ·rcases u r with g | g
  ·rw [if_neg x37_,M3_ g,z _ (F8_ g)]
   obtain ⟨a,b,c,d,e⟩:=h.old j p g;rw [M3_ x37_,M4_ x37_];refine ⟨a,b,c,d,fun w=>?_⟩;rw [M4_ hi,y];exact List.mem_append.2 (.inl (e w))
  ·subst g
   rw [if_pos rfl,Ye9,M3_ hi,M4_ hi];refine ⟨hi,Nat.le_refl _,?_,G,fun _=>?_⟩
   ·rw [Int.toNat_natCast]
    exact if_pos rfl
   ·rw [y]
    exact List.mem_append.2 (.inr j37_)
 ·rcases u r with g | g
  ·rw [if_neg x37_] at o
   have:=(h.old j p g).1;rw [M3_ g,M4_ x37_];exact h.first j p g m o
  ·subst g
   rw [if_pos rfl] at o;rw [Ye9,M4_ x37_];exact fun f=>v (h.closed m o x37_ _ f)
 ·rcases u h3 with hl | hl
  ·rw [if_neg x37_,if_neg x37_,M3_ x37_,M3_ hl]
   exact h.mono j l p r hl
  ·subst hl
   rw [if_neg x37_,if_pos rfl,M3_ r,Ye9];obtain ⟨_,b,_,_,e⟩:=h.old j p r;refine ⟨b,fun w=>?_⟩;have o:=e w;obtain ⟨m,E,B⟩:=List.mem_iff_getElem.1 o;rw [List.length_take] at E;rw [List.getElem_take] at B;have:=List.pairwise_iff_getElem.1 (hd.up (cAt come i).toNat) m k (by show m<(Y8_ adj come i).length;omega) A x37_;rw [← B,← (List.getElem?_eq_some_iff.1 s).2];exact this
 ·have C:m<come.length:=by omega
  rw [M4_ C] at f;exact List.mem_append.2 (.inl (h.closed m o C x f))
 ·rw [M4_ hi,y,List.mem_append,List.mem_singleton] at f
  rcases f with f | f
  ·exact List.mem_append.2 (.inl (h.some_ hi x f))
  ·rw [f];exact List.mem_append.2 (.inr j37_)
theorem Bfs.next (h:Bfs adj src come ah par i k) (o:(Y8_ adj come i).length≤k):Bfs adj src come ah par (i+1) 0:=by
 refine ⟨h.nodup,h.pt,h.new,h.pre,h.start,fun j h1 h2=>?_,h.first,h.mono,fun m p g x f=>?_,fun _ x f=>by simp at f⟩
 ·exact q22_
 ·by_cases e:m=i
  ·subst e
   exact h.some_ g x (by rw [List.take_of_length_le o];exact f)
  ·exact h.closed m x37_ g x f
theorem Bfs.len (h:Bfs adj src come ah par i k):come.length≤adj.length:=by
 have:=nodup_le (b:=(List.range adj.length).map Int.ofNat) h.nodup fun x c=>by
  have:=h.pt x c;exact x13_
 simpa using this
def Done (adj:List (List Int)) (src come:List Int) (ah:Nat→Int) (par:Nat→Nat):Prop:=Bfs adj src come ah par come.length 0
theorem Done.closed (h:Done adj src come ah par) {x y:Int} (d:x∈come) (e:y∈adj.getD x.toNat []):y∈come:=by
 obtain ⟨j,c,rfl⟩:=Zd5 d;exact Bfs.closed h j c c y e
theorem Done.has (h:Done adj src come ah par) {x:Int} (c:x∈src):x∈come:=by
 obtain ⟨rest,e⟩:=Bfs.pre h;rw [e];exact List.mem_append.2 (.inl c)
theorem Done.least (h:Done adj src come ah par) (S:Int→Prop) (f:∀ x∈src,S x) (g:∀ x y,x∈come→S x→y∈adj.getD x.toNat []→S y):∀ x∈come,S x:=by
 have p:∀ m j,j<m→j<come.length→S (cAt come j):=by
  intro m
  induction m with
  | zero=>intro j c;omega
  | succ m ih =>
   intro j c k;obtain ⟨rest,e⟩:=Bfs.pre h;by_cases hs:j<src.length
   ·refine f _ ?_
    have:cAt come j=cAt src j:=by
     unfold cAt;rw [e,List.getD_eq_getElem?_getD,List.getElem?_append_left hs,← List.getD_eq_getElem?_getD]
    rw [this];exact F8_ hs
   ·obtain ⟨a,_,_,d,_⟩:=Bfs.old h j x37_ k
    exact g _ _ (F8_ x37_) (ih _ x37_ x37_) d
 intro x o;obtain ⟨j,c,rfl⟩:=Zd5 o;exact p (j+1) j x37_ c
inductive Way (come:List Int) (par:Nat→Nat) (ns:Nat):Nat→List Int→Prop
 | start (j:Nat):j<ns→Way come par ns j [cAt come j]
 | next (j:Nat) (l:List Int):ns≤j→Way come par ns (par j) l→Way come par ns j (l ++ [cAt come j])
theorem Jy6 (h:Done adj src come ah par):∀ j,j<come.length→∃ l,Way come par src.length j l:=by
 have e:∀ m j,j<m→j<come.length→∃ l,Way come par src.length j l:=by
  intro m
  induction m with
  | zero=>intro j c;omega
  | succ m ih =>
   intro j c d;by_cases hs:j<src.length
   ·exact ⟨_,.start j hs⟩
   ·obtain ⟨a,_⟩:=Bfs.old h j x37_ d
    obtain ⟨l,hl⟩:=ih (par j) x37_ x37_;exact ⟨_,.next j l x37_ hl⟩
 exact fun j c=>e (j+1) j x37_ c
end
def Zk0 (p:Int) (st:List Int × (Nat→Int)) (q:Int):List Int × (Nat→Int):=if st.2 q.toNat=-1 then (st.1 ++ [q],updI st.2 q.toNat p) else st
def A5_ (adj:List (List Int)) (st:List Int × (Nat→Int)) (i k:Nat):List Int × (Nat→Int):=((Y8_ adj st.1 i).take k).foldl (Zk0 (cAt st.1 i)) st
def stepS (adj:List (List Int)) (st:List Int × (Nat→Int)) (i:Nat):List Int × (Nat→Int):=if i<st.1.length then A5_ adj st i (Y8_ adj st.1 i).length else st
def Jy7 (src:List Int):List Int × (Nat→Int):=(src,fun x=>if (x:Int)∈src then -2 else -1)
def runS (adj:List (List Int)) (src:List Int):Nat→List Int × (Nat→Int)
 | 0=>Jy7 src
 | i+1=>stepS adj (runS adj src i) i
def finS (adj:List (List Int)) (src:List Int):List Int × (Nat→Int):=runS adj src adj.length
section
variable {adj:List (List Int)} {src:List Int} {st:List Int × (Nat→Int)} {i k:Nat}
theorem Xz5:A5_ adj st i 0=st:=rfl
theorem Zk1 (h:k<(Y8_ adj st.1 i).length):A5_ adj st i (k+1)=Zk0 (cAt st.1 i) (A5_ adj st i k) ((Y8_ adj st.1 i).getD k 0):=by
 unfold A5_;rw [List.take_succ_eq_append_getElem h,List.foldl_append];rw [show (Y8_ adj st.1 i).getD k 0=(Y8_ adj st.1 i)[k] by simp [List.getD,h]];rfl
theorem Zd6 (hd:Dig adj) (par:Nat→Nat) (hi:i<st.1.length) (h:Bfs adj src st.1 st.2 par i 0):∀ k,k≤(Y8_ adj st.1 i).length→(∃ rest,(A5_ adj st i k).1=st.1 ++ rest)∧∃ d,Bfs adj src (A5_ adj st i k).1 (A5_ adj st i k).2 d i k
 | 0,_=>⟨⟨[],by simp [Xz5]⟩,par,h⟩
 | k+1,hk=>by
  obtain ⟨⟨rest,hr⟩,d,hb⟩:=Zd6 hd par hi h k x37_;have c:k<(Y8_ adj st.1 i).length:=x37_;have f:i<(A5_ adj st i k).1.length:=by rw [hr,List.length_append];omega
  have hc:cAt (A5_ adj st i k).1 i=cAt st.1 i:=z20_;have ha:Y8_ adj (A5_ adj st i k).1 i=Y8_ adj st.1 i:=by unfold Y8_;rw [hc]
  have m:(Y8_ adj st.1 i)[k]∈Y8_ adj st.1 i:=List.getElem_mem c;have o:=hd.pt _ _ m;obtain ⟨q,g⟩:∃ q:Nat,(Y8_ adj st.1 i)[k]=(q:Int):=⟨(Y8_ adj st.1 i)[k].toNat,x37_⟩;have j:(Y8_ adj (A5_ adj st i k).1 i)[k]?=some (q:Int):=by rw [ha,List.getElem?_eq_getElem c,g]
  rw [Zk1 c,show (Y8_ adj st.1 i).getD k 0=(q:Int) by rw [← g];simp [List.getD,c]];unfold Zk0;rw [Int.toNat_natCast];split
  ·rename_i e
   have:=hb.visit hd f q j x37_ e;rw [hc] at this;exact ⟨⟨rest ++ [(q:Int)],by rw [hr,List.append_assoc]⟩,_,this⟩
  ·rename_i e
   exact ⟨⟨rest,hr⟩,d,hb.skip f q j x37_ e⟩
theorem Vx9 (hd:Dig adj) (par:Nat→Nat) (h:Bfs adj src st.1 st.2 par i 0):∃ f,Bfs adj src (stepS adj st i).1 (stepS adj st i).2 f (i+1) 0:=by
 unfold stepS;split
 ·rename_i hi
  obtain ⟨⟨rest,hr⟩,f,hb⟩:=Zd6 hd par hi h (Y8_ adj st.1 i).length (Nat.le_refl _);refine ⟨f,hb.next ?_⟩;have hc:cAt (A5_ adj st i (Y8_ adj st.1 i).length).1 i=cAt st.1 i:=z20_;unfold Y8_ at hb ⊢;rw [show adj.getD (cAt st.1 i).toNat []=Y8_ adj st.1 i from rfl] at *
  rw [hc];exact Nat.le_refl _
 ·rename_i hi
  refine ⟨par,h.nodup,h.pt,h.new,h.pre,h.start,fun j h1 h2=>?_,h.first,h.mono,fun m k g=>?_,fun h1=>by omega⟩
  ·exact q22_
  ·exact h.closed m x37_ g
theorem Yf0 (hd:Dig adj) (hs:Pts adj.length src):∀ i,∃ par,Bfs adj src (runS adj src i).1 (runS adj src i).2 par i 0
 | 0=>⟨fun _=>0,Xh2 hs fun _=>rfl⟩
 | i+1=>by
  obtain ⟨par,h⟩:=Yf0 hd hs i;exact Vx9 hd par h
theorem fin_done (hd:Dig adj) (hs:Pts adj.length src):∃ par,Done adj src (finS adj src).1 (finS adj src).2 par:=by
 obtain ⟨par,h⟩:=Yf0 hd hs adj.length;have hl:=h.len;refine ⟨par,h.nodup,h.pt,h.new,h.pre,h.start,fun j f g=>?_,h.first,h.mono,fun m k o=>h.closed m (by unfold finS at k;omega) o,fun f=>by omega⟩;obtain ⟨a,b,c,d,e⟩:=h.old j f g;unfold finS at *
 exact ⟨a,x37_,c,d,fun p=>by omega⟩
theorem Yn9 (hl:(runS adj src i).1.length≤i):∀ m,i≤m→runS adj src m=runS adj src i
 | 0,h=>by
  have:i=0:=x37_;rw [this]
 | m+1,h=>by
  by_cases e:i=m+1
  ·rw [e]
  ·have c:=Yn9 hl m x37_
   show stepS adj (runS adj src m) m=_;rw [c];unfold stepS;rw [if_neg x37_]
end
section
variable {adj:List (List Int)} {src come:List Int} {ah:Nat→Int} {par:Nat→Nat}
theorem Xh3 (h:Done adj src come ah par) {j:Nat} (c:j<src.length):cAt come j∈src:=by
 obtain ⟨rest,e⟩:=Bfs.pre h;have:cAt come j=cAt src j:=by
  unfold cAt;rw [e,List.getD_eq_getElem?_getD,List.getElem?_append_left c,← List.getD_eq_getElem?_getD]
 rw [this];exact F8_ c
structure WayF (adj:List (List Int)) (src come:List Int) (j:Nat) (l:List Int):Prop where
 pos:0<l.length
 last:l.getD (l.length - 1) 0=cAt come j
 head:l.getD 0 0∈src
 each:∀ i,i<l.length→∃ m,m≤j∧l.getD i 0=cAt come m∧(i+1<l.length→m<j)∧(0<i→src.length≤m)
 arc:∀ i,i+1<l.length→l.getD (i+1) 0∈adj.getD (l.getD i 0).toNat []
end
inductive Lev (par:Nat→Nat) (ns:Nat):Nat→Nat→Prop
 | z (j:Nat):j<ns→Lev par ns j 0
 | s (j k:Nat):ns≤j→Lev par ns (par j) k→Lev par ns j (k+1)
section
variable {adj:List (List Int)} {src dst come:List Int} {ah:Nat→Int} {par:Nat→Nat}
theorem Vf0 (h:Done adj src come ah par):∀ j,j<come.length→∃ k,Lev par src.length j k:=by
 have f:∀ m j,j<m→j<come.length→∃ k,Lev par src.length j k:=by
  intro m
  induction m with
  | zero=>intro j c;omega
  | succ m ih =>
   intro j c d;by_cases hs:j<src.length
   ·exact ⟨0,.z j hs⟩
   ·obtain ⟨a,_⟩:=Bfs.old h j x37_ d
    obtain ⟨k,e⟩:=ih (par j) x37_ x37_;exact ⟨k+1,.s j k x37_ e⟩
 exact fun j c=>f (j+1) j x37_ c
theorem Zq0 (h:Done adj src come ah par):∀ {i a:Nat},Lev par src.length i a→∀ {j b:Nat},Lev par src.length j b→i≤j→j<come.length→a≤b:=by
 intro i a hi
 induction hi with
 | z=>intros;omega
 | s i k hs hk ih =>
  intro j b d g c;cases d with
  | z _ hz=>omega
  | s _ b' hs' hb =>
   obtain ⟨m,_⟩:=Bfs.old h j hs' c;have f:par i≤par j:=by
    by_cases e:i=j
    ·rw [e];exact Nat.le_refl _
    ·exact ((Bfs.mono h i j hs x37_ c).1)
   have:=ih hb f x37_;omega
theorem Yo0 (h:Done adj src come ah par) {i a b:Nat} (hi:i<come.length) (c:Lev par src.length i a) (d:Lev par src.length i b):a=b :=
 Nat.le_antisymm (Zq0 h c d (Nat.le_refl _) hi) (Zq0 h d c (Nat.le_refl _) hi)
theorem Yf1 (h:Done adj src come ah par) {i a:Nat} (hi:i<come.length) (ha:Lev par src.length i a) {y:Int} (f:y∈adj.getD (cAt come i).toNat []) :
  ∃ m b,m<come.length∧cAt come m=y∧Lev par src.length m b∧b≤a+1∧(src.length≤m→par m≤i):=by
 obtain ⟨m,c,e⟩:=Zd5 (h.closed (F8_ hi) f);obtain ⟨b,hb⟩:=Vf0 h m c;have d:src.length≤m→par m≤i:=fun hs=>by
  refine Nat.le_of_not_lt fun g=>?_;exact Bfs.first h m hs c i g (by rw [e];exact f)
 refine ⟨m,b,c,e,hb,?_,d⟩;cases hb with
 | z=>omega
 | s _ b' hs hb' =>
  have:=Zq0 h hb' ha (d hs) hi;omega
theorem Zo8 (h:Done adj src come ah par) {j D:Nat} (f:∀ i,i<j→cAt come i∉dst) (d:Lev par src.length j D):∀ (n i a:Nat),i<come.length→Lev par src.length i a→Near adj dst n (cAt come i)→D≤a+n
 | 0,i,a,hi,ha,c=>by
  have g:j≤i:=Nat.le_of_not_lt fun k=>f i k c;exact Zq0 h d ha g hi
 | n+1,i,a,hi,ha,c=>by
  rcases c with c | ⟨y,p,c⟩
  ·have:=Zo8 h f d n i a hi ha c
   omega
  ·obtain ⟨m,b,o,e,hb,q,_⟩:=Yf1 h hi ha p
   rw [← e] at c;have:=Zo8 h f d n m b o hb c;omega
theorem Yx3 (h:Done adj src come ah par) (hs:src.Pairwise (·<·)) {i m:Nat} (hi:i<src.length) (d:m<src.length) (g:cAt come m<cAt come i):m<i:=by
 obtain ⟨rest,e⟩:=Bfs.pre h;have f:∀ k,k<src.length→∀ c:k<src.length,cAt come k=src[k]:=fun k c _=>by
  unfold cAt;rw [e,List.getD_eq_getElem?_getD,List.getElem?_append_left c,List.getElem?_eq_getElem c];rfl
 rw [f m d d,f i hi hi] at g;refine Nat.lt_of_not_le fun j=>?_;by_cases e:i=m
 ·subst e;omega
 ·have:=List.pairwise_iff_getElem.1 hs i m hi d x37_
  omega
def NoE (adj:List (List Int)) (dst come:List Int) (par:Nat→Nat) (ns i k n:Nat):Prop:=∀ m,m<i→Lev par ns m k→¬ Near adj dst n (cAt come m)
theorem Xz6 (h:Done adj src come ah par) (hs:src.Pairwise (·<·)) {j D:Nat} (T:∀ i,i<j→cAt come i∉dst) (Q:Lev par src.length j D) {i:Nat} {l:List Int} (H:Way come par src.length i l) :
  i<come.length→∀ k n tail,Lev par src.length i k→k+n=D→Near adj dst n (cAt come i)→NoE adj dst come par src.length i k n→((n=0∧tail=[])∨∃ f,n=f+1∧Greedy adj dst (adj.getD (cAt come i).toNat []) f tail)→Greedy adj dst src D (l ++ tail):=by
 have g:=Zo8 h T Q
 induction H with
 | start i his =>
  intro hi k n tail v K d hE B;have R:k=0:=Yo0 h hi v (.z i his);subst R;have hsm:∀ y∈src,∃ m,m<src.length∧m<come.length∧cAt come m=y:=fun y hy=>by
   obtain ⟨rest,e⟩:=Bfs.pre h;obtain ⟨m,hm,I⟩:=Zd5 hy;refine ⟨m,hm,by rw [e,List.length_append];omega,?_⟩;rw [← I];unfold cAt;rw [e,List.getD_eq_getElem?_getD,List.getElem?_append_left hm,← List.getD_eq_getElem?_getD]
  rcases B with ⟨rfl,rfl⟩ | ⟨f,rfl,u⟩
  ·have:D=0:=by omega
   subst this;refine .stop _ _ (Xh3 h his) d fun y hy hlt=>?_;exact z25_
  ·have:D=f+1:=by omega
   subst this;refine .step _ _ _ _ (Xh3 h his) d (fun y hy hc=>?_) (fun y hy hlt=>?_) u
   ·obtain ⟨m,hm,S,rfl⟩:=hsm y hy
    have:=g _ _ _ S (.z m hm) hc;omega
   ·exact z25_
 | next i l hsi H ih =>
  intro hi k n tail v K d hE B;obtain ⟨W,_,_,O,_⟩:=Bfs.old h i hsi hi;have A:par i<come.length:=x37_;cases v with
  | z _ hz=>omega
  | s _ k' _ hk' =>
  have r:cAt come i∈adj.getD (cAt come (par i)).toNat []:=O;have N:Near adj dst (n+1) (cAt come (par i)):=.inr ⟨_,r,d⟩;have C:∀ q,q<come.length→Lev par src.length q k'→∀ y∈adj.getD (cAt come q).toNat [],Near adj dst n y→∃ m,m<come.length∧cAt come m=y∧Lev par src.length m (k' + 1)∧src.length≤m∧par m≤q:=fun q E o y hy c=>by
   obtain ⟨m,b,hm,e,hb,w,x⟩:=Yf1 h E o hy;rw [← e] at c;have V:=g n m b hm hb c;have P:b=k' + 1:=x37_;subst P;have hsm:src.length≤m:=Nat.le_of_not_lt fun hlt=>by
    have:=Yo0 h hm hb (.z m hlt);omega
   exact ⟨m,hm,e,hb,hsm,x hsm⟩
  have L:NoE adj dst come par src.length (par i) k' (n+1):=fun q E o c=>by
   have F:q<come.length:=x37_;rcases c with c | ⟨y,hy,c⟩
   ·have:=g n q k' F o c
    omega
   ·obtain ⟨m,hm,e,hb,hsm,x⟩:=C q F o y hy c
    rw [← e] at c;refine hE m (Nat.lt_of_not_le fun w=>?_) hb c;by_cases p:i=m
    ·subst p;omega
    ·have:=(Bfs.mono h i m hsi x37_ hm).1
     omega
  have G:∀ y∈adj.getD (cAt come (par i)).toNat [],y<cAt come i→¬ Near adj dst n y:=fun y hy hlt c=>by
   obtain ⟨m,hm,e,hb,hsm,x⟩:=C (par i) A hk' y hy c;rw [← e] at c hlt;refine hE m (Nat.lt_of_not_le fun w=>?_) hb c;by_cases p:i=m
   ·subst p;omega
   ·obtain ⟨U,J⟩:=Bfs.mono h i m hsi x37_ hm
    have:=J x37_;omega
  have M:Greedy adj dst (adj.getD (cAt come (par i)).toNat []) n (cAt come i :: tail):=by
   rcases B with ⟨rfl,rfl⟩ | ⟨f,rfl,u⟩
   ·exact .stop _ _ r d fun y hy hlt hc=>G y hy hlt hc
   ·refine .step _ _ _ _ r d (fun y hy hc=>?_) G u
    obtain ⟨m,b,hm,e,hb,w,_⟩:=Yf1 h A hk' hy;rw [← e] at hc;have:=g f m b hm hb hc;omega
  have:=ih A k' (n+1) (cAt come i :: tail) hk' x37_ N L (.inr ⟨n,rfl,M⟩);rw [List.append_assoc];exact this
theorem greedy_first (h:Done adj src come ah par) (hs:src.Pairwise (·<·)) {j:Nat} (d:j<come.length) (f:cAt come j∈dst) (e:∀ i,i<j→cAt come i∉dst) {l:List Int} (k:Way come par src.length j l):∃ n,Greedy adj dst src n l:=by
 obtain ⟨D,c⟩:=Vf0 h j d;have:=Xz6 h hs e c k d D 0 [] c x37_ f (fun m g _ hc=>e m g hc) (.inl ⟨rfl,rfl⟩);rw [List.append_nil] at this;exact ⟨D,this⟩
end
end Go.Proofs.YtnaebbjodfnooaaGreatDoor.Wp.R
namespace Go.Proofs.YtnaebbjodfnooaaGreatDoor.Wp
open Go Go.RowKit
def gapG (s A B:List Int) (x y:Int):Int:=if hasB s x=true then wt A x - wt A y else wt B y - wt B x
def N1_ (s A B:List Int) (adj:List (List Int)):List (List Int):=(upTo adj.length).map fun x=>(adj.getD x.toNat []).filter fun y=>decide (gapG s A B x y=0)
def topL (w l:List Int):List Int:=l.filter fun x=>l.all fun y=>decide (wt w y≤wt w x)
section
variable {s A B w l:List Int} {adj:List (List Int)}
theorem Zk2 (hs:IsSet s) {x y:Nat} (c:memP s x=true):gapG s A B x y=A.getD x 0 - A.getD y 0:=by
 unfold gapG;rw [Zy8 hs,if_pos c];rfl
theorem Zy2 (hs:IsSet s) {x y:Nat} (c:memP s x=false):gapG s A B x y=B.getD y 0 - B.getD x 0:=by
 unfold gapG;rw [Zy8 hs,c,if_neg q38_];rfl
theorem O5_:(N1_ s A B adj).length=adj.length:=by unfold N1_;rw [List.length_map,Q3_]
theorem Zo9 {x:Nat} (c:x<adj.length):(N1_ s A B adj).getD x []=(adj.getD x []).filter fun y=>decide (gapG s A B x y=0):=by
 unfold N1_ upTo;simp [List.getD,c]
theorem O6_ {x:Nat} {y:Int} (c:x<adj.length):y∈(N1_ s A B adj).getD x []↔y∈adj.getD x []∧gapG s A B x y=0:=by
 rw [Zo9 c,List.mem_filter,decide_eq_true_iff]
theorem Xh4 {x:Nat} (c:adj.length≤x):(N1_ s A B adj).getD x []=[]:=by
 rw [List.getD_eq_getElem?_getD,List.getElem?_eq_none (by rw [O5_];exact c)];rfl
theorem Xh5 (hd:DigP adj):DigP (N1_ s A B adj):=by
 refine ⟨by rw [O5_];exact hd.1,fun x=>?_⟩;by_cases d:x<adj.length
 ·rw [Zo9 d,O5_]
  exact ⟨(hd.2 x).1.filter _,fun y c=>(hd.2 x).2 y (List.mem_filter.1 c).1⟩
 ·rw [Xh4 x37_]
  exact ⟨J1_,fun y c=>by cases c⟩
theorem S6_ {x:Int} (h:x∈topL w l):x∈l:=(List.mem_filter.1 h).1
theorem Zd7 {x:Int} (h:x∈topL w l):∀ y:Nat,(y:Int)∈l→w.getD y 0≤wt w x:=fun y d=>by
 have c:=List.all_eq_true.1 (List.mem_filter.1 h).2 y d;exact of_decide_eq_true c
theorem Zd8 {x:Int} (h:x∈l) (c:∀ y∈l,wt w y≤wt w x):x∈topL w l:=List.mem_filter.2 ⟨h,List.all_eq_true.2 fun y d=>decide_eq_true (c y d)⟩
theorem Yf2 {n:Nat} (h:InN n l):InN n (topL w l):=⟨h.1.filter _,fun x c=>h.2 x (S6_ c)⟩
end
section
variable {a b:Mat} {s A B:List Int}
theorem Xz7 (h:Common a b s) (xf:Ex (nN a) (rkP 4 a) (memP s) fun i=>A.getD i 0) (xg:Ex (nN a) (rkP 4 b) (memP s) fun i=>B.getD i 0) {d:Nat} {l:List Int}
  (q:Greedy (N1_ s A B (adjG a b s)) (topL B (addG b s)) (topL A (addG a s)) d l) :
  (turnL s l).length=s.length+1∧Common a b (turnL s l)∧Ex (nN a) (rkP 4 a) (memP (turnL s l)) (fun i=>A.getD i 0)∧Ex (nN a) (rkP 4 b) (memP (turnL s l)) fun i=>B.getD i 0:=by
 obtain ⟨Q,v⟩:=mayI_iff.1 (J7_ h.ia);obtain ⟨x0,_⟩:=mayI_iff.1 (J7_ h.ib);have hn:=(Y0_ Q).2;have xn:=q.length;have J:=rk_of Q;have F:=rk_of x0;rw [h.nn] at F;have Y:=M8_ h.ia;have M:=M8_ h.ib;rw [h.nn] at M;have W:∀ i,i<l.length→0≤l.getD i 0∧l.getD i 0<(nN a:Int):=by
  intro i
  induction i with
  | zero=>intro _;exact mem_upTo.1 (List.mem_filter.1 (S6_ q.first)).1
  | succ i ih =>
   intro hi;have u:=ih x37_;have o:=q.arcs i hi;exact Vf9 (x:=(l.getD i 0).toNat) (b:=b) (s:=s) x37_ ((O6_ (by rw [B0_];omega)).1 o).1
 obtain ⟨p,hp⟩:∃ p:Nat→Nat,∀ i,p i=(l.getD i 0).toNat:=⟨_,fun _=>rfl⟩;have r:∀ i,i<l.length→l.getD i 0=(p i:Int):=fun i hi=>by rw [hp];have:=W i hi;omega
 have c:∀ i,i<l.length→p i<nN a:=fun i hi=>by have:=W i hi;have:=r i hi;omega
 have X:∀ i j,i<l.length→j<l.length→(l.getD j 0∈(N1_ s A B (adjG a b s)).getD (l.getD i 0).toNat []↔(p j:Int)∈(adjG a b s).getD (p i) []∧gapG s A B (p i) (p j)=0):=fun i j hi hj=>by
  have:=c i hi;rw [r j hj,r i hi,Int.toNat_natCast,O6_ (by rw [B0_];exact this)]
 have P:∀ i,i+1<l.length→(p (i+1):Int)∈(adjG a b s).getD (p i) []:=fun i hi=>((X i (i+1) x37_ hi).1 (q.arcs i hi)).1;have x4:∀ i,i+1<l.length→gapG s A B (p i) (p (i+1))=0:=fun i hi=>((X i (i+1) x37_ hi).1 (q.arcs i hi)).2;have x7:∀ i j,i+2≤j→j<l.length→gapG s A B (p i) (p j)=0→¬ (p j:Int)∈(adjG a b s).getD (p i) []:=fun i j I hj u o=>q.straight i j I hj ((X i j x37_ hj).2 ⟨o,u⟩);have V:∀ i,i<l.length→memP s (p i)=decide (i % 2=1):=by
  intro i
  induction i with
  | zero =>
   intro hi;have o:=S6_ q.first;rw [r 0 hi,M7_ h.ia] at o;rw [o.2.1];rfl
  | succ i ih =>
   intro hi;have u:=ih x37_;rcases (K4_ h (c i x37_) (c (i+1) hi)).1 (P i hi) with ⟨o,h2,_⟩ | ⟨o,h2,_⟩
   ·rw [o] at u
    have:=of_decide_eq_true u.symm;rw [h2];exact (decide_eq_false x37_).symm
   ·rw [h2] at u
    have:=of_decide_eq_false u.symm;rw [o];exact (decide_eq_true x37_).symm
 have T:=S6_ q.last;rw [r d x37_,M7_ h.ib,h.nn] at T;have xm:d % 2=0:=by
  have o:=V d x37_;rw [T.2.1] at o;have:=of_decide_eq_false o.symm;omega
 obtain ⟨k,rfl⟩:∃ k,d=2 * k:=⟨d / 2,x37_⟩;have x5:∀ i j,i≤2 * k→j≤2 * k→p i=p j→i=j:=fun i j hi hj e=>by
  rcases Nat.lt_trichotomy i j with U | xh | U
  ·exact absurd (by rw [r i x37_,r j x37_,e]) (q.inj i j U x37_)
  ·exact xh
  ·exact absurd (by rw [r i x37_,r j x37_,e]) (q.inj j i U x37_)
 have w:∀ i,i≤k→memP s (p (2 * i))=false:=fun i hi=>by rw [V _ x37_];exact decide_eq_false x37_
 have hwi:∀ i,i<k→memP s (p (2 * i+1))=true:=fun i hi=>by rw [V _ x37_];exact decide_eq_true x37_
 have C:Zig (nN a) (memP s) p k:=⟨fun i hi=>c i x37_,x5,w,hwi⟩;have gA:∀ {x y:Nat},memP s x=true→gapG s A B x y=A.getD x 0 - A.getD y 0:=fun g=>Zk2 v.1 g;have gB:∀ {x y:Nat},memP s x=false→gapG s A B x y=B.getD y 0 - B.getD x 0:=fun g=>Zy2 v.1 g;have xb:∀ {f:(Nat→Bool)→Nat},Rk (nN a) f→∀ {x y:Nat},x<nN a→y<nN a→memP s y=true→memP s x=false→¬ f (insP (remP (memP s) y) x)=cnt (memP s) (nN a)→f (insP (remP (memP s) y) x)<cnt (memP s) (nN a):=fun L x y g D o h2 xk=>by
  have l1:=L.le_cnt (insP (remP (memP s) y) x);have c1:=R0_ g D o h2;omega
 have one:∀ {f:(Nat→Bool)→Nat},Rk (nN a) f→f (memP s)=cnt (memP s) (nN a)→∀ {x:Nat},x<nN a→¬ f (insP (memP s) x)=cnt (memP s) (nN a)+1→f (insP (memP s) x)=f (memP s):=fun L hs x g xk=>by
  have u1:=L.up' (memP s) g;have u2:=L.one' (memP s) g;omega
 have x2:=S6_ q.first;have x1:∀ z:Nat,(z:Int)∈addG a s→A.getD z 0≤A.getD (p 0) 0:=fun z C=>by
  have:=Zd7 q.first z C
  rwa [r 0 x37_] at this
 have x6:∀ z:Nat,(z:Int)∈addG b s→B.getD z 0≤B.getD (p (2 * k)) 0:=fun z C=>by
  have:=Zd7 q.last z C
  rwa [r _ x37_] at this
 rw [r 0 x37_,M7_ h.ia] at x2;have x8:WStraight (nN a) (rkP 4 a) (memP s) p k (fun i=>A.getD i 0):=by
  refine ⟨x2.2.2,fun z C N R=>x1 z ((M7_ h.ia).2 ⟨C,N,R⟩),fun i hi E=>?_,fun i hi=>?_,fun i hi=>?_,fun i j I hj E=>?_,xf⟩
  ·refine one J Y (c _ x37_) fun e=>q.notFirst (2 * i+2) x37_ x37_ ?_
   rw [r _ x37_];have G:=(M7_ h.ia).2 ⟨c _ x37_,w (i+1) x37_,e⟩;refine Zd8 G fun y D=>?_;have xl:=mem_upTo.1 (List.mem_filter.1 D).1;have:=x1 y.toNat (by rwa [show ((y.toNat:Nat):Int)=y by omega]);show A.getD y.toNat 0≤A.getD (p (2 * i+2)) 0
   try simp only at E
   omega
  ·rcases (K4_ h (c (2 * i+1) x37_) (c (2 * i+2) x37_)).1 (P (2 * i+1) x37_) with ⟨_,_,h3⟩ | ⟨o,_,_⟩
   ·exact h3
   ·have:=w (i+1) x37_
    rw [show 2 * (i+1)=2 * i+2 by omega,o] at this;cases this
  ·have:=x4 (2 * i+1) x37_
   rw [gA (hwi i hi),show 2 * i+1+1=2 * i+2 from rfl] at this;show A.getD (p (2 * i+1)) 0=A.getD (p (2 * i+2)) 0;omega
  ·refine xb J (c _ x37_) (c _ x37_) (hwi i x37_) (w (j+1) x37_) fun e=>x7 (2 * i+1) (2 * j+2) x37_ x37_ ?_ ?_
   ·rw [gA (hwi i x37_)];(try simp only at E);omega
   ·exact (K4_ h (c _ x37_) (c _ x37_)).2 (.inl ⟨hwi i x37_,w (j+1) x37_,e⟩)
 have xa:Zig (nN a) (memP s) (fun i=>p (2 * k - i)) k:=by
  refine ⟨fun i _=>c _ x37_,fun i j hi hj e=>by have:=x5 _ _ x37_ x37_ e;omega,fun i hi=>?_,fun i hi=>?_⟩
  ·show memP s (p (2 * k - 2 * i))=false
   rw [show 2 * k - 2 * i=2 * (k - i) by omega];exact w _ x37_
  ·show memP s (p (2 * k - (2 * i+1)))=true
   exact q25_
 have x9:WStraight (nN a) (rkP 4 b) (memP s) (fun i=>p (2 * k - i)) k (fun i=>B.getD i 0):=by
  refine ⟨T.2.2,fun z C N R=>x6 z ((M7_ h.ib).2 ⟨by rw [h.nn];exact C,N,by rw [h.nn];exact R⟩),fun i hi E=>?_,fun i hi=>?_,fun i hi=>?_,fun i j I hj E=>?_,xg⟩
  ·show rkP 4 b (insP (memP s) (p (2 * k - (2 * i+2))))=_
   refine one F M (c _ x37_) fun e=>q.notLast (2 * k - (2 * i+2)) x37_ ?_;rw [r _ x37_];have G:(p (2 * k - (2 * i+2)):Int)∈addG b s:=by
    rw [M7_ h.ib,h.nn];refine ⟨c _ x37_,?_,e⟩;rw [show 2 * k - (2 * i+2)=2 * (k - i - 1) by omega];exact w _ x37_
   refine Zd8 G fun y D=>?_;have xl:=mem_upTo.1 (List.mem_filter.1 D).1;have:=x6 y.toNat (by rwa [show ((y.toNat:Nat):Int)=y by omega]);show B.getD y.toNat 0≤B.getD (p (2 * k - (2 * i+2))) 0
   try simp only [Nat.sub_zero] at E
   omega
  ·show rkP 4 b (insP (remP (memP s) (p (2 * k - (2 * i+1)))) (p (2 * k - (2 * i+2))))=_
   have e1:2 * k - (2 * i+1)=2 * k - (2 * i+2)+1:=x37_;have u:=P (2 * k - (2 * i+2)) x37_;rw [← e1] at u;rcases (K4_ h (c _ x37_) (c _ x37_)).1 u with ⟨o,_,_⟩ | ⟨_,_,h3⟩
   ·have:=w (k - i - 1) x37_
    rw [show 2 * (k - i - 1)=2 * k - (2 * i+2) by omega,o] at this;cases this
   ·exact h3
  ·show B.getD (p (2 * k - (2 * i+1))) 0=B.getD (p (2 * k - (2 * i+2))) 0
   have u:=x4 (2 * k - (2 * i+2)) x37_;have g:=w (k - i - 1) x37_;rw [show 2 * (k - i - 1)=2 * k - (2 * i+2) by omega] at g;rw [gB g,show 2 * k - (2 * i+2)+1=2 * k - (2 * i+1) by omega] at u;omega
  ·show rkP 4 b (insP (remP (memP s) (p (2 * k - (2 * i+1)))) (p (2 * k - (2 * j+2))))<_
   have D:memP s (p (2 * k - (2 * i+1)))=true:=q25_;have g:memP s (p (2 * k - (2 * j+2)))=false:=by
    rw [show 2 * k - (2 * j+2)=2 * (k - j - 1) by omega];exact w _ x37_
   refine xb F (c _ x37_) (c _ x37_) D g fun e=>x7 (2 * k - (2 * j+2)) (2 * k - (2 * i+1)) x37_ x37_ ?_ ?_
   ·rw [gB g];(try simp only at E);omega
   ·exact (K4_ h (c _ x37_) (c _ x37_)).2 (.inr ⟨D,g,e⟩)
 have ta:=Zl7 J Y C x8;have tb:=Zl7 F M xa x9;have xc:=Xm0 J Y C x8;have xd:=Xm0 F M xa x9;have xi:∀ i:Nat,(i:Int)∈l↔∃ j,j≤2 * k∧p j=i:=fun i=>by
  constructor
  ·intro hi
   obtain ⟨j,hj,e⟩:=List.mem_iff_getElem.1 hi;have:=r j hj;rw [show l.getD j 0=l[j] by simp [List.getD,hj],e] at this;exact ⟨j,x37_,x37_⟩
  ·rintro ⟨j,hj,e⟩
   rw [← e,← r j x37_];exact Y9_ 0 x37_
 have G:∀ x∈l,0≤x∧x<(nN a:Int):=fun x g=>by
  obtain ⟨j,hj,e⟩:=List.mem_iff_getElem.1 g;have:=W j hj
  rwa [show l.getD j 0=l[j] by simp [List.getD,hj],e] at this
 have x3:∀ x∈l,Fit x:=fun x g=>by have:=G x g;exact ⟨x37_,x37_⟩
 have xj:l.Nodup:=by
  rw [List.nodup_iff_pairwise_ne,List.pairwise_iff_getElem];intro i j hi hj I e;refine q.inj i j I hj ?_;simp [List.getD,hi,hj,e]
 have K:InN (nN a) (sortL l):=⟨J8_ l,fun x g=>G x ((B4_ x l).1 g).1⟩;have ht:turnL s l=Y3_ (Z5_ s (sortL l)) (Z5_ (sortL l) s):=by
  unfold turnL;rw [if_pos ⟨I9_ v.1,Vq9 xj x3⟩]
 have O:InN (nN a) (turnL s l):=by rw [ht];exact A8_ (Zg1 v K) (Zg1 K v)
 have hany:∀ i:Nat,((List.range (2 * k+1)).any fun j=>p j==i)=true↔(i:Int)∈l:=fun i=>by
  rw [List.any_eq_true,xi];constructor
  ·rintro ⟨j,hj,e⟩;rw [List.mem_range] at hj;exact ⟨j,x37_,by simpa using e⟩
  ·rintro ⟨j,hj,e⟩;exact ⟨j,List.mem_range.2 x37_,by simpa using e⟩
 have eT:∀ i,memP (turnL s l) i=turnP (memP s) p k i:=fun i=>by
  rw [Bool.eq_iff_iff,memP_iff,ht,Q2_ (Q1_ _ _) (Q1_ _ _),Y4_ v.1 K.1,Y4_ K.1 v.1,B4_];unfold turnP;rw [bne_iff_ne];have hf:(i:Int)∈l→Fit (i:Int):=fun h=>x3 _ h;rw [← memP_iff];cases o:memP s i<;>cases h2:((List.range (2 * k+1)).any fun j=>p j==i)
  ·exact z22_
  ·have:=(hany i).1 h2
   simp [this,hf this]
  ·exact z22_
  ·have:=(hany i).1 h2
   simp [this,hf this]
 have Z:∀ i,i<nN a→turnP (memP s) (fun i=>p (2 * k - i)) k i=turnP (memP s) p k i:=fun i _=>z5_;rw [F.ext Z,V9_ Z] at tb;have H:memP (turnL s l)=turnP (memP s) p k:=funext eT;have S:(turnL s l).length=s.length+1:=by rw [X3_ O,X3_ v,H];exact ta.2
 have xe:turnP (memP s) (fun i=>p (2 * k - i)) k=turnP (memP s) p k:=funext fun i=>z5_;rw [xe,← H] at xd;rw [← H] at xc;refine ⟨S,⟨h.n,?_,?_⟩,Yp7 J xc,Yp7 F xd⟩
 ·rw [E4_ (mayI_iff.2 ⟨Q,O⟩),H,S,X3_ v]
  exact ta.1
 ·rw [E4_ (m:=b) (mayI_iff.2 ⟨x0,by rw [h.nn];exact O⟩),H,S,X3_ v]
  exact tb.1
end
def mostL (w l:List Int):Int:=l.foldl (fun m x=>max m (wt w x)) (-9223372036854775808)
def gapsL (s A B:List Int) (adj:List (List Int)) (src dst come:List Int):List Int :=
 come.flatMap (fun x=>(Z5_ (adj.getD x.toNat []) come).map (gapG s A B x)) ++ ((Z5_ src come).map (fun x=>mostL A src - wt A x) ++ (meetL dst come).map (fun x=>mostL B dst - wt B x))
def V1_ (w l:List Int) (d:Int):List Int:=(List.range w.length).map fun i=>w.getD i 0+if memP l i=true then d else 0
theorem U7_ (w l:List Int) (d:Int):(V1_ w l d).length=w.length:=by simp [V1_]
theorem Zq1 {w l:List Int} {d:Int} {i:Nat} (hi:i<w.length):(V1_ w l d).getD i 0=w.getD i 0+if memP l i=true then d else 0:=by
 unfold V1_;simp [List.getD,hi]
theorem Zd9 (w:List Int):∀ (l:List Int) (m:Int),m≤l.foldl (fun m x=>max m (wt w x)) m∧(∀ y∈l,wt w y≤l.foldl (fun m x=>max m (wt w x)) m)∧(l.foldl (fun m x=>max m (wt w x)) m=m∨∃ z∈l,wt w z=l.foldl (fun m x=>max m (wt w x)) m)
 | [],m=>⟨Int.le_refl _,fun y c=>(by cases c),.inl rfl⟩
 | x :: l,m=>by
  obtain ⟨f,d,h3⟩:=Zd9 w l (max m (wt w x));rw [List.foldl_cons];refine ⟨x37_,fun y c=>?_,?_⟩
  ·rcases List.mem_cons.1 c with rfl | c
   ·omega
   ·exact d y c
  ·rcases h3 with h3 | ⟨z,e,h3⟩
   ·by_cases g:wt w x≤m
    ·exact .inl x37_
    ·exact .inr ⟨x,j37_,x37_⟩
   ·exact .inr ⟨z,by simp [e],h3⟩
theorem H6_ {w l:List Int} {y:Int} (h:y∈l):wt w y≤mostL w l:=(Zd9 w l _).2.1 y h
theorem U8_ {w l:List Int} (h:l≠[]) (hb:∀ y∈l,-9223372036854775808≤wt w y):∃ z∈l,wt w z=mostL w l:=by
 rcases (Zd9 w l (-9223372036854775808)).2.2 with e | c
 ·obtain ⟨y,d⟩:=List.exists_mem_of_ne_nil l h
  refine ⟨y,d,?_⟩;have c:=H6_ (w:=w) d;have f:=hb y d;unfold mostL at c ⊢;omega
 ·exact c
structure Sp (a b:Mat) (w s A B:List Int):Prop where
 com:Common a b s
 la:A.length=nN a
 lb:B.length=nN a
 sum:∀ i,i<nN a→A.getD i 0+B.getD i 0=w.getD i 0
 ea:Ex (nN a) (rkP 4 a) (memP s) fun i=>A.getD i 0
 eb:Ex (nN a) (rkP 4 b) (memP s) fun i=>B.getD i 0
noncomputable def A9_ (a b:Mat) (s A B:List Int):List (List Int):=N1_ s A B (adjG a b s)
noncomputable def comeS (a b:Mat) (s A B:List Int):List Int:=itL (A9_ a b s A B) (topL A (addG a s)) (A9_ a b s A B).length
def NoWay (a b:Mat) (s A B:List Int):Prop:=∀ y∈topL A (addG a s),∀ k,¬ Near (A9_ a b s A B) (topL B (addG b s)) k y
noncomputable def gapsS (a b:Mat) (s A B:List Int):List Int:=gapsL s A B (adjG a b s) (addG a s) (addG b s) (comeS a b s A B)
def MinIs (d:Int) (l:List Int):Prop:=d∈l∧∀ x∈l,d≤x
section
variable {a b:Mat} {w s A B:List Int} {d:Int}
theorem Common.dstIn (h:Common a b s):InN (nN a) (addG b s):=by have:=B1_ (m:=b) (s:=s) (by rw [h.nn];exact h.n64);rwa [h.nn] at this
theorem E0_:(A9_ a b s A B).length=nN a:=by unfold A9_;rw [O5_,B0_]
theorem E1_ (h:Common a b s):DigP (A9_ a b s A B):=Xh5 (Zx0 h.n64)
theorem M5_ (h:Common a b s):PtsP (A9_ a b s A B).length (topL A (addG a s)):=by rw [E0_];exact Yf2 (B1_ h.n64)
theorem G5_ (h:Common a b s):InN (nN a) (comeS a b s A B):=by
 have:=D0_ (E1_ (A:=A) (B:=B) h) (M5_ h) (A9_ a b s A B).length;unfold comeS;rw [E0_] at this ⊢;exact this
theorem Yx4 (h:Common a b s) {x:Int} (c:x∈topL A (addG a s)):x∈comeS a b s A B:=Zs2 (E1_ h) (M5_ h) _ x c
theorem Yx5 (h:Common a b s) {x:Nat} {y:Int} (e:x<nN a) (d:(x:Int)∈comeS a b s A B) (f:y∈(adjG a b s).getD x []) (c:gapG s A B x y=0):y∈comeS a b s A B :=
 Zy9 (E1_ h) (M5_ h) d (by
  unfold A9_;rw [Int.toNat_natCast,O6_ (by rw [B0_];exact e)];exact ⟨f,c⟩)
theorem Yx6 (h:Common a b s):NoWay a b s A B↔∀ x∈comeS a b s A B,x∉topL B (addG b s):=by
 have hd:=E1_ (A:=A) (B:=B) h;have f:=M5_ (A:=A) (B:=B) h;constructor
 ·intro e x g hb
  obtain ⟨y,c,d⟩:=(K9_ hd _ _ f).1 ⟨x,g,hb⟩;exact e y c _ d
 ·intro e y c k d
  have j:=f.2 y c;obtain ⟨m,o,_,p⟩:=Zf1 hd j d;obtain ⟨x,g,hb⟩:=(K9_ (dst:=topL B (addG b s)) hd (A9_ a b s A B).length _ f).2 ⟨y,c,W4_ o p⟩;exact e x g hb
theorem U9_ (h:Common a b s) {g:Int}:g∈gapsS a b s A B ↔
  (∃ x y:Nat,x<nN a∧y<nN a∧(x:Int)∈comeS a b s A B∧(y:Int)∈(adjG a b s).getD x []∧(y:Int)∉comeS a b s A B∧g=gapG s A B x y) ∨
  (∃ x:Nat,x<nN a∧(x:Int)∈addG a s∧(x:Int)∉comeS a b s A B∧g=mostL A (addG a s) - A.getD x 0) ∨
  (∃ x:Nat,x<nN a∧(x:Int)∈addG b s∧(x:Int)∈comeS a b s A B∧g=mostL B (addG b s) - B.getD x 0):=by
 have j:=G5_ (A:=A) (B:=B) h;have o:=B1_ (m:=a) (s:=s) h.n64;have p:=h.dstIn;have hd:=Zx0 (b:=b) (s:=s) h.n64;unfold gapsS gapsL;rw [List.mem_append,List.mem_append,List.mem_flatMap,List.mem_map,List.mem_map];constructor
 ·rintro (⟨x,f,r⟩ | ⟨x,f,rfl⟩ | ⟨x,f,rfl⟩)
  ·obtain ⟨y,q,rfl⟩:=List.mem_map.1 r
   obtain ⟨u,v⟩:=(Y4_ (hd.2 _).1 j.1 y).1 q;have c:=j.2 x f;have e:=(hd.2 _).2 y u;rw [B0_] at e;have d:((x.toNat:Nat):Int)=x:=x37_;have k:((y.toNat:Nat):Int)=y:=x37_;exact .inl ⟨x.toNat,y.toNat,x37_,x37_,by rwa [d],by rwa [k],by rwa [k],by rw [d,k]⟩
  ·obtain ⟨c,e⟩:=(Y4_ o.1 j.1 x).1 f
   have h3:=o.2 x c;have d:((x.toNat:Nat):Int)=x:=x37_;exact .inr (.inl ⟨x.toNat,x37_,by rwa [d],by rwa [d],rfl⟩)
  ·obtain ⟨c,e⟩:=(G4_ p.1 j.1 x).1 f
   have h3:=p.2 x c;have d:((x.toNat:Nat):Int)=x:=x37_;exact .inr (.inr ⟨x.toNat,x37_,by rwa [d],by rwa [d],rfl⟩)
 ·rintro (⟨x,y,f,q,c,e,h3,rfl⟩ | ⟨x,f,c,e,rfl⟩ | ⟨x,f,c,e,rfl⟩)
  ·exact .inl ⟨x,c,List.mem_map.2 ⟨y,(Y4_ (hd.2 _).1 j.1 _).2 ⟨by rwa [Int.toNat_natCast],h3⟩,rfl⟩⟩
  ·exact .inr (.inl ⟨x,(Y4_ o.1 j.1 _).2 ⟨c,e⟩,rfl⟩)
  ·exact .inr (.inr ⟨x,(G4_ p.1 j.1 _).2 ⟨c,e⟩,rfl⟩)
theorem Sp.gap (h:Sp a b w s A B) {x y:Nat} (e:x<nN a) (f:y<nN a) (ha:(y:Int)∈(adjG a b s).getD x []):0≤gapG s A B x y:=by
 rcases (K4_ h.com e f).1 ha with ⟨c,d,h3⟩ | ⟨c,d,h3⟩
 ·rw [Zk2 h.com.set.1 c]
  have:=h.ea x y e f c d h3;simp only at this;omega
 ·rw [Zy2 h.com.set.1 d]
  have:=h.eb y x f e c d h3;simp only at this;omega
theorem I2_ {l:List Int} {n:Nat} (hl:InN n l) {p:Int→Prop} (h:∀ i:Nat,i<n→(i:Int)∈l→p i):∀ x∈l,p x:=fun x c=>by
 have:=hl.2 x c;have e:((x.toNat:Nat):Int)=x:=x37_;rw [← e];exact h _ x37_ (by rwa [e])
theorem Sp.shift (h:Sp a b w s A B) (x2:NoWay a b s A B) (hd:MinIs d (gapsS a b s A B)) (hA:∀ i,i<nN a→-9223372036854775808≤A.getD i 0) :
  0<d∧Sp a b w s (V1_ A (comeS a b s A B) (-d)) (V1_ B (comeS a b s A B) d)∧(∀ x∈comeS a b s A B,x∈comeS a b s (V1_ A (comeS a b s A B) (-d)) (V1_ B (comeS a b s A B) d)) ∧
   ((∃ x∈comeS a b s (V1_ A (comeS a b s A B) (-d)) (V1_ B (comeS a b s A B) d),x∉comeS a b s A B)∨¬ NoWay a b s (V1_ A (comeS a b s A B) (-d)) (V1_ B (comeS a b s A B) d)):=by
 have hc:=h.com;have E:=hc.set.1;have U:=G5_ (A:=A) (B:=B) hc;have Q:=fun {x:Int}=>Yx4 (B:=B) (A:=A) hc (x:=x);have V:=fun {x:Nat} {y:Int}=>Yx5 (A:=A) (B:=B) hc (x:=x) (y:=y);have x4:=(Yx6 hc).1 x2;have H:=B1_ (m:=a) (s:=s) hc.n64;have hT:=hc.dstIn;have v:=fun {g:Int}=>U9_ (A:=A) (B:=B) hc (g:=g);generalize x1:comeS a b s A B=W at *
 obtain ⟨Y,I⟩:=hd;have x5:0<d:=by
  rcases v.1 Y with ⟨x,y,c,f,j,o,h3,e⟩ | ⟨x,c,j,o,e⟩ | ⟨x,c,j,o,e⟩
  ·have g0:=h.gap c f o
   by_cases G:gapG s A B x y=0
   ·exact absurd (V c j o G) h3
   ·omega
  ·have K:=H6_ (w:=A) j
   have P:A.getD x 0≤mostL A (addG a s):=K;by_cases G:A.getD x 0=mostL A (addG a s)
   ·exact absurd (Q (Zd8 j fun y f=>by show wt A y≤A.getD x 0;rw [G];exact H6_ f)) o
   ·omega
  ·have P:B.getD x 0≤mostL B (addG b s):=H6_ (w:=B) j
   by_cases G:B.getD x 0=mostL B (addG b s)
   ·exact absurd (Zd8 j fun y f=>by show wt B y≤B.getD x 0;rw [G];exact H6_ f) (x4 _ o)
   ·omega
 obtain ⟨A',N⟩:∃ A',A'=V1_ A W (-d):=⟨_,rfl⟩;obtain ⟨B',O⟩:∃ B',B'=V1_ B W d:=⟨_,rfl⟩;have p:∀ i,i<nN a→A'.getD i 0=A.getD i 0+if memP W i=true then -d else 0:=fun i hi=>by rw [N];exact Zq1 (by rw [h.la];exact hi)
 have r:∀ i,i<nN a→B'.getD i 0=B.getD i 0+if memP W i=true then d else 0:=fun i hi=>by rw [O];exact Zq1 (by rw [h.lb];exact hi)
 rw [← N,← O];have x6:Sp a b w s A' B':=by
  refine ⟨hc,by rw [N,U7_];exact h.la,by rw [O,U7_];exact h.lb,fun i hi=>?_,fun y x f c D C J=>?_,fun y x f c D C J=>?_⟩
  ·have:=h.sum i hi
   rw [p i hi,r i hi];split<;>omega
  ·have u:=h.ea y x f c D C J
   simp only at u ⊢;rw [p x c,p y f];cases q:memP W x
   ·cases hyW:memP W y
    ·exact z24_
    ·have j:=I _ (v.2 (.inl ⟨y,x,f,c,memP_iff.1 hyW,(K4_ hc f c).2 (.inl ⟨D,C,J⟩),fun S=>(by rw [memP_iff.2 S] at q;cases q),rfl⟩))
     rw [Zk2 E D] at j;simp only [Bool.false_eq_true,if_false,if_true];omega
   ·simp only [if_true];split<;>omega
  ·have u:=h.eb y x f c D C J
   simp only at u ⊢;rw [r x c,r y f];cases hyW:memP W y
   ·cases q:memP W x
    ·exact z24_
    ·have j:=I _ (v.2 (.inl ⟨x,y,c,f,memP_iff.1 q,(K4_ hc c f).2 (.inr ⟨D,C,J⟩),fun S=>(by rw [memP_iff.2 S] at hyW;cases hyW),rfl⟩))
     rw [Zy2 E C] at j;simp only [Bool.false_eq_true,if_false,if_true];omega
   ·simp only [if_true];split<;>omega
 have x9:=G5_ (A:=A') (B:=B') hc;have Z:=fun {x:Int}=>Yx4 (B:=B') (A:=A') hc (x:=x);have X:=fun {x:Nat} {y:Int}=>Yx5 (A:=A') (B:=B') hc (x:=x) (y:=y);have x7:∀ x∈topL A (addG a s),x∈topL A' (addG a s):=I2_ (Yf2 H) fun x c L=>by
  have q:=Q L;refine Zd8 (S6_ L) (I2_ H fun y f F=>?_);show A'.getD y 0≤A'.getD x 0;have K:=Zd7 L y F;have K:A.getD y 0≤A.getD x 0:=K;rw [p x c,p y f,memP_iff.2 q];simp only [if_true];cases hyW:memP W y
  ·have j:=I _ (v.2 (.inr (.inl ⟨y,f,F,fun o=>(by rw [memP_iff.2 o] at hyW;cases hyW),rfl⟩)))
   obtain ⟨z,hz,ez⟩:=U8_ (w:=A) (l:=addG a s) (List.ne_nil_of_mem F) (I2_ H fun i hi _=>hA i hi);have o:wt A z≤A.getD x 0:=by
    have:=H.2 z hz;have h3:=Zd7 L z.toNat (by rwa [show ((z.toNat:Nat):Int)=z by omega]);exact h3
   exact q24_
  ·simp only [if_true];omega
 have R:∀ x∈W,x∈comeS a b s A' B':=by
  have x8:∀ k,∀ x∈itL (A9_ a b s A B) (topL A (addG a s)) k,x∈W∧x∈comeS a b s A' B':=by
   intro k
   induction k with
   | zero=>exact fun x c=>⟨Q c,Z (x7 x c)⟩
   | succ k ih =>
    intro x c;have hd:=E1_ (A:=A) (B:=B) hc;rcases ((H8_ hd (D0_ hd (M5_ hc) k)).2 x).1 c with c | ⟨y,f,c⟩
    ·exact ih x c
    ·obtain ⟨y1,y2⟩:=ih y f
     have xb:=U.2 y y1;have M:((y.toNat:Nat):Int)=y:=x37_;unfold A9_ at c;rw [O6_ (by rw [B0_];omega)] at c;have q:=V (x:=y.toNat) (y:=x) x37_ (by rwa [M]) c.1 c.2;have xa:=U.2 x q;have T:((x.toNat:Nat):Int)=x:=x37_;refine ⟨q,X (x:=y.toNat) (y:=x) x37_ (by rwa [M]) c.1 ?_⟩;have u:=c.2;rw [← T] at u ⊢;have m1:memP W y.toNat=true:=by rw [memP_iff,M];exact y1
     have m2:memP W x.toNat=true:=by rw [memP_iff,T];exact q
     cases hys:memP s y.toNat
     ·rw [Zy2 E hys] at u ⊢
      rw [r _ x37_,r _ x37_,m1,m2];simp only [if_true];omega
     ·rw [Zk2 E hys] at u ⊢
      rw [p _ x37_,p _ x37_,m1,m2];simp only [if_true];omega
  rw [← x1];exact fun x c=>(x8 _ x c).2
 refine ⟨x5,x6,R,?_⟩;rcases v.1 Y with ⟨x,y,c,f,j,o,h3,e⟩ | ⟨x,c,j,o,e⟩ | ⟨x,c,j,o,e⟩
 ·refine .inl ⟨(y:Int),X c (R _ j) o ?_,h3⟩
  have m1:memP W x=true:=memP_iff.2 j;have m2:memP W y=false:=by rw [← Bool.not_eq_true,memP_iff];exact h3
  cases hxs:memP s x
  ·rw [Zy2 E hxs] at e ⊢
   rw [r _ c,r _ f,m1,m2];simp only [if_true,Bool.false_eq_true,if_false];omega
  ·rw [Zk2 E hxs] at e ⊢
   rw [p _ c,p _ f,m1,m2];simp only [if_true,Bool.false_eq_true,if_false];omega
 ·refine .inl ⟨(x:Int),Z (Zd8 j (I2_ H fun y f F=>?_)),o⟩
  show A'.getD y 0≤A'.getD x 0;have m1:memP W x=false:=by rw [← Bool.not_eq_true,memP_iff];exact o
  have P:A.getD y 0≤mostL A (addG a s):=H6_ (w:=A) F;rw [p x c,p y f,m1];simp only [Bool.false_eq_true,if_false];cases hyW:memP W y
  ·have j:=I _ (v.2 (.inr (.inl ⟨y,f,F,fun o=>(by rw [memP_iff.2 o] at hyW;cases hyW),rfl⟩)))
   exact q24_
  ·simp only [if_true];omega
 ·refine .inr fun x3=>(Yx6 hc).1 x3 (x:Int) (R _ o) (Zd8 j (I2_ hT fun y f x0=>?_))
  show B'.getD y 0≤B'.getD x 0;have m1:memP W x=true:=memP_iff.2 o;have P:B.getD y 0≤mostL B (addG b s):=H6_ (w:=B) x0;rw [r x c,r y f,m1];simp only [if_true];cases hyW:memP W y
  ·exact q24_
  ·have j:=I _ (v.2 (.inr (.inr ⟨y,f,x0,memP_iff.1 hyW,rfl⟩)))
   simp only [if_true];omega
theorem Xh6 (h:Sp a b w s A B) (f:∀ i,i<nN a→-2147483648≤w.getD i 0∧w.getD i 0≤2147483648) {m:Int} (o:∀ x∈topL A (addG a s),wt A x=m) :
  ∀ k,∀ x∈itL (A9_ a b s A B) (topL A (addG a s)) k,m - 4294967296 * (k:Int)≤wt A x∧wt A x≤m+4294967296 * (k:Int):=by
 have hc:=h.com;have v:=hc.set.1;intro k
 induction k with
 | zero=>exact fun x c=>by have:=o x c;omega
 | succ k ih =>
  intro x c;have hd:=E1_ (A:=A) (B:=B) hc;have e:=D0_ hd (M5_ hc) k;rcases ((H8_ hd e).2 x).1 c with c | ⟨y,g,c⟩
  ·have:=ih x c;omega
  ·have u:=ih y g
   have q:=e.2 y g;rw [E0_] at q;have j:((y.toNat:Nat):Int)=y:=x37_;have p:=(hd.2 _).2 x c;rw [E0_] at p;have r:((x.toNat:Nat):Int)=x:=x37_;unfold A9_ at c;rw [O6_ (by rw [B0_];omega),j] at c;have d:=c.2;have z:=h.sum x.toNat x37_;have C:=h.sum y.toNat x37_;have D:=f x.toNat x37_;have E:=f y.toNat x37_;unfold gapG at d;unfold wt at *
   split at d<;>omega
theorem Sp.low (h:Sp a b w s A B) (hd:MinIs d (gapsS a b s A B)) (U:0<d) (g:∀ i,i<nN a→-2147483648≤w.getD i 0∧w.getD i 0≤2147483648) {D:Int} (Q:D≤4611686018427387904) (hA:∀ i,i<nN a→-D≤A.getD i 0∧A.getD i 0≤2147483648) :
  ∀ i,i<nN a→-(D+1099511627776)≤(V1_ A (comeS a b s A B) (-d)).getD i 0∧(V1_ A (comeS a b s A B) (-d)).getD i 0≤2147483648:=by
 have hc:=h.com;have C:=hc.set.1;have R:=G5_ (A:=A) (B:=B) hc;have r:=B1_ (m:=a) (s:=s) hc.n64;have u:=hc.dstIn;have S:=hc.n64;intro i hi;have O:=hA i hi;rw [Zq1 (by rw [h.la];exact hi)];cases hiW:memP (comeS a b s A B) i
 ·exact z24_
 ·simp only [if_true]
  refine ⟨?_,x37_⟩;have E:addG a s≠[]:=fun e=>by
   have f:=memP_iff.1 hiW;unfold comeS at f;have:∀ k,itL (A9_ a b s A B) (topL A (addG a s)) k=[]:=fun k=>by
    induction k with
    | zero=>rw [e];rfl
    | succ k ih=>show nearL _ _=[];rw [ih];rfl
   rw [this] at f;cases f
  obtain ⟨z,I,N⟩:=U8_ (w:=A) E (I2_ r fun i hi _=>by have:=(hA i hi).1;show _≤A.getD i 0;omega);have F:=Xh6 h g (m:=mostL A (addG a s)) (fun x c=>by
   have f:=H6_ (w:=A) (S6_ c);have j:=r.2 z I;have h3:=Zd7 c z.toNat (by rwa [show ((z.toNat:Nat):Int)=z by omega]);have h3:wt A z≤wt A x:=h3;omega) (A9_ a b s A B).length
  have o:∀ x:Nat,(x:Int)∈comeS a b s A B→mostL A (addG a s) - 274877906944≤A.getD x 0∧A.getD x 0≤mostL A (addG a s)+274877906944:=fun x c=>by
   have:=F x c;rw [E0_] at this;unfold wt at this;rw [Int.toNat_natCast] at this;omega
  have T:=o i (memP_iff.1 hiW);rcases (U9_ hc).1 hd.1 with ⟨x,y,c,p,f,j,h3,e⟩ | ⟨x,c,f,j,e⟩ | ⟨x,c,f,j,e⟩
  ·have G:=o x f
   have P:=hA y p;have J:=h.sum x c;have K:=h.sum y p;have L:=g x c;have M:=g y p;cases hxs:memP s x
   ·rw [Zy2 C hxs] at e
    omega
   ·rw [Zk2 C hxs] at e
    omega
  ·have:=hA x c
   omega
  ·have G:=o x j
   obtain ⟨v,H,q⟩:=U8_ (w:=B) (l:=addG b s) (List.ne_nil_of_mem f) (I2_ u fun i hi _=>by
    have:=h.sum i hi;have:=g i hi;have:=hA i hi;show _≤B.getD i 0;omega)
   have V:=u.2 v H;have q:B.getD v.toNat 0=mostL B (addG b s):=q;have J:=h.sum x c;have K:=h.sum v.toNat x37_;have L:=g x c;have M:=g v.toNat x37_;have:=hA v.toNat x37_;omega
theorem Sp.stop (h:Sp a b w s A B) (C:gapsS a b s A B=[]):Stop a b s:=by
 have hc:=h.com;have H:=G5_ (A:=A) (B:=B) hc;have p:=B1_ (m:=a) (s:=s) hc.n64;have G:=hc.dstIn;have none:∀ {g:Int},¬ g∈gapsS a b s A B:=fun q=>by rw [C] at q;cases q
 have j:=fun {g:Int}=>U9_ (A:=A) (B:=B) hc (g:=g);have u:∀ x∈addG a s,x∈comeS a b s A B:=I2_ p fun x E F=>Classical.byContradiction fun c=>none (j.2 (.inr (.inl ⟨x,E,F,c,rfl⟩)));have v:∀ k,∀ y:Nat,y<nN a→(y:Int)∈comeS a b s A B→¬ Near (adjG a b s) (addG b s) k y:=by
  intro k
  induction k with
  | zero=>exact fun y d e c=>none (j.2 (.inr (.inr ⟨y,d,c,e,rfl⟩)))
  | succ k ih =>
   intro y d e c;rcases c with c | ⟨z,f,c⟩
   ·exact ih y d e c
   ·rw [Int.toNat_natCast] at f
    have J:=Vf9 d f;have r:((z.toNat:Nat):Int)=z:=x37_;rw [← r] at f c;refine ih z.toNat x37_ ?_ c;exact Classical.byContradiction fun D=>none (j.2 (.inl ⟨y,z.toNat,d,x37_,e,f,D,rfl⟩))
 intro y d k c;have I:=p.2 y d;have o:((y.toNat:Nat):Int)=y:=x37_;exact v k y.toNat x37_ (by rw [o];exact u y d) (by rwa [o])
theorem Zp0 {t:List Int} (h:Common a b s) (hs:Stop a b s) (f:Common a b t):t.length≤s.length:=by
 have c:=chk_n (mayI_iff.1 (J7_ h.ia)).1;have d:=Xg8 h;have g:=D3_ c.1 c.2 d.1;have j:=Xh1 f g;have e:Yn8 a b (Z5_ (allL a.n) (comeL a b s))=(s.length:Int):=by
  unfold Yn8;rw [Xh0 c.1 c.2 d];exact Xg9 h hs
 omega
theorem Sp.best (h:Sp a b w s A B) {t:List Int} (c:Common a b t) (hl:t.length=s.length):sumW w t≤sumW w s:=by
 have f:=rk_of (mayI_iff.1 (J7_ h.com.ia)).1;have d:=rk_of (mayI_iff.1 (J7_ h.com.ib)).1;rw [h.com.nn] at d;have m:=M8_ h.com.ia;have j:=M8_ h.com.ib;have o:=M8_ c.ia;have k:=M8_ c.ib;rw [h.com.nn] at j k;have hc:cnt (memP t) (nN a)=cnt (memP s) (nN a):=by rw [← X3_ c.set,← X3_ h.com.set,hl]
 have p:=Xm1 f (Zr8 f m h.ea) o hc;have q:=Xm1 d (Zr8 d j h.eb) k hc;rw [Yj5 w c.set,Yj5 w h.com.set];have e:∀ P,sumP (fun i=>w.getD i 0) P (nN a)=sumP (fun i=>A.getD i 0) P (nN a)+sumP (fun i=>B.getD i 0) P (nN a):=fun P=>by
  rw [Zq6 (g:=fun i=>A.getD i 0+B.getD i 0) (Q:=P) (fun _ _=>rfl) fun i hi=>(h.sum i hi).symm];exact Yp9 _ _ P _
 rw [e,e];omega
end
end Go.Proofs.YtnaebbjodfnooaaGreatDoor.Wp
