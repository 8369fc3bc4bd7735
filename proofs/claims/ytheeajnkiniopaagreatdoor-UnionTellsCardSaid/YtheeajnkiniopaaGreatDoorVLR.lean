/- The document's rank of columns of layer 5, walked: elimination, row by row (VLR). -/
import Derived.Test.YtheeajnkiniopaaGreatDoorZL
import Derived.Test.YtheeajnkiniopaaGreatDoorZX
import Derived.Test.YtheeajnkiniopaaGreatDoorIJRef
import Derived.Test.YtheeajnkiniopaaGreatDoorZA
import Derived.Test.YtheeajnkiniopaaGreatDoorQTA
import Derived.StillTailTactics
import Derived.Deep.RegionWith
import Derived.Test.YtheeajnkiniopaaGreatDoorX0A
import Derived.Test.YtheeajnkiniopaaGreatDoorX0B
set_option maxHeartbeats 16000000
set_option maxRecDepth 100000
open Go.Lib (hid)
namespace Go.Proofs.YtheeajnkiniopaaGreatDoor.Wp.L
variable {p:Int} {R:Nat}
def RowsIn (p:Int) (R:Nat) (m:List (List Int)):Prop:=∀ i,i<m.length→InR p R (m.getD i [])
theorem B2_ {m:List (List Int)} {j:Nat} (h:j<(m.map vec).length):(m.map vec)[j]=vec (m.getD j []):=by
 have c:j<m.length:=y44_;simp [List.getD,c]
theorem RowsIn.get {m:List (List Int)} (h:RowsIn p R m) (d:0<p) (i r:Nat):0≤(m.getD i []).getD r 0∧(m.getD i []).getD r 0<p:=by
 by_cases c:i<m.length
 ·exact (h i c).get d r
 ·have:m.getD i []=[]:=by simp [List.getD,List.getElem?_eq_none (Nat.le_of_not_lt c)]
  rw [this];simp;exact d
def swapM (m:List (List Int)) (n a:Nat):List (List Int):=(m.set a (m.getD n [])).set n (m.getD a [])
theorem H7_ {m:List (List Int)} {n a:Nat}:(swapM m n a).length=m.length:=by simp [swapM]
theorem Zx0 {m:List (List Int)} {n a j:Nat} (f:n<m.length) (ha:a<m.length):(swapM m n a).getD j []=if j=n then m.getD a [] else if j=a then m.getD n [] else m.getD j []:=by
 unfold swapM;rw [List.getD_eq_getElem?_getD];by_cases c:j=n
 ·subst c
  rw [List.getElem?_set_self (by simpa using f),if_pos rfl];rfl
 ·rw [List.getElem?_set_ne (fun e=>c e.symm),if_neg c]
  by_cases d:j=a
  ·subst d
   rw [List.getElem?_set_self ha,if_pos rfl];rfl
  ·rw [List.getElem?_set_ne (fun e=>d e.symm),if_neg d,List.getD_eq_getElem?_getD]
theorem Vq4 {m:List (List Int)} {n a:Nat} (h:RowsIn p R m) (d:n<m.length) (ha:a<m.length):RowsIn p R (swapM m n a):=by
 intro j c;rw [H7_] at c;rw [Zx0 d ha];split
 ·exact h a ha
 ·split
  ·exact h n d
  ·exact h j c
theorem Xx5 {C:List Vec} {m:List (List Int)} {n row a:Nat} (h:Steps p R C (m.map vec) n row) (ha:a<m.length) (e:n≤a):Steps p R C ((swapM m n a).map vec) n row:=by
 have d:n<m.length:=q40_;refine h.swap (a:=a) (by simpa using ha) e (by simp [H7_]) fun j c f=>?_;rw [B2_ c,Zx0 d ha];split
 ·rw [B2_]
 ·split
  ·rw [B2_]
  ·rw [B2_]
theorem Xx6 {C:List Vec} {m:List (List Int)} {n row:Nat} (h:Steps p R C (m.map vec) n row) (d:∀ j,n≤j→j<m.length→(m.getD j []).getD row 0=0):Steps p R C (m.map vec) n (row+1) :=
 h.skip fun j hj c=>by
  rw [B2_ hj];unfold vec;rw [d j c x49_];exact Int.dvd_zero p
def subR (p:Int) (a x:List Int) (k:Int) (u:Nat):List Int:=(List.range a.length).map fun r=>if r<u then (a.getD r 0 - k * x.getD r 0) % p else a.getD r 0
theorem Q9_ {a x:List Int} {k:Int} {u:Nat}:(subR p a x k u).length=a.length:=by simp [subR]
theorem O9_ {a x:List Int} {k:Int} {u r:Nat} (h:r<a.length):(subR p a x k u).getD r 0=if r<u then (a.getD r 0 - k * x.getD r 0) % p else a.getD r 0:=by
 unfold subR;rw [R2_,if_pos h]
theorem Xm9 {a x:List Int} {k:Int}:subR p a x k 0=a:=by
 apply List.ext_getElem
 ·exact Q9_
 ·intro i d c
  simp [subR,List.getD,c]
theorem Xn0 {a x:List Int} {k:Int} {u:Nat}:(subR p a x k u).set u ((a.getD u 0 - k * x.getD u 0) % p)=subR p a x k (u+1):=by
 apply List.ext_getElem
 ·simp [Q9_]
 ·intro i j f
  have d:i<a.length:=by simpa [Q9_] using f
  have c:=O9_ (p:=p) (a:=a) (x:=x) (k:=k) (u:=u+1) d;rw [List.getD_eq_getElem?_getD,List.getElem?_eq_getElem f] at c;have e:=O9_ (p:=p) (a:=a) (x:=x) (k:=k) (u:=u) d;rw [List.getElem_set];by_cases h:u=i
  ·subst h
   rw [if_pos rfl];rw [if_pos q40_] at c;exact c.symm
  ·rw [if_neg h]
   rw [List.getD_eq_getElem?_getD,List.getElem?_eq_getElem (by rw [Q9_];exact d)] at e;have g:(i<u+1)=(i<u):=by
    apply propext;omega
   rw [show (subR p a x k u)[i]'(by rw [Q9_];exact d)=_ from e];rw [show (subR p a x k (u+1))[i]=_ from c];simp only [g]
theorem Vo2 {a x:List Int} {k:Int} (d:0<p) (h:InR p R a):InR p R (subR p a x k R) :=
 Zh3 (by rw [Q9_];exact h.1) fun r c=>by
  rw [O9_ (by rw [h.1];exact c),if_pos c];exact ⟨Int.emod_nonneg _ q40_,Int.emod_lt_of_pos _ d⟩
def subM (p:Int) (R:Nat) (inv:Int) (row n u:Nat) (m:List (List Int)):List (List Int) :=
 (List.range m.length).map fun q=>if n<q∧q<u then subR p (m.getD q []) (m.getD n []) ((m.getD q []).getD row 0 * inv % p) R else m.getD q []
theorem J1_ {inv:Int} {row n u:Nat} {m:List (List Int)}:(subM p R inv row n u m).length=m.length:=by simp [subM]
theorem E6_ {inv:Int} {row n u q:Nat} {m:List (List Int)} (h:q<m.length) :
  (subM p R inv row n u m).getD q []=if n<q∧q<u then subR p (m.getD q []) (m.getD n []) ((m.getD q []).getD row 0 * inv % p) R else m.getD q []:=by
 unfold subM;simp [List.getD,h]
theorem Xx7 {inv:Int} {row n:Nat} {m:List (List Int)}:subM p R inv row n (n+1) m=m:=by
 apply List.ext_getElem
 ·exact J1_
 ·intro i d c
  have:=E6_ (p:=p) (R:=R) (inv:=inv) (row:=row) (n:=n) (u:=n+1) c;rw [if_neg q40_] at this;simpa [List.getD,d,c] using this
theorem Xn1 {inv:Int} {row n u:Nat} {m:List (List Int)} (g:n<u) :
  (subM p R inv row n u m).set u (subR p (m.getD u []) (m.getD n []) ((m.getD u []).getD row 0 * inv % p) R)=subM p R inv row n (u+1) m:=by
 apply List.ext_getElem
 ·simp [J1_]
 ·intro i j f
  have c:i<m.length:=by simpa [J1_] using f
  have d:=E6_ (p:=p) (R:=R) (inv:=inv) (row:=row) (n:=n) (u:=u+1) c;have e:=E6_ (p:=p) (R:=R) (inv:=inv) (row:=row) (n:=n) (u:=u) c;rw [List.getD_eq_getElem?_getD,List.getElem?_eq_getElem f] at d;rw [List.getD_eq_getElem?_getD,List.getElem?_eq_getElem (by rw [J1_];exact c)] at e;rw [show (subM p R inv row n (u+1) m)[i]=_ from d,List.getElem_set];by_cases h:u=i
  ·subst h
   rw [if_pos rfl,if_pos ⟨g,q40_⟩]
  ·rw [if_neg h,show (subM p R inv row n u m)[i]'(by rw [J1_];exact c)=_ from e]
   by_cases h3:n<i∧i<u
   ·rw [if_pos h3,if_pos ⟨h3.1,q40_⟩]
   ·rw [if_neg h3,if_neg q40_]
theorem Vo3 {inv:Int} {row n u:Nat} {m:List (List Int)} (d:0<p) (h:RowsIn p R m):RowsIn p R (subM p R inv row n u m):=by
 intro q c;rw [J1_] at c;rw [E6_ c];split
 ·exact Vo2 d (h q c)
 ·exact h q c
theorem Xx8 {C:List Vec} {m:List (List Int)} {n row:Nat} {inv:Int} (B:1<p) (h:Steps p R C (m.map vec) n row) (z:RowsIn p R m) (s:n<m.length) (v:row<R) (k:p ∣ (m.getD n []).getD row 0 * inv - 1) :
  Steps p R C ((subM p R inv row n m.length m).map vec) (n+1) (row+1):=by
 have u:∀ q,q<m.length→∀ r,r<R→n<q→((subM p R inv row n m.length m).getD q []).getD r 0=((m.getD q []).getD r 0 - ((m.getD q []).getD row 0 * inv % p) * (m.getD n []).getD r 0) % p:=by
  intro q g r d A;rw [E6_ g,if_pos ⟨A,g⟩,O9_ (by rw [(z q g).1];exact d),if_pos d]
 refine h.take (by simpa using s) (by simp [J1_]) ?_ v (fun j c h2 f=>?_) (fun j c h2 f=>?_)
 ·rw [B2_]
  unfold vec;intro hd;have c:=Int.dvd_sub (Int.dvd_trans hd (Int.dvd_mul_right _ inv)) k;have e:(m.getD n []).getD row 0 * inv - ((m.getD n []).getD row 0 * inv - 1)=1:=q40_;rw [e] at c;have:=R8_ c q41_ B;exact absurd this q41_
 ·rw [B2_ c,B2_ h2,E6_ j49_,if_neg q40_]
 ·have o:j<m.length:=by simpa using h2
  refine ⟨?_,(m.getD j []).getD row 0 * inv % p,fun r d=>?_⟩
  ·rw [B2_ c]
   unfold vec;rw [u j o row v f];rw [Int.emod_eq_zero_of_dvd]
   ·exact Int.dvd_zero p
   ·have h3:=B4_ (p:=p) ((m.getD j []).getD row 0 * inv)
    have w:=Int.dvd_trans h3 (Int.dvd_mul_right _ ((m.getD n []).getD row 0));have x:=Int.dvd_trans k (Int.dvd_mul_left ((m.getD j []).getD row 0) _);have y:=Int.dvd_sub w x;have e:((m.getD j []).getD row 0 * inv - (m.getD j []).getD row 0 * inv % p) * (m.getD n []).getD row 0 - (m.getD j []).getD row 0 * ((m.getD n []).getD row 0 * inv - 1)
      = (m.getD j []).getD row 0 - ((m.getD j []).getD row 0 * inv % p) * (m.getD n []).getD row 0:=by
     rw [Int.mul_sub,Int.mul_one,Int.sub_mul,Int.mul_assoc,Int.mul_comm inv];omega
    rwa [e] at y
  ·rw [B2_ c,B2_ h2,B2_ (by simpa using s)]
   unfold vec;rw [u j o r d f];have h3:=(Int.dvd_neg).2 (B4_ (p:=p) ((m.getD j []).getD r 0 - (m.getD j []).getD row 0 * inv % p * (m.getD n []).getD r 0))
   rwa [Int.neg_sub] at h3
end Go.Proofs.YtheeajnkiniopaaGreatDoor.Wp.L
namespace Go.Proofs.YtheeajnkiniopaaGreatDoor.Wp.L
open Go.RowKit
def swapV (vs:List Value) (n a:Nat):List Value:=(vs.set a (vs.getD n undef)).set n (vs.getD a undef)
theorem P0_ {vs:List Value} {n a:Nat}:(swapV vs n a).length=vs.length:=by simp [swapV]
def sigma (n a i:Nat):Nat:=if i=n then a else if i=a then n else i
theorem Vq5 {n a i j:Nat} (h:i≠j):sigma n a i≠sigma n a j:=by
 unfold sigma
 repeat' split
 all_goals omega
theorem Zs4 {vs:List Value} {n a i:Nat} (hn:n<vs.length) (ha:a<vs.length):(swapV vs n a)[i]?=vs[sigma n a i]?:=by
 unfold swapV sigma;exact y8_
theorem Vq6 {m:List (List Int)} {n a i:Nat} (hn:n<m.length) (ha:a<m.length):(swapM m n a)[i]?=m[sigma n a i]?:=by
 unfold swapM sigma;exact y8_
theorem _root_.Go.Proofs.YtheeajnkiniopaaGreatDoor.Wp.Fam.swap {w:World} {B:Nat} {vs:List Value} {pp:List (List Int)} (h:Fam w B vs pp) {n a:Nat} (d:n<vs.length) (ha:a<vs.length):Fam w B (swapV vs n a) (swapM pp n a):=by
 have m:n<pp.length:=by rw [← h.1];exact d
 have g:a<pp.length:=by rw [← h.1];exact ha
 refine ⟨by rw [P0_,H7_,h.1],fun i v p c e=>?_,fun i j v u c f k=>?_⟩
 ·rw [Zs4 d ha] at c
  rw [Vq6 m g] at e;exact h.2.1 _ v p c e
 ·rw [Zs4 d ha] at c f
  exact h.2.2 _ _ v u c f (Vq5 k)
theorem _root_.Go.Proofs.YtheeajnkiniopaaGreatDoor.Wp.Fam.stored {w:World} {B:Nat} {vs:List Value} {pp:List (List Int)} (h:Fam w B vs pp) {at_ g c j:Nat} {q:List Int} (d:vs[at_]?=some (.slice (some ⟨g,0,none⟩) q.length c)) (o:pp[at_]?=some q) (x:Int) :
  Fam (w.setCell ⟨g,j,none⟩ (.int .i64 x)) B vs (pp.set at_ (q.set j x)):=by
 have m:=h.2.1 at_ _ _ d o;have hs:=m.stored j (.int .i64 x);have:=h.grow d hs.2 (u':=.slice (some ⟨g,0,none⟩) q.length c) (q:=q.set j x) (by
  rw [List.length_set,show ints (q.set j x)=(ints q).set j (.int .i64 x) by unfold ints;rw [List.map_set]];exact hs.1) (.inl rfl)
 have k:at_<vs.length:=(List.getElem?_eq_some_iff.1 d).1;have e:vs.set at_ (.slice (some ⟨g,0,none⟩) q.length c)=vs:=by
  apply List.ext_getElem?;intro i;by_cases f:i=at_
  ·subst f
   rw [List.getElem?_set_self k,d]
  ·rw [List.getElem?_set_ne (fun e=>f e.symm)]
 rwa [e] at this
theorem Xn2 (a p i:Int) (b:Bool) (c:invI a p=i) (d:invB a p=b) (w:World):Calls Tryz.prog 197 #[.int .i64 a,.int .i64 p] w (Gets w (.tuple #[.int .i64 i,.bool b])):=by
 subst c d;exact Xx4 a p w
theorem Xx9 (a p:Int) (w:World) (h:In31 p):Calls Tryz.prog 198 #[.int .i64 a,.int .i64 p] w fun e w'=>e=.returned (.int .i64 (a % p))∧w'=w:=by
 have:=P9_ a p w;unfold modI at this;rw [if_pos h] at this;exact this
structure Keep (w wr:World) (vm:Value) (vs:List Value) (M:List (List Int)):Prop where
 own:wr.ownsRow w.heap.size 23 1 vm vs.length vs
 fam:Fam wr w.heap.size vs M
 bel:Below w.heap.size w wr
theorem Keep.at_ {w wr:World} {A:Option Addr} {n c:Nat} {vs:List Value} {M:List (List Int)} (h:Keep w wr (.slice A n c) vs M) {i R:Nat} (m:i<vs.length) (v:0<R) (hl:(M.getD i []).length=R) :
  ∃ gm d g,A=some ⟨gm,0,none⟩∧w.heap.size≤gm∧wr.cell? ⟨gm,i,none⟩=some (.slice (some ⟨d,0,none⟩) R g)∧wr.frozen? ⟨gm,i,none⟩=false∧vs[i]?=some (.slice (some ⟨d,0,none⟩) R g)∧d≠gm ∧
   ∀ j,j<R→wr.cell? ⟨d,j,none⟩=some (.int .i64 ((M.getD i []).getD j 0))∧wr.frozen? ⟨d,j,none⟩=false:=by
 have s:i<M.length:=by rw [← h.fam.1];exact m
 obtain ⟨gm,u,q,r⟩:=K6_ h.own q40_;injection q with hA1 hA2 hA3;subst hA1;subst hA2;have hM:M[i]?=some (M.getD i []):=by simp [List.getD,s]
 have f:=h.fam.2.1 i _ _ (List.getElem?_eq_getElem m) hM;rw [hl] at f;obtain ⟨d,g,k,_⟩:=K6_ f q40_;have o:vs[i]?=some (.slice (some ⟨d,0,none⟩) R g):=by rw [List.getElem?_eq_getElem m,k]
 refine ⟨gm,d,g,rfl,r,?_,h.own.frozenAt i,o,?_,fun j x=>⟨?_,?_⟩⟩
 ·rw [h.own.cellAt i q40_]
  exact o
 ·rw [k] at f
  rcases Zx4 f h.own q41_ with e | e
  ·cases e
  ·intro p
   exact e (by rw [p];rfl)
 ·rw [k] at f
  rw [f.cellAt j q40_];exact U3_ q40_
 ·rw [k] at f
  exact f.frozenAt j
theorem Keep.swap {w wr:World} {gm n c:Nat} {vs:List Value} {M:List (List Int)} (h:Keep w wr (.slice (some ⟨gm,0,none⟩) n c) vs M) {k a:Nat} {f d:Value} (m:vs[k]?=some f) (ha:vs[a]?=some d) :
  Keep w ((wr.setCell ⟨gm,a,none⟩ f).setCell ⟨gm,k,none⟩ d) (.slice (some ⟨gm,0,none⟩) n c) (swapV vs k a) (swapM M k a):=by
 have r:=(List.getElem?_eq_some_iff.1 m).1;have q:=(List.getElem?_eq_some_iff.1 ha).1;have j:=(h.own.lt gm rfl).1;obtain ⟨_,_,s⟩:=A7_ h.own;injection s with _ hn _;subst hn;have g:=h.own.stored a f;have o:=g.1.stored k d;have e:swapV vs k a=(vs.set a f).set k d:=by
  unfold swapV;simp [List.getD,m,ha]
 refine ⟨?_,?_,(h.bel.setCell (p:=⟨gm,a,none⟩) j f).setCell (p:=⟨gm,k,none⟩) j d⟩
 ·rw [P0_,e]
  exact o.1
 ·exact ((h.fam.outer h.own g.2).outer g.1 o.2).swap r q
theorem Keep.below {w wr d:World} {c:Value} {vs:List Value} {M:List (List Int)} (h:Keep w wr c vs M) (hb:Below wr.heap.size wr d):Keep w d c vs M:=by
 have e:c.ownBlock=none∨c.ownBlock≠none:=by
  rcases c.ownBlock with _ | q
  ·exact .inl rfl
  ·exact .inr z40_
 exact ⟨h.own.kept (Z7_ hb none) e,h.fam.new (Z7_ hb none),Z0_ h.bel (Nat.le_refl _) hb⟩
theorem Keep.drew {w wr:World} {c:Value} {vs:List Value} {M:List (List Int)} (h:Keep w wr c vs M):Keep w wr.drew c vs M:=h.below (Below.refl _ _).drew
theorem Keep.store {w wr:World} {g:Value} {vs:List Value} {M:List (List Int)} (h:Keep w wr g vs M) {i c k j R:Nat} {q:List Int} (f:vs[i]?=some (.slice (some ⟨c,0,none⟩) R k)) (e:M[i]?=some q) (hl:q.length=R) (x:Int) :
  Keep w (wr.setCell ⟨c,j,none⟩ (.int .i64 x)) g vs (M.set i (q.set j x)):=by
 subst hl;have d:=h.fam.2.1 i _ _ f e;have hs:=d.stored j (.int .i64 x);refine ⟨h.own.kept hs.2 ?_,h.fam.stored f e x,h.bel.setCell (p:=⟨c,j,none⟩) (d.lt c rfl).1 _⟩;exact Zx4 h.own d q41_
theorem Yh1 (p:Int) (R:Nat) (v:Value) (cols:List (List Int)) (w:World) (xg:prB p=true) (hr:Rows2 w w.heap.size v cols) (hc:Zb2 p R cols) (hR:R≤64) (hn:cols.length≤64) :
  Calls Tryz.prog 168 #[.int .i64 p,.int .i64 R,v] w (Gets w (.int .i64 (rk p R (cols.map vec):Nat))):=by
 obtain ⟨U,x7,_⟩:=prB_iff.1 xg;have HP:=hid xg;have Hc:=hid hc;obtain ⟨A,c,rfl,_,yq⟩:=hr;have y7:=hid yq;have v7:(cols.length:Int)≤64:=q40_;have zs:=hid (Ym2 xg);have zv:=hid (fun a w=>Xx9 a p w ⟨q40_,x7⟩);obtain ⟨rr,xz⟩:∃ rr,rr=rk p R (cols.map vec):=⟨_,rfl⟩;rw [← xz];have zw:=hid xz;have yf:Hid ((w.alloc (.cells #[] 23)).ownsRow w.heap.size 23 1 (.slice (some ⟨w.heap.size,0,none⟩) 0 0) ([]:List Value).length ([]:List Value)) :=
  World.ownsRow_lit w #[] 0 (Nat.le_refl _) y41_ rfl
 have y6:=hid ((Below.refl w.heap.size w).alloc (Nat.le_refl _) (.cells #[] 23));clear xg hc yq xz
 go_enter Tryz.func168,Tryz.ntmps168
 go_wp2
 go_loopw [7,8] (fun vm I wr=>∃ (i:Nat) (vs:List Value),I=.int .i64 i∧i≤cols.length∧Keep w wr vm vs (cols.take i)) (fun _ I _=>cols.length - (intOf I).toNat)
 case atStart=>exact ⟨0,[],rfl,Nat.zero_le _,yf.out,Ya5 _ _,y6.out⟩
 case round =>
  obtain ⟨i,vs,rfl,hi,r⟩:=hrel;obtain ⟨vA,vc,rfl⟩:=A7_ r.own;have g:=hid r;clear yf y6 r;by_cases C:i<cols.length
  ·obtain ⟨ad,u,V,hab,yv,zb⟩:=y7.out i C
   subst V;have yo:=(g.out.bel.cell (p:=ad.add i) k41_).trans yv;have zx:=hid ((zb.below g.out.bel).mono g.out.bel.size);obtain ⟨Au,cu,rfl,_⟩:=zb;have z2:=Hc.out i C;have z4:=z2.1;have u2:Hid (cols.take (i+1)=cols.take i ++ [cols.getD i []]):=by
    show _=_;rw [List.take_succ_eq_append_getElem C];simp [List.getD,C]
   have Z:vs.length≤64:=by
    have:=g.out.fam.1;rw [List.length_take] at this;omega
   have vh:(vs.length:Int)≤64:=q40_;generalize cols.getD i []=col at *
   have uy:col.length≤64:=q40_;have yg:Hid ((wr.alloc (.cells #[] 3)).ownsRow wr.heap.size 3 1 (.slice (some ⟨wr.heap.size,0,none⟩) 0 0) ([]:List Int).length (ints [])) :=
    World.ownsRow_lit wr #[] 0 (Nat.le_refl _) y41_ rfl
   have ux:(wr.alloc (.cells #[] 3)).cell? (ad.add i)=some (.slice Au col.length cu):=(World.cell?_alloc_lt _ _ _ (by rw [Z2_];exact Nat.lt_of_lt_of_le hab g.out.bel.size)).trans yo;have uq:=hid z4;clear yv z2 z4 yo
   go_wp2_with (at_builtin;refine Z4_ rfl _ _ rfl wr.heap.size _ _ _ [] col rfl rfl yg.out (zx.out.upA _) z40_ q40_ z40_ ?_)
   intro u1 w1 xf yz;obtain ⟨s,c1,rfl⟩:=A7_ xf;have xo:=((Below.refl _ wr).alloc (Nat.le_refl _) (.cells #[] 3)).grown yz z40_ (fun k hk=>(yg.out.lt k hk).1);have xj:Hid (wr.grownBy w1 none):=Z7_ xo none;have x5:=hid (g.out.own.kept xj.out (by
    rcases (Value.slice vA vs.length vc).ownBlock with _ | q
    ·exact .inl rfl
    ·exact .inr z40_))
   have zp:=hid (g.out.fam.new xj.out);have zn:=hid (g.out.bel.grown xj.out g.out.bel.size (fun k e=>by cases e));have ye:=hid xf;have zo:Hid (∀ v∈vs,v.ownBlock=none∨v.ownBlock≠(Value.slice s col.length c1).ownBlock):=by
    intro v hv;rcases hb:v.ownBlock with _ | q
    ·exact .inl rfl
    ·right
     intro e;have T:=g.out.fam.lt hv hb;have U:=(xf.lt q e.symm).1;omega
   have Hcell2:Hid ((w1.alloc (.cells #[.slice s col.length c1] 23)).cell? ⟨w1.heap.size,0,none⟩=some (.slice s col.length c1)):=(Blk.new w1 23 #[.slice s col.length c1]).cell 0;have x2:=hid g.out.bel.size;have xi:=hid xo.size;clear xf yz xo
   go_wp2_with (at_builtin;refine X6_ rfl _ _ 35 23 (.slice none 0 0) 24 rfl Tryz.underlying35 Zw3 rfl w.heap.size _ (.slice s col.length c1) vs rfl (x5.out.alloc _) w1.heap.size rfl Hcell2.out rfl q40_ q40_ (by have:=x2.out;have:=xi.out;simp;omega) ?_)
   intro v3 w3 z9 x9 _;have Hkeep3:Hid (Keep w w3 v3 (vs ++ [.slice s col.length c1]) (cols.take (i+1))):=by
    refine ⟨by rw [List.length_append];exact z9,?_,?_⟩
    ·rw [u2.out]
     refine Fam.push ((zp.out.new (World.grownBy_alloc _ _ none)).outer (x5.out.alloc _) x9) ?_ zo.out;refine Vb4 ((ye.out.alloc _).kept x9 (Zx4 (ye.out.alloc (.cells #[.slice s col.length c1] 23)) (x5.out.alloc (.cells #[.slice s col.length c1] 23)) q41_)) x2.out
    ·exact (zn.out.alloc (by have:=x2.out;have:=xi.out;omega) _).grown x9 (by have:=x2.out;have:=xi.out;simp;omega) (fun k hk=>((x5.out.alloc (.cells #[.slice s col.length c1] 23)).lt k hk).1)
   clear z9 x9;go_wp2
   go_roundw
   case rel=>exact ⟨i+1,_,x41_,q40_,Hkeep3.out⟩
   exact mz_
  ·have xb:i=cols.length:=by omega
   subst xb;have Z:=g.out.fam.1;rw [List.take_length] at Z;have H:=hid g.out;rw [List.take_length] at H;rw [Z] at H;rw [Z];clear g y7 Z;go_wp2
   go_loopw [9,10] (fun vn y5 wq=>∃ (d row:Nat) (vs:List Value) (M:List (List Int)),vn=.int .i64 d∧y5=.int .i64 row∧row≤R∧d≤cols.length∧Keep w wq (.slice vA cols.length vc) vs M∧M.length=cols.length∧RowsIn p R M∧Steps p R (cols.map vec) (M.map vec) d row) (fun _ y5 _=>R - (intOf y5).toNat)
   case atStart=>exact ⟨0,0,vs,cols,rfl,rfl,Nat.zero_le _,Nat.zero_le _,H.out,rfl,Hc.out,Steps.start _⟩
   case round =>
    clear H vs;obtain ⟨d,row,vs,M,rfl,rfl,vb,z7,r,yj,L,zd⟩:=hrel;have g:=hid r;have J:=hid L;have x6:=hid zd;have HML:=hid yj;clear r L zd yj;by_cases C:row<R
    ·have vd:(row:Int)<(R:Int):=by omega
     have N:0<R:=q40_;go_wp2
     go_loop [11,12] (fun va I=>∃ i:Nat,I=.int .i64 i∧d≤i∧i≤cols.length∧((va=.int .i64 (-1)∧∀ j,d≤j→j<i→(M.getD j []).getD row 0=0)∨∃ a:Nat,va=.int .i64 a∧d≤a∧a<cols.length∧(M.getD a []).getD row 0≠0)) (fun _ I=>cols.length - (intOf I).toNat)
     case atStart=>exact ⟨d,rfl,Nat.le_refl _,z7,.inl ⟨rfl,fun j T U=>by omega⟩⟩
     case round =>
      obtain ⟨i,rfl,ul,v4,ym⟩:=hrel;by_cases xv:i<cols.length
      ·have v5:(i:Int)<(cols.length:Int):=by omega
       rcases ym with ⟨rfl,E⟩ | ⟨a,rfl,xn,ha2,Y⟩
       ·obtain ⟨gm,gi,ci,V,uf,uz,-,-,-,yr⟩:=g.out.at_ (i:=i) (by rw [g.out.fam.1,HML.out];exact xv) N ((J.out i (by rw [HML.out];exact xv)).1)
        subst V;have x8:=(yr row C).1;have Hz:=hid E;clear E yr;obtain ⟨x,F⟩:∃ x,x=(M.getD i []).getD row 0:=⟨_,rfl⟩;rw [← F] at x8;have Hx:=hid F;clear F;by_cases y3:x=0
        ·subst y3
         have uv:((0:Int) != 0)=false:=q41_;go_wp2
         go_round
         case rel =>
          refine ⟨i+1,x41_,q40_,q40_,.inl ⟨rfl,fun j T U=>?_⟩⟩;by_cases e:j=i
          ·rw [e];exact Hx.out.symm
          ·exact Hz.out j T q40_
         case measure=>simp [intOf];omega
        ·have vo:(x != 0)=true:=by simpa using y3
         go_wp2
         go_round
         case rel=>exact ⟨i+1,x41_,q40_,q40_,.inr ⟨i,rfl,ul,xv,by rw [← Hx.out];exact y3⟩⟩
         exact mz_
       ·have xh:=hid Y
        have u9:¬ (a:Int)<0:=q40_;clear Y;go_wp2
        go_round
        case rel=>exact ⟨i+1,x41_,q40_,q40_,.inr ⟨a,rfl,xn,ha2,xh.out⟩⟩
        exact mz_
      ·have xb:i=cols.length:=by omega
       rcases ym with ⟨rfl,E⟩ | ⟨a,rfl,xn,ha2,Y⟩
       ·have xl:=hid (Xx6 x6.out fun j T U=>E j T (by rw [HML.out] at U;omega))
        clear E xb;go_wp2
        go_roundw
        case rel=>exact ⟨d,row+1,vs,M,rfl,x41_,q40_,z7,g.out,HML.out,J.out,xl.out⟩
        exact mz_
       ·have xh:=hid Y
        have u9:¬ (a:Int)<0:=q40_;clear Y xb;have D:d<cols.length:=q40_;have P:vs.length=cols.length:=by rw [g.out.fam.1,HML.out]
        obtain ⟨gm,ga,ca,V,uf,ua,uc,y1,ue,ys⟩:=g.out.at_ (i:=a) (by rw [P];exact ha2) N ((J.out a y50_).1);subst V;obtain ⟨us,gn,cn,W,-,yu,ud,zh,-,-⟩:=g.out.at_ (i:=d) (by rw [P];exact D) N ((J.out d (by rw [HML.out];exact D)).1);injection W with W;injection W with W;subst W;have yh:=hid (g.out.swap zh y1);have L:=Vq4 (n:=d) (a:=a) J.out (by rw [HML.out];exact D) y50_;have xt:=fun j=>Zx0 (m:=M) (n:=d) (a:=a) (j:=j) (by rw [HML.out];exact D) y50_;have zi:(swapV vs d a)[d]?=some (.slice (some ⟨ga,0,none⟩) R ca):=by
         rw [Zs4 (by rw [P];exact D) (by rw [P];exact ha2)];unfold sigma;rw [if_pos rfl];exact y1
        have yl:(swapM M d a).length=cols.length:=by rw [H7_,HML.out]
        have zg:(swapV vs d a).length=cols.length:=by rw [P0_,P]
        have ze:=Xx5 x6.out (a:=a) y50_ xn;have z6:((swapM M d a).getD d []).getD row 0≠0:=by
         rw [xt d,if_pos rfl];exact xh.out
        generalize swapM M d a=M' at *
        generalize swapV vs d a=vs' at *
        have x8:=(ys row C).1;have yk:(M'.getD d []).getD row 0=(M.getD a []).getD row 0:=by rw [xt d,if_pos rfl]
        have zk:=L.get q40_ d row;obtain ⟨x,F⟩:∃ x,x=(M'.getD d []).getD row 0:=⟨_,rfl⟩;rw [← yk,← F] at x8;rw [← F] at zk z6;have v2:gm≠ga:=fun e=>ue e.symm;obtain ⟨v',un⟩:=cell?_setCell_some (w:=wr) (p:=⟨gm,a,none⟩) (x:=.slice (some ⟨gn,0,none⟩) R cn) (q:=⟨gm,d,none⟩) (v:=.slice (some ⟨gn,0,none⟩) R cn) yu;obtain ⟨h,xw⟩:∃ h,h=invI x p:=⟨_,rfl⟩;obtain ⟨ok,z8⟩:∃ ok,ok=invB x p:=⟨_,rfl⟩;have zt:=hid (Xn2 x p h ok xw.symm z8.symm);obtain ⟨xu,z0,z1⟩:=zs.out x q40_ zk.2;rw [← xw] at xu z0 z1;have y8:=hid xu;rw [F] at y8;have x1:=hid L;have xl:=hid ze;have B:=hid yl;have xm:=hid zg;have u3:=hid zi;have uw:(a:Int)<(cols.length:Int):=q40_;have v8:(d:Int)<(cols.length:Int):=q40_;clear xu L ze yl zg zi yk ys xt F xw z8 y1 zh P z6 g J x6 HML
        go_wp2_with fail
        refine (zt.out _).mono ?_;rintro e w2 ⟨rfl,yn⟩;have H:=hid (yh.out.below yn);have x4:Hid (0≤h∧h<p):=⟨z0,z1⟩;have ya:Hid (Keep w w2 (.slice (some ⟨gm,0,none⟩) cols.length vc) vs' (subM p R h row d (d+1) M')):=by
         show Keep _ _ _ _ _;rw [Xx7];exact H.out
        clear yn ua uc yu ud x8 un yh H;go_wp2
        go_loopw [16] (fun vu wq=>∃ u:Nat,vu=.int .i64 u∧d+1≤u∧u≤cols.length∧Keep w wq (.slice (some ⟨gm,0,none⟩) cols.length vc) vs' (subM p R h row d u M')) (fun vu _=>cols.length - (intOf vu).toNat)
        case atStart=>exact ⟨d+1,x41_,Nat.le_refl _,q40_,ya.out⟩
        case round =>
         clear ya;obtain ⟨u,rfl,ve,vf,r⟩:=hrel;have g:=hid r;clear r;by_cases O:u<cols.length
         ·have vg:(u:Int)<(cols.length:Int):=by omega
          have xa:(subM p R h row d u M').getD u []=M'.getD u []:=by rw [E6_ (by rw [B.out];exact O),if_neg q40_]
          have yy:(subM p R h row d u M').getD d []=M'.getD d []:=by rw [E6_ (by rw [B.out];exact D),if_neg q40_]
          have xc:=x1.out u (by rw [B.out];exact O);have z3:=x1.out d (by rw [B.out];exact D);obtain ⟨ut,gu,cu,X,-,ub,-,zj,-,yt⟩:=g.out.at_ (i:=u) (by rw [xm.out];exact O) N (by rw [xa];exact xc.1);injection X with X;injection X with X;subst X;have xq:=(yt row C).1;rw [xa] at xq;have x0:=xc.get q40_ row;obtain ⟨z,E⟩:∃ z,z=(M'.getD u []).getD row 0:=⟨_,rfl⟩;rw [← E] at xq x0;have z5:=Zw7 x7 x0.1 x0.2 x4.out.1 x4.out.2;have uk:=Zb9 x7 x0.1 x0.2 x4.out.1 x4.out.2;obtain ⟨o,xe⟩:∃ o,o=z * h % p:=⟨_,rfl⟩;have xy:=em_lt (a:=z * h) (p:=p) q40_;rw [← xe] at xy;have uh:(z * h).tmod p=o:=by rw [xe];exact Int.tmod_eq_emod_of_nonneg z5.1
          have v9:¬ p=0:=q40_;have u0:Hid ((subM p R h row d u M').set u (subR p (M'.getD u []) (M'.getD d []) o R)=subM p R h row d (u+1) M'):=by
           show _=_;rw [xe,E];exact Xn1 q40_
          have yb:Hid (Keep w wr (.slice (some ⟨gm,0,none⟩) cols.length vc) vs' ((subM p R h row d u M').set u (subR p (M'.getD u []) (M'.getD d []) o 0))):=by
           show Keep _ _ _ _ _;rw [Xm9,← xa,show (subM p R h row d u M').set u ((subM p R h row d u M').getD u [])=subM p R h row d u M' by
            apply List.ext_getElem?;intro q;by_cases hq:q=u
            ·subst hq
             have:q<(subM p R h row d q M').length:=by rw [J1_,B.out];exact O
             rw [List.getElem?_set_self this];simp [List.getD,this]
            ·rw [List.getElem?_set_ne (fun e=>hq e.symm)]]
           exact g.out
          have x3:=hid xc;have y9:=hid z3;have yi:=hid zj;have zr:=hid yy;have zc:(subM p R h row d u M').length=cols.length:=by rw [J1_,B.out]
          generalize subM p R h row d u M'=S at *
          generalize M'.getD u []=mu at *
          have zy:=hid zc;clear E xe xa yy xc z3 yt zj zc g;go_wp2
          go_loopw [18] (fun vj wq=>∃ j:Nat,vj=.int .i64 j∧j≤R∧Keep w wq (.slice (some ⟨gm,0,none⟩) cols.length vc) vs' (S.set u (subR p mu (M'.getD d []) o j))) (fun vj _=>R - (intOf vj).toNat)
          case atStart=>exact ⟨0,rfl,Nat.zero_le _,yb.out⟩
          case round =>
           clear yb ub xq;obtain ⟨j,rfl,hj,r⟩:=hrel;have g:=hid r;clear r;by_cases xd:j<R
           ·have v6:(j:Int)<(R:Int):=by omega
            have y0:u<S.length:=by rw [zy.out];exact O
            have xr:(S.set u (subR p mu (M'.getD d []) o j)).getD u []=subR p mu (M'.getD d []) o j:=by simp [List.getD,y0]
            have xs:(S.set u (subR p mu (M'.getD d []) o j)).getD d []=M'.getD d []:=by
             rw [List.getD_eq_getElem?_getD,List.getElem?_set_ne q40_,← List.getD_eq_getElem?_getD];exact zr.out
            have uj:j<mu.length:=by rw [x3.out.1];exact xd
            obtain ⟨u5,u6,u4,K,-,v0,-,Q,-,xp⟩:=g.out.at_ (i:=u) (by rw [xm.out];exact O) N (by rw [xr,Q9_];exact x3.out.1);obtain ⟨uu,u7,ur,u8,-,-,-,y2,-,yp⟩:=g.out.at_ (i:=d) (by rw [xm.out];exact D) N (by rw [xs];exact y9.out.1);obtain rfl:u5=gm:=by injection K with K;injection K with K;exact K.symm
            obtain rfl:u6=gu:=by rw [yi.out] at Q;injection Q with e;injection e with e1;injection e1 with e1;injection e1 with e1;exact e1.symm
            obtain rfl:u4=cu:=by rw [yi.out] at Q;injection Q with e;injection e with _ _ e;exact e.symm
            obtain rfl:u7=ga:=by rw [u3.out] at y2;injection y2 with e;injection e with e1;injection e1 with e1;injection e1 with e1;exact e1.symm
            have yx:=(xp j xd).1;have v1:=(xp j xd).2;have yw:=(yp j xd).1;rw [xr,O9_ uj,if_neg q40_] at yx;rw [xs] at yw;have uo:=x3.out.get q40_ j;have y4:=y9.out.get q40_ j;have xk:=hid (Xn0 (p:=p) (a:=mu) (x:=M'.getD d []) (k:=o) (u:=j));have za:(S.set u (subR p mu (M'.getD d []) o j))[u]?=some (subR p mu (M'.getD d []) o j):=by rw [List.getElem?_set_self y0]
            have Hstore:=hid (fun x=>g.out.store (j:=j) Q za (by rw [Q9_];exact x3.out.1) x);obtain ⟨y,hy⟩:∃ y,y=mu.getD j 0:=⟨_,rfl⟩;obtain ⟨G,zl⟩:∃ G,G=(M'.getD d []).getD j 0:=⟨_,rfl⟩;rw [← hy] at yx uo xk;rw [← zl] at yw y4 xk;have ui:=Zw7 x7 xy.1 xy.2 y4.1 y4.2;have vk:IntKind.i64.wrap (o * G)=o * G:=k40_;have vl:IntKind.i64.wrap (y - o * G)=y - o * G:=k40_;have Hq:=hid (fun w=>zv.out (y - o * G) w);generalize (y - o * G) % p=q at *
            clear xp yp xr xs Q y2 za hy zl K u8 ui uh uk z5 y0;go_wp2;refine wp_region_still_tail 22 x40_ x40_ ?_;simp only [List.take_succ_cons,List.take_zero,List.drop_succ_cons,List.drop_zero]
            repeat still_step
            still_call (Hq.out _)
            repeat still_step
            try refine wpStill_nil ?_
            change wpList _ _ _ _ _ wr.drew;go_wp2
            go_roundw
            case rel =>
             refine ⟨j+1,x41_,q40_,?_⟩;have:=(Hstore.out q).drew;rw [List.set_set,xk.out] at this;exact this
            case measure=>simp [intOf];omega
           ·have ug:j=R:=by omega
            subst ug;have yc:=hid g.out;rw [u0.out] at yc;clear g;go_wp2
            go_roundw
            case rel=>exact ⟨u+1,x41_,q40_,q40_,yc.out⟩
            exact mz_
         ·have zf:u=cols.length:=by omega
          have yd:=hid g.out;rw [show u=M'.length by rw [B.out];exact zf] at yd;have zz:=hid (Xx8 (inv:=h) q40_ xl.out x1.out (by rw [B.out];exact D) C y8.out);have zm:=hid (Vo3 (inv:=h) (row:=row) (n:=d) (u:=M'.length) q40_ x1.out);have zu:Hid ((subM p R h row d M'.length M').length=cols.length):=by
           show _=_;rw [J1_,B.out]
          clear g zf;go_wp2
          go_roundw
          case rel=>exact ⟨d+1,row+1,vs',_,x41_,x41_,q40_,q40_,yd.out,zu.out,zm.out,zz.out⟩
          exact mz_
    ·have um:row=R:=by omega
     subst um;have zq:Hid (rr=d):=zw.out.trans (x6.out.rank (fld_ok HP.out));obtain rfl:=zq.out;go_wp2;go_ret;exact ⟨rfl,g.out.bel⟩
theorem Zl4 (p rows:Int) (v:Value) (cols:List (List Int)) (b:Bool) (h:elimB p rows cols=b) (w:World) (c:Rows2 w w.heap.size v cols) :
  Calls Tryz.prog 137 #[.int .i64 p,.int .i64 rows,v] w (Says w b):=by
 subst h;exact Ze0 p rows v cols w c
theorem Vq7 {p:Int} {R:Nat} {cols:List (List Int)} (c:prB p=true) (d:R≤64) (e:cols.length≤64) (hc:Zb2 p R cols):rankI p R cols=((rk p R (cols.map vec):Nat):Int):=by
 unfold rankI;rw [if_pos (Xt2 c d e hc),rk_cols (fld_ok c),← (linesI_lines c hc).pl,List.length_map]
theorem refrankI_any (p rows:Int) (v:Value) (cols:List (List Int)) (w:World) (o:Rows2 w w.heap.size v cols) :
  Calls Tryz.prog 141 #[.int .i64 p,.int .i64 rows,v] w (Gets w (.int .i64 (rankI p rows cols))):=by
 have g:=hid o;obtain ⟨A,c,rfl,_⟩:=o;rcases hb:elimB p rows cols with _ | _
 ·have d:=hid hb
  have e:rankI p rows cols=-1:=by unfold rankI;rw [hb];rfl
  rw [e];clear hb e
  go_enter Tryz.func141,Tryz.ntmps141
  go_wp2_with fail
  refine (Zl4 p rows _ cols false d.out w g.out).mono ?_;exact k9_
 ·obtain ⟨h,R,rfl,m,h3,j⟩:=elimB_in hb
  have d:=hid hb;rw [Vq7 h m h3 j];have q:=hid (fun w1 (s:Rows2 w1 w1.heap.size (Value.slice A cols.length c) cols)=>Yh1 p R _ cols w1 h s j m h3);generalize rk p R (cols.map vec)=n at *
  clear hb h j
  go_enter Tryz.func141,Tryz.ntmps141
  go_wp2_with fail
  refine (Zl4 p R _ cols true d.out w g.out).mono ?_;rintro e w1 ⟨rfl,hb1⟩;have k:=hid hb1;clear hb1
  go_wp2_with fail
  refine (q.out w1 (g.out.up k.out)).mono ?_;rintro e u ⟨rfl,r⟩;have Hb2:=hid (Z0_ k.out (Nat.le_refl _) r);exact z2_
end Go.Proofs.YtheeajnkiniopaaGreatDoor.Wp.L
