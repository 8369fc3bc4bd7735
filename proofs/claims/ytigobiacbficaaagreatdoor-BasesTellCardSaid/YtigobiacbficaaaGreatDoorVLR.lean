/- The document's rank of columns of layer 5, walked: elimination, row by row (VLR). -/
import Derived.Test.YtigobiacbficaaaGreatDoorZL
import Derived.Test.YtigobiacbficaaaGreatDoorZX
import Derived.Test.YtigobiacbficaaaGreatDoorIJRef
import Derived.Test.YtigobiacbficaaaGreatDoorZA
import Derived.Test.YtigobiacbficaaaGreatDoorQTA
import Derived.StillTailTactics
import Derived.Deep.RegionWith
import Derived.Test.YtigobiacbficaaaGreatDoorX0A
import Derived.Test.YtigobiacbficaaaGreatDoorX0B
set_option maxHeartbeats 16000000
set_option maxRecDepth 100000
open Go.Lib (hid)
namespace Go.Proofs.YtigobiacbficaaaGreatDoor.Wp.L
variable {p:Int} {R:Nat}
def RowsIn (p:Int) (R:Nat) (m:List (List Int)):Prop:=∀ i,i<m.length→InR p R (m.getD i [])
theorem B1_ {m:List (List Int)} {j:Nat} (h:j<(m.map vec).length):(m.map vec)[j]=vec (m.getD j []):=by
 have c:j<m.length:=k44_;simp [List.getD,c]
theorem RowsIn.get {m:List (List Int)} (h:RowsIn p R m) (d:0<p) (i r:Nat):0≤(m.getD i []).getD r 0∧(m.getD i []).getD r 0<p:=by
 by_cases c:i<m.length
 ·exact (h i c).get d r
 ·have:m.getD i []=[]:=by simp [List.getD,List.getElem?_eq_none (Nat.le_of_not_lt c)]
  rw [this];simp;exact d
def swapM (m:List (List Int)) (n a:Nat):List (List Int):=(m.set a (m.getD n [])).set n (m.getD a [])
theorem H9_ {m:List (List Int)} {n a:Nat}:(swapM m n a).length=m.length:=by simp [swapM]
theorem Zv1 {m:List (List Int)} {n a j:Nat} (d:n<m.length) (ha:a<m.length):(swapM m n a).getD j []=if j=n then m.getD a [] else if j=a then m.getD n [] else m.getD j []:=by
 unfold swapM;rw [List.getD_eq_getElem?_getD];by_cases c:j=n
 ·subst c
  rw [List.getElem?_set_self (by simpa using d),if_pos rfl];rfl
 ·rw [List.getElem?_set_ne (fun e=>c e.symm),if_neg c]
  by_cases h2:j=a
  ·subst h2
   rw [List.getElem?_set_self ha,if_pos rfl];rfl
  ·rw [List.getElem?_set_ne (fun e=>h2 e.symm),if_neg h2,List.getD_eq_getElem?_getD]
theorem Ve8 {m:List (List Int)} {n a:Nat} (h:RowsIn p R m) (d:n<m.length) (ha:a<m.length):RowsIn p R (swapM m n a):=by
 intro j c;rw [H9_] at c;rw [Zv1 d ha];split
 ·exact h a ha
 ·split
  ·exact h n d
  ·exact h j c
theorem Xa9 {C:List Vec} {m:List (List Int)} {n row a:Nat} (h:Steps p R C (m.map vec) n row) (ha:a<m.length) (e:n≤a):Steps p R C ((swapM m n a).map vec) n row:=by
 have d:n<m.length:=y40_;refine h.swap (a:=a) (by simpa using ha) e (by simp [H9_]) fun j c h2=>?_;rw [B1_ c,Zv1 d ha];split
 ·rw [B1_]
 ·split
  ·rw [B1_]
  ·rw [B1_]
theorem Xb0 {C:List Vec} {m:List (List Int)} {n row:Nat} (h:Steps p R C (m.map vec) n row) (d:∀ j,n≤j→j<m.length→(m.getD j []).getD row 0=0):Steps p R C (m.map vec) n (row+1) :=
 h.skip fun j hj c=>by
  rw [B1_ hj];unfold vec;rw [d j c q50_];exact Int.dvd_zero p
def subR (p:Int) (a x:List Int) (k:Int) (u:Nat):List Int:=(List.range a.length).map fun r=>if r<u then (a.getD r 0 - k * x.getD r 0) % p else a.getD r 0
theorem A0_ {a x:List Int} {k:Int} {u:Nat}:(subR p a x k u).length=a.length:=by simp [subR]
theorem P2_ {a x:List Int} {k:Int} {u r:Nat} (h:r<a.length):(subR p a x k u).getD r 0=if r<u then (a.getD r 0 - k * x.getD r 0) % p else a.getD r 0:=by
 unfold subR;rw [R7_,if_pos h]
theorem Xs1 {a x:List Int} {k:Int}:subR p a x k 0=a:=by
 apply List.ext_getElem
 ·exact A0_
 ·intro i c h2
  simp [subR,List.getD,h2]
theorem Xs2 {a x:List Int} {k:Int} {u:Nat}:(subR p a x k u).set u ((a.getD u 0 - k * x.getD u 0) % p)=subR p a x k (u+1):=by
 apply List.ext_getElem
 ·simp [A0_]
 ·intro i g h2
  have d:i<a.length:=by simpa [A0_] using h2
  have c:=P2_ (p:=p) (a:=a) (x:=x) (k:=k) (u:=u+1) d;rw [List.getD_eq_getElem?_getD,List.getElem?_eq_getElem h2] at c;have e:=P2_ (p:=p) (a:=a) (x:=x) (k:=k) (u:=u) d;rw [List.getElem_set];by_cases h:u=i
  ·subst h
   rw [if_pos rfl];rw [if_pos y40_] at c;exact c.symm
  ·rw [if_neg h]
   rw [List.getD_eq_getElem?_getD,List.getElem?_eq_getElem (by rw [A0_];exact d)] at e;have f:(i<u+1)=(i<u):=by
    apply propext;omega
   rw [show (subR p a x k u)[i]'(by rw [A0_];exact d)=_ from e];rw [show (subR p a x k (u+1))[i]=_ from c];simp only [f]
theorem Vu3 {a x:List Int} {k:Int} (d:0<p) (h:InR p R a):InR p R (subR p a x k R) :=
 Zk6 (by rw [A0_];exact h.1) fun r c=>by
  rw [P2_ (by rw [h.1];exact c),if_pos c];exact ⟨Int.emod_nonneg _ y40_,Int.emod_lt_of_pos _ d⟩
def subM (p:Int) (R:Nat) (inv:Int) (row n u:Nat) (m:List (List Int)):List (List Int) :=
 (List.range m.length).map fun q=>if n<q∧q<u then subR p (m.getD q []) (m.getD n []) ((m.getD q []).getD row 0 * inv % p) R else m.getD q []
theorem J2_ {inv:Int} {row n u:Nat} {m:List (List Int)}:(subM p R inv row n u m).length=m.length:=by simp [subM]
theorem E9_ {inv:Int} {row n u q:Nat} {m:List (List Int)} (h:q<m.length) :
  (subM p R inv row n u m).getD q []=if n<q∧q<u then subR p (m.getD q []) (m.getD n []) ((m.getD q []).getD row 0 * inv % p) R else m.getD q []:=by
 unfold subM;simp [List.getD,h]
theorem Xb1 {inv:Int} {row n:Nat} {m:List (List Int)}:subM p R inv row n (n+1) m=m:=by
 apply List.ext_getElem
 ·exact J2_
 ·intro i c h2
  have:=E9_ (p:=p) (R:=R) (inv:=inv) (row:=row) (n:=n) (u:=n+1) h2;rw [if_neg y40_] at this;simpa [List.getD,c,h2] using this
theorem Xs3 {inv:Int} {row n u:Nat} {m:List (List Int)} (f:n<u) :
  (subM p R inv row n u m).set u (subR p (m.getD u []) (m.getD n []) ((m.getD u []).getD row 0 * inv % p) R)=subM p R inv row n (u+1) m:=by
 apply List.ext_getElem
 ·simp [J2_]
 ·intro i g h2
  have c:i<m.length:=by simpa [J2_] using h2
  have d:=E9_ (p:=p) (R:=R) (inv:=inv) (row:=row) (n:=n) (u:=u+1) c;have e:=E9_ (p:=p) (R:=R) (inv:=inv) (row:=row) (n:=n) (u:=u) c;rw [List.getD_eq_getElem?_getD,List.getElem?_eq_getElem h2] at d;rw [List.getD_eq_getElem?_getD,List.getElem?_eq_getElem (by rw [J2_];exact c)] at e;rw [show (subM p R inv row n (u+1) m)[i]=_ from d,List.getElem_set];by_cases h:u=i
  ·subst h
   rw [if_pos rfl,if_pos ⟨f,y40_⟩]
  ·rw [if_neg h,show (subM p R inv row n u m)[i]'(by rw [J2_];exact c)=_ from e]
   by_cases h3:n<i∧i<u
   ·rw [if_pos h3,if_pos ⟨h3.1,y40_⟩]
   ·rw [if_neg h3,if_neg y40_]
theorem Vu4 {inv:Int} {row n u:Nat} {m:List (List Int)} (d:0<p) (h:RowsIn p R m):RowsIn p R (subM p R inv row n u m):=by
 intro q c;rw [J2_] at c;rw [E9_ c];split
 ·exact Vu3 d (h q c)
 ·exact h q c
theorem Xb2 {C:List Vec} {m:List (List Int)} {n row:Nat} {inv:Int} (B:1<p) (h:Steps p R C (m.map vec) n row) (z:RowsIn p R m) (s:n<m.length) (v:row<R) (k:p ∣ (m.getD n []).getD row 0 * inv - 1) :
  Steps p R C ((subM p R inv row n m.length m).map vec) (n+1) (row+1):=by
 have u:∀ q,q<m.length→∀ r,r<R→n<q→((subM p R inv row n m.length m).getD q []).getD r 0=((m.getD q []).getD r 0 - ((m.getD q []).getD row 0 * inv % p) * (m.getD n []).getD r 0) % p:=by
  intro q g r d A;rw [E9_ g,if_pos ⟨A,g⟩,P2_ (by rw [(z q g).1];exact d),if_pos d]
 refine h.take (by simpa using s) (by simp [J2_]) ?_ v (fun j c h2 f=>?_) (fun j c h2 f=>?_)
 ·rw [B1_]
  unfold vec;intro hd;have c:=Int.dvd_sub (Int.dvd_trans hd (Int.dvd_mul_right _ inv)) k;have e:(m.getD n []).getD row 0 * inv - ((m.getD n []).getD row 0 * inv - 1)=1:=y40_;rw [e] at c;have:=S5_ c q41_ B;exact absurd this q41_
 ·rw [B1_ c,B1_ h2,E9_ j50_,if_neg y40_]
 ·have o:j<m.length:=by simpa using h2
  refine ⟨?_,(m.getD j []).getD row 0 * inv % p,fun r d=>?_⟩
  ·rw [B1_ c]
   unfold vec;rw [u j o row v f];rw [Int.emod_eq_zero_of_dvd]
   ·exact Int.dvd_zero p
   ·have h3:=B3_ (p:=p) ((m.getD j []).getD row 0 * inv)
    have w:=Int.dvd_trans h3 (Int.dvd_mul_right _ ((m.getD n []).getD row 0));have x:=Int.dvd_trans k (Int.dvd_mul_left ((m.getD j []).getD row 0) _);have y:=Int.dvd_sub w x;have e:((m.getD j []).getD row 0 * inv - (m.getD j []).getD row 0 * inv % p) * (m.getD n []).getD row 0 - (m.getD j []).getD row 0 * ((m.getD n []).getD row 0 * inv - 1)
      = (m.getD j []).getD row 0 - ((m.getD j []).getD row 0 * inv % p) * (m.getD n []).getD row 0:=by
     rw [Int.mul_sub,Int.mul_one,Int.sub_mul,Int.mul_assoc,Int.mul_comm inv];omega
    rwa [e] at y
  ·rw [B1_ c,B1_ h2,B1_ (by simpa using s)]
   unfold vec;rw [u j o r d f];have h3:=(Int.dvd_neg).2 (B3_ (p:=p) ((m.getD j []).getD r 0 - (m.getD j []).getD row 0 * inv % p * (m.getD n []).getD r 0))
   rwa [Int.neg_sub] at h3
end Go.Proofs.YtigobiacbficaaaGreatDoor.Wp.L
namespace Go.Proofs.YtigobiacbficaaaGreatDoor.Wp.L
open Go.RowKit
def swapV (vs:List Value) (n a:Nat):List Value:=(vs.set a (vs.getD n undef)).set n (vs.getD a undef)
theorem P3_ {vs:List Value} {n a:Nat}:(swapV vs n a).length=vs.length:=by simp [swapV]
def sigma (n a i:Nat):Nat:=if i=n then a else if i=a then n else i
theorem Ve9 {n a i j:Nat} (h:i≠j):sigma n a i≠sigma n a j:=by
 unfold sigma
 repeat' split
 all_goals omega
theorem Zu9 {vs:List Value} {n a i:Nat} (hn:n<vs.length) (ha:a<vs.length):(swapV vs n a)[i]?=vs[sigma n a i]?:=by
 unfold swapV sigma;exact y8_
theorem Vf0 {m:List (List Int)} {n a i:Nat} (hn:n<m.length) (ha:a<m.length):(swapM m n a)[i]?=m[sigma n a i]?:=by
 unfold swapM sigma;exact y8_
theorem _root_.Go.Proofs.YtigobiacbficaaaGreatDoor.Wp.Fam.swap {w:World} {B:Nat} {vs:List Value} {pp:List (List Int)} (h:Fam w B vs pp) {n a:Nat} (d:n<vs.length) (ha:a<vs.length):Fam w B (swapV vs n a) (swapM pp n a):=by
 have m:n<pp.length:=by rw [← h.1];exact d
 have g:a<pp.length:=by rw [← h.1];exact ha
 refine ⟨by rw [P3_,H9_,h.1],fun i v p c e=>?_,fun i j v u c f k=>?_⟩
 ·rw [Zu9 d ha] at c
  rw [Vf0 m g] at e;exact h.2.1 _ v p c e
 ·rw [Zu9 d ha] at c f
  exact h.2.2 _ _ v u c f (Ve9 k)
theorem _root_.Go.Proofs.YtigobiacbficaaaGreatDoor.Wp.Fam.stored {w:World} {B:Nat} {vs:List Value} {pp:List (List Int)} (h:Fam w B vs pp) {at_ g c j:Nat} {q:List Int} (d:vs[at_]?=some (.slice (some ⟨g,0,none⟩) q.length c)) (o:pp[at_]?=some q) (x:Int) :
  Fam (w.setCell ⟨g,j,none⟩ (.int .i64 x)) B vs (pp.set at_ (q.set j x)):=by
 have m:=h.2.1 at_ _ _ d o;have hs:=m.stored j (.int .i64 x);have:=h.grow d hs.2 (u':=.slice (some ⟨g,0,none⟩) q.length c) (q:=q.set j x) (by
  rw [List.length_set,show ints (q.set j x)=(ints q).set j (.int .i64 x) by unfold ints;rw [List.map_set]];exact hs.1) (.inl rfl)
 have k:at_<vs.length:=(List.getElem?_eq_some_iff.1 d).1;have e:vs.set at_ (.slice (some ⟨g,0,none⟩) q.length c)=vs:=by
  apply List.ext_getElem?;intro i;by_cases f:i=at_
  ·subst f
   rw [List.getElem?_set_self k,d]
  ·rw [List.getElem?_set_ne (fun e=>f e.symm)]
 rwa [e] at this
theorem Xs4 (a p i:Int) (b:Bool) (c:invI a p=i) (h2:invB a p=b) (w:World):Calls Tryz.prog 168 #[.int .i64 a,.int .i64 p] w (Gets w (.tuple #[.int .i64 i,.bool b])):=by
 subst c h2;exact Xa8 a p w
theorem Xb3 (a p:Int) (w:World) (h:In31 p):Calls Tryz.prog 169 #[.int .i64 a,.int .i64 p] w fun e w'=>e=.returned (.int .i64 (a % p))∧w'=w:=by
 have:=R2_ a p w;unfold modI at this;rw [if_pos h] at this;exact this
structure Keep (w wr:World) (vm:Value) (vs:List Value) (M:List (List Int)):Prop where
 own:wr.ownsRow w.heap.size 28 1 vm vs.length vs
 fam:Fam wr w.heap.size vs M
 bel:Below w.heap.size w wr
theorem Keep.at_ {w wr:World} {A:Option Addr} {n c:Nat} {vs:List Value} {M:List (List Int)} (h:Keep w wr (.slice A n c) vs M) {i R:Nat} (m:i<vs.length) (v:0<R) (hl:(M.getD i []).length=R) :
  ∃ gm d g,A=some ⟨gm,0,none⟩∧w.heap.size≤gm∧wr.cell? ⟨gm,i,none⟩=some (.slice (some ⟨d,0,none⟩) R g)∧wr.frozen? ⟨gm,i,none⟩=false∧vs[i]?=some (.slice (some ⟨d,0,none⟩) R g)∧d≠gm ∧
   ∀ j,j<R→wr.cell? ⟨d,j,none⟩=some (.int .i64 ((M.getD i []).getD j 0))∧wr.frozen? ⟨d,j,none⟩=false:=by
 have s:i<M.length:=by rw [← h.fam.1];exact m
 obtain ⟨gm,u,q,r⟩:=K9_ h.own y40_;injection q with hA1 hA2 hA3;subst hA1;subst hA2;have hM:M[i]?=some (M.getD i []):=by simp [List.getD,s]
 have f:=h.fam.2.1 i _ _ (List.getElem?_eq_getElem m) hM;rw [hl] at f;obtain ⟨d,g,k,_⟩:=K9_ f y40_;have o:vs[i]?=some (.slice (some ⟨d,0,none⟩) R g):=by rw [List.getElem?_eq_getElem m,k]
 refine ⟨gm,d,g,rfl,r,?_,h.own.frozenAt i,o,?_,fun j x=>⟨?_,?_⟩⟩
 ·rw [h.own.cellAt i y40_]
  exact o
 ·rw [k] at f
  rcases Zv8 f h.own q41_ with e | e
  ·cases e
  ·intro p
   exact e (by rw [p];rfl)
 ·rw [k] at f
  rw [f.cellAt j y40_];exact U8_ y40_
 ·rw [k] at f
  exact f.frozenAt j
theorem Keep.swap {w wr:World} {gm n c:Nat} {vs:List Value} {M:List (List Int)} (h:Keep w wr (.slice (some ⟨gm,0,none⟩) n c) vs M) {k a:Nat} {f d:Value} (m:vs[k]?=some f) (ha:vs[a]?=some d) :
  Keep w ((wr.setCell ⟨gm,a,none⟩ f).setCell ⟨gm,k,none⟩ d) (.slice (some ⟨gm,0,none⟩) n c) (swapV vs k a) (swapM M k a):=by
 have r:=(List.getElem?_eq_some_iff.1 m).1;have q:=(List.getElem?_eq_some_iff.1 ha).1;have j:=(h.own.lt gm rfl).1;obtain ⟨_,_,s⟩:=A6_ h.own;injection s with _ hn _;subst hn;have g:=h.own.stored a f;have o:=g.1.stored k d;have e:swapV vs k a=(vs.set a f).set k d:=by
  unfold swapV;simp [List.getD,m,ha]
 refine ⟨?_,?_,(h.bel.setCell (p:=⟨gm,a,none⟩) j f).setCell (p:=⟨gm,k,none⟩) j d⟩
 ·rw [P3_,e]
  exact o.1
 ·exact ((h.fam.outer h.own g.2).outer g.1 o.2).swap r q
theorem Keep.below {w wr d:World} {c:Value} {vs:List Value} {M:List (List Int)} (h:Keep w wr c vs M) (hb:Below wr.heap.size wr d):Keep w d c vs M:=by
 have e:c.ownBlock=none∨c.ownBlock≠none:=by
  rcases c.ownBlock with _ | q
  ·exact .inl rfl
  ·exact .inr k40_
 exact ⟨h.own.kept (Z7_ hb none) e,h.fam.new (Z7_ hb none),Z0_ h.bel (Nat.le_refl _) hb⟩
theorem Keep.drew {w wr:World} {c:Value} {vs:List Value} {M:List (List Int)} (h:Keep w wr c vs M):Keep w wr.drew c vs M:=h.below (Below.refl _ _).drew
theorem Keep.store {w wr:World} {g:Value} {vs:List Value} {M:List (List Int)} (h:Keep w wr g vs M) {i c k j R:Nat} {q:List Int} (f:vs[i]?=some (.slice (some ⟨c,0,none⟩) R k)) (e:M[i]?=some q) (hl:q.length=R) (x:Int) :
  Keep w (wr.setCell ⟨c,j,none⟩ (.int .i64 x)) g vs (M.set i (q.set j x)):=by
 subst hl;have d:=h.fam.2.1 i _ _ f e;have hs:=d.stored j (.int .i64 x);refine ⟨h.own.kept hs.2 ?_,h.fam.stored f e x,h.bel.setCell (p:=⟨c,j,none⟩) (d.lt c rfl).1 _⟩;exact Zv8 h.own d q41_
theorem Ym3 (p:Int) (R:Nat) (v:Value) (cols:List (List Int)) (w:World) (xf:prB p=true) (hr:Rows2 w w.heap.size v cols) (hc:Zc7 p R cols) (hR:R≤64) (hn:cols.length≤64) :
  Calls Tryz.prog 144 #[.int .i64 p,.int .i64 R,v] w (Gets w (.int .i64 (rk p R (cols.map vec):Nat))):=by
 obtain ⟨h2,x6,_⟩:=prB_iff.1 xf;have HP:=hid xf;have Hc:=hid hc;obtain ⟨A,c,rfl,_,yp⟩:=hr;have y6:=hid yp;have v6:(cols.length:Int)≤64:=y40_;have zr:=hid (Yr3 xf);have zu:=hid (fun a w=>Xb3 a p w ⟨y40_,x6⟩);obtain ⟨rr,xy⟩:∃ rr,rr=rk p R (cols.map vec):=⟨_,rfl⟩;rw [← xy];have zv:=hid xy;have ye:Hid ((w.alloc (.cells #[] 28)).ownsRow w.heap.size 28 1 (.slice (some ⟨w.heap.size,0,none⟩) 0 0) ([]:List Value).length ([]:List Value)) :=
  World.ownsRow_lit w #[] 0 (Nat.le_refl _) z41_ rfl
 have y5:=hid ((Below.refl w.heap.size w).alloc (Nat.le_refl _) (.cells #[] 28));clear xf hc yp xy
 go_enter Tryz.func144,Tryz.ntmps144
 go_wp2
 go_loopw [7,8] (fun vm I wr=>∃ (i:Nat) (vs:List Value),I=.int .i64 i∧i≤cols.length∧Keep w wr vm vs (cols.take i)) (fun _ I _=>cols.length - (intOf I).toNat)
 case atStart=>exact ⟨0,[],rfl,Nat.zero_le _,ye.out,Ye4 _ _,y5.out⟩
 case round =>
  obtain ⟨i,vs,rfl,hi,r⟩:=hrel;obtain ⟨vA,vc,rfl⟩:=A6_ r.own;have g:=hid r;clear ye y5 r;by_cases C:i<cols.length
  ·obtain ⟨ad,u,U,hab,yu,za⟩:=y6.out i C
   subst U;have yn:=(g.out.bel.cell (p:=ad.add i) x42_).trans yu;have zw:=hid ((za.below g.out.bel).mono g.out.bel.size);obtain ⟨Au,cu,rfl,_⟩:=za;have z1:=Hc.out i C;have z3:=z1.1;have u0:Hid (cols.take (i+1)=cols.take i ++ [cols.getD i []]):=by
    show _=_;rw [List.take_succ_eq_append_getElem C];simp [List.getD,C]
   have Y:vs.length≤64:=by
    have:=g.out.fam.1;rw [List.length_take] at this;omega
   have vg:(vs.length:Int)≤64:=y40_;generalize cols.getD i []=col at *
   have ux:col.length≤64:=y40_;have yf:Hid ((wr.alloc (.cells #[] 3)).ownsRow wr.heap.size 3 1 (.slice (some ⟨wr.heap.size,0,none⟩) 0 0) ([]:List Int).length (ints [])) :=
    World.ownsRow_lit wr #[] 0 (Nat.le_refl _) z41_ rfl
   have uw:(wr.alloc (.cells #[] 3)).cell? (ad.add i)=some (.slice Au col.length cu):=(World.cell?_alloc_lt _ _ _ (by rw [Z2_];exact Nat.lt_of_lt_of_le hab g.out.bel.size)).trans yn;have uo:=hid z3;clear yu z1 z3 yn
   go_wp2_with (at_builtin;refine Z5_ rfl _ _ rfl wr.heap.size _ _ _ [] col rfl rfl yf.out (zw.out.upA _) k40_ y40_ k40_ ?_)
   intro u1 w1 xe yy;obtain ⟨s,c1,rfl⟩:=A6_ xe;have xn:=((Below.refl _ wr).alloc (Nat.le_refl _) (.cells #[] 3)).grown yy k40_ (fun k hk=>(yf.out.lt k hk).1);have xi:Hid (wr.grownBy w1 none):=Z7_ xn none;have x4:=hid (g.out.own.kept xi.out (by
    rcases (Value.slice vA vs.length vc).ownBlock with _ | q
    ·exact .inl rfl
    ·exact .inr k40_))
   have zo:=hid (g.out.fam.new xi.out);have zm:=hid (g.out.bel.grown xi.out g.out.bel.size (fun k e=>by cases e));have yd:=hid xe;have zn:Hid (∀ v∈vs,v.ownBlock=none∨v.ownBlock≠(Value.slice s col.length c1).ownBlock):=by
    intro v hv;rcases hb:v.ownBlock with _ | q
    ·exact .inl rfl
    ·right
     intro e;have T:=g.out.fam.lt hv hb;have h2:=(xe.lt q e.symm).1;omega
   have Hcell2:Hid ((w1.alloc (.cells #[.slice s col.length c1] 28)).cell? ⟨w1.heap.size,0,none⟩=some (.slice s col.length c1)):=(Blk.new w1 28 #[.slice s col.length c1]).cell 0;have x1:=hid g.out.bel.size;have xh:=hid xn.size;clear xe yy xn
   go_wp2_with (at_builtin;refine X6_ rfl _ _ 22 28 (.slice none 0 0) 24 rfl Tryz.underlying22 Yv0 rfl w.heap.size _ (.slice s col.length c1) vs rfl (x4.out.alloc _) w1.heap.size rfl Hcell2.out rfl y40_ y40_ (by have:=x1.out;have:=xh.out;simp;omega) ?_)
   intro v3 w3 z8 x8 _;have Hkeep3:Hid (Keep w w3 v3 (vs ++ [.slice s col.length c1]) (cols.take (i+1))):=by
    refine ⟨by rw [List.length_append];exact z8,?_,?_⟩
    ·rw [u0.out]
     refine Fam.push ((zo.out.new (World.grownBy_alloc _ _ none)).outer (x4.out.alloc _) x8) ?_ zn.out;refine Vh3 ((yd.out.alloc _).kept x8 (Zv8 (yd.out.alloc (.cells #[.slice s col.length c1] 28)) (x4.out.alloc (.cells #[.slice s col.length c1] 28)) q41_)) x1.out
    ·exact (zm.out.alloc (by have:=x1.out;have:=xh.out;omega) _).grown x8 (by have:=x1.out;have:=xh.out;simp;omega) (fun k hk=>((x4.out.alloc (.cells #[.slice s col.length c1] 28)).lt k hk).1)
   clear z8 x8;go_wp2
   go_roundw
   case rel=>exact ⟨i+1,_,j41_,y40_,Hkeep3.out⟩
   exact mz_
  ·have xa:i=cols.length:=by omega
   subst xa;have Y:=g.out.fam.1;rw [List.take_length] at Y;have H:=hid g.out;rw [List.take_length] at H;rw [Y] at H;rw [Y];clear g y6 Y;go_wp2
   go_loopw [9,10] (fun vn y4 wq=>∃ (d row:Nat) (vs:List Value) (M:List (List Int)),vn=.int .i64 d∧y4=.int .i64 row∧row≤R∧d≤cols.length∧Keep w wq (.slice vA cols.length vc) vs M∧M.length=cols.length∧RowsIn p R M∧Steps p R (cols.map vec) (M.map vec) d row) (fun _ y4 _=>R - (intOf y4).toNat)
   case atStart=>exact ⟨0,0,vs,cols,rfl,rfl,Nat.zero_le _,Nat.zero_le _,H.out,rfl,Hc.out,Steps.start _⟩
   case round =>
    clear H vs;obtain ⟨d,row,vs,M,rfl,rfl,v9,z6,r,yi,L,zc⟩:=hrel;have g:=hid r;have J:=hid L;have x5:=hid zc;have HML:=hid yi;clear r L zc yi;by_cases C:row<R
    ·have vb:(row:Int)<(R:Int):=by omega
     have N:0<R:=y40_;go_wp2
     go_loop [11,12] (fun va I=>∃ i:Nat,I=.int .i64 i∧d≤i∧i≤cols.length∧((va=.int .i64 (-1)∧∀ j,d≤j→j<i→(M.getD j []).getD row 0=0)∨∃ a:Nat,va=.int .i64 a∧d≤a∧a<cols.length∧(M.getD a []).getD row 0≠0)) (fun _ I=>cols.length - (intOf I).toNat)
     case atStart=>exact ⟨d,rfl,Nat.le_refl _,z6,.inl ⟨rfl,fun j T h2=>by omega⟩⟩
     case round =>
      obtain ⟨i,rfl,uk,v2,yl⟩:=hrel;by_cases xu:i<cols.length
      ·have v4:(i:Int)<(cols.length:Int):=by omega
       rcases yl with ⟨rfl,E⟩ | ⟨a,rfl,xm,ha2,X⟩
       ·obtain ⟨gm,gi,ci,U,ue,uy,-,-,-,yq⟩:=g.out.at_ (i:=i) (by rw [g.out.fam.1,HML.out];exact xu) N ((J.out i (by rw [HML.out];exact xu)).1)
        subst U;have x7:=(yq row C).1;have Hz:=hid E;clear E yq;obtain ⟨x,F⟩:∃ x,x=(M.getD i []).getD row 0:=⟨_,rfl⟩;rw [← F] at x7;have Hx:=hid F;clear F;by_cases y2:x=0
        ·subst y2
         have uu:((0:Int) != 0)=false:=q41_;go_wp2
         go_round
         case rel =>
          refine ⟨i+1,j41_,y40_,y40_,.inl ⟨rfl,fun j T h2=>?_⟩⟩;by_cases e:j=i
          ·rw [e];exact Hx.out.symm
          ·exact Hz.out j T y40_
         case measure=>simp [intOf];omega
        ·have vl:(x != 0)=true:=by simpa using y2
         go_wp2
         go_round
         case rel=>exact ⟨i+1,j41_,y40_,y40_,.inr ⟨i,rfl,uk,xu,by rw [← Hx.out];exact y2⟩⟩
         exact mz_
       ·have xg:=hid X
        have u8:¬ (a:Int)<0:=y40_;clear X;go_wp2
        go_round
        case rel=>exact ⟨i+1,j41_,y40_,y40_,.inr ⟨a,rfl,xm,ha2,xg.out⟩⟩
        exact mz_
      ·have xa:i=cols.length:=by omega
       rcases yl with ⟨rfl,E⟩ | ⟨a,rfl,xm,ha2,X⟩
       ·have xk:=hid (Xb0 x5.out fun j T h2=>E j T (by rw [HML.out] at h2;omega))
        clear E xa;go_wp2
        go_roundw
        case rel=>exact ⟨d,row+1,vs,M,rfl,j41_,y40_,z6,g.out,HML.out,J.out,xk.out⟩
        exact mz_
       ·have xg:=hid X
        have u8:¬ (a:Int)<0:=y40_;clear X xa;have D:d<cols.length:=y40_;have P:vs.length=cols.length:=by rw [g.out.fam.1,HML.out]
        obtain ⟨gm,ga,ca,U,ue,u9,ub,y0,ud,yr⟩:=g.out.at_ (i:=a) (by rw [P];exact ha2) N ((J.out a y51_).1);subst U;obtain ⟨ur,gn,cn,V,-,yt,uc,zg,-,-⟩:=g.out.at_ (i:=d) (by rw [P];exact D) N ((J.out d (by rw [HML.out];exact D)).1);injection V with V;injection V with V;subst V;have yg:=hid (g.out.swap zg y0);have L:=Ve8 (n:=d) (a:=a) J.out (by rw [HML.out];exact D) y51_;have xs:=fun j=>Zv1 (m:=M) (n:=d) (a:=a) (j:=j) (by rw [HML.out];exact D) y51_;have zh:(swapV vs d a)[d]?=some (.slice (some ⟨ga,0,none⟩) R ca):=by
         rw [Zu9 (by rw [P];exact D) (by rw [P];exact ha2)];unfold sigma;rw [if_pos rfl];exact y0
        have yk:(swapM M d a).length=cols.length:=by rw [H9_,HML.out]
        have zf:(swapV vs d a).length=cols.length:=by rw [P3_,P]
        have zd:=Xa9 x5.out (a:=a) y51_ xm;have z5:((swapM M d a).getD d []).getD row 0≠0:=by
         rw [xs d,if_pos rfl];exact xg.out
        generalize swapM M d a=M' at *
        generalize swapV vs d a=vs' at *
        have x7:=(yr row C).1;have yj:(M'.getD d []).getD row 0=(M.getD a []).getD row 0:=by rw [xs d,if_pos rfl]
        have zj:=L.get y40_ d row;obtain ⟨x,F⟩:∃ x,x=(M'.getD d []).getD row 0:=⟨_,rfl⟩;rw [← yj,← F] at x7;rw [← F] at zj z5;have v1:gm≠ga:=fun e=>ud e.symm;obtain ⟨v',um⟩:=cell?_setCell_some (w:=wr) (p:=⟨gm,a,none⟩) (x:=.slice (some ⟨gn,0,none⟩) R cn) (q:=⟨gm,d,none⟩) (v:=.slice (some ⟨gn,0,none⟩) R cn) yt;obtain ⟨h,xv⟩:∃ h,h=invI x p:=⟨_,rfl⟩;obtain ⟨ok,z7⟩:∃ ok,ok=invB x p:=⟨_,rfl⟩;have zs:=hid (Xs4 x p h ok xv.symm z7.symm);obtain ⟨xt,yz,z0⟩:=zr.out x y40_ zj.2;rw [← xv] at xt yz z0;have y7:=hid xt;rw [F] at y7;have x0:=hid L;have xk:=hid zd;have B:=hid yk;have xl:=hid zf;have u2:=hid zh;have uv:(a:Int)<(cols.length:Int):=y40_;have v7:(d:Int)<(cols.length:Int):=y40_;clear xt L zd yk zf zh yj yr xs F xv z7 y0 zg P z5 g J x5 HML
        go_wp2_with fail
        refine (zs.out _).mono ?_;rintro e w2 ⟨rfl,ym⟩;have H:=hid (yg.out.below ym);have x3:Hid (0≤h∧h<p):=⟨yz,z0⟩;have y9:Hid (Keep w w2 (.slice (some ⟨gm,0,none⟩) cols.length vc) vs' (subM p R h row d (d+1) M')):=by
         show Keep _ _ _ _ _;rw [Xb1];exact H.out
        clear ym u9 ub yt uc x7 um yg H;go_wp2
        go_loopw [16] (fun vu wq=>∃ u:Nat,vu=.int .i64 u∧d+1≤u∧u≤cols.length∧Keep w wq (.slice (some ⟨gm,0,none⟩) cols.length vc) vs' (subM p R h row d u M')) (fun vu _=>cols.length - (intOf vu).toNat)
        case atStart=>exact ⟨d+1,j41_,Nat.le_refl _,y40_,y9.out⟩
        case round =>
         clear y9;obtain ⟨u,rfl,vd,ve,r⟩:=hrel;have g:=hid r;clear r;by_cases O:u<cols.length
         ·have vf:(u:Int)<(cols.length:Int):=by omega
          have x9:(subM p R h row d u M').getD u []=M'.getD u []:=by rw [E9_ (by rw [B.out];exact O),if_neg y40_]
          have yx:(subM p R h row d u M').getD d []=M'.getD d []:=by rw [E9_ (by rw [B.out];exact D),if_neg y40_]
          have xb:=x0.out u (by rw [B.out];exact O);have z2:=x0.out d (by rw [B.out];exact D);obtain ⟨us,gu,cu,W,-,ua,-,zi,-,ys⟩:=g.out.at_ (i:=u) (by rw [xl.out];exact O) N (by rw [x9];exact xb.1);injection W with W;injection W with W;subst W;have xp:=(ys row C).1;rw [x9] at xp;have Z:=xb.get y40_ row;obtain ⟨z,E⟩:∃ z,z=(M'.getD u []).getD row 0:=⟨_,rfl⟩;rw [← E] at xp Z;have z4:=Yv4 x6 Z.1 Z.2 x3.out.1 x3.out.2;have uj:=Zd4 x6 Z.1 Z.2 x3.out.1 x3.out.2;obtain ⟨o,xd⟩:∃ o,o=z * h % p:=⟨_,rfl⟩;have xw:=em_lt (a:=z * h) (p:=p) y40_;rw [← xd] at xw;have ug:(z * h).tmod p=o:=by rw [xd];exact Int.tmod_eq_emod_of_nonneg z4.1
          have v8:¬ p=0:=y40_;have zz:Hid ((subM p R h row d u M').set u (subR p (M'.getD u []) (M'.getD d []) o R)=subM p R h row d (u+1) M'):=by
           show _=_;rw [xd,E];exact Xs3 y40_
          have ya:Hid (Keep w wr (.slice (some ⟨gm,0,none⟩) cols.length vc) vs' ((subM p R h row d u M').set u (subR p (M'.getD u []) (M'.getD d []) o 0))):=by
           show Keep _ _ _ _ _;rw [Xs1,← x9,show (subM p R h row d u M').set u ((subM p R h row d u M').getD u [])=subM p R h row d u M' by
            apply List.ext_getElem?;intro q;by_cases hq:q=u
            ·subst hq
             have:q<(subM p R h row d q M').length:=by rw [J2_,B.out];exact O
             rw [List.getElem?_set_self this];simp [List.getD,this]
            ·rw [List.getElem?_set_ne (fun e=>hq e.symm)]]
           exact g.out
          have x2:=hid xb;have y8:=hid z2;have yh:=hid zi;have zq:=hid yx;have zb:(subM p R h row d u M').length=cols.length:=by rw [J2_,B.out]
          generalize subM p R h row d u M'=S at *
          generalize M'.getD u []=mu at *
          have zx:=hid zb;clear E xd x9 yx xb z2 ys zi zb g;go_wp2
          go_loopw [18] (fun vj wq=>∃ j:Nat,vj=.int .i64 j∧j≤R∧Keep w wq (.slice (some ⟨gm,0,none⟩) cols.length vc) vs' (S.set u (subR p mu (M'.getD d []) o j))) (fun vj _=>R - (intOf vj).toNat)
          case atStart=>exact ⟨0,rfl,Nat.zero_le _,ya.out⟩
          case round =>
           clear ya ua xp;obtain ⟨j,rfl,hj,r⟩:=hrel;have g:=hid r;clear r;by_cases xc:j<R
           ·have v5:(j:Int)<(R:Int):=by omega
            have xz:u<S.length:=by rw [zx.out];exact O
            have xq:(S.set u (subR p mu (M'.getD d []) o j)).getD u []=subR p mu (M'.getD d []) o j:=by simp [List.getD,xz]
            have xr:(S.set u (subR p mu (M'.getD d []) o j)).getD d []=M'.getD d []:=by
             rw [List.getD_eq_getElem?_getD,List.getElem?_set_ne y40_,← List.getD_eq_getElem?_getD];exact zq.out
            have ui:j<mu.length:=by rw [x2.out.1];exact xc
            obtain ⟨u4,u5,u3,K,-,uz,-,Q,-,xo⟩:=g.out.at_ (i:=u) (by rw [xl.out];exact O) N (by rw [xq,A0_];exact x2.out.1);obtain ⟨ut,u6,uq,u7,-,-,-,y1,-,yo⟩:=g.out.at_ (i:=d) (by rw [xl.out];exact D) N (by rw [xr];exact y8.out.1);obtain rfl:u4=gm:=by injection K with K;injection K with K;exact K.symm
            obtain rfl:u5=gu:=by rw [yh.out] at Q;injection Q with e;injection e with e1;injection e1 with e1;injection e1 with e1;exact e1.symm
            obtain rfl:u3=cu:=by rw [yh.out] at Q;injection Q with e;injection e with _ _ e;exact e.symm
            obtain rfl:u6=ga:=by rw [u2.out] at y1;injection y1 with e;injection e with e1;injection e1 with e1;injection e1 with e1;exact e1.symm
            have yw:=(xo j xc).1;have v0:=(xo j xc).2;have yv:=(yo j xc).1;rw [xq,P2_ ui,if_neg y40_] at yw;rw [xr] at yv;have un:=x2.out.get y40_ j;have y3:=y8.out.get y40_ j;have xj:=hid (Xs2 (p:=p) (a:=mu) (x:=M'.getD d []) (k:=o) (u:=j));have z9:(S.set u (subR p mu (M'.getD d []) o j))[u]?=some (subR p mu (M'.getD d []) o j):=by rw [List.getElem?_set_self xz]
            have Hstore:=hid (fun x=>g.out.store (j:=j) Q z9 (by rw [A0_];exact x2.out.1) x);obtain ⟨y,hy⟩:∃ y,y=mu.getD j 0:=⟨_,rfl⟩;obtain ⟨G,zk⟩:∃ G,G=(M'.getD d []).getD j 0:=⟨_,rfl⟩;rw [← hy] at yw un xj;rw [← zk] at yv y3 xj;have uh:=Yv4 x6 xw.1 xw.2 y3.1 y3.2;have vh:IntKind.i64.wrap (o * G)=o * G:=y41_;have vk:IntKind.i64.wrap (y - o * G)=y - o * G:=y41_;have Hq:=hid (fun w=>zu.out (y - o * G) w);generalize (y - o * G) % p=q at *
            clear xo yo xq xr Q y1 z9 hy zk K u7 uh ug uj z4 xz;go_wp2;refine wp_region_still_tail 22 z40_ z40_ ?_;simp only [List.take_succ_cons,List.take_zero,List.drop_succ_cons,List.drop_zero]
            repeat still_step
            still_call (Hq.out _)
            repeat still_step
            try refine wpStill_nil ?_
            change wpList _ _ _ _ _ wr.drew;go_wp2
            go_roundw
            case rel =>
             refine ⟨j+1,j41_,y40_,?_⟩;have:=(Hstore.out q).drew;rw [List.set_set,xj.out] at this;exact this
            case measure=>simp [intOf];omega
           ·have uf:j=R:=by omega
            subst uf;have yb:=hid g.out;rw [zz.out] at yb;clear g;go_wp2
            go_roundw
            case rel=>exact ⟨u+1,j41_,y40_,y40_,yb.out⟩
            exact mz_
         ·have ze:u=cols.length:=by omega
          have yc:=hid g.out;rw [show u=M'.length by rw [B.out];exact ze] at yc;have zy:=hid (Xb2 (inv:=h) y40_ xk.out x0.out (by rw [B.out];exact D) C y7.out);have zl:=hid (Vu4 (inv:=h) (row:=row) (n:=d) (u:=M'.length) y40_ x0.out);have zt:Hid ((subM p R h row d M'.length M').length=cols.length):=by
           show _=_;rw [J2_,B.out]
          clear g ze;go_wp2
          go_roundw
          case rel=>exact ⟨d+1,row+1,vs',_,j41_,j41_,y40_,y40_,yc.out,zt.out,zl.out,zy.out⟩
          exact mz_
    ·have ul:row=R:=by omega
     subst ul;have zp:Hid (rr=d):=zv.out.trans (x5.out.rank (fld_ok HP.out));obtain rfl:=zp.out;go_wp2;go_ret;exact ⟨rfl,g.out.bel⟩
theorem Zn7 (p rows:Int) (v:Value) (cols:List (List Int)) (b:Bool) (h:elimB p rows cols=b) (w:World) (c:Rows2 w w.heap.size v cols) :
  Calls Tryz.prog 112 #[.int .i64 p,.int .i64 rows,v] w (Says w b):=by
 subst h;exact Zf5 p rows v cols w c
theorem Vf1 {p:Int} {R:Nat} {cols:List (List Int)} (c:prB p=true) (d:R≤64) (e:cols.length≤64) (hc:Zc7 p R cols):rankI p R cols=((rk p R (cols.map vec):Nat):Int):=by
 unfold rankI;rw [if_pos (Vv1 c d e hc),rk_cols (fld_ok c),← (linesI_lines c hc).pl,List.length_map]
theorem refrankI_any (p rows:Int) (v:Value) (cols:List (List Int)) (w:World) (m:Rows2 w w.heap.size v cols) :
  Calls Tryz.prog 117 #[.int .i64 p,.int .i64 rows,v] w (Gets w (.int .i64 (rankI p rows cols))):=by
 have g:=hid m;obtain ⟨A,c,rfl,_⟩:=m;rcases hb:elimB p rows cols with _ | _
 ·have d:=hid hb
  have e:rankI p rows cols=-1:=by unfold rankI;rw [hb];rfl
  rw [e];clear hb e
  go_enter Tryz.func117,Tryz.ntmps117
  go_wp2_with fail
  refine (Zn7 p rows _ cols false d.out w g.out).mono ?_;exact k9_
 ·obtain ⟨h,R,rfl,h2,h3,j⟩:=elimB_in hb
  have d:=hid hb;rw [Vf1 h h2 h3 j];have o:=hid (fun w1 (r:Rows2 w1 w1.heap.size (Value.slice A cols.length c) cols)=>Ym3 p R _ cols w1 h r j h2 h3);generalize rk p R (cols.map vec)=n at *
  clear hb h j
  go_enter Tryz.func117,Tryz.ntmps117
  go_wp2_with fail
  refine (Zn7 p R _ cols true d.out w g.out).mono ?_;rintro e w1 ⟨rfl,hb1⟩;have k:=hid hb1;clear hb1
  go_wp2_with fail
  refine (o.out w1 (g.out.up k.out)).mono ?_;rintro e s ⟨rfl,q⟩;have Hb2:=hid (Z0_ k.out (Nat.le_refl _) q);exact j2_
end Go.Proofs.YtigobiacbficaaaGreatDoor.Wp.L
