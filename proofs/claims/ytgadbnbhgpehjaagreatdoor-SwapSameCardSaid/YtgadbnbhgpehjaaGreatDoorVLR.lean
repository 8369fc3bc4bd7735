/- The document's rank of columns of layer 5, walked: elimination, row by row (VLR). -/
import Derived.Test.YtgadbnbhgpehjaaGreatDoorZL
import Derived.Test.YtgadbnbhgpehjaaGreatDoorZX
import Derived.Test.YtgadbnbhgpehjaaGreatDoorIJRef
import Derived.Test.YtgadbnbhgpehjaaGreatDoorZA
import Derived.Test.YtgadbnbhgpehjaaGreatDoorQTA
import Derived.StillTailTactics
import Derived.Deep.RegionWith
set_option maxHeartbeats 16000000
set_option maxRecDepth 100000
open Go.Lib (hid)
namespace Go.Proofs.YtgadbnbhgpehjaaGreatDoor.Wp.L
variable {p : Int} {R : Nat}
def RowsIn (p : Int) (R : Nat) (m : List (List Int)) : Prop := ∀ i, i < m.length → InR p R (m.getD i [])
theorem Q9_ {m : List (List Int)} {j : Nat} (h : j < (m.map vec).length) : (m.map vec)[j] = vec (m.getD j []) := by
 have h' : j < m.length := by simpa using h
 simp [List.getD, h']
theorem RowsIn.get {m : List (List Int)} (h : RowsIn p R m) (hp : 0 < p) (i r : Nat) : 0 ≤ (m.getD i []).getD r 0 ∧ (m.getD i []).getD r 0 < p := by
 by_cases hi : i < m.length
 ·exact (h i hi).get hp r
 ·have : m.getD i [] = [] := by simp [List.getD, List.getElem?_eq_none (Nat.le_of_not_lt hi)]
  rw [this]
  simp
  exact hp
def swapM (m : List (List Int)) (n a : Nat) : List (List Int) := (m.set a (m.getD n [])).set n (m.getD a [])
theorem K9_ {m : List (List Int)} {n a : Nat} : (swapM m n a).length = m.length := by simp [swapM]
theorem S8_ {m : List (List Int)} {n a j : Nat} (hn : n < m.length) (ha : a < m.length) : (swapM m n a).getD j [] = if j = n then m.getD a [] else if j = a then m.getD n [] else m.getD j [] := by
 unfold swapM
 rw [List.getD_eq_getElem?_getD]
 by_cases h1 : j = n
 ·subst h1
  rw [List.getElem?_set_self (by simpa using hn), if_pos rfl]
  rfl
 ·rw [List.getElem?_set_ne (fun e => h1 e.symm), if_neg h1]
  by_cases h2 : j = a
  ·subst h2
   rw [List.getElem?_set_self ha, if_pos rfl]
   rfl
  ·rw [List.getElem?_set_ne (fun e => h2 e.symm), if_neg h2, List.getD_eq_getElem?_getD]
theorem Xg5 {m : List (List Int)} {n a : Nat} (h : RowsIn p R m) (hn : n < m.length) (ha : a < m.length) : RowsIn p R (swapM m n a) := by
 intro j hj
 rw [K9_] at hj
 rw [S8_ hn ha]
 split
 ·exact h a ha
 ·split
  ·exact h n hn
  ·exact h j hj
theorem Yh6 {C : List Vec} {m : List (List Int)} {n row a : Nat} (h : Steps p R C (m.map vec) n row) (ha : a < m.length) (hna : n ≤ a) : Steps p R C ((swapM m n a).map vec) n row := by
 have hn : n < m.length := by omega
 refine h.swap (a := a) (by simpa using ha) hna (by simp [K9_]) fun j h1 h2 => ?_
 rw [Q9_ h1, S8_ hn ha]
 split
 ·rw [Q9_]
 ·split
  ·rw [Q9_]
  ·rw [Q9_]
theorem Yh7 {C : List Vec} {m : List (List Int)} {n row : Nat} (h : Steps p R C (m.map vec) n row) (hz : ∀ j, n ≤ j → j < m.length → (m.getD j []).getD row 0 = 0) : Steps p R C (m.map vec) n (row + 1) :=
 h.skip fun j hj hn => by
  rw [Q9_ hj]
  unfold vec
  rw [hz j hn (by simpa using hj)]
  exact Int.dvd_zero p
def subR (p : Int) (a x : List Int) (k : Int) (u : Nat) : List Int := (List.range a.length).map fun r => if r < u then (a.getD r 0 - k * x.getD r 0) % p else a.getD r 0
theorem Q4_ {a x : List Int} {k : Int} {u : Nat} : (subR p a x k u).length = a.length := by simp [subR]
theorem L0_ {a x : List Int} {k : Int} {u r : Nat} (h : r < a.length) : (subR p a x k u).getD r 0 = if r < u then (a.getD r 0 - k * x.getD r 0) % p else a.getD r 0 := by
 unfold subR
 rw [M0_, if_pos h]
theorem Xz1 {a x : List Int} {k : Int} : subR p a x k 0 = a := by
 apply List.ext_getElem
 ·exact Q4_
 ·intro i h1 h2
  simp [subR, List.getD, h2]
theorem Xz2 {a x : List Int} {k : Int} {u : Nat} : (subR p a x k u).set u ((a.getD u 0 - k * x.getD u 0) % p) = subR p a x k (u + 1) := by
 apply List.ext_getElem
 ·simp [Q4_]
 ·intro i h1 h2
  have hi : i < a.length := by simpa [Q4_] using h2
  have e1 := L0_ (p := p) (a := a) (x := x) (k := k) (u := u + 1) hi
  rw [List.getD_eq_getElem?_getD, List.getElem?_eq_getElem h2] at e1
  have e2 := L0_ (p := p) (a := a) (x := x) (k := k) (u := u) hi
  rw [List.getElem_set]
  by_cases h : u = i
  ·subst h
   rw [if_pos rfl]
   rw [if_pos (by omega)] at e1
   exact e1.symm
  ·rw [if_neg h]
   rw [List.getD_eq_getElem?_getD, List.getElem?_eq_getElem (by rw [Q4_]; exact hi)] at e2
   have e3 : (i < u + 1) = (i < u) := by
    apply propext
    omega
   rw [show (subR p a x k u)[i]'(by rw [Q4_]; exact hi) = _ from e2]
   rw [show (subR p a x k (u + 1))[i] = _ from e1]
   simp only [e3]
theorem Xu5 {a x : List Int} {k : Int} (hp : 0 < p) (h : InR p R a) : InR p R (subR p a x k R) :=
 Za6 (by rw [Q4_]; exact h.1) fun r hr => by
  rw [L0_ (by rw [h.1]; exact hr), if_pos hr]
  exact ⟨Int.emod_nonneg _ (by omega), Int.emod_lt_of_pos _ hp⟩
def subM (p : Int) (R : Nat) (inv : Int) (row n u : Nat) (m : List (List Int)) : List (List Int) :=
 (List.range m.length).map fun q => if n < q ∧ q < u then subR p (m.getD q []) (m.getD n []) ((m.getD q []).getD row 0 * inv % p) R else m.getD q []
theorem V8_ {inv : Int} {row n u : Nat} {m : List (List Int)} : (subM p R inv row n u m).length = m.length := by simp [subM]
theorem C9_ {inv : Int} {row n u q : Nat} {m : List (List Int)} (h : q < m.length) :
  (subM p R inv row n u m).getD q [] = if n < q ∧ q < u then subR p (m.getD q []) (m.getD n []) ((m.getD q []).getD row 0 * inv % p) R else m.getD q [] := by
 unfold subM
 simp [List.getD, h]
theorem Yh8 {inv : Int} {row n : Nat} {m : List (List Int)} : subM p R inv row n (n + 1) m = m := by
 apply List.ext_getElem
 ·exact V8_
 ·intro i h1 h2
  have := C9_ (p := p) (R := R) (inv := inv) (row := row) (n := n) (u := n + 1) h2
  rw [if_neg (by omega)] at this
  simpa [List.getD, h1, h2] using this
theorem Xz3 {inv : Int} {row n u : Nat} {m : List (List Int)} (hn : n < u) :
  (subM p R inv row n u m).set u (subR p (m.getD u []) (m.getD n []) ((m.getD u []).getD row 0 * inv % p) R) = subM p R inv row n (u + 1) m := by
 apply List.ext_getElem
 ·simp [V8_]
 ·intro i h1 h2
  have hi : i < m.length := by simpa [V8_] using h2
  have e1 := C9_ (p := p) (R := R) (inv := inv) (row := row) (n := n) (u := u + 1) hi
  have e2 := C9_ (p := p) (R := R) (inv := inv) (row := row) (n := n) (u := u) hi
  rw [List.getD_eq_getElem?_getD, List.getElem?_eq_getElem h2] at e1
  rw [List.getD_eq_getElem?_getD, List.getElem?_eq_getElem (by rw [V8_]; exact hi)] at e2
  rw [show (subM p R inv row n (u + 1) m)[i] = _ from e1, List.getElem_set]
  by_cases h : u = i
  ·subst h
   rw [if_pos rfl, if_pos ⟨hn, by omega⟩]
  ·rw [if_neg h, show (subM p R inv row n u m)[i]'(by rw [V8_]; exact hi) = _ from e2]
   by_cases h3 : n < i ∧ i < u
   ·rw [if_pos h3, if_pos ⟨h3.1, by omega⟩]
   ·rw [if_neg h3, if_neg (by omega)]
theorem Xu6 {inv : Int} {row n u : Nat} {m : List (List Int)} (hp : 0 < p) (h : RowsIn p R m) : RowsIn p R (subM p R inv row n u m) := by
 intro q hq
 rw [V8_] at hq
 rw [C9_ hq]
 split
 ·exact Xu5 hp (h q hq)
 ·exact h q hq
theorem Yh9 {C : List Vec} {m : List (List Int)} {n row : Nat} {inv : Int} (hp : 1 < p) (h : Steps p R C (m.map vec) n row) (hm : RowsIn p R m) (hn : n < m.length) (hrow : row < R) (hinv : p ∣ (m.getD n []).getD row 0 * inv - 1) :
  Steps p R C ((subM p R inv row n m.length m).map vec) (n + 1) (row + 1) := by
 have hrk : ∀ q, q < m.length → ∀ r, r < R → n < q → ((subM p R inv row n m.length m).getD q []).getD r 0 = ((m.getD q []).getD r 0 - ((m.getD q []).getD row 0 * inv % p) * (m.getD n []).getD r 0) % p := by
  intro q hq r hr hnq
  rw [C9_ hq, if_pos ⟨hnq, hq⟩, L0_ (by rw [(hm q hq).1]; exact hr), if_pos hr]
 refine h.take (by simpa using hn) (by simp [V8_]) ?_ hrow (fun j h1 h2 hj => ?_) (fun j h1 h2 hj => ?_)
 ·rw [Q9_]
  unfold vec
  intro hd
  have h1 := Int.dvd_sub (Int.dvd_trans hd (Int.dvd_mul_right _ inv)) hinv
  have e : (m.getD n []).getD row 0 * inv - ((m.getD n []).getD row 0 * inv - 1) = 1 := by omega
  rw [e] at h1
  have := M7_ h1 (by decide) hp
  exact absurd this (by decide)
 ·rw [Q9_ h1, Q9_ h2, C9_ (by simpa using h2), if_neg (by omega)]
 ·have hjl : j < m.length := by simpa using h2
  refine ⟨?_, (m.getD j []).getD row 0 * inv % p, fun r hr => ?_⟩
  ·rw [Q9_ h1]
   unfold vec
   rw [hrk j hjl row hrow hj]
   rw [Int.emod_eq_zero_of_dvd]
   ·exact Int.dvd_zero p
   ·have h3 := A2_ (p := p) ((m.getD j []).getD row 0 * inv)
    have h4 := Int.dvd_trans h3 (Int.dvd_mul_right _ ((m.getD n []).getD row 0))
    have h5 := Int.dvd_trans hinv (Int.dvd_mul_left ((m.getD j []).getD row 0) _)
    have h6 := Int.dvd_sub h4 h5
    have e : ((m.getD j []).getD row 0 * inv - (m.getD j []).getD row 0 * inv % p) * (m.getD n []).getD row 0 - (m.getD j []).getD row 0 * ((m.getD n []).getD row 0 * inv - 1)
      = (m.getD j []).getD row 0 - ((m.getD j []).getD row 0 * inv % p) * (m.getD n []).getD row 0 := by
     rw [Int.mul_sub, Int.mul_one, Int.sub_mul, Int.mul_assoc, Int.mul_comm inv]
     omega
    rwa [e] at h6
  ·rw [Q9_ h1, Q9_ h2, Q9_ (by simpa using hn)]
   unfold vec
   rw [hrk j hjl r hr hj]
   have h3 := (Int.dvd_neg).2 (A2_ (p := p) ((m.getD j []).getD r 0 - (m.getD j []).getD row 0 * inv % p * (m.getD n []).getD r 0))
   rwa [Int.neg_sub] at h3
end Go.Proofs.YtgadbnbhgpehjaaGreatDoor.Wp.L
namespace Go.Proofs.YtgadbnbhgpehjaaGreatDoor
open Go.RowKit
namespace Wp.L
def swapV (vs : List Value) (n a : Nat) : List Value := (vs.set a (vs.getD n undef)).set n (vs.getD a undef)
theorem U7_ {vs : List Value} {n a : Nat} : (swapV vs n a).length = vs.length := by simp [swapV]
def sigma (n a i : Nat) : Nat := if i = n then a else if i = a then n else i
theorem Vb2 {n a i j : Nat} (h : i ≠ j) : sigma n a i ≠ sigma n a j := by
 unfold sigma
 repeat' split
 all_goals omega
theorem Xg6 {vs : List Value} {n a i : Nat} (hn : n < vs.length) (ha : a < vs.length) : (swapV vs n a)[i]? = vs[sigma n a i]? := by
 unfold swapV sigma
 by_cases h1 : i = n
 ·subst h1
  rw [if_pos rfl, List.getElem?_set_self (by simpa using hn)]
  simp [List.getD, ha]
 ·rw [if_neg h1, List.getElem?_set_ne (fun e => h1 e.symm)]
  by_cases h2 : i = a
  ·subst h2
   rw [if_pos rfl, List.getElem?_set_self ha]
   simp [List.getD, hn]
  ·rw [if_neg h2, List.getElem?_set_ne (fun e => h2 e.symm)]
theorem Vb3 {m : List (List Int)} {n a i : Nat} (hn : n < m.length) (ha : a < m.length) : (swapM m n a)[i]? = m[sigma n a i]? := by
 unfold swapM sigma
 by_cases h1 : i = n
 ·subst h1
  rw [if_pos rfl, List.getElem?_set_self (by simpa using hn)]
  simp [List.getD, ha]
 ·rw [if_neg h1, List.getElem?_set_ne (fun e => h1 e.symm)]
  by_cases h2 : i = a
  ·subst h2
   rw [if_pos rfl, List.getElem?_set_self ha]
   simp [List.getD, hn]
  ·rw [if_neg h2, List.getElem?_set_ne (fun e => h2 e.symm)]
theorem _root_.Go.Proofs.YtgadbnbhgpehjaaGreatDoor.Wp.Fam.swap {w : World} {B : Nat} {vs : List Value} {pp : List (List Int)} (h : Fam w B vs pp) {n a : Nat} (hn : n < vs.length) (ha : a < vs.length) : Fam w B (swapV vs n a) (swapM pp n a) := by
 have hn' : n < pp.length := by rw [← h.1]; exact hn
 have ha' : a < pp.length := by rw [← h.1]; exact ha
 refine ⟨by rw [U7_, K9_, h.1], fun i v p hv hp => ?_, fun i j v u hv hu hij => ?_⟩
 ·rw [Xg6 hn ha] at hv
  rw [Vb3 hn' ha'] at hp
  exact h.2.1 _ v p hv hp
 ·rw [Xg6 hn ha] at hv hu
  exact h.2.2 _ _ v u hv hu (Vb2 hij)
theorem _root_.Go.Proofs.YtgadbnbhgpehjaaGreatDoor.Wp.Fam.stored {w : World} {B : Nat} {vs : List Value} {pp : List (List Int)} (h : Fam w B vs pp) {at_ g c j : Nat} {q : List Int} (hu : vs[at_]? = some (.slice (some ⟨g, 0, none⟩) q.length c)) (hq : pp[at_]? = some q) (x : Int) :
  Fam (w.setCell ⟨g, j, none⟩ (.int .i64 x)) B vs (pp.set at_ (q.set j x)) := by
 have ho := h.2.1 at_ _ _ hu hq
 have hs := ho.stored j (.int .i64 x)
 have := h.grow hu hs.2 (u' := .slice (some ⟨g, 0, none⟩) q.length c) (q := q.set j x) (by
  rw [List.length_set, show ints (q.set j x) = (ints q).set j (.int .i64 x) by unfold ints; rw [List.map_set]]
  exact hs.1) (.inl rfl)
 have hat : at_ < vs.length := (List.getElem?_eq_some_iff.1 hu).1
 have e : vs.set at_ (.slice (some ⟨g, 0, none⟩) q.length c) = vs := by
  apply List.ext_getElem?
  intro i
  by_cases hi : i = at_
  ·subst hi
   rw [List.getElem?_set_self hat, hu]
  ·rw [List.getElem?_set_ne (fun e => hi e.symm)]
 rwa [e] at this
end Wp.L
end Go.Proofs.YtgadbnbhgpehjaaGreatDoor
namespace Go.Proofs.YtgadbnbhgpehjaaGreatDoor
open Go.RowKit
namespace Wp.L
theorem Xz4 (a p i : Int) (b : Bool) (h1 : invI a p = i) (h2 : invB a p = b) (w : World) : Calls Tryz.prog 127 #[.int .i64 a, .int .i64 p] w (Gets w (.tuple #[.int .i64 i, .bool b])) := by
 subst h1 h2
 exact Yh1 a p w
theorem Yi0 (a p : Int) (w : World) (h : In31 p) : Calls Tryz.prog 128 #[.int .i64 a, .int .i64 p] w fun e w' => e = .returned (.int .i64 (a % p)) ∧ w' = w := by
 have := L7_ a p w
 unfold modI at this
 rw [if_pos h] at this
 exact this
structure Keep (w wr : World) (vm : Value) (vs : List Value) (M : List (List Int)) : Prop where
 own : wr.ownsRow w.heap.size 26 1 vm vs.length vs
 fam : Fam wr w.heap.size vs M
 bel : Below w.heap.size w wr
theorem Keep.at_ {w wr : World} {A : Option Addr} {n c : Nat} {vs : List Value} {M : List (List Int)} (h : Keep w wr (.slice A n c) vs M) {i R : Nat} (hi : i < vs.length) (hR : 0 < R) (hl : (M.getD i []).length = R) :
  ∃ gm gi ci, A = some ⟨gm, 0, none⟩ ∧ w.heap.size ≤ gm ∧ wr.cell? ⟨gm, i, none⟩ = some (.slice (some ⟨gi, 0, none⟩) R ci) ∧ wr.frozen? ⟨gm, i, none⟩ = false ∧ vs[i]? = some (.slice (some ⟨gi, 0, none⟩) R ci) ∧ gi ≠ gm ∧
   ∀ j, j < R → wr.cell? ⟨gi, j, none⟩ = some (.int .i64 ((M.getD i []).getD j 0)) ∧ wr.frozen? ⟨gi, j, none⟩ = false := by
 have hiM : i < M.length := by rw [← h.fam.1]; exact hi
 obtain ⟨gm, cm, hA, hgm⟩ := G9_ h.own (by omega)
 injection hA with hA1 hA2 hA3
 subst hA1
 subst hA2
 have hM : M[i]? = some (M.getD i []) := by simp [List.getD, hiM]
 have ho := h.fam.2.1 i _ _ (List.getElem?_eq_getElem hi) hM
 rw [hl] at ho
 obtain ⟨gi, ci, hv, _⟩ := G9_ ho (by omega)
 have hvi : vs[i]? = some (.slice (some ⟨gi, 0, none⟩) R ci) := by rw [List.getElem?_eq_getElem hi, hv]
 refine ⟨gm, gi, ci, rfl, hgm, ?_, h.own.frozenAt i, hvi, ?_, fun j hj => ⟨?_, ?_⟩⟩
 ·rw [h.own.cellAt i (by omega)]
  exact hvi
 ·rw [hv] at ho
  rcases T2_ ho h.own (by decide) with e | e
  ·cases e
  ·intro e2
   exact e (by rw [e2]; rfl)
 ·rw [hv] at ho
  rw [ho.cellAt j (by omega)]
  exact O8_ (by omega)
 ·rw [hv] at ho
  exact ho.frozenAt j
theorem Keep.swap {w wr : World} {gm n c : Nat} {vs : List Value} {M : List (List Int)} (h : Keep w wr (.slice (some ⟨gm, 0, none⟩) n c) vs M) {k a : Nat} {uk ua : Value} (hk : vs[k]? = some uk) (ha : vs[a]? = some ua) :
  Keep w ((wr.setCell ⟨gm, a, none⟩ uk).setCell ⟨gm, k, none⟩ ua) (.slice (some ⟨gm, 0, none⟩) n c) (swapV vs k a) (swapM M k a) := by
 have hkl := (List.getElem?_eq_some_iff.1 hk).1
 have hal := (List.getElem?_eq_some_iff.1 ha).1
 have hgm := (h.own.lt gm rfl).1
 obtain ⟨_, _, hv⟩ := J1_ h.own
 injection hv with _ hn _
 subst hn
 have s1 := h.own.stored a uk
 have s2 := s1.1.stored k ua
 have e : swapV vs k a = (vs.set a uk).set k ua := by
  unfold swapV
  simp [List.getD, hk, ha]
 refine ⟨?_, ?_, (h.bel.setCell (p := ⟨gm, a, none⟩) hgm uk).setCell (p := ⟨gm, k, none⟩) hgm ua⟩
 ·rw [U7_, e]
  exact s2.1
 ·exact ((h.fam.outer h.own s1.2).outer s1.1 s2.2).swap hkl hal
theorem Keep.below {w wr w2 : World} {vm : Value} {vs : List Value} {M : List (List Int)} (h : Keep w wr vm vs M) (hb : Below wr.heap.size wr w2) : Keep w w2 vm vs M := by
 have hn : vm.ownBlock = none ∨ vm.ownBlock ≠ none := by
  rcases vm.ownBlock with _ | q
  ·exact .inl rfl
  ·exact .inr (by simp)
 exact ⟨h.own.kept (Z9_ hb none) hn, h.fam.new (Z9_ hb none), Z0_ h.bel (Nat.le_refl _) hb⟩
theorem Keep.drew {w wr : World} {vm : Value} {vs : List Value} {M : List (List Int)} (h : Keep w wr vm vs M) : Keep w wr.drew vm vs M := h.below (Below.refl _ _).drew
theorem Keep.store {w wr : World} {vm : Value} {vs : List Value} {M : List (List Int)} (h : Keep w wr vm vs M) {i gi ci j R : Nat} {q : List Int} (hv : vs[i]? = some (.slice (some ⟨gi, 0, none⟩) R ci)) (hq : M[i]? = some q) (hl : q.length = R) (x : Int) :
  Keep w (wr.setCell ⟨gi, j, none⟩ (.int .i64 x)) vm vs (M.set i (q.set j x)) := by
 subst hl
 have ho := h.fam.2.1 i _ _ hv hq
 have hs := ho.stored j (.int .i64 x)
 refine ⟨h.own.kept hs.2 ?_, h.fam.stored hv hq x, h.bel.setCell (p := ⟨gi, j, none⟩) (ho.lt gi rfl).1 _⟩
 exact T2_ h.own ho (by decide)
theorem Zw8 (p : Int) (R : Nat) (v : Value) (cols : List (List Int)) (w : World) (hpr : prB p = true) (hr : Rows2 w w.heap.size v cols) (hc : Zy6 p R cols) (hR : R ≤ 64) (hn : cols.length ≤ 64) :
  Calls Tryz.prog 105 #[.int .i64 p, .int .i64 R, v] w (Gets w (.int .i64 (rk p R (cols.map vec) : Nat))) := by
 obtain ⟨h2, h31, _⟩ := prB_iff.1 hpr
 have HP := hid hpr
 have Hc := hid hc
 obtain ⟨A, c, rfl, _, hcell⟩ := hr
 have Hcell := hid hcell
 have hn' : (cols.length : Int) ≤ 64 := by omega
 have Hinv := hid (Yj4 hpr)
 have Hmod := hid (fun a w => Yi0 a p w ⟨by omega, h31⟩)
 obtain ⟨rr, hrr⟩ : ∃ rr, rr = rk p R (cols.map vec) := ⟨_, rfl⟩
 rw [← hrr]
 have Hrr := hid hrr
 have Hown0 : Hid ((w.alloc (.cells #[] 26)).ownsRow w.heap.size 26 1 (.slice (some ⟨w.heap.size, 0, none⟩) 0 0) ([] : List Value).length ([] : List Value)) :=
  World.ownsRow_lit w #[] 0 (Nat.le_refl _) (by unfold maxLen; omega) rfl
 have Hb0 := hid ((Below.refl w.heap.size w).alloc (Nat.le_refl _) (.cells #[] 26))
 clear hpr hc hcell hrr
 go_enter Tryz.func105, Tryz.ntmps105
 go_wp2
 go_loopw [7, 8] (fun vm vi wr => ∃ (i : Nat) (vs : List Value), vi = .int .i64 i ∧ i ≤ cols.length ∧ Keep w wr vm vs (cols.take i)) (fun _ vi _ => cols.length - (intOf vi).toNat)
 case atStart => exact ⟨0, [], rfl, Nat.zero_le _, Hown0.out, Zp1 _ _, Hb0.out⟩
 case round =>
  obtain ⟨i, vs, rfl, hi, hkeep⟩ := hrel
  obtain ⟨vA, vc, rfl⟩ := J1_ hkeep.own
  have Hk := hid hkeep
  clear Hown0 Hb0 hkeep
  by_cases hlt : i < cols.length
  ·obtain ⟨ad, u, hA, hab, hcu, hru⟩ := Hcell.out i hlt
   subst hA
   have hc1 := (Hk.out.bel.cell (p := ad.add i) (by rw [Z2_]; exact hab)).trans hcu
   have Hru := hid ((hru.below Hk.out.bel).mono Hk.out.bel.size)
   obtain ⟨Au, cu, rfl, _⟩ := hru
   have hin := Hc.out i hlt
   have hlR := hin.1
   have Htk : Hid (cols.take (i + 1) = cols.take i ++ [cols.getD i []]) := by
    show _ = _
    rw [List.take_succ_eq_append_getElem hlt]
    simp [List.getD, hlt]
   have hvl : vs.length ≤ 64 := by
    have := Hk.out.fam.1
    rw [List.length_take] at this
    omega
   have hvl' : (vs.length : Int) ≤ 64 := by omega
   generalize cols.getD i [] = col at *
   have hcl64 : col.length ≤ 64 := by omega
   have Hown1 : Hid ((wr.alloc (.cells #[] 3)).ownsRow wr.heap.size 3 1 (.slice (some ⟨wr.heap.size, 0, none⟩) 0 0) ([] : List Int).length (ints [])) :=
    World.ownsRow_lit wr #[] 0 (Nat.le_refl _) (by unfold maxLen; omega) rfl
   have hc2 : (wr.alloc (.cells #[] 3)).cell? (ad.add i) = some (.slice Au col.length cu) := (World.cell?_alloc_lt _ _ _ (by rw [Z2_]; exact Nat.lt_of_lt_of_le hab Hk.out.bel.size)).trans hc1
   have Hlen := hid hlR
   clear hcu hin hlR hc1
   go_wp2_with (at_builtin; refine Z4_ rfl _ _ rfl wr.heap.size _ _ _ [] col rfl rfl Hown1.out (Hru.out.upA _) (by simp) (by omega) (by simp) ?_)
   intro u1 w1 hown1 hgr1
   obtain ⟨A1, c1, rfl⟩ := J1_ hown1
   have hb1 := ((Below.refl _ wr).alloc (Nat.le_refl _) (.cells #[] 3)).grown hgr1 (by simp) (fun k hk => (Hown1.out.lt k hk).1)
   have Hg1 : Hid (wr.grownBy w1 none) := Z9_ hb1 none
   have Hown2 := hid (Hk.out.own.kept Hg1.out (by
    rcases (Value.slice vA vs.length vc).ownBlock with _ | q
    ·exact .inl rfl
    ·exact .inr (by simp)))
   have Hfam2 := hid (Hk.out.fam.new Hg1.out)
   have Hbel2 := hid (Hk.out.bel.grown Hg1.out Hk.out.bel.size (fun k e => by cases e))
   have Hnew1 := hid hown1
   have Hdis : Hid (∀ v ∈ vs, v.ownBlock = none ∨ v.ownBlock ≠ (Value.slice A1 col.length c1).ownBlock) := by
    intro v hv
    rcases hb : v.ownBlock with _ | q
    ·exact .inl rfl
    ·right
     intro e
     have h1 := Hk.out.fam.lt hv hb
     have h2 := (hown1.lt q e.symm).1
     omega
   have Hcell2 : Hid ((w1.alloc (.cells #[.slice A1 col.length c1] 26)).cell? ⟨w1.heap.size, 0, none⟩ = some (.slice A1 col.length c1)) := (Blk.new w1 26 #[.slice A1 col.length c1]).cell 0
   have Hbig := hid Hk.out.bel.size
   have Hbig1 := hid hb1.size
   clear hown1 hgr1 hb1
   go_wp2_with (at_builtin; refine V5_ rfl _ _ 22 26 (.slice none 0 0) 24 rfl Tryz.underlying22 Yj1 rfl w.heap.size _ (.slice A1 col.length c1) vs rfl (Hown2.out.alloc _) w1.heap.size rfl Hcell2.out rfl (by omega) (by omega) (by have := Hbig.out; have := Hbig1.out; simp; omega) ?_)
   intro v3 w3 hown3 hgr3 _
   have Hkeep3 : Hid (Keep w w3 v3 (vs ++ [.slice A1 col.length c1]) (cols.take (i + 1))) := by
    refine ⟨by rw [List.length_append]; exact hown3, ?_, ?_⟩
    ·rw [Htk.out]
     refine Fam.push ((Hfam2.out.new (World.grownBy_alloc _ _ none)).outer (Hown2.out.alloc _) hgr3) ?_ Hdis.out
     refine own_le ((Hnew1.out.alloc _).kept hgr3 (T2_ (Hnew1.out.alloc (.cells #[.slice A1 col.length c1] 26)) (Hown2.out.alloc (.cells #[.slice A1 col.length c1] 26)) (by decide))) Hbig.out
    ·exact (Hbel2.out.alloc (by have := Hbig.out; have := Hbig1.out; omega) _).grown hgr3 (by have := Hbig.out; have := Hbig1.out; simp; omega) (fun k hk => ((Hown2.out.alloc (.cells #[.slice A1 col.length c1] 26)).lt k hk).1)
   clear hown3 hgr3
   go_wp2
   go_roundw
   case rel => exact ⟨i + 1, _, by go_num, by omega, Hkeep3.out⟩
   case measure => simp [intOf]; omega
  ·have hie : i = cols.length := by omega
   subst hie
   have hvl := Hk.out.fam.1
   rw [List.take_length] at hvl
   have Hk2 := hid Hk.out
   rw [List.take_length] at Hk2
   rw [hvl] at Hk2
   rw [hvl]
   clear Hk Hcell hvl
   go_wp2
   go_loopw [9, 10] (fun vn vrow wq => ∃ (nn row : Nat) (vs : List Value) (M : List (List Int)), vn = .int .i64 nn ∧ vrow = .int .i64 row ∧ row ≤ R ∧ nn ≤ cols.length ∧ Keep w wq (.slice vA cols.length vc) vs M ∧ M.length = cols.length ∧ RowsIn p R M ∧ Steps p R (cols.map vec) (M.map vec) nn row) (fun _ vrow _ => R - (intOf vrow).toNat)
   case atStart => exact ⟨0, 0, vs, cols, rfl, rfl, Nat.zero_le _, Nat.zero_le _, Hk2.out, rfl, Hc.out, Steps.start _⟩
   case round =>
    clear Hk2 vs
    obtain ⟨nn, row, vs, M, rfl, rfl, hrow, hnn, hkeep, hML, hMin, hst⟩ := hrel
    have Hk := hid hkeep
    have HM := hid hMin
    have Hst := hid hst
    have HML := hid hML
    clear hkeep hMin hst hML
    by_cases hlt : row < R
    ·have hrowi : (row : Int) < (R : Int) := by omega
     have hR0 : 0 < R := by omega
     go_wp2
     go_loop [11, 12] (fun va vi => ∃ i : Nat, vi = .int .i64 i ∧ nn ≤ i ∧ i ≤ cols.length ∧ ((va = .int .i64 (-1) ∧ ∀ j, nn ≤ j → j < i → (M.getD j []).getD row 0 = 0) ∨ ∃ a : Nat, va = .int .i64 a ∧ nn ≤ a ∧ a < cols.length ∧ (M.getD a []).getD row 0 ≠ 0)) (fun _ vi => cols.length - (intOf vi).toNat)
     case atStart => exact ⟨nn, rfl, Nat.le_refl _, hnn, .inl ⟨rfl, fun j h1 h2 => by omega⟩⟩
     case round =>
      obtain ⟨i, rfl, hni, hil, hat⟩ := hrel
      by_cases hilt : i < cols.length
      ·have hilt' : (i : Int) < (cols.length : Int) := by omega
       rcases hat with ⟨rfl, hz⟩ | ⟨a, rfl, ha1, ha2, ha3⟩
       ·obtain ⟨gm, gi, ci, hA, hgm, hcm, -, -, -, hcj⟩ := Hk.out.at_ (i := i) (by rw [Hk.out.fam.1, HML.out]; exact hilt) hR0 ((HM.out i (by rw [HML.out]; exact hilt)).1)
        subst hA
        have hcx := (hcj row hlt).1
        have Hz := hid hz
        clear hz hcj
        obtain ⟨x, hx⟩ : ∃ x, x = (M.getD i []).getD row 0 := ⟨_, rfl⟩
        rw [← hx] at hcx
        have Hx := hid hx
        clear hx
        by_cases hx0 : x = 0
        ·subst hx0
         have h00 : ((0 : Int) != 0) = false := by decide
         go_wp2
         go_round
         case rel =>
          refine ⟨i + 1, by go_num, by omega, by omega, .inl ⟨rfl, fun j h1 h2 => ?_⟩⟩
          by_cases e : j = i
          ·rw [e]; exact Hx.out.symm
          ·exact Hz.out j h1 (by omega)
         case measure => simp [intOf]; omega
        ·have hx1 : (x != 0) = true := by simpa using hx0
         go_wp2
         go_round
         case rel => exact ⟨i + 1, by go_num, by omega, by omega, .inr ⟨i, rfl, hni, hilt, by rw [← Hx.out]; exact hx0⟩⟩
         case measure => simp [intOf]; omega
       ·have Ha3 := hid ha3
        have han : ¬ (a : Int) < 0 := by omega
        clear ha3
        go_wp2
        go_round
        case rel => exact ⟨i + 1, by go_num, by omega, by omega, .inr ⟨a, rfl, ha1, ha2, Ha3.out⟩⟩
        case measure => simp [intOf]; omega
      ·have hie : i = cols.length := by omega
       rcases hat with ⟨rfl, hz⟩ | ⟨a, rfl, ha1, ha2, ha3⟩
       ·have Hst2 := hid (Yh7 Hst.out fun j h1 h2 => hz j h1 (by rw [HML.out] at h2; omega))
        clear hz hie
        go_wp2
        go_roundw
        case rel => exact ⟨nn, row + 1, vs, M, rfl, by go_num, by omega, hnn, Hk.out, HML.out, HM.out, Hst2.out⟩
        case measure => simp [intOf]; omega
       ·have Ha3 := hid ha3
        have han : ¬ (a : Int) < 0 := by omega
        clear ha3 hie
        have hnl : nn < cols.length := by omega
        have hvsl : vs.length = cols.length := by rw [Hk.out.fam.1, HML.out]
        obtain ⟨gm, ga, ca, hA, hgm, hcma, hfma, hva, hgam, hcja⟩ := Hk.out.at_ (i := a) (by rw [hvsl]; exact ha2) hR0 ((HM.out a (by rw [HML.out]; exact ha2)).1)
        subst hA
        obtain ⟨gm', gn, cn, hA', -, hcmn, hfmn, hvn, -, -⟩ := Hk.out.at_ (i := nn) (by rw [hvsl]; exact hnl) hR0 ((HM.out nn (by rw [HML.out]; exact hnl)).1)
        injection hA' with hA'
        injection hA' with hA'
        subst hA'
        have Hsw := hid (Hk.out.swap hvn hva)
        have hMin := Xg5 (n := nn) (a := a) HM.out (by rw [HML.out]; exact hnl) (by rw [HML.out]; exact ha2)
        have hget := fun j => S8_ (m := M) (n := nn) (a := a) (j := j) (by rw [HML.out]; exact hnl) (by rw [HML.out]; exact ha2)
        have hvnn : (swapV vs nn a)[nn]? = some (.slice (some ⟨ga, 0, none⟩) R ca) := by
         rw [Xg6 (by rw [hvsl]; exact hnl) (by rw [hvsl]; exact ha2)]
         unfold sigma
         rw [if_pos rfl]
         exact hva
        have hMl : (swapM M nn a).length = cols.length := by rw [K9_, HML.out]
        have hvl2 : (swapV vs nn a).length = cols.length := by rw [U7_, hvsl]
        have hst2 := Yh6 Hst.out (a := a) (by rw [HML.out]; exact ha2) ha1
        have hne : ((swapM M nn a).getD nn []).getD row 0 ≠ 0 := by
         rw [hget nn, if_pos rfl]
         exact Ha3.out
        generalize swapM M nn a = M' at *
        generalize swapV vs nn a = vs' at *
        have hcx := (hcja row hlt).1
        have hMa : (M'.getD nn []).getD row 0 = (M.getD a []).getD row 0 := by rw [hget nn, if_pos rfl]
        have hxr := hMin.get (by omega) nn row
        obtain ⟨x, hx⟩ : ∃ x, x = (M'.getD nn []).getD row 0 := ⟨_, rfl⟩
        rw [← hMa, ← hx] at hcx
        rw [← hx] at hxr hne
        have hgam2 : gm ≠ ga := fun e => hgam e.symm
        obtain ⟨v', hy'⟩ := cell?_setCell_some (w := wr) (p := ⟨gm, a, none⟩) (x := .slice (some ⟨gn, 0, none⟩) R cn) (q := ⟨gm, nn, none⟩) (v := .slice (some ⟨gn, 0, none⟩) R cn) hcmn
        obtain ⟨iv, hiv⟩ : ∃ iv, iv = invI x p := ⟨_, rfl⟩
        obtain ⟨ok, hok⟩ : ∃ ok, ok = invB x p := ⟨_, rfl⟩
        have Hinvc := hid (Xz4 x p iv ok hiv.symm hok.symm)
        obtain ⟨hi1, hi2, hi3⟩ := Hinv.out x (by omega) hxr.2
        rw [← hiv] at hi1 hi2 hi3
        have Hi1 := hid hi1
        rw [hx] at Hi1
        have HMin := hid hMin
        have Hst2 := hid hst2
        have HM'l := hid hMl
        have Hvl2 := hid hvl2
        have Hvnn := hid hvnn
        have hai : (a : Int) < (cols.length : Int) := by omega
        have hnni : (nn : Int) < (cols.length : Int) := by omega
        clear hi1 hMin hst2 hMl hvl2 hvnn hMa hcja hget hx hiv hok hva hvn hvsl hne Hk HM Hst HML
        go_wp2_with fail
        refine (Hinvc.out _).mono ?_
        rintro e w2 ⟨rfl, hb2⟩
        have Hk2 := hid (Hsw.out.below hb2)
        have HivB : Hid (0 ≤ iv ∧ iv < p) := ⟨hi2, hi3⟩
        have Hk3 : Hid (Keep w w2 (.slice (some ⟨gm, 0, none⟩) cols.length vc) vs' (subM p R iv row nn (nn + 1) M')) := by
         show Keep _ _ _ _ _
         rw [Yh8]
         exact Hk2.out
        clear hb2 hcma hfma hcmn hfmn hcx hy' Hsw Hk2
        go_wp2
        go_loopw [16] (fun vu wq => ∃ u : Nat, vu = .int .i64 u ∧ nn + 1 ≤ u ∧ u ≤ cols.length ∧ Keep w wq (.slice (some ⟨gm, 0, none⟩) cols.length vc) vs' (subM p R iv row nn u M')) (fun vu _ => cols.length - (intOf vu).toNat)
        case atStart => exact ⟨nn + 1, by go_num, Nat.le_refl _, by omega, Hk3.out⟩
        case round =>
         clear Hk3
         obtain ⟨u, rfl, hu1, hu2, hkeep⟩ := hrel
         have Hk := hid hkeep
         clear hkeep
         by_cases hult : u < cols.length
         ·have hult' : (u : Int) < (cols.length : Int) := by omega
          have hgu : (subM p R iv row nn u M').getD u [] = M'.getD u [] := by rw [C9_ (by rw [HM'l.out]; exact hult), if_neg (by omega)]
          have hgn : (subM p R iv row nn u M').getD nn [] = M'.getD nn [] := by rw [C9_ (by rw [HM'l.out]; exact hnl), if_neg (by omega)]
          have hin1 := HMin.out u (by rw [HM'l.out]; exact hult)
          have hin2 := HMin.out nn (by rw [HM'l.out]; exact hnl)
          obtain ⟨gm4, gu, cu, hA4, -, hcmu, -, hvu, -, hcju⟩ := Hk.out.at_ (i := u) (by rw [Hvl2.out]; exact hult) hR0 (by rw [hgu]; exact hin1.1)
          injection hA4 with hA4
          injection hA4 with hA4
          subst hA4
          have hcz := (hcju row hlt).1
          rw [hgu] at hcz
          have hzr := hin1.get (by omega) row
          obtain ⟨z, hz⟩ : ∃ z, z = (M'.getD u []).getD row 0 := ⟨_, rfl⟩
          rw [← hz] at hcz hzr
          have hmz := Zl1 h31 hzr.1 hzr.2 HivB.out.1 HivB.out.2
          have hmul := Zx2 h31 hzr.1 hzr.2 HivB.out.1 HivB.out.2
          obtain ⟨kq, hkq⟩ : ∃ kq, kq = z * iv % p := ⟨_, rfl⟩
          have hkr := em_lt (a := z * iv) (p := p) (by omega)
          rw [← hkq] at hkr
          have hkt : (z * iv).tmod p = kq := by rw [hkq]; exact Int.tmod_eq_emod_of_nonneg hmz.1
          have hp0 : ¬ p = 0 := by omega
          have Hstep : Hid ((subM p R iv row nn u M').set u (subR p (M'.getD u []) (M'.getD nn []) kq R) = subM p R iv row nn (u + 1) M') := by
           show _ = _
           rw [hkq, hz]
           exact Xz3 (by omega)
          have Hk5 : Hid (Keep w wr (.slice (some ⟨gm, 0, none⟩) cols.length vc) vs' ((subM p R iv row nn u M').set u (subR p (M'.getD u []) (M'.getD nn []) kq 0))) := by
           show Keep _ _ _ _ _
           rw [Xz1, ← hgu, show (subM p R iv row nn u M').set u ((subM p R iv row nn u M').getD u []) = subM p R iv row nn u M' by
            apply List.ext_getElem?
            intro q
            by_cases hq : q = u
            ·subst hq
             have : q < (subM p R iv row nn q M').length := by rw [V8_, HM'l.out]; exact hult
             rw [List.getElem?_set_self this]
             simp [List.getD, this]
            ·rw [List.getElem?_set_ne (fun e => hq e.symm)]]
           exact Hk.out
          have Hin1 := hid hin1
          have Hin2 := hid hin2
          have Hvu := hid hvu
          have Hgn := hid hgn
          have hsl : (subM p R iv row nn u M').length = cols.length := by rw [V8_, HM'l.out]
          generalize subM p R iv row nn u M' = S at *
          generalize M'.getD u [] = mu at *
          have Hsl := hid hsl
          clear hz hkq hgu hgn hin1 hin2 hcju hvu hsl Hk
          go_wp2
          go_loopw [18] (fun vj wq => ∃ j : Nat, vj = .int .i64 j ∧ j ≤ R ∧ Keep w wq (.slice (some ⟨gm, 0, none⟩) cols.length vc) vs' (S.set u (subR p mu (M'.getD nn []) kq j))) (fun vj _ => R - (intOf vj).toNat)
          case atStart => exact ⟨0, rfl, Nat.zero_le _, Hk5.out⟩
          case round =>
           clear Hk5 hcmu hcz
           obtain ⟨j, rfl, hj, hkeep⟩ := hrel
           have Hk := hid hkeep
           clear hkeep
           by_cases hjR : j < R
           ·have hjR' : (j : Int) < (R : Int) := by omega
            have huS : u < S.length := by rw [Hsl.out]; exact hult
            have hg1 : (S.set u (subR p mu (M'.getD nn []) kq j)).getD u [] = subR p mu (M'.getD nn []) kq j := by simp [List.getD, huS]
            have hg2 : (S.set u (subR p mu (M'.getD nn []) kq j)).getD nn [] = M'.getD nn [] := by
             rw [List.getD_eq_getElem?_getD, List.getElem?_set_ne (by omega), ← List.getD_eq_getElem?_getD]
             exact Hgn.out
            have hmuR : j < mu.length := by rw [Hin1.out.1]; exact hjR
            obtain ⟨gm5, gu5, cu5, hA5, -, hcm5, -, hvu5, -, hc5⟩ := Hk.out.at_ (i := u) (by rw [Hvl2.out]; exact hult) hR0 (by rw [hg1, Q4_]; exact Hin1.out.1)
            obtain ⟨gm6, gx6, cx6, hA6, -, -, -, hvx6, -, hc6⟩ := Hk.out.at_ (i := nn) (by rw [Hvl2.out]; exact hnl) hR0 (by rw [hg2]; exact Hin2.out.1)
            obtain rfl : gm5 = gm := by injection hA5 with hA5; injection hA5 with hA5; exact hA5.symm
            obtain rfl : gu5 = gu := by rw [Hvu.out] at hvu5; injection hvu5 with e; injection e with e1; injection e1 with e1; injection e1 with e1; exact e1.symm
            obtain rfl : cu5 = cu := by rw [Hvu.out] at hvu5; injection hvu5 with e; injection e with _ _ e; exact e.symm
            obtain rfl : gx6 = ga := by rw [Hvnn.out] at hvx6; injection hvx6 with e; injection e with e1; injection e1 with e1; injection e1 with e1; exact e1.symm
            have hcy := (hc5 j hjR).1
            have hfy := (hc5 j hjR).2
            have hcxx := (hc6 j hjR).1
            rw [hg1, L0_ hmuR, if_neg (by omega)] at hcy
            rw [hg2] at hcxx
            have hyr := Hin1.out.get (by omega) j
            have hxxr := Hin2.out.get (by omega) j
            have Hnext := hid (Xz2 (p := p) (a := mu) (x := M'.getD nn []) (k := kq) (u := j))
            have hq5 : (S.set u (subR p mu (M'.getD nn []) kq j))[u]? = some (subR p mu (M'.getD nn []) kq j) := by rw [List.getElem?_set_self huS]
            have Hstore := hid (fun x => Hk.out.store (j := j) hvu5 hq5 (by rw [Q4_]; exact Hin1.out.1) x)
            obtain ⟨y, hy⟩ : ∃ y, y = mu.getD j 0 := ⟨_, rfl⟩
            obtain ⟨xx, hxx⟩ : ∃ xx, xx = (M'.getD nn []).getD j 0 := ⟨_, rfl⟩
            rw [← hy] at hcy hyr Hnext
            rw [← hxx] at hcxx hxxr Hnext
            have hmk := Zl1 h31 hkr.1 hkr.2 hxxr.1 hxxr.2
            have hw1 : IntKind.i64.wrap (kq * xx) = kq * xx := by rw [IntKind.wrap_i64]; omega
            have hw2 : IntKind.i64.wrap (y - kq * xx) = y - kq * xx := by rw [IntKind.wrap_i64]; omega
            have Hq := hid (fun w => Hmod.out (y - kq * xx) w)
            generalize (y - kq * xx) % p = q at *
            clear hc5 hc6 hg1 hg2 hvu5 hvx6 hq5 hy hxx hA5 hA6 hmk hkt hmul hmz huS
            go_wp2
            refine wp_region_still_tail 22 (by kernel_rfl) (by kernel_rfl) ?_
            simp only [List.take_succ_cons, List.take_zero, List.drop_succ_cons, List.drop_zero]
            repeat still_step
            still_call (Hq.out _)
            repeat still_step
            try refine wpStill_nil ?_
            change wpList _ _ _ _ _ wr.drew
            go_wp2
            go_roundw
            case rel =>
             refine ⟨j + 1, by go_num, by omega, ?_⟩
             have := (Hstore.out q).drew
             rw [List.set_set, Hnext.out] at this
             exact this
            case measure => simp [intOf]; omega
           ·have hje : j = R := by omega
            subst hje
            have Hk6 := hid Hk.out
            rw [Hstep.out] at Hk6
            clear Hk
            go_wp2
            go_roundw
            case rel => exact ⟨u + 1, by go_num, by omega, by omega, Hk6.out⟩
            case measure => simp [intOf]; omega
         ·have hue : u = cols.length := by omega
          have Hk7 := hid Hk.out
          rw [show u = M'.length by rw [HM'l.out]; exact hue] at Hk7
          have Hst3 := hid (Yh9 (inv := iv) (by omega) Hst2.out HMin.out (by rw [HM'l.out]; exact hnl) hlt Hi1.out)
          have HMin3 := hid (Xu6 (inv := iv) (row := row) (n := nn) (u := M'.length) (by omega) HMin.out)
          have Hml3 : Hid ((subM p R iv row nn M'.length M').length = cols.length) := by
           show _ = _
           rw [V8_, HM'l.out]
          clear Hk hue
          go_wp2
          go_roundw
          case rel => exact ⟨nn + 1, row + 1, vs', _, by go_num, by go_num, by omega, by omega, Hk7.out, Hml3.out, HMin3.out, Hst3.out⟩
          case measure => simp [intOf]; omega
    ·have hre : row = R := by omega
     subst hre
     have Hfin : Hid (rr = nn) := Hrr.out.trans (Hst.out.rank (fld_ok HP.out))
     obtain rfl := Hfin.out
     go_wp2
     go_ret
     exact ⟨rfl, Hk.out.bel⟩
end Wp.L
end Go.Proofs.YtgadbnbhgpehjaaGreatDoor
namespace Go.Proofs.YtgadbnbhgpehjaaGreatDoor
open Go.RowKit
namespace Wp.L
theorem Zc7 (p rows : Int) (v : Value) (cols : List (List Int)) (b : Bool) (h : elimB p rows cols = b) (w : World) (hr : Rows2 w w.heap.size v cols) :
  Calls Tryz.prog 104 #[.int .i64 p, .int .i64 rows, v] w (Says w b) := by
 subst h
 exact Zj3 p rows v cols w hr
theorem Xg7 {p : Int} {R : Nat} {cols : List (List Int)} (h1 : prB p = true) (hR : R ≤ 64) (hn : cols.length ≤ 64) (hc : Zy6 p R cols) : rankI p R cols = ((rk p R (cols.map vec) : Nat) : Int) := by
 unfold rankI
 rw [if_pos (Xq9 h1 hR hn hc), rk_cols (fld_ok h1), ← (linesI_lines h1 hc).pl, List.length_map]
theorem refrankI_any (p rows : Int) (v : Value) (cols : List (List Int)) (w : World) (hr : Rows2 w w.heap.size v cols) :
  Calls Tryz.prog 78 #[.int .i64 p, .int .i64 rows, v] w (Gets w (.int .i64 (rankI p rows cols))) := by
 have Hr := hid hr
 obtain ⟨A, c, rfl, _⟩ := hr
 rcases hb : elimB p rows cols with _ | _
 ·have Hb := hid hb
  have e : rankI p rows cols = -1 := by unfold rankI; rw [hb]; rfl
  rw [e]
  clear hb e
  go_enter Tryz.func78, Tryz.ntmps78
  go_wp2_with fail
  refine (Zc7 p rows _ cols false Hb.out w Hr.out).mono ?_
  rintro e w1 ⟨rfl, hb1⟩
  go_wp2
  go_ret
  exact ⟨rfl, hb1⟩
 ·obtain ⟨h1, R, rfl, h2, h3, h4⟩ := elimB_in hb
  have Hb := hid hb
  rw [Xg7 h1 h2 h3 h4]
  have Hk := hid (fun w1 (hr1 : Rows2 w1 w1.heap.size (Value.slice A cols.length c) cols) => Zw8 p R _ cols w1 h1 hr1 h4 h2 h3)
  generalize rk p R (cols.map vec) = n at *
  clear hb h1 h4
  go_enter Tryz.func78, Tryz.ntmps78
  go_wp2_with fail
  refine (Zc7 p R _ cols true Hb.out w Hr.out).mono ?_
  rintro e w1 ⟨rfl, hb1⟩
  have Hb1 := hid hb1
  clear hb1
  go_wp2_with fail
  refine (Hk.out w1 (Hr.out.up Hb1.out)).mono ?_
  rintro e w2 ⟨rfl, hb2⟩
  have Hb2 := hid (Z0_ Hb1.out (Nat.le_refl _) hb2)
  go_wp2
  go_ret
  exact ⟨rfl, Hb2.out⟩
end Wp.L
end Go.Proofs.YtgadbnbhgpehjaaGreatDoor
