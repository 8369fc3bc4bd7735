/- The document's elimination on lists of lists, plain: two change places; what is taken away of all behind a step. Nothing of the program here. -/
import Derived.Test.YtmnhpccdhefddaaDoorLAlg
import Derived.Test.YtmnhpccdhefddaaDoorLSteps
namespace Go.Proofs.YtmnhpccdhefddaaDoor.Wp
variable {p : Int} {R : Nat}

/-- All rows in bounds. -/
def RowsIn (p : Int) (R : Nat) (m : List (List Int)) : Prop := ∀ i, i < m.length → InR p R (m.getD i [])
theorem vecs_get {m : List (List Int)} {j : Nat} (h : j < (m.map vec).length) : (m.map vec)[j] = vec (m.getD j []) := by
  have h' : j < m.length := by simpa using h
  simp [List.getD, h']
theorem RowsIn.get {m : List (List Int)} (h : RowsIn p R m) (hp : 0 < p) (i r : Nat) : 0 ≤ (m.getD i []).getD r 0 ∧ (m.getD i []).getD r 0 < p := by
  by_cases hi : i < m.length
  · exact (h i hi).get hp r
  · have : m.getD i [] = [] := by simp [List.getD, List.getElem?_eq_none (Nat.le_of_not_lt hi)]
    rw [this]
    simp
    exact hp

/-- Two change places. -/
def swapM (m : List (List Int)) (n a : Nat) : List (List Int) := (m.set a (m.getD n [])).set n (m.getD a [])
theorem swapM_length {m : List (List Int)} {n a : Nat} : (swapM m n a).length = m.length := by simp [swapM]
theorem swapM_getD {m : List (List Int)} {n a j : Nat} (hn : n < m.length) (ha : a < m.length) : (swapM m n a).getD j [] = if j = n then m.getD a [] else if j = a then m.getD n [] else m.getD j [] := by
  unfold swapM
  rw [List.getD_eq_getElem?_getD]
  by_cases h1 : j = n
  · subst h1
    rw [List.getElem?_set_self (by simpa using hn), if_pos rfl]
    rfl
  · rw [List.getElem?_set_ne (fun e => h1 e.symm), if_neg h1]
    by_cases h2 : j = a
    · subst h2
      rw [List.getElem?_set_self ha, if_pos rfl]
      rfl
    · rw [List.getElem?_set_ne (fun e => h2 e.symm), if_neg h2, List.getD_eq_getElem?_getD]
theorem swapM_in {m : List (List Int)} {n a : Nat} (h : RowsIn p R m) (hn : n < m.length) (ha : a < m.length) : RowsIn p R (swapM m n a) := by
  intro j hj
  rw [swapM_length] at hj
  rw [swapM_getD hn ha]
  split
  · exact h a ha
  · split
    · exact h n hn
    · exact h j hj
theorem steps_swap {C : List Vec} {m : List (List Int)} {n row a : Nat} (h : Steps p R C (m.map vec) n row) (ha : a < m.length) (hna : n ≤ a) : Steps p R C ((swapM m n a).map vec) n row := by
  have hn : n < m.length := by omega
  refine h.swap (a := a) (by simpa using ha) hna (by simp [swapM_length]) fun j h1 h2 => ?_
  rw [vecs_get h1, swapM_getD hn ha]
  split
  · rw [vecs_get]
  · split
    · rw [vecs_get]
    · rw [vecs_get]
theorem steps_skip {C : List Vec} {m : List (List Int)} {n row : Nat} (h : Steps p R C (m.map vec) n row) (hz : ∀ j, n ≤ j → j < m.length → (m.getD j []).getD row 0 = 0) : Steps p R C (m.map vec) n (row + 1) :=
  h.skip fun j hj hn => by
    rw [vecs_get hj]
    unfold vec
    rw [hz j hn (by simpa using hj)]
    exact Int.dvd_zero p

/-- Of a row so many times another one is taken away, up to u. -/
def subR (p : Int) (a x : List Int) (k : Int) (u : Nat) : List Int := (List.range a.length).map fun r => if r < u then (a.getD r 0 - k * x.getD r 0) % p else a.getD r 0
theorem subR_length {a x : List Int} {k : Int} {u : Nat} : (subR p a x k u).length = a.length := by simp [subR]
theorem subR_getD {a x : List Int} {k : Int} {u r : Nat} (h : r < a.length) : (subR p a x k u).getD r 0 = if r < u then (a.getD r 0 - k * x.getD r 0) % p else a.getD r 0 := by
  unfold subR
  rw [getD_map_range, if_pos h]
theorem subR_zero {a x : List Int} {k : Int} : subR p a x k 0 = a := by
  apply List.ext_getElem
  · exact subR_length
  · intro i h1 h2
    simp [subR, List.getD, h2]
/-- One more is taken away. -/
theorem subR_step {a x : List Int} {k : Int} {u : Nat} : (subR p a x k u).set u ((a.getD u 0 - k * x.getD u 0) % p) = subR p a x k (u + 1) := by
  apply List.ext_getElem
  · simp [subR_length]
  · intro i h1 h2
    have hi : i < a.length := by simpa [subR_length] using h2
    have e1 := subR_getD (p := p) (a := a) (x := x) (k := k) (u := u + 1) hi
    rw [List.getD_eq_getElem?_getD, List.getElem?_eq_getElem h2] at e1
    have e2 := subR_getD (p := p) (a := a) (x := x) (k := k) (u := u) hi
    rw [List.getElem_set]
    by_cases h : u = i
    · subst h
      rw [if_pos rfl]
      rw [if_pos (by omega)] at e1
      exact e1.symm
    · rw [if_neg h]
      rw [List.getD_eq_getElem?_getD, List.getElem?_eq_getElem (by rw [subR_length]; exact hi)] at e2
      have e3 : (i < u + 1) = (i < u) := by
        apply propext
        omega
      rw [show (subR p a x k u)[i]'(by rw [subR_length]; exact hi) = _ from e2]
      rw [show (subR p a x k (u + 1))[i] = _ from e1]
      simp only [e3]
theorem subR_in {a x : List Int} {k : Int} (hp : 0 < p) (h : InR p R a) : InR p R (subR p a x k R) :=
  inR_of_get (by rw [subR_length]; exact h.1) fun r hr => by
    rw [subR_getD (by rw [h.1]; exact hr), if_pos hr]
    exact ⟨Int.emod_nonneg _ (by omega), Int.emod_lt_of_pos _ hp⟩

/-- Of all behind the step, up to the row u, so much of the step is taken away. -/
def subM (p : Int) (R : Nat) (inv : Int) (row n u : Nat) (m : List (List Int)) : List (List Int) :=
  (List.range m.length).map fun q => if n < q ∧ q < u then subR p (m.getD q []) (m.getD n []) ((m.getD q []).getD row 0 * inv % p) R else m.getD q []
theorem subM_length {inv : Int} {row n u : Nat} {m : List (List Int)} : (subM p R inv row n u m).length = m.length := by simp [subM]
theorem subM_getD {inv : Int} {row n u q : Nat} {m : List (List Int)} (h : q < m.length) :
    (subM p R inv row n u m).getD q [] = if n < q ∧ q < u then subR p (m.getD q []) (m.getD n []) ((m.getD q []).getD row 0 * inv % p) R else m.getD q [] := by
  unfold subM
  simp [List.getD, h]
theorem subM_start {inv : Int} {row n : Nat} {m : List (List Int)} : subM p R inv row n (n + 1) m = m := by
  apply List.ext_getElem
  · exact subM_length
  · intro i h1 h2
    have := subM_getD (p := p) (R := R) (inv := inv) (row := row) (n := n) (u := n + 1) h2
    rw [if_neg (by omega)] at this
    simpa [List.getD, h1, h2] using this
theorem subM_step {inv : Int} {row n u : Nat} {m : List (List Int)} (hn : n < u) :
    (subM p R inv row n u m).set u (subR p (m.getD u []) (m.getD n []) ((m.getD u []).getD row 0 * inv % p) R) = subM p R inv row n (u + 1) m := by
  apply List.ext_getElem
  · simp [subM_length]
  · intro i h1 h2
    have hi : i < m.length := by simpa [subM_length] using h2
    have e1 := subM_getD (p := p) (R := R) (inv := inv) (row := row) (n := n) (u := u + 1) hi
    have e2 := subM_getD (p := p) (R := R) (inv := inv) (row := row) (n := n) (u := u) hi
    rw [List.getD_eq_getElem?_getD, List.getElem?_eq_getElem h2] at e1
    rw [List.getD_eq_getElem?_getD, List.getElem?_eq_getElem (by rw [subM_length]; exact hi)] at e2
    rw [show (subM p R inv row n (u + 1) m)[i] = _ from e1, List.getElem_set]
    by_cases h : u = i
    · subst h
      rw [if_pos rfl, if_pos ⟨hn, by omega⟩]
    · rw [if_neg h, show (subM p R inv row n u m)[i]'(by rw [subM_length]; exact hi) = _ from e2]
      by_cases h3 : n < i ∧ i < u
      · rw [if_pos h3, if_pos ⟨h3.1, by omega⟩]
      · rw [if_neg h3, if_neg (by omega)]
theorem subM_in {inv : Int} {row n u : Nat} {m : List (List Int)} (hp : 0 < p) (h : RowsIn p R m) : RowsIn p R (subM p R inv row n u m) := by
  intro q hq
  rw [subM_length] at hq
  rw [subM_getD hq]
  split
  · exact subR_in hp (h q hq)
  · exact h q hq
theorem steps_take {C : List Vec} {m : List (List Int)} {n row : Nat} {inv : Int} (hp : 1 < p) (h : Steps p R C (m.map vec) n row) (hm : RowsIn p R m) (hn : n < m.length) (hrow : row < R) (hinv : p ∣ (m.getD n []).getD row 0 * inv - 1) :
    Steps p R C ((subM p R inv row n m.length m).map vec) (n + 1) (row + 1) := by
  have hrk : ∀ q, q < m.length → ∀ r, r < R → n < q → ((subM p R inv row n m.length m).getD q []).getD r 0 = ((m.getD q []).getD r 0 - ((m.getD q []).getD row 0 * inv % p) * (m.getD n []).getD r 0) % p := by
    intro q hq r hr hnq
    rw [subM_getD hq, if_pos ⟨hnq, hq⟩, subR_getD (by rw [(hm q hq).1]; exact hr), if_pos hr]
  refine h.take (by simpa using hn) (by simp [subM_length]) ?_ hrow (fun j h1 h2 hj => ?_) (fun j h1 h2 hj => ?_)
  · rw [vecs_get]
    unfold vec
    intro hd
    have h1 := Int.dvd_sub (Int.dvd_trans hd (Int.dvd_mul_right _ inv)) hinv
    have e : (m.getD n []).getD row 0 * inv - ((m.getD n []).getD row 0 * inv - 1) = 1 := by omega
    rw [e] at h1
    have := zero_of_dvd h1 (by decide) hp
    exact absurd this (by decide)
  · rw [vecs_get h1, vecs_get h2, subM_getD (by simpa using h2), if_neg (by omega)]
  · have hjl : j < m.length := by simpa using h2
    refine ⟨?_, (m.getD j []).getD row 0 * inv % p, fun r hr => ?_⟩
    · rw [vecs_get h1]
      unfold vec
      rw [hrk j hjl row hrow hj]
      rw [Int.emod_eq_zero_of_dvd]
      · exact Int.dvd_zero p
      · have h3 := dvd_emod_sub (p := p) ((m.getD j []).getD row 0 * inv)
        have h4 := Int.dvd_trans h3 (Int.dvd_mul_right _ ((m.getD n []).getD row 0))
        have h5 := Int.dvd_trans hinv (Int.dvd_mul_left ((m.getD j []).getD row 0) _)
        have h6 := Int.dvd_sub h4 h5
        have e : ((m.getD j []).getD row 0 * inv - (m.getD j []).getD row 0 * inv % p) * (m.getD n []).getD row 0 - (m.getD j []).getD row 0 * ((m.getD n []).getD row 0 * inv - 1)
            = (m.getD j []).getD row 0 - ((m.getD j []).getD row 0 * inv % p) * (m.getD n []).getD row 0 := by
          rw [Int.mul_sub, Int.mul_one, Int.sub_mul, Int.mul_assoc, Int.mul_comm inv]
          omega
        rwa [e] at h6
    · rw [vecs_get h1, vecs_get h2, vecs_get (by simpa using hn)]
      unfold vec
      rw [hrk j hjl r hr hj]
      have h3 := (Int.dvd_neg).2 (dvd_emod_sub (p := p) ((m.getD j []).getD r 0 - (m.getD j []).getD row 0 * inv % p * (m.getD n []).getD r 0))
      rwa [Int.neg_sub] at h3

end Go.Proofs.YtmnhpccdhefddaaDoor.Wp
