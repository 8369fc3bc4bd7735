/- A queue by keys, plain: pairs, which of two comes ahead, a heap in a list, how it is kept. Nothing of the program here. -/
import Derived.Lib.Hide
namespace Go.Proofs.Ytcdfjhmlpdhelaa.Wp

/-- Does a pair come ahead of another one? -/
def ltP (a b : Int × Int) : Prop := a.1 < b.1 ∨ (a.1 = b.1 ∧ a.2 < b.2)
instance (a b : Int × Int) : Decidable (ltP a b) := by unfold ltP; infer_instance
theorem ltP_irrefl (a : Int × Int) : ¬ ltP a a := by unfold ltP; omega
theorem ltP_trans {a b c : Int × Int} (h : ltP a b) (k : ltP b c) : ltP a c := by unfold ltP at *; omega
theorem leP_trans {a b c : Int × Int} (h : ¬ ltP b a) (k : ¬ ltP c b) : ¬ ltP c a := by unfold ltP at *; omega
theorem ltP_asymm {a b : Int × Int} (h : ltP a b) : ¬ ltP b a := by unfold ltP at *; omega
theorem ltP_antisymm {a b : Int × Int} (h : ¬ ltP a b) (k : ¬ ltP b a) : a = b := by
  unfold ltP at *
  exact Prod.ext (by omega) (by omega)
theorem ltP_le {a b c : Int × Int} (h : ltP a b) (k : ¬ ltP c b) : ¬ ltP c a := by unfold ltP at *; omega

def atP (ps : List (Int × Int)) (i : Nat) : Int × Int := ps.getD i (0, 0)
theorem atP_mem {ps : List (Int × Int)} {i : Nat} (h : i < ps.length) : atP ps i ∈ ps := by
  unfold atP
  rw [show ps.getD i (0, 0) = ps[i] by simp [List.getD, h]]
  exact List.getElem_mem h
theorem mem_atP {ps : List (Int × Int)} {x : Int × Int} (h : x ∈ ps) : ∃ i, i < ps.length ∧ atP ps i = x := by
  obtain ⟨i, hi, e⟩ := List.mem_iff_getElem.1 h
  exact ⟨i, hi, by unfold atP; rw [← e]; simp [List.getD, hi]⟩

/-- Two change places. -/
def swapL (ps : List (Int × Int)) (i j : Nat) : List (Int × Int) := (ps.set i (atP ps j)).set j (atP ps i)
theorem swapL_length (ps : List (Int × Int)) (i j : Nat) : (swapL ps i j).length = ps.length := by simp [swapL]
theorem atP_swap (ps : List (Int × Int)) (i j k : Nat) (hi : i < ps.length) (hj : j < ps.length) : atP (swapL ps i j) k = if k = j then atP ps i else if k = i then atP ps j else atP ps k := by
  have key : ∀ m, (swapL ps i j).getD m (0, 0) = if m = j then atP ps i else if m = i then atP ps j else atP ps m := by
    intro m
    unfold swapL
    rw [List.getD_eq_getElem?_getD, List.getElem?_set, List.getElem?_set]
    by_cases h1 : j = m
    · subst h1
      simp [hj]
    · by_cases h2 : i = m
      · subst h2
        have h3 : ¬ i = j := fun e => h1 e.symm
        simp [h1, hi, h3]
      · have h3 : ¬ m = j := fun e => h1 e.symm
        have h4 : ¬ m = i := fun e => h2 e.symm
        simp [h1, h2, h3, h4, atP, List.getD]
  exact key k
theorem swapL_perm (ps : List (Int × Int)) (i j : Nat) (hi : i < ps.length) (hj : j < ps.length) : (swapL ps i j).Perm ps := by
  have h := Array.swap_perm (xs := ps.toArray) (i := i) (j := j) (by simpa using hi) (by simpa using hj)
  rw [Array.perm_iff_toList_perm] at h
  have e : (ps.toArray.swap i j (by simpa using hi) (by simpa using hj)).toList = swapL ps i j := by
    unfold swapL atP
    simp [Array.swap, List.getD, hi, hj]
  rw [e] at h
  simpa using h

/-- A heap in the first n. -/
def HeapTo (n : Nat) (ps : List (Int × Int)) : Prop := ∀ i, 0 < i → i < n → ¬ ltP (atP ps i) (atP ps ((i - 1) / 2))
theorem HeapTo.least {n : Nat} {ps : List (Int × Int)} (h : HeapTo n ps) : ∀ i, i < n → ¬ ltP (atP ps i) (atP ps 0) := by
  have key : ∀ m i, i < m → i < n → ¬ ltP (atP ps i) (atP ps 0) := by
    intro m
    induction m with
    | zero => intro i hi; omega
    | succ m ih =>
      intro i hi hn
      by_cases h0 : i = 0
      · subst h0; exact ltP_irrefl _
      · exact leP_trans (ih ((i - 1) / 2) (by omega) (by omega)) (h i (by omega) hn)
  exact fun i hi => key (i + 1) i (by omega) hi

/-- A heap, but for the j-th against the one above. -/
structure UpTo (n : Nat) (ps : List (Int × Int)) (j : Nat) : Prop where
  rest : ∀ i, 0 < i → i < n → i ≠ j → ¬ ltP (atP ps i) (atP ps ((i - 1) / 2))
  skip : ∀ c, 0 < c → c < n → (c - 1) / 2 = j → 0 < j → ¬ ltP (atP ps c) (atP ps ((j - 1) / 2))
theorem UpTo.zero {n : Nat} {ps : List (Int × Int)} (h : UpTo n ps 0) : HeapTo n ps := fun i h0 hn => h.rest i h0 hn (by omega)
theorem UpTo.done {n : Nat} {ps : List (Int × Int)} {j : Nat} (h : UpTo n ps j) (hj : ¬ ltP (atP ps j) (atP ps ((j - 1) / 2))) : HeapTo n ps := fun i h0 hn => by
  by_cases e : i = j
  · subst e; exact hj
  · exact h.rest i h0 hn e
theorem UpTo.step {n : Nat} {ps : List (Int × Int)} {j : Nat} (h : UpTo n ps j) (hj : j < ps.length) (h0 : 0 < j) (hl : ltP (atP ps j) (atP ps ((j - 1) / 2))) : UpTo n (swapL ps ((j - 1) / 2) j) ((j - 1) / 2) := by
  have hp : (j - 1) / 2 < ps.length := by omega
  have e := fun k => atP_swap ps ((j - 1) / 2) j k hp hj
  refine ⟨fun i i0 hi hne => ?_, fun c c0 hc hcp hp0 => ?_⟩
  · rw [e i, e ((i - 1) / 2)]
    by_cases h1 : i = j
    · subst h1
      rw [if_pos rfl, if_neg (by omega), if_pos rfl]
      exact ltP_asymm hl
    · rw [if_neg h1, if_neg hne]
      by_cases h2 : (i - 1) / 2 = j
      · rw [if_pos h2]
        exact h.skip i i0 hi h2 h0
      · rw [if_neg h2]
        by_cases h3 : (i - 1) / 2 = (j - 1) / 2
        · rw [if_pos h3]
          have := h.rest i i0 hi h1
          rw [h3] at this
          exact ltP_le hl this
        · rw [if_neg h3]
          exact h.rest i i0 hi h1
  · have hpp : ¬ ltP (atP ps ((j - 1) / 2)) (atP ps (((j - 1) / 2 - 1) / 2)) := h.rest _ hp0 (by omega) (by omega)
    rw [e c, e (((j - 1) / 2 - 1) / 2), if_neg (show ¬ ((j - 1) / 2 - 1) / 2 = j by omega), if_neg (show ¬ ((j - 1) / 2 - 1) / 2 = (j - 1) / 2 by omega)]
    by_cases h1 : c = j
    · rw [if_pos h1]
      exact hpp
    · rw [if_neg h1, if_neg (by omega)]
      have := h.rest c c0 hc h1
      rw [hcp] at this
      exact leP_trans hpp this
/-- One more at the end. -/
theorem HeapTo.push {ps : List (Int × Int)} (h : HeapTo ps.length ps) (p : Int × Int) : UpTo (ps ++ [p]).length (ps ++ [p]) ps.length := by
  have e : ∀ k, k < ps.length → atP (ps ++ [p]) k = atP ps k := fun k hk => by
    unfold atP
    rw [List.getD_eq_getElem?_getD, List.getElem?_append_left hk, ← List.getD_eq_getElem?_getD]
  refine ⟨fun i h0 hi hne => ?_, fun c c0 hc hcp _ => ?_⟩
  · have hi' : i < ps.length := by simp at hi; omega
    rw [e i hi', e _ (by omega)]
    exact h i h0 hi'
  · simp at hc
    omega

/-- A heap in the first n, but for the i-th against those below. -/
structure DownTo (n : Nat) (ps : List (Int × Int)) (i : Nat) : Prop where
  rest : ∀ c, 0 < c → c < n → (c - 1) / 2 ≠ i → ¬ ltP (atP ps c) (atP ps ((c - 1) / 2))
  skip : ∀ c, 0 < c → c < n → (c - 1) / 2 = i → 0 < i → ¬ ltP (atP ps c) (atP ps ((i - 1) / 2))
theorem DownTo.none {n : Nat} {ps : List (Int × Int)} {i : Nat} (h : DownTo n ps i) (hn : n ≤ 2 * i + 1) : HeapTo n ps := fun c c0 hc => h.rest c c0 hc (by omega)
/-- The lesser one of two below. -/
structure Lesser (n : Nat) (ps : List (Int × Int)) (i j : Nat) : Prop where
  one : j = 2 * i + 1 ∨ j = 2 * i + 2
  lt : j < n
  least : ∀ c, 0 < c → c < n → (c - 1) / 2 = i → ¬ ltP (atP ps c) (atP ps j)
theorem DownTo.done {n : Nat} {ps : List (Int × Int)} {i j : Nat} (h : DownTo n ps i) (hl : Lesser n ps i j) (hj : ¬ ltP (atP ps j) (atP ps i)) : HeapTo n ps := fun c c0 hc => by
  by_cases e : (c - 1) / 2 = i
  · rw [e]
    exact leP_trans hj (hl.least c c0 hc e)
  · exact h.rest c c0 hc e
theorem DownTo.step {n : Nat} {ps : List (Int × Int)} {i j : Nat} (h : DownTo n ps i) (hl : Lesser n ps i j) (hn : n ≤ ps.length) (hj : ltP (atP ps j) (atP ps i)) : DownTo n (swapL ps i j) j := by
  have h1 := hl.one
  have h2 := hl.lt
  have hi : i < ps.length := by omega
  have e := fun k => atP_swap ps i j k hi (by omega)
  refine ⟨fun c c0 hc hne => ?_, fun c c0 hc hcp hj0 => ?_⟩
  · rw [e c, e ((c - 1) / 2), if_neg (show ¬ (c - 1) / 2 = j from hne)]
    by_cases h3 : (c - 1) / 2 = i
    · rw [if_pos h3]
      by_cases h4 : c = j
      · rw [if_pos h4]
        exact ltP_asymm hj
      · rw [if_neg h4, if_neg (by omega)]
        exact hl.least c c0 hc h3
    · rw [if_neg h3]
      by_cases h4 : c = j
      · omega
      · rw [if_neg h4]
        by_cases h5 : c = i
        · rw [if_pos h5]
          have := h.skip j (by omega) h2 (by omega) (by omega)
          rw [← h5] at this
          exact this
        · rw [if_neg h5]
          exact h.rest c c0 hc h3
  · have hp : (j - 1) / 2 = i := by omega
    rw [e c, e ((j - 1) / 2), hp, if_neg (show ¬ c = j by omega), if_neg (show ¬ c = i by omega), if_neg (show ¬ i = j by omega), if_pos rfl]
    have := h.rest c c0 hc (by omega)
    rw [hcp] at this
    exact this

theorem dropLast_eq {ps : List (Int × Int)} {n : Nat} (h : ps.length = n + 1) : ps = ps.take n ++ [atP ps n] := by
  have hn : n < ps.length := by omega
  have e : atP ps n = ps[n] := by unfold atP; simp [List.getD, hn]
  rw [e, ← List.take_succ_eq_append_getElem hn, List.take_of_length_le (by omega)]
theorem atP_take {ps : List (Int × Int)} {n k : Nat} (h : k < n) : atP (ps.take n) k = atP ps k := by
  unfold atP
  rw [List.getD_eq_getElem?_getD, List.getElem?_take, if_pos h, ← List.getD_eq_getElem?_getD]
theorem HeapTo.take {n : Nat} {ps : List (Int × Int)} (h : HeapTo n ps) : HeapTo n (ps.take n) := fun i i0 hi => by
  rw [atP_take hi, atP_take (by omega)]
  exact h i i0 hi
/-- The first and the last one have changed places. -/
theorem HeapTo.pop {ps : List (Int × Int)} {n : Nat} (hl : ps.length = n + 1) (h : HeapTo ps.length ps) : DownTo n (swapL ps 0 n) 0 := by
  have e := fun k => atP_swap ps 0 n k (by omega) (by omega)
  refine ⟨fun c c0 hc hne => ?_, fun c c0 hc hcp h0 => absurd h0 (by omega)⟩
  rw [e c, e ((c - 1) / 2), if_neg (by omega), if_neg (by omega), if_neg (by omega), if_neg (by omega)]
  exact h c c0 (by omega)

end Go.Proofs.Ytcdfjhmlpdhelaa.Wp
