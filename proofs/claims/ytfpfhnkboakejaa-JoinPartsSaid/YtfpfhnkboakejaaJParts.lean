/- The parts of a graph, as lists, and how they come vertex by vertex. Nothing of the program here. -/
import Derived.Test.YtfpfhnkboakejaaJPure
namespace Go.Proofs.Ytfpfhnkboakejaa.Wp

/-- The vertices below n whose least connected one is r. -/
def partAt (n : Nat) (f : Nat → Nat) (r : Nat) : List Nat := (List.range n).filter fun v => decide (f v = r)
def rootsL (n : Nat) (f : Nat → Nat) : List Nat := (List.range n).filter (rootB f)
def partsL (n : Nat) (f : Nat → Nat) : List (List Nat) := (rootsL n f).map (partAt n f)

theorem parts_length (n : Nat) (f : Nat → Nat) : (partsL n f).length = cnt (rootB f) n := by simp [partsL, rootsL, cnt]
theorem partAt_succ (n : Nat) (f : Nat → Nat) (r : Nat) : partAt (n + 1) f r = partAt n f r ++ if f n = r then [n] else [] := by
  unfold partAt
  rw [List.range_succ, List.filter_append]
  by_cases h : f n = r <;> simp [h]
theorem rootsL_succ (n : Nat) (f : Nat → Nat) : rootsL (n + 1) f = rootsL n f ++ if f n = n then [n] else [] := by
  unfold rootsL
  rw [List.range_succ, List.filter_append]
  by_cases h : f n = n <;> simp [rootB, h]
theorem mem_rootsL {n : Nat} {f : Nat → Nat} {r : Nat} : r ∈ rootsL n f ↔ r < n ∧ f r = r := by simp [rootsL, rootB]
theorem mem_partAt {n : Nat} {f : Nat → Nat} {r v : Nat} : v ∈ partAt n f r ↔ v < n ∧ f v = r := by simp [partAt]
theorem partAt_length (n : Nat) (f : Nat → Nat) (r : Nat) : (partAt n f r).length ≤ n := by
  have := List.length_filter_le (fun v => decide (f v = r)) (List.range n)
  simpa [partAt] using this

/-- Where r's part stands. -/
theorem roots_at {f : Nat → Nat} {r : Nat} (hr : f r = r) : ∀ {n : Nat}, r < n → (rootsL n f)[cnt (rootB f) r]? = some r
  | 0, h => by omega
  | n + 1, h => by
    rw [rootsL_succ]
    have hl : (rootsL n f).length = cnt (rootB f) n := rfl
    by_cases hrn : r = n
    · subst hrn
      rw [if_pos hr, List.getElem?_append_right (by omega), hl]
      simp
    · have ih := roots_at hr (n := n) (by omega)
      have hlt := (List.getElem?_eq_some_iff.1 ih).1
      rw [List.getElem?_append_left hlt]
      exact ih
theorem cnt_root_lt {f : Nat → Nat} {r n : Nat} (hr : f r = r) (h : r < n) : cnt (rootB f) r < cnt (rootB f) n := by
  have := (List.getElem?_eq_some_iff.1 (roots_at hr h)).1
  exact this

/-- The parts with room for vertex k's. -/
def partsRoom (k : Nat) (f : Nat → Nat) : List (List Nat) := if f k = k then partsL k f ++ [[]] else partsL k f
theorem partAt_new {f : Nat → Nat} {k : Nat} (hle : ∀ v, f v ≤ v) : partAt k f k = [] := by
  rw [List.eq_nil_iff_forall_not_mem]
  intro v hv
  have := mem_partAt.1 hv
  have := hle v
  omega
theorem room_length (k : Nat) (f : Nat → Nat) : (partsRoom k f).length = cnt (rootB f) (k + 1) := by
  unfold partsRoom
  rw [cnt_succ]
  by_cases h : f k = k
  · simp [h, rootB, parts_length]
  · simp [h, rootB, parts_length]
theorem room_lt {f : Nat → Nat} {k : Nat} (hle : ∀ v, f v ≤ v) (hid : ∀ v, f (f v) = f v) : cnt (rootB f) (f k) < (partsRoom k f).length := by
  rw [room_length]
  exact cnt_root_lt (hid k) (by have := hle k; omega)
theorem room_at {f : Nat → Nat} {k : Nat} (hle : ∀ v, f v ≤ v) (hid : ∀ v, f (f v) = f v) : (partsRoom k f)[cnt (rootB f) (f k)]? = some (partAt k f (f k)) := by
  unfold partsRoom
  by_cases h : f k = k
  · rw [if_pos h, h, List.getElem?_append_right (by rw [parts_length]; exact Nat.le_refl _), parts_length, partAt_new hle]
    simp
  · have hlt : f k < k := by have := hle k; omega
    rw [if_neg h]
    unfold partsL
    rw [List.getElem?_map, roots_at (hid k) hlt]
    rfl
theorem rootsL_rise (n : Nat) (f : Nat → Nat) : (rootsL n f).Pairwise (· < ·) := List.Pairwise.sublist List.filter_sublist List.pairwise_lt_range
theorem rise_inj {l : List Nat} (h : l.Pairwise (· < ·)) {i j : Nat} {r : Nat} (hi : l[i]? = some r) (hj : l[j]? = some r) : i = j := by
  obtain ⟨a, ha⟩ := List.getElem?_eq_some_iff.1 hi
  obtain ⟨b, hb⟩ := List.getElem?_eq_some_iff.1 hj
  rcases Nat.lt_trichotomy i j with hlt | he | hlt
  · have := List.pairwise_iff_getElem.1 h i j a b hlt
    omega
  · exact he
  · have := List.pairwise_iff_getElem.1 h j i b a hlt
    omega
/-- The parts, one vertex more. -/
theorem parts_step {f : Nat → Nat} {k : Nat} (hle : ∀ v, f v ≤ v) (hid : ∀ v, f (f v) = f v) :
    partsL (k + 1) f = (partsRoom k f).set (cnt (rootB f) (f k)) (partAt k f (f k) ++ [k]) := by
  refine List.ext_getElem? fun i => ?_
  have hlen : (rootsL (k + 1) f).length = cnt (rootB f) (k + 1) := rfl
  by_cases hi : i = cnt (rootB f) (f k)
  · subst hi
    rw [List.getElem?_set_self (room_lt hle hid)]
    unfold partsL
    rw [List.getElem?_map, roots_at (hid k) (by have := hle k; omega)]
    simp [partAt_succ]
  · rw [List.getElem?_set_ne (fun h => hi h.symm)]
    unfold partsL partsRoom
    rw [List.getElem?_map, rootsL_succ]
    have hother : ∀ r, (rootsL k f)[i]? = some r → partAt (k + 1) f r = partAt k f r := by
      intro r hr
      have hm := mem_rootsL.1 (List.mem_of_getElem? hr)
      rw [partAt_succ]
      by_cases hk : f k = r
      · exfalso
        have h2 := roots_at (f := f) (r := r) hm.2 (n := k) hm.1
        exact hi (by rw [hk]; exact rise_inj (rootsL_rise k f) hr h2)
      · simp [hk]
    by_cases h : f k = k
    · rw [if_pos h, if_pos h]
      have hi2 : i ≠ (rootsL k f).length := by rw [h] at hi; exact hi
      have hpl : (partsL k f).length = (rootsL k f).length := by simp [partsL]
      by_cases hlt : i < (rootsL k f).length
      · rw [List.getElem?_append_left hlt, List.getElem?_append_left (by rw [hpl]; exact hlt)]
        unfold partsL
        rw [List.getElem?_map, List.getElem?_eq_getElem hlt]
        simp [hother _ (List.getElem?_eq_getElem hlt)]
      · rw [List.getElem?_eq_none (by simp; omega), List.getElem?_eq_none (by simp [hpl]; omega)]
        rfl
    · rw [if_neg h, if_neg h, List.append_nil]
      unfold partsL
      rw [List.getElem?_map]
      rcases hr : (rootsL k f)[i]? with _ | r
      · rfl
      · simp [hother r hr]
theorem parts_zero (f : Nat → Nat) : partsL 0 f = [] := rfl

/-- Another labelling that agrees below n has the same parts. -/
theorem parts_congr {n : Nat} {f g : Nat → Nat} (h : ∀ v, v < n → f v = g v) : partsL n f = partsL n g := by
  have hr : rootsL n f = rootsL n g := List.filter_congr fun v hv => by
    have := h v (List.mem_range.1 hv)
    simp [rootB, this]
  unfold partsL
  rw [hr]
  refine List.map_congr_left fun r _ => List.filter_congr fun v hv => ?_
  rw [h v (List.mem_range.1 hv)]

/-- The first of a part is its least. -/
theorem partAt_head {n : Nat} {f : Nat → Nat} {r : Nat} (hle : ∀ v, f v ≤ v) (hr : f r = r) (h : r < n) : ∃ t, partAt n f r = r :: t := by
  have hm : r ∈ partAt n f r := mem_partAt.2 ⟨h, hr⟩
  have hp : (partAt n f r).Pairwise (· < ·) := List.Pairwise.sublist List.filter_sublist List.pairwise_lt_range
  rcases hl : partAt n f r with _ | ⟨x, t⟩
  · rw [hl] at hm; simp at hm
  · refine ⟨t, ?_⟩
    rw [hl, List.pairwise_cons] at hp
    rw [hl] at hm
    have hx : x ∈ partAt n f r := by rw [hl]; simp
    have hx2 := mem_partAt.1 hx
    have := hle x
    rcases List.mem_cons.1 hm with he | ht
    · rw [he]
    · have := hp.1 r ht
      omega
theorem partAt_sorted (n : Nat) (f : Nat → Nat) (r : Nat) : (partAt n f r).Pairwise (· < ·) := List.Pairwise.sublist List.filter_sublist List.pairwise_lt_range

end Go.Proofs.Ytfpfhnkboakejaa.Wp
