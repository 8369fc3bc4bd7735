/- What follows, plain: the rank of all up to a column; columns turned, times a number, twice; units. Nothing of the program here. -/
import Derived.Test.YtmnhpccdhefddaaDoorLAlgC
import Derived.Test.YtmnhpccdhefddaaDoorLSteps
namespace Go.Proofs.YtmnhpccdhefddaaDoor.Wp
variable {p : Int} {R : Nat}

theorem rk_firsts_in (hf : Fld p) {cols : List (List Int)} {k : Nat} (h : InB p R cols k) : rk p R (firsts cols (k + 1)) = rk p R (firsts cols k) + 1 := by
  rw [firsts_succ]
  exact rk_snoc_out hf h
theorem rk_firsts_out (hf : Fld p) {cols : List (List Int)} {k : Nat} (h : ¬ InB p R cols k) : rk p R (firsts cols (k + 1)) = rk p R (firsts cols k) := by
  rw [firsts_succ]
  exact rk_snoc_in hf (Classical.not_not.1 h)
theorem rk_basN (hf : Fld p) {cols : List (List Int)} : ∀ (k : Nat), rk p R (firsts cols k) = (basN p R cols k).length
  | 0 => rfl
  | k + 1 => by
    by_cases h : InB p R cols k
    · rw [rk_firsts_in hf h, basN_in h, rk_basN hf k]
      simp
    · rw [rk_firsts_out hf h, basN_out h, rk_basN hf k]
theorem rk_cols (hf : Fld p) (cols : List (List Int)) : rk p R (cols.map vec) = (basN p R cols cols.length).length := by
  rw [← firsts_all]
  exact rk_basN hf _
theorem firsts_take (cols : List (List Int)) {k : Nat} (hk : k ≤ cols.length) : firsts cols k = (cols.take k).map vec := by
  unfold firsts
  apply List.ext_getElem
  · simp
    omega
  · intro i h1 h2
    simp at h1
    simp [colV, List.getD, show i < cols.length by omega]

/-- A goal adds nothing just if it is a combination. -/
theorem rk_goal (hf : Fld p) (us : List Vec) (v : Vec) : rk p R (us ++ [v]) = rk p R us ↔ InSp p R us v := by
  constructor
  · intro h
    apply Classical.byContradiction
    intro hn
    have := rk_snoc_out hf hn
    omega
  · exact rk_snoc_in hf

theorem basN_le {cols : List (List Int)} {k : Nat} : (basN p R cols k).length ≤ k := by
  unfold basN
  have := List.length_filter_le (fun i => @decide (InB p R cols i) (Classical.propDecidable _)) (List.range k)
  simpa using this

/-- Columns that stand twice. -/
theorem basN_twice {cols : List (List Int)} : basN p R (cols ++ cols) (cols ++ cols).length = basN p R cols cols.length := by
  have hlt : ∀ i, i < cols.length → (cols ++ cols).getD i [] = cols.getD i [] := by
    intro i hi
    simp [List.getD, List.getElem?_append_left hi]
  have hfirst : ∀ k, k ≤ cols.length → firsts (cols ++ cols) k = firsts cols k := by
    intro k hk
    unfold firsts
    apply List.map_congr_left
    intro i hi
    unfold colV
    rw [hlt i (by have := List.mem_range.1 hi; omega)]
  have h1 : ∀ k, k ≤ cols.length → basN p R (cols ++ cols) k = basN p R cols k := by
    intro k
    induction k with
    | zero => intro _; rfl
    | succ k ih =>
      intro hk
      have e : InB p R (cols ++ cols) k ↔ InB p R cols k := by
        unfold InB colV
        rw [hfirst k (by omega), hlt k (by omega)]
      by_cases h : InB p R cols k
      · rw [basN_in h, basN_in (e.2 h), ih (by omega)]
      · rw [basN_out h, basN_out (fun hn => h (e.1 hn)), ih (by omega)]
  have h2 : ∀ k, k ≤ cols.length → basN p R (cols ++ cols) (cols.length + k) = basN p R cols cols.length := by
    intro k
    induction k with
    | zero => intro _; exact h1 _ (Nat.le_refl _)
    | succ k ih =>
      intro hk
      have hin : ¬ InB p R (cols ++ cols) (cols.length + k) := by
        unfold InB
        rw [Classical.not_not]
        have e : colV (cols ++ cols) (cols.length + k) = colV (cols ++ cols) k := by
          unfold colV
          rw [hlt k (by omega)]
          congr 1
          rw [List.getD_eq_getElem?_getD, List.getElem?_append_right (by omega), List.getD_eq_getElem?_getD]
          congr 2
          omega
        rw [e]
        exact sp_mem (List.mem_map.2 ⟨k, List.mem_range.2 (by omega), rfl⟩)
      rw [← Nat.add_assoc, basN_out hin, ih (by omega)]
  rw [List.length_append]
  exact h2 _ (Nat.le_refl _)

/-! ### Units -/
def unitL (n i : Nat) : List Int := (List.range n).map fun r => if r = i then 1 else 0
def unitsL (n : Nat) : List (List Int) := (List.range n).map (unitL n)
theorem unitL_getD {n i r : Nat} (h : r < n) : (unitL n i).getD r 0 = if r = i then 1 else 0 := by
  unfold unitL
  rw [getD_map_range, if_pos h]
theorem lin_units {n : Nat} : ∀ {T : List Int} {k r : Nat}, r < n → lin T ((List.range' k T.length).map fun i => vec (unitL n i)) r = if k ≤ r then T.getD (r - k) 0 else 0
  | [], k, r, _ => by simp [lin]
  | c :: T, k, r, hr => by
    rw [List.length_cons, List.range'_succ, List.map_cons]
    simp only [lin]
    rw [lin_units (T := T) (k := k + 1) hr]
    unfold vec
    rw [unitL_getD hr]
    by_cases h1 : r = k
    · subst h1
      have hn : ¬ (r + 1 ≤ r) := by omega
      simp [hn]
    · rw [if_neg h1]
      by_cases h2 : k ≤ r
      · rw [if_pos h2, if_pos (by omega)]
        obtain ⟨d, hd⟩ : ∃ d, r - k = d + 1 := ⟨r - k - 1, by omega⟩
        rw [hd, show r - (k + 1) = d by omega]
        simp
      · rw [if_neg h2, if_neg (by omega)]
        simp
theorem unitsL_vec (n : Nat) : (unitsL n).map vec = (List.range' 0 n).map fun i => vec (unitL n i) := by
  unfold unitsL
  rw [List.map_map, List.range_eq_range']
  rfl
/-- What is told of units is the goal itself. -/
theorem told_units {n : Nat} (hp : 0 < p) {goal T : List Int} (hg : InR p n goal) (h : Told p n (unitsL n) goal T) : T = goal := by
  have hl : T.length = n := by rw [h.len]; simp [unitsL]
  apply List.ext_getElem
  · rw [hl, hg.1]
  · intro i h1 h2
    have hin : i < n := by omega
    have hs := h.sum i hin
    rw [unitsL_vec] at hs
    have e := lin_units (n := n) (T := T) (k := 0) hin
    rw [hl] at e
    rw [e, if_pos (Nat.zero_le _), Nat.sub_zero] at hs
    have hr1 := h.rng i
    have hr2 := hg.get hp i
    have a1 : T.getD i 0 = T[i] := by simp [List.getD, h1]
    have a2 : goal.getD i 0 = goal[i] := by simp [List.getD, h2]
    rw [a1, a2] at hs
    rw [a1] at hr1
    rw [a2] at hr2
    rcases Int.lt_trichotomy goal[i] T[i] with hlt | heq | hgt
    · have h3 := (Int.dvd_neg).2 hs
      have := zero_of_dvd h3 (by omega) (by omega)
      omega
    · exact heq.symm
    · have := zero_of_dvd hs (by omega) (by omega)
      omega
theorem unitsL_in {n : Nat} (hp : 1 < p) : ColsIn p n (unitsL n) := by
  intro i hi
  have hin : i < n := by simpa [unitsL] using hi
  have e : (unitsL n).getD i [] = unitL n i := by simp [unitsL, List.getD, hin]
  rw [e]
  refine inR_of_get (by simp [unitL]) fun r hr => ?_
  rw [unitL_getD hr]
  split <;> omega
theorem basN_units {n : Nat} (hp : 1 < p) : basN p n (unitsL n) (unitsL n).length = List.range n := by
  have hlen : (unitsL n).length = n := by simp [unitsL]
  rw [hlen]
  have hcol : ∀ i, i < n → (unitsL n).getD i [] = unitL n i := fun i hi => by simp [unitsL, List.getD, hi]
  have hin : ∀ i, i < n → InB p n (unitsL n) i := by
    intro i hi
    unfold InB firsts
    refine out_of_row (k := i) hi ?_ ?_
    · unfold colV vec
      rw [hcol i hi, unitL_getD hi, if_pos rfl]
      intro hd
      have := zero_of_dvd hd (by omega) hp
      omega
    · intro x hx
      obtain ⟨j, hj, rfl⟩ := List.mem_map.1 hx
      have hji := List.mem_range.1 hj
      unfold colV vec
      rw [hcol j (by omega), unitL_getD hi, if_neg (by omega)]
      exact Int.dvd_zero p
  have : ∀ k, k ≤ n → basN p n (unitsL n) k = List.range k := by
    intro k
    induction k with
    | zero => intro _; rfl
    | succ k ih =>
      intro hk
      rw [basN_in (hin k (by omega)), ih (by omega), List.range_succ]
  exact this n (Nat.le_refl _)
theorem units_span {n : Nat} (goal : List Int) (hl : goal.length = n) : InSp p n ((unitsL n).map vec) (vec goal) := by
  rw [unitsL_vec]
  refine sp_eqv (sp_lin goal _) fun r hr => ?_
  have e := lin_units (n := n) (T := goal) (k := 0) hr
  rw [hl] at e
  rw [e, if_pos (Nat.zero_le _), Nat.sub_zero]
  unfold vec
  simp

end Go.Proofs.YtmnhpccdhefddaaDoor.Wp
