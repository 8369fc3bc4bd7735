/- Columns modulo a prime, plain: elimination, row by row: steps, and what is left; the rank is how many steps there are. Nothing of the program here. -/
import Derived.Test.YtmnhpccdhefddaaDoorLPure
namespace Go.Proofs.YtmnhpccdhefddaaDoor.Wp
variable {p : Int} {R : Nat}

/-! ### Elimination, row by row -/
/-- Each has a row in which it is not 0, and all behind it are. -/
theorem ind_rows : ∀ {us : List Vec}, (∀ k (_ : k < us.length), ∃ q, q < R ∧ ¬ p ∣ us[k] q ∧ ∀ j (_ : j < us.length), k < j → p ∣ us[j] q) → Ind p R us
  | [], _ => trivial
  | u :: us, h => by
    refine ⟨?_, ind_rows fun k hk => ?_⟩
    · obtain ⟨q, hq, h1, h2⟩ := h 0 (by simp)
      refine out_of_row hq h1 fun x hx => ?_
      obtain ⟨j, hj, rfl⟩ := List.mem_iff_getElem.1 hx
      exact h2 (j + 1) (by simp; omega) (by omega)
    · obtain ⟨q, hq, h1, h2⟩ := h (k + 1) (by simp; omega)
      exact ⟨q, hq, h1, fun j hj hlt => h2 (j + 1) (by simp; omega) (by omega)⟩
theorem rk_ge (hf : Fld p) {us ws : List Vec} (hi : Ind p R us) (h : ∀ u ∈ us, InSp p R ws u) : us.length ≤ rk p R ws :=
  ind_le hf hi fun u hu => bs_span (h u hu)
/-- Of steps, and of columns that are 0 behind them: the rank is how many steps there are. -/
theorem rk_steps (hf : Fld p) {m : List Vec} {n : Nat} (hn : n ≤ m.length) (hs : ∀ k (_ : k < m.length), k < n → ∃ q, q < R ∧ ¬ p ∣ m[k] q ∧ ∀ j (_ : j < m.length), k < j → p ∣ m[j] q)
    (hz : ∀ j (_ : j < m.length), n ≤ j → ∀ r, r < R → p ∣ m[j] r) : rk p R m = n := by
  have hl : (m.take n).length = n := by rw [List.length_take]; omega
  have hi : Ind p R (m.take n) := ind_rows fun k hk => by
    rw [hl] at hk
    obtain ⟨q, hq, h1, h2⟩ := hs k (by omega) hk
    refine ⟨q, hq, by rw [List.getElem_take]; exact h1, fun j hj hlt => ?_⟩
    rw [hl] at hj
    rw [List.getElem_take]
    exact h2 j (by omega) hlt
  have h1 := rk_ge hf (ws := m) hi fun u hu => sp_mem (List.mem_of_mem_take hu)
  have h2 : rk p R m ≤ rk p R (m.take n) := rk_le hf fun u hu => by
    obtain ⟨j, hj, rfl⟩ := List.mem_iff_getElem.1 hu
    rcases Nat.lt_or_ge j n with h | h
    · exact sp_mem (List.mem_iff_getElem.2 ⟨j, by omega, List.getElem_take⟩)
    · exact sp_eqv sp_zero fun r hr => by
        rw [show (0 : Int) - m[j] r = -(m[j] r) by omega]
        exact (Int.dvd_neg).2 (hz j hj h r hr)
  have h3 := rk_len (p := p) (R := R) (us := m.take n)
  omega
/-- The rank hangs on what the columns come to alone. -/
theorem rk_span (hf : Fld p) {us ws : List Vec} (h : ∀ v, InSp p R us v ↔ InSp p R ws v) : rk p R us = rk p R ws :=
  rk_eq hf (fun u hu => (h u).1 (sp_mem hu)) (fun w hw => (h w).2 (sp_mem hw))
theorem rk_scaled (hf : Fld p) {k : Int} (hk : ¬ p ∣ k) {us ws : List Vec} (hl : us.length = ws.length) (h : ∀ i (h1 : i < us.length) (h2 : i < ws.length), ∀ r, r < R → p ∣ ws[i] r - k * us[i] r) : rk p R ws = rk p R us := by
  obtain ⟨d, hd⟩ := hf k hk
  refine rk_eq hf (fun w hw => ?_) (fun u hu => ?_)
  · obtain ⟨i, hi, rfl⟩ := List.mem_iff_getElem.1 hw
    refine sp_eqv (sp_mul k (sp_mem (List.getElem_mem (show i < us.length by omega)))) fun r hr => ?_
    have := h i (by omega) hi r hr
    rw [show k * us[i] r - ws[i] r = -(ws[i] r - k * us[i] r) by omega]
    exact (Int.dvd_neg).2 this
  · obtain ⟨i, hi, rfl⟩ := List.mem_iff_getElem.1 hu
    refine sp_eqv (sp_mul d (sp_mem (List.getElem_mem (show i < ws.length by omega)))) fun r hr => ?_
    have h1 := h i hi (by omega) r hr
    have e : d * ws[i] r - us[i] r = d * (ws[i] r - k * us[i] r) + (k * d - 1) * us[i] r := by
      rw [Int.mul_sub, Int.sub_mul, ← Int.mul_assoc d k, Int.mul_comm d k]
      omega
    rw [e]
    exact Int.dvd_add (Int.dvd_trans h1 (Int.dvd_mul_left d _)) (Int.dvd_trans hd (Int.dvd_mul_right _ _))

/-- The steps so far: row by row below 'row', n steps; what is behind them is 0 in all these rows. -/
structure Steps (p : Int) (R : Nat) (cols m : List Vec) (n row : Nat) : Prop where
  len : m.length = cols.length
  le : n ≤ m.length
  span : ∀ v, InSp p R m v ↔ InSp p R cols v
  step : ∀ k (_ : k < m.length), k < n → ∃ q, q < row ∧ ¬ p ∣ m[k] q ∧ ∀ j (_ : j < m.length), k < j → p ∣ m[j] q
  zero : ∀ j (_ : j < m.length), n ≤ j → ∀ q, q < row → p ∣ m[j] q
theorem Steps.start (cols : List Vec) : Steps p R cols cols 0 0 := ⟨rfl, Nat.zero_le _, fun _ => Iff.rfl, fun _ _ h => by omega, fun _ _ _ _ h => by omega⟩
theorem Steps.rank (hf : Fld p) {cols m : List Vec} {n : Nat} (h : Steps p R cols m n R) : rk p R cols = n := by
  rw [← rk_span hf h.span]
  exact rk_steps hf h.le h.step h.zero
/-- A row in which all that is left is 0: no step. -/
theorem Steps.skip {cols m : List Vec} {n row : Nat} (h : Steps p R cols m n row) (hz : ∀ j (_ : j < m.length), n ≤ j → p ∣ m[j] row) : Steps p R cols m n (row + 1) where
  len := h.len
  le := h.le
  span := h.span
  step := fun k hk hlt => by
    obtain ⟨q, hq, h1, h2⟩ := h.step k hk hlt
    exact ⟨q, by omega, h1, h2⟩
  zero := fun j hj hn q hq => by
    by_cases e : q = row
    · subst e; exact hz j hj hn
    · exact h.zero j hj hn q (by omega)
/-- Two that are left change places: nothing changes. -/
theorem Steps.swap {cols m m' : List Vec} {n row a : Nat} (h : Steps p R cols m n row) (ha : a < m.length) (hna : n ≤ a) (hl : m'.length = m.length)
    (hm : ∀ j (h1 : j < m'.length) (h2 : j < m.length), m'[j] = if j = n then m[a] else if j = a then m[n]'(by omega) else m[j]) : Steps p R cols m' n row := by
  have hnl : n < m.length := by omega
  have hmem : ∀ x, x ∈ m' ↔ x ∈ m := by
    intro x
    constructor
    · intro hx
      obtain ⟨j, hj, rfl⟩ := List.mem_iff_getElem.1 hx
      rw [hm j hj (by omega)]
      split
      · exact List.getElem_mem _
      · split <;> exact List.getElem_mem _
    · intro hx
      obtain ⟨j, hj, rfl⟩ := List.mem_iff_getElem.1 hx
      by_cases e : j = n
      · subst e
        have := hm a (by omega) ha
        by_cases e2 : a = j
        · subst e2
          rw [if_pos rfl] at this
          rw [← this]
          exact List.getElem_mem _
        · rw [if_neg e2, if_pos rfl] at this
          rw [← this]
          exact List.getElem_mem _
      · by_cases e2 : j = a
        · subst e2
          have := hm n (by omega) hnl
          rw [if_pos rfl] at this
          rw [← this]
          exact List.getElem_mem _
        · have := hm j (by omega) hj
          rw [if_neg e, if_neg e2] at this
          rw [← this]
          exact List.getElem_mem _
  have hbig : ∀ j (h1 : j < m'.length), n ≤ j → ∃ i, ∃ (hi : i < m.length), n ≤ i ∧ m'[j] = m[i] := by
    intro j h1 h2
    have := hm j h1 (by omega)
    by_cases e : j = n
    · rw [if_pos e] at this
      exact ⟨a, ha, hna, this⟩
    · by_cases e2 : j = a
      · rw [if_neg e, if_pos e2] at this
        exact ⟨n, hnl, Nat.le_refl _, this⟩
      · rw [if_neg e, if_neg e2] at this
        exact ⟨j, by omega, h2, this⟩
  have hsmall : ∀ j (h1 : j < m'.length), j < n → m'[j] = m[j]'(by omega) := by
    intro j h1 h2
    rw [hm j h1 (by omega), if_neg (by omega), if_neg (by omega)]
  refine ⟨hl.trans h.len, by rw [hl]; exact h.le, fun v => ?_, fun k hk hlt => ?_, fun j hj hn q hq => ?_⟩
  · rw [← h.span v]
    exact ⟨sp_mono fun x hx => (hmem x).1 hx, sp_mono fun x hx => (hmem x).2 hx⟩
  · obtain ⟨q, hq, h1, h2⟩ := h.step k (by omega) hlt
    refine ⟨q, hq, by rw [hsmall k hk hlt]; exact h1, fun j hj hkj => ?_⟩
    by_cases hjn : j < n
    · rw [hsmall j hj hjn]
      exact h2 j (by omega) hkj
    · obtain ⟨i, hi, hni, e⟩ := hbig j hj (by omega)
      rw [e]
      exact h2 i hi (by omega)
  · obtain ⟨i, hi, hni, e⟩ := hbig j hj hn
    rw [e]
    exact h.zero i hi hni q hq
/-- Of all that is left behind the step so much is taken away that the row is 0 there. -/
theorem Steps.take {cols m m' : List Vec} {n row : Nat} (h : Steps p R cols m n row) (hn : n < m.length) (hl : m'.length = m.length) (hp : ¬ p ∣ m[n] row) (hrow : row < R)
    (hsame : ∀ j (h1 : j < m'.length) (h2 : j < m.length), j ≤ n → m'[j] = m[j])
    (hsub : ∀ j (h1 : j < m'.length) (h2 : j < m.length), n < j → p ∣ m'[j] row ∧ ∃ k : Int, ∀ r, r < R → p ∣ m'[j] r - (m[j] r - k * m[n] r)) : Steps p R cols m' (n + 1) (row + 1) := by
  have hq : ∀ {j q : Nat} (h1 : j < m'.length) (h2 : j < m.length), q < R → p ∣ m[j] q → p ∣ m[n] q → p ∣ m'[j] q := by
    intro j q h1 h2 hqR hz hzn
    by_cases hj : j ≤ n
    · rw [hsame j h1 h2 hj]
      exact hz
    · obtain ⟨_, k, hk⟩ := hsub j h1 h2 (by omega)
      have e := Int.dvd_add (hk q hqR) (Int.dvd_sub hz (Int.dvd_trans hzn (Int.dvd_mul_left k _)))
      rwa [show m'[j] q - (m[j] q - k * m[n] q) + (m[j] q - k * m[n] q) = m'[j] q by omega] at e
  refine ⟨hl.trans h.len, by omega, fun v => ?_, fun k hk hlt => ?_, fun j hj hnj q hqr => ?_⟩
  · rw [← h.span v]
    constructor
    · refine sp_trans fun x hx => ?_
      obtain ⟨j, hj, rfl⟩ := List.mem_iff_getElem.1 hx
      by_cases hjn : j ≤ n
      · rw [hsame j hj (by omega) hjn]
        exact sp_mem (List.getElem_mem _)
      · obtain ⟨_, k, hk⟩ := hsub j hj (by omega) (by omega)
        refine sp_eqv (sp_sub (sp_mem (List.getElem_mem (show j < m.length by omega))) (sp_mul k (sp_mem (List.getElem_mem hn)))) fun r hr => ?_
        have := hk r hr
        rw [show m[j] r - k * m[n] r - m'[j] r = -(m'[j] r - (m[j] r - k * m[n] r)) by omega]
        exact (Int.dvd_neg).2 this
    · have hmn : InSp p R m' m[n] := by
        rw [← hsame n (by omega) hn (Nat.le_refl _)]
        exact sp_mem (List.getElem_mem _)
      refine sp_trans fun x hx => ?_
      obtain ⟨j, hj, rfl⟩ := List.mem_iff_getElem.1 hx
      by_cases hjn : j ≤ n
      · rw [← hsame j (by omega) hj hjn]
        exact sp_mem (List.getElem_mem _)
      · obtain ⟨_, k, hk⟩ := hsub j (by omega) hj (by omega)
        refine sp_eqv (sp_add (sp_mem (List.getElem_mem (show j < m'.length by omega))) (sp_mul k hmn)) fun r hr => ?_
        have := hk r hr
        rwa [show m'[j] r + k * m[n] r - m[j] r = m'[j] r - (m[j] r - k * m[n] r) by omega]
  · by_cases hkn : k = n
    · subst hkn
      refine ⟨row, by omega, by rw [hsame k hk hn (Nat.le_refl _)]; exact hp, fun j hj hlt => (hsub j hj (by omega) hlt).1⟩
    · obtain ⟨q, hqr, h1, h2⟩ := h.step k (by omega) (by omega)
      refine ⟨q, by omega, by rw [hsame k hk (by omega) (by omega)]; exact h1, fun j hj hkj => hq hj (by omega) (by omega) (h2 j (by omega) hkj) (h2 n hn (by omega))⟩
  · by_cases e : q = row
    · subst e
      exact (hsub j hj (by omega) (by omega)).1
    · exact hq hj (by omega) (by omega) (h.zero j (by omega) (by omega) q (by omega)) (h.zero n hn (Nat.le_refl _) q (by omega))

end Go.Proofs.YtmnhpccdhefddaaDoor.Wp
