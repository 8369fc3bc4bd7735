/- Columns modulo a prime, plain: what is a combination of what; how many are none of those behind them does not hang on the order. Nothing of the program here. -/
import Derived.Lib.Hide
namespace Go.Proofs.YtmnhpccdhefddaaDoor.Wp

/-- A column: a number a row. -/
abbrev Vec := Nat → Int
/-- Modulo p what p does not divide has an inverse. -/
def Fld (p : Int) : Prop := ∀ c : Int, ¬ p ∣ c → ∃ d : Int, p ∣ c * d - 1

/-- v is a combination of the columns us, in the rows below R. -/
def InSp (p : Int) (R : Nat) : List Vec → Vec → Prop
  | [], v => ∀ r, r < R → p ∣ v r
  | u :: us, v => ∃ c : Int, InSp p R us fun r => v r - c * u r

variable {p : Int} {R : Nat}

theorem sp_eqv : ∀ {us : List Vec} {v w : Vec}, InSp p R us v → (∀ r, r < R → p ∣ v r - w r) → InSp p R us w
  | [], v, w, h, e => fun r hr => by
    have h1 := Int.dvd_sub (h r hr) (e r hr)
    rwa [show v r - (v r - w r) = w r by omega] at h1
  | u :: us, v, w, ⟨c, h⟩, e => ⟨c, sp_eqv h fun r hr => by
    have := e r hr
    rwa [show v r - c * u r - (w r - c * u r) = v r - w r by omega]⟩
theorem sp_congr {us : List Vec} {v w : Vec} (h : InSp p R us v) (e : ∀ r, r < R → v r = w r) : InSp p R us w :=
  sp_eqv h fun r hr => by rw [e r hr]; simp
theorem sp_zero : ∀ {us : List Vec}, InSp p R us fun _ => 0
  | [] => fun _ _ => Int.dvd_zero p
  | _ :: _ => ⟨0, sp_congr sp_zero fun r _ => by simp⟩
theorem sp_add : ∀ {us : List Vec} {v w : Vec}, InSp p R us v → InSp p R us w → InSp p R us fun r => v r + w r
  | [], _, _, h, k => fun r hr => Int.dvd_add (h r hr) (k r hr)
  | u :: us, v, w, ⟨c, h⟩, ⟨d, k⟩ => ⟨c + d, sp_congr (sp_add h k) fun r _ => by dsimp only; rw [Int.add_mul]; omega⟩
theorem sp_mul : ∀ {us : List Vec} {v : Vec} (k : Int), InSp p R us v → InSp p R us fun r => k * v r
  | [], _, k, h => fun r hr => Int.dvd_trans (h r hr) (Int.dvd_mul_left k _)
  | u :: us, v, k, ⟨c, h⟩ => ⟨k * c, sp_congr (sp_mul k h) fun r _ => by rw [Int.mul_sub, Int.mul_assoc]⟩
theorem sp_sub {us : List Vec} {v w : Vec} (h : InSp p R us v) (k : InSp p R us w) : InSp p R us fun r => v r - w r :=
  sp_congr (sp_add h (sp_mul (-1) k)) fun r _ => by omega
theorem sp_up {us : List Vec} {u v : Vec} (h : InSp p R us v) : InSp p R (u :: us) v := ⟨0, sp_congr h fun r _ => by simp⟩
theorem sp_head (us : List Vec) (u : Vec) : InSp p R (u :: us) u := ⟨1, sp_congr sp_zero fun r _ => by omega⟩
theorem sp_mem : ∀ {us : List Vec} {u : Vec}, u ∈ us → InSp p R us u
  | _ :: us, u, h => by
    rcases List.mem_cons.1 h with rfl | h
    · exact sp_head us _
    · exact sp_up (sp_mem h)
/-- What is a combination of combinations is one. -/
theorem sp_trans : ∀ {us ws : List Vec} {v : Vec}, (∀ u ∈ us, InSp p R ws u) → InSp p R us v → InSp p R ws v
  | [], ws, v, _, h => sp_eqv sp_zero fun r hr => by
    have := h r hr
    rw [show (0 : Int) - v r = -(v r) by omega]
    exact (Int.dvd_neg).2 this
  | u :: us, ws, v, hs, ⟨c, h⟩ => by
    have h1 := sp_trans (fun x hx => hs x (by simp [hx])) h
    have h2 := sp_mul c (hs u (by simp))
    exact sp_congr (sp_add h1 h2) fun r _ => by omega
theorem sp_mono {us ws : List Vec} {v : Vec} (hs : ∀ u ∈ us, u ∈ ws) (h : InSp p R us v) : InSp p R ws v := sp_trans (fun u hu => sp_mem (hs u hu)) h
/-- What may be put for what. -/
theorem sp_swap (hf : Fld p) {us : List Vec} {u v : Vec} (h : InSp p R (u :: us) v) (hn : ¬ InSp p R us v) : InSp p R (v :: us) u := by
  obtain ⟨c, h⟩ := h
  by_cases hc : p ∣ c
  · exact absurd (sp_eqv h fun r hr => by
      rw [show v r - c * u r - v r = -(c * u r) by omega]
      exact (Int.dvd_neg).2 (Int.dvd_trans hc (Int.dvd_mul_right c _))) hn
  · obtain ⟨d, hd⟩ := hf c hc
    have h1 := sp_mul (-d) h
    refine ⟨d, sp_eqv h1 fun r _ => ?_⟩
    rw [show -d * (v r - c * u r) - (u r - d * v r) = (c * d - 1) * u r by
      rw [Int.mul_sub, Int.sub_mul, Int.neg_mul, Int.neg_mul, ← Int.mul_assoc d c, Int.mul_comm d c]; omega]
    exact Int.dvd_trans hd (Int.dvd_mul_right _ _)

/-! ### Columns of which none is a combination of those behind it -/
def Ind (p : Int) (R : Nat) : List Vec → Prop
  | [] => True
  | u :: us => ¬ InSp p R us u ∧ Ind p R us

/-- Combinations of w and ws: all of ws alone, or all but one. -/
theorem ind_drop (hf : Fld p) {w : Vec} {ws : List Vec} : ∀ {us : List Vec}, Ind p R us → (∀ u ∈ us, InSp p R (w :: ws) u) →
    (∀ u ∈ us, InSp p R ws u) ∨ ∃ us' u, Ind p R us' ∧ (∀ x ∈ us', InSp p R ws x) ∧ us.length = us'.length + 1 ∧ (∀ v, InSp p R (u :: us') v → InSp p R us v) ∧ (∀ x ∈ us, InSp p R (u :: us') x) ∧ InSp p R (w :: ws) u ∧ ¬ InSp p R ws u
  | [], _, _ => .inl fun u hu => by cases hu
  | h :: t, ⟨hi, ht⟩, hs => by
    have hh := hs h (by simp)
    rcases ind_drop hf ht (fun x hx => hs x (by simp [hx])) with h1 | ⟨t', u, hi', hs', hl, hto, hfro, huw, hun⟩
    · by_cases h2 : InSp p R ws h
      · exact .inl fun x hx => by
          rcases List.mem_cons.1 hx with rfl | hx
          · exact h2
          · exact h1 x hx
      · exact .inr ⟨t, h, ht, h1, rfl, fun v hv => hv, fun x hx => sp_mem hx, hh, h2⟩
    · right
      -- w is a combination of u and ws: so h is c times u, and some of ws
      have hw : InSp p R (u :: ws) w := sp_swap hf huw hun
      have hhu : InSp p R (u :: ws) h := sp_trans (fun x hx => by
        rcases List.mem_cons.1 hx with rfl | hx
        · exact hw
        · exact sp_up (sp_mem hx)) hh
      obtain ⟨c, hc⟩ := hhu
      have hut : InSp p R t u := hto u (sp_head t' u)
      refine ⟨(fun r => h r - c * u r) :: t', u, ⟨fun hb => hi ?_, hi'⟩, ?_, by simp [hl], ?_, ?_, huw, hun⟩
      · have h3 : InSp p R t fun r => h r - c * u r := hto _ (sp_up hb)
        exact sp_congr (sp_add h3 (sp_mul c hut)) fun r _ => by omega
      · intro x hx
        rcases List.mem_cons.1 hx with rfl | hx
        · exact hc
        · exact hs' x hx
      · intro v hv
        refine sp_trans (fun x hx => ?_) hv
        rcases List.mem_cons.1 hx with rfl | hx
        · exact sp_up hut
        · rcases List.mem_cons.1 hx with rfl | hx
          · exact sp_sub (sp_head t h) (sp_mul c (sp_up hut))
          · exact sp_up (hto x (sp_mem (by simp [hx])))
      · intro x hx
        have hmem : ∀ y, InSp p R (u :: t') y → InSp p R (u :: (fun r => h r - c * u r) :: t') y := fun y hy => sp_mono (fun z hz => by
          rcases List.mem_cons.1 hz with rfl | hz
          · simp
          · simp [hz]) hy
        rcases List.mem_cons.1 hx with rfl | hx
        · exact sp_congr (sp_add (sp_mem (us := u :: (fun r => x r - c * u r) :: t') (u := fun r => x r - c * u r) (by simp)) (sp_mul c (sp_mem (u := u) (by simp)))) fun r _ => by omega
        · exact hmem x (hfro x hx)

/-- Of combinations of n columns no more than n are none of those behind them. -/
theorem ind_le (hf : Fld p) : ∀ {ws us : List Vec}, Ind p R us → (∀ u ∈ us, InSp p R ws u) → us.length ≤ ws.length
  | [], us, hi, hs => by
    cases us with
    | nil => exact Nat.le_refl _
    | cons u us =>
      refine absurd ?_ hi.1
      exact sp_trans (fun x hx => by cases hx) (hs u (by simp))
  | w :: ws, us, hi, hs => by
    rcases ind_drop hf hi hs with h | ⟨us', u, hi', hs', hl, _⟩
    · have := ind_le hf hi h
      simp
      omega
    · have := ind_le hf hi' hs'
      simp
      omega

/-! ### The rank -/
open Classical in
/-- Those that are no combination of those behind them. -/
noncomputable def bs (p : Int) (R : Nat) : List Vec → List Vec
  | [] => []
  | u :: us => if InSp p R us u then bs p R us else u :: bs p R us
theorem bs_sub : ∀ {us : List Vec}, ∀ x ∈ bs p R us, x ∈ us
  | u :: us, x, h => by
    unfold bs at h
    split at h
    · simp [bs_sub x h]
    · rcases List.mem_cons.1 h with rfl | h
      · simp
      · simp [bs_sub x h]
theorem bs_span : ∀ {us : List Vec} {v : Vec}, InSp p R us v → InSp p R (bs p R us) v
  | [], _, h => h
  | u :: us, v, h => by
    unfold bs
    split
    · rename_i hu
      refine sp_trans (fun x hx => ?_) h
      rcases List.mem_cons.1 hx with rfl | hx
      · exact bs_span hu
      · exact bs_span (sp_mem hx)
    · obtain ⟨c, h⟩ := h
      exact ⟨c, bs_span h⟩
theorem bs_ind : ∀ {us : List Vec}, Ind p R (bs p R us)
  | [] => trivial
  | u :: us => by
    unfold bs
    split
    · exact bs_ind
    · rename_i hu
      exact ⟨fun h => hu (sp_mono bs_sub h), bs_ind⟩
noncomputable def rk (p : Int) (R : Nat) (us : List Vec) : Nat := (bs p R us).length
theorem rk_le (hf : Fld p) {us ws : List Vec} (h : ∀ u ∈ us, InSp p R ws u) : rk p R us ≤ rk p R ws :=
  ind_le hf bs_ind fun u hu => bs_span (h u (bs_sub u hu))
theorem rk_eq (hf : Fld p) {us ws : List Vec} (h : ∀ u ∈ us, InSp p R ws u) (k : ∀ w ∈ ws, InSp p R us w) : rk p R us = rk p R ws :=
  Nat.le_antisymm (rk_le hf h) (rk_le hf k)
theorem rk_nil : rk p R [] = 0 := rfl
theorem rk_cons_in {us : List Vec} {u : Vec} (h : InSp p R us u) : rk p R (u :: us) = rk p R us := by
  unfold rk
  rw [show bs p R (u :: us) = bs p R us from if_pos h]
theorem rk_cons_out {us : List Vec} {u : Vec} (h : ¬ InSp p R us u) : rk p R (u :: us) = rk p R us + 1 := by
  unfold rk
  rw [show bs p R (u :: us) = u :: bs p R us from if_neg h]
  rfl
theorem rk_len : ∀ {us : List Vec}, rk p R us ≤ us.length
  | [] => Nat.le_refl _
  | u :: us => by
    have := rk_len (us := us)
    by_cases h : InSp p R us u
    · rw [rk_cons_in h]; simp; omega
    · rw [rk_cons_out h]; simp; omega
theorem rk_perm (hf : Fld p) {us ws : List Vec} (h : ∀ x, x ∈ us ↔ x ∈ ws) : rk p R us = rk p R ws :=
  rk_eq hf (fun u hu => sp_mem ((h u).1 hu)) (fun w hw => sp_mem ((h w).2 hw))
theorem rk_snoc_in (hf : Fld p) {us : List Vec} {u : Vec} (h : InSp p R us u) : rk p R (us ++ [u]) = rk p R us := by
  rw [← rk_cons_in h]
  exact rk_perm hf fun x => by simp [or_comm]
theorem rk_snoc_out (hf : Fld p) {us : List Vec} {u : Vec} (h : ¬ InSp p R us u) : rk p R (us ++ [u]) = rk p R us + 1 := by
  rw [← rk_cons_out h]
  exact rk_perm hf fun x => by simp [or_comm]

/-! ### Units: no rank is more than the rows -/
def unit (k : Nat) : Vec := fun r => if r = k then 1 else 0
theorem units_all : ∀ (n : Nat) (v : Vec), (∀ r, r < R → n ≤ r → p ∣ v r) → InSp p R ((List.range n).map unit) v
  | 0, v, h => fun r hr => h r hr (Nat.zero_le _)
  | n + 1, v, h => by
    have h1 : InSp p R (unit n :: (List.range n).map unit) v := ⟨v n, units_all n _ fun r hr hn => by
      unfold unit
      by_cases e : r = n
      · subst e; simp
      · rw [if_neg e, Int.mul_zero, Int.sub_zero]
        exact h r hr (by omega)⟩
    rw [List.range_succ, List.map_append]
    exact sp_mono (fun x hx => by
      rcases List.mem_cons.1 hx with rfl | hx
      · simp
      · exact List.mem_append.2 (.inl hx)) h1
theorem rk_rows (hf : Fld p) (us : List Vec) : rk p R us ≤ R := by
  have h := ind_le (R := R) hf (ws := (List.range R).map unit) (us := bs p R us) bs_ind fun u _ => units_all R u fun r hr hn => by omega
  simpa [rk] using h

/-! ### Columns, each times a number, together -/
def lin : List Int → List Vec → Vec
  | c :: cs, u :: us => fun r => c * u r + lin cs us r
  | _, _ => fun _ => 0
theorem sp_lin : ∀ (cs : List Int) (us : List Vec), InSp p R us (lin cs us)
  | [], us => by cases us <;> exact sp_zero
  | c :: cs, [] => sp_zero
  | c :: cs, u :: us => ⟨c, sp_congr (sp_lin cs us) fun r _ => by simp only [lin]; omega⟩
theorem lin_of : ∀ {us : List Vec} {v : Vec}, InSp p R us v → ∃ cs : List Int, cs.length = us.length ∧ ∀ r, r < R → p ∣ v r - lin cs us r
  | [], v, h => ⟨[], rfl, fun r hr => by simpa [lin] using h r hr⟩
  | u :: us, v, ⟨c, h⟩ => by
    obtain ⟨cs, hl, hc⟩ := lin_of h
    refine ⟨c :: cs, by simp [hl], fun r hr => ?_⟩
    have := hc r hr
    simp only [lin]
    rwa [show v r - (c * u r + lin cs us r) = v r - c * u r - lin cs us r by omega]
/-- Of columns of which none is a combination of those behind it nothing is 0 but by 0 alone. -/
theorem lin_zero (hf : Fld p) : ∀ {cs : List Int} {us : List Vec}, Ind p R us → cs.length = us.length → (∀ r, r < R → p ∣ lin cs us r) → ∀ c ∈ cs, p ∣ c
  | [], _, _, _, _ => fun c hc => by cases hc
  | c :: cs, [], _, hl, _ => by simp at hl
  | c :: cs, u :: us, ⟨hi, hi'⟩, hl, h => by
    have hc : p ∣ c := by
      apply Classical.byContradiction
      intro hn
      obtain ⟨d, hd⟩ := hf c hn
      refine hi (sp_eqv (sp_mul (-d) (sp_lin cs us)) fun r hr => ?_)
      have h1 := h r hr
      simp only [lin] at h1
      rw [show -d * lin cs us r - u r = (c * d - 1) * u r - d * (c * u r + lin cs us r) by
        rw [Int.sub_mul, Int.mul_add, Int.neg_mul, ← Int.mul_assoc d c, Int.mul_comm d c]; omega]
      exact Int.dvd_sub (Int.dvd_trans hd (Int.dvd_mul_right _ _)) (Int.dvd_trans h1 (Int.dvd_mul_left d _))
    intro x hx
    rcases List.mem_cons.1 hx with rfl | hx
    · exact hc
    · refine lin_zero hf hi' (by simpa using hl) (fun r hr => ?_) x hx
      have h1 := h r hr
      simp only [lin] at h1
      have h2 := Int.dvd_sub h1 (Int.dvd_trans hc (Int.dvd_mul_right c (u r)))
      rwa [show c * u r + lin cs us r - c * u r = lin cs us r by omega] at h2

/-! ### Steps: each column at its place; the last row in which all behind it are 0 -/
/-- A row in which u is not 0, and all behind it are: u is no combination of them. -/
theorem out_of_row {us : List Vec} {u : Vec} {k : Nat} (hk : k < R) (hu : ¬ p ∣ u k) (hz : ∀ x ∈ us, p ∣ x k) : ¬ InSp p R us u := by
  have key : ∀ {us : List Vec} {v : Vec}, (∀ x ∈ us, p ∣ x k) → InSp p R us v → p ∣ v k := by
    intro us
    induction us with
    | nil => intro v _ h; exact h k hk
    | cons x us ih =>
      intro v hz ⟨c, h⟩
      have h1 := ih (fun y hy => hz y (by simp [hy])) h
      have h2 := Int.dvd_add h1 (Int.dvd_trans (hz x (by simp)) (Int.dvd_mul_left c _))
      rwa [show v k - c * x k + c * x k = v k by omega] at h2
  exact fun h => hu (key hz h)
/-- What is taken away of one by multiples of another one that stays: nothing changes of what they come to. -/
theorem sp_shear {us : List Vec} {u x : Vec} {c : Int} (v : Vec) : InSp p R (u :: (fun r => x r - c * u r) :: us) v ↔ InSp p R (u :: x :: us) v := by
  constructor
  · refine sp_trans fun y hy => ?_
    rcases List.mem_cons.1 hy with rfl | hy
    · exact sp_head _ _
    · rcases List.mem_cons.1 hy with rfl | hy
      · exact sp_sub (sp_up (sp_head _ _)) (sp_mul c (sp_head _ _))
      · exact sp_mem (by simp [hy])
  · refine sp_trans fun y hy => ?_
    rcases List.mem_cons.1 hy with rfl | hy
    · exact sp_head _ _
    · rcases List.mem_cons.1 hy with rfl | hy
      · exact sp_congr (sp_add (sp_up (sp_head us _)) (sp_mul c (sp_head _ u))) fun r _ => by omega
      · exact sp_mem (by simp [hy])

end Go.Proofs.YtmnhpccdhefddaaDoor.Wp
