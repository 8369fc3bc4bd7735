/- Bases and circuits, plain: a circuit and one of the dual never have just one element in common. -/
import Derived.Test.YtbjngggcpojefaaGreatDoorIMinP
import Derived.Test.YtbjngggcpojefaaGreatDoorIExchP
namespace Go.Proofs.YtbjngggcpojefaaGreatDoor.Wp
open Go Go.RowKit

def remP (P : Nat → Bool) (y : Nat) : Nat → Bool := fun i => P i && !(i == y)
theorem remP_self (P : Nat → Bool) (y : Nat) : remP P y y = false := by simp [remP]
theorem remP_ne {P : Nat → Bool} {y i : Nat} (h : i ≠ y) : remP P y i = P i := by simp [remP, h]
theorem insP_rem {P : Nat → Bool} {y : Nat} (h : P y = true) : insP (remP P y) y = P := by
  funext i
  by_cases e : i = y
  · rw [e, insP_self, h]
  · rw [insP_ne e, remP_ne e]
theorem cnt_rem {n : Nat} {P : Nat → Bool} {y : Nat} (hy : y < n) (h : P y = true) : cnt (remP P y) n + 1 = cnt P n := by
  have := cnt_ins hy (remP_self P y)
  rw [insP_rem h] at this
  omega

/-! ### Circuits, of a rank -/
/-- Each of it adds nothing to the others. -/
def Circ (n : Nat) (f : (Nat → Bool) → Nat) (C : Nat → Bool) : Prop := ∀ y, y < n → C y = true → f (remP C y) = f C
section
variable {n : Nat} {f : (Nat → Bool) → Nat}
/-- A part of what is independent is. -/
theorem Rk.part (h : Rk n f) {P Q : Nat → Bool} (hs : ∀ i, i < n → P i = true → Q i = true) (hq : f Q = cnt Q n) : f P = cnt P n := by
  have h1 := h.submod P (fun i => Q i && !P i)
  have h2 := h.le_cnt (fun i => Q i && !P i)
  have h3 := h.le_cnt P
  have e : ∀ i, i < n → orP P (fun i => Q i && !P i) i = Q i := fun i hi => by
    unfold orP
    cases e1 : P i
    · simp [e1]
    · simp [hs i hi e1]
  rw [h.ext e] at h1
  have h4 := cnt_or P (fun i => Q i && !P i) n
  rw [cnt_ext e, cnt_ext (P := andP P (fun i => Q i && !P i)) (Q := noneP) (fun i _ => by simp only [andP, noneP]; cases P i <;> simp), cnt_none] at h4
  omega
/-- Those without which the others are independent make a circuit. -/
theorem circ_of (h : Rk n f) {T C : Nat → Bool} (hT : f T + 1 = cnt T n) (hC : ∀ y, y < n → (C y = true ↔ T y = true ∧ f (remP T y) = cnt (remP T y) n)) : Circ n f C := by
  have hsub : ∀ i, i < n → C i = true → T i = true := fun i hi hc => ((hC i hi).1 hc).1
  -- what is no part of it adds one
  have key : ∀ k, k ≤ n → f C + cnt (fun i => T i && !C i) k ≤ f (addK C (fun i => T i && !C i) k) := by
    intro k
    induction k with
    | zero => intro _; rw [addK_zero]; simp [cnt]
    | succ k ih =>
      intro hk
      have ih := ih (by omega)
      rw [cnt_succ]
      cases hs : (T k && !C k)
      · rw [addK_no hs]; simpa using ih
      · rw [addK_yes hs]
        rw [Bool.and_eq_true, Bool.not_eq_true'] at hs
        have hno : ¬ f (remP T k) = cnt (remP T k) n := fun e => by rw [(hC k (by omega)).2 ⟨hs.1, e⟩] at hs; cases hs.2
        have h1 := h.le_cnt (remP T k)
        have h2 := cnt_rem (P := T) (show k < n by omega) hs.1
        have h3 := h.dim_set (P := addK C (fun i => T i && !C i) k) (Q := remP T k) (fun i hi hp => by
          unfold addK at hp
          have hik : i ≠ k := fun e => by
            subst e
            rw [hs.2] at hp
            simp at hp
          rw [remP_ne hik]
          cases hc : C i
          · rw [hc] at hp
            simp at hp
            exact hp.2.1
          · exact hsub i hi hc) (x := k) (by omega)
        rw [insP_rem hs.1] at h3
        simp
        omega
  have h1 := key n (Nat.le_refl _)
  rw [addK_all h, h.ext (P := orP C (fun i => T i && !C i)) (Q := T) (fun i hi => by
    unfold orP
    cases hc : C i
    · simp [hc]
    · simp [hsub i hi hc])] at h1
  have h4 := cnt_or C (fun i => T i && !C i) n
  rw [cnt_ext (P := orP C (fun i => T i && !C i)) (Q := T) (fun i hi => by
    unfold orP
    cases hc : C i
    · simp [hc]
    · simp [hsub i hi hc]), cnt_ext (P := andP C (fun i => T i && !C i)) (Q := noneP) (fun i _ => by simp only [andP, noneP]; cases C i <;> simp), cnt_none] at h4
  intro y hy hcy
  have h5 := h.part (P := remP C y) (Q := remP T y) (fun i hi hp => by
    have hiy : i ≠ y := fun e => by rw [e, remP_self] at hp; cases hp
    rw [remP_ne hiy] at hp ⊢
    exact hsub i hi hp) ((hC y hy).1 hcy).2
  have h6 := cnt_rem hy hcy
  have h7 := h.up' (remP C y) hy
  rw [insP_rem hcy] at h7
  omega
/-- A circuit, and one of the dual, never have just one in common. -/
theorem circ_cocirc (h : Rk n f) {C E : Nat → Bool} (hC : Circ n f C) (hE : Circ n (fun P => cnt P n + f (notP P) - f allP) E) {y : Nat} (hy : y < n) (h1 : C y = true) (h2 : E y = true) (hone : ∀ i, i < n → C i = true → E i = true → i = y) : False := by
  have e1 : cnt (remP E y) n + f (notP (remP E y)) - f allP = cnt E n + f (notP E) - f allP := hE y hy h2
  have e2 := hC y hy h1
  have l1 := rk_low h (remP E y)
  have l2 := rk_low h E
  have e3 := cnt_rem hy h2
  have e4 : notP (remP E y) = insP (notP E) y := by
    funext i
    by_cases e : i = y
    · rw [e, insP_self]; unfold notP; rw [remP_self]; rfl
    · rw [insP_ne e]; unfold notP; rw [remP_ne e]
  rw [e4] at e1 l1
  have h3 := h.dim_set (P := remP C y) (Q := notP E) (fun i hi hp => by
    have hiy : i ≠ y := fun e => by rw [e, remP_self] at hp; cases hp
    rw [remP_ne hiy] at hp
    unfold notP
    cases he : E i
    · rfl
    · exact absurd (hone i hi hp he) hiy) (x := y) hy
  rw [insP_rem h1] at h3
  omega
end

/-! ### What the program tells -/
def grownL (s : List Int) (x : Int) : List Int := sortL (s ++ [x])
/-- The base of the first k. -/
noncomputable def baseK (m : Mat) (s : List Int) : Nat → List Int
  | 0 => []
  | k + 1 => if indT m (grownL (baseK m s k) (s.getD k 0)) = true then grownL (baseK m s k) (s.getD k 0) else baseK m s k
noncomputable def baseT (m : Mat) (s : List Int) : List Int := if mayI m s = true then baseK m s s.length else []
/-- Those of the first k elements that s lacks, and that add to its rank. -/
noncomputable def moreK (m : Mat) (s : List Int) (k : Nat) : List Int := (upTo k).filter fun x => !hasB s x && decide (rankT m s < rankT m (grownL s x))
noncomputable def spanT (m : Mat) (s : List Int) : List Int := if mayI m s = true then minusL (allL m.n) (moreK m s m.n.toNat) else []
noncomputable def circB (m : Mat) (s : List Int) (x : Int) : Bool := indT m s && (mayI m [x] && (!hasB s x && !indT m (grownL s x)))
noncomputable def circK (m : Mat) (t : List Int) (k : Nat) : List Int := (t.take k).filter fun y => indT m (minusL t [y])
noncomputable def circT (m : Mat) (s : List Int) (x : Int) : List Int := if circB m s x = true then circK m (grownL s x) (grownL s x).length else []

theorem ind_may {m : Mat} {s : List Int} (h : indT m s = true) : mayI m s = true := by
  cases hm : mayI m s
  · unfold indT rankT at h
    rw [hm, if_neg (by decide), decide_eq_true_iff] at h
    omega
  · rfl
theorem grown_union {s : List Int} {x : Int} (hs : IsSet s) (hx : IsSet [x]) : grownL s x = unionL s [x] := by
  unfold grownL unionL
  rw [mayB_of hs, mayB_of hx]
  rfl
theorem base_in {m : Mat} {s : List Int} (hc : chk m = 0) : ∀ k, InN (nN m) (baseK m s k)
  | 0 => inN_nil _
  | k + 1 => by
    rw [baseK]
    split
    · next h => exact (mayI_iff.1 (ind_may h)).2
    · exact base_in hc k
theorem baseT_len {m : Mat} (s : List Int) : (baseT m s).length ≤ 64 := by
  unfold baseT
  split
  · next h =>
    have hc := (mayI_iff.1 h).1
    have := inN_len (base_in (s := s) hc s.length)
    have := (nN_cast hc).2
    omega
  · simp
/-- What a circuit's list is. -/
theorem circ_fact {m : Mat} {s : List Int} {x : Int} (h : circB m s x = true) : InN (nN m) (circT m s x) ∧ Circ (nN m) (rkP 4 m) (memP (circT m s x)) := by
  unfold circT
  rw [if_pos h]
  unfold circB at h
  rw [Bool.and_eq_true, Bool.and_eq_true, Bool.and_eq_true, Bool.not_eq_true', Bool.not_eq_true'] at h
  obtain ⟨h1, h2, h3, h4⟩ := h
  have hm := ind_may h1
  obtain ⟨hc, hS⟩ := mayI_iff.1 hm
  obtain ⟨_, hX⟩ := mayI_iff.1 h2
  have hr := rk_of hc
  have hx := hX.2 x (by simp)
  have hg := grown_union hS.1 hX.1
  have hT : InN (nN m) (grownL s x) := by rw [hg]; exact inN_union hS hX
  have hmT : memP (grownL s x) = insP (memP s) x.toNat := by rw [hg, memP_union hS.1 hX.1, memP_one hx.1]
  have hns : memP s x.toNat = false := by
    cases e : memP s x.toNat
    · rfl
    · have := memP_iff.1 e
      rw [show ((x.toNat : Nat) : Int) = x by omega] at this
      unfold hasB at h3
      rw [mayB_of hS.1, List.contains_iff_mem.2 this] at h3
      cases h3
  have hcT : cnt (memP (grownL s x)) (nN m) = cnt (memP s) (nN m) + 1 := by rw [hmT, cnt_ins (by omega) hns]
  have hmay : mayI m (grownL s x) = true := mayI_iff.2 ⟨hc, hT⟩
  have hi : rkP 4 m (memP s) = cnt (memP s) (nN m) := by rw [(ind_rank hm).1 h1, len_cnt hS]
  have hno : ¬ rkP 4 m (memP (grownL s x)) = cnt (memP (grownL s x)) (nN m) := fun e => by
    rw [(ind_rank hmay).2 (by rw [e, len_cnt hT])] at h4
    cases h4
  have hone := hr.one (P := memP s) (x := x.toNat) (by omega) hns
  have hup := hr.up (P := memP s) (x := x.toNat) (by omega) hns
  rw [← hmT] at hone hup
  have hin : InN (nN m) (circK m (grownL s x) (grownL s x).length) := by
    unfold circK
    rw [List.take_length]
    exact ⟨⟨hT.1.1.sublist List.filter_sublist, fun y hy => hT.1.2 y ((List.mem_filter.1 hy).1)⟩, fun y hy => hT.2 y ((List.mem_filter.1 hy).1)⟩
  refine ⟨hin, circ_of hr (T := memP (grownL s x)) (by omega) fun y hy => ?_⟩
  have hY : InN (nN m) [(y : Int)] := ⟨⟨by simp, fun z hz => by rw [List.mem_singleton.1 hz]; have := (nN_cast hc).2; exact ⟨by omega, by omega⟩⟩, fun z hz => by rw [List.mem_singleton.1 hz]; omega⟩
  have hmin := inN_minus hT hY
  have hmm : memP (minusL (grownL s x) [(y : Int)]) = remP (memP (grownL s x)) y := by
    funext i
    rw [Bool.eq_iff_iff, memP_iff, mem_minus hT.1 hY.1]
    unfold remP
    rw [Bool.and_eq_true, memP_iff, Bool.not_eq_true', beq_eq_false_iff_ne, List.mem_singleton]
    constructor
    · rintro ⟨a, b⟩; exact ⟨a, fun e => b (by rw [e])⟩
    · rintro ⟨a, b⟩; exact ⟨a, fun e => b (by omega)⟩
  have hiff : indT m (minusL (grownL s x) [(y : Int)]) = true ↔ rkP 4 m (remP (memP (grownL s x)) y) = cnt (remP (memP (grownL s x)) y) (nN m) := by
    rw [ind_rank (mayI_iff.2 ⟨hc, hmin⟩), len_cnt hmin, hmm]
  rw [memP_iff, memP_iff]
  unfold circK
  rw [List.take_length, List.mem_filter, hiff]
theorem circT_no {m : Mat} {s : List Int} {x : Int} (h : circB m s x = false) : circT m s x = [] := by unfold circT; rw [h]; rfl
/-- What SpanCocircuits asks, of lists. -/
theorem cocirc_fact {m : Mat} {s t : List Int} {x z : Int} (h3 : dp 4 m ≤ 3) (h1 : circB m s x = true) (h2 : circB (dualOf m) t z = true) :
    (meetL (circT m s x) (circT (dualOf m) t z)).length ≠ 1 ∧ mayB (circT m s x) = true ∧ mayB (circT (dualOf m) t z) = true ∧ (circT m s x).length ≤ 64 ∧ (circT (dualOf m) t z).length ≤ 64 := by
  obtain ⟨hC, cC⟩ := circ_fact h1
  obtain ⟨hE, cE⟩ := circ_fact h2
  have hE' : InN (nN m) (circT (dualOf m) t z) := hE
  have hc : chk m = 0 := by
    have h := h1
    unfold circB at h
    rw [Bool.and_eq_true] at h
    exact (mayI_iff.1 (ind_may h.1)).1
  have h64 := (nN_cast hc).2
  have l1 := inN_len hC
  have l2 := inN_len hE'
  refine ⟨fun hlen => ?_, mayB_of hC.1, mayB_of hE.1, by omega, by omega⟩
  obtain ⟨y, hy⟩ := List.length_eq_one_iff.1 hlen
  have hmem : ∀ v, v ∈ circT m s x ∧ v ∈ circT (dualOf m) t z ↔ v = y := fun v => by
    rw [← mem_meet hC.1 hE.1, hy, List.mem_singleton]
  obtain ⟨y1, y2⟩ := (hmem y).2 rfl
  have hb := hC.2 y y1
  have e1 : ((y.toNat : Nat) : Int) = y := by omega
  have hE2 : Circ (nN m) (fun P => cnt P (nN m) + rkP 4 m (notP P) - rkP 4 m allP) (memP (circT (dualOf m) t z)) := fun i hi he => by
    have := cE i hi he
    rw [rk4_dual hc h3, rk4_dual hc h3] at this
    exact this
  refine circ_cocirc (rk_of hc) cC hE2 (y := y.toNat) (by omega) (memP_iff.2 (by rw [e1]; exact y1)) (memP_iff.2 (by rw [e1]; exact y2)) fun i _ a b => ?_
  have := (hmem (i : Int)).1 ⟨memP_iff.1 a, memP_iff.1 b⟩
  omega

end Go.Proofs.YtbjngggcpojefaaGreatDoor.Wp
