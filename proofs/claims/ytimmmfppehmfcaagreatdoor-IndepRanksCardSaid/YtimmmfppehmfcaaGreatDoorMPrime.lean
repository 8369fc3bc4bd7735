/- The program's Prime, walked. -/
import Derived.Test.YtimmmfppehmfcaaGreatDoorMPass
namespace Go.Proofs.YtimmmfppehmfcaaGreatDoor
open Go.RowKit
namespace Wp

theorem widx0 (w : World) : (Instr.index 116 (.agg #[.int .i64 2, .int .i64 3, .int .i64 5, .int .i64 7]) (.int .i64 0)).run Tryz.prog w = .ok (.int .i64 2) w := by kernel_rfl
theorem widx1 (w : World) : (Instr.index 116 (.agg #[.int .i64 2, .int .i64 3, .int .i64 5, .int .i64 7]) (.int .i64 1)).run Tryz.prog w = .ok (.int .i64 3) w := by kernel_rfl
theorem widx2 (w : World) : (Instr.index 116 (.agg #[.int .i64 2, .int .i64 3, .int .i64 5, .int .i64 7]) (.int .i64 2)).run Tryz.prog w = .ok (.int .i64 5) w := by kernel_rfl
theorem widx3 (w : World) : (Instr.index 116 (.agg #[.int .i64 2, .int .i64 3, .int .i64 5, .int .i64 7]) (.int .i64 3)).run Tryz.prog w = .ok (.int .i64 7) w := by kernel_rfl
/-- The k-th witness. -/
theorem wit_at {k : Nat} (h : k < 4) : ∃ q : Nat, 2 ≤ q ∧ q ≤ 7 ∧ [2, 3, 5, 7].drop k = q :: [2, 3, 5, 7].drop (k + 1) ∧ (k = 0 → q = 2) ∧
    ∀ w, (Instr.index 116 (.agg #[.int .i64 2, .int .i64 3, .int .i64 5, .int .i64 7]) (.int .i64 (k : Int))).run Tryz.prog w = .ok (.int .i64 (q : Int)) w := by
  have : k = 0 ∨ k = 1 ∨ k = 2 ∨ k = 3 := by omega
  rcases this with rfl | rfl | rfl | rfl
  · exact ⟨2, by decide, by decide, rfl, fun _ => rfl, widx0⟩
  · exact ⟨3, by decide, by decide, rfl, by decide, widx1⟩
  · exact ⟨5, by decide, by decide, rfl, by decide, widx2⟩
  · exact ⟨7, by decide, by decide, rfl, by decide, widx3⟩
theorem eqI_nat (a b : Nat) : ((a : Int) == (b : Int)) = decide (a = b) := by
  by_cases h : a = b
  · subst h; simp
  · rw [decide_eq_false h]
    simp
    omega
theorem wit_zero {n q : Nat} {ws : List Nat} (h : n % q = 0) : wit n (q :: ws) = decide (n = q) := by
  rw [show wit n (q :: ws) = if n % q = 0 then decide (n = q) else if stB n q then wit n ws else false from rfl, if_pos h]
theorem wit_fall {n q : Nat} {ws : List Nat} (h : n % q ≠ 0) (hs : stB n q = false) : wit n (q :: ws) = false := by
  rw [show wit n (q :: ws) = if n % q = 0 then decide (n = q) else if stB n q then wit n ws else false from rfl, if_neg h, hs]
  rfl
theorem wit_on {n q : Nat} {ws : List Nat} (h : n % q ≠ 0) (hs : stB n q = true) : wit n (q :: ws) = wit n ws := by
  rw [show wit n (q :: ws) = if n % q = 0 then decide (n = q) else if stB n q then wit n ws else false from rfl, if_neg h, hs]
  rfl

set_option maxHeartbeats 2000000 in
set_option maxRecDepth 100000 in
theorem prime_in (P : Nat) (w : World) (hM : Met w) (h2 : 2 ≤ P) (hp2 : P ≤ 2147483647) :
    Calls Tryz.prog 78 #[.int .i64 P] w (Gets w (.bool (wit P [2, 3, 5, 7]))) := by
  have hin : In31 (P : Int) := ⟨by omega, by omega⟩
  obtain ⟨b, hb⟩ : ∃ b, b = wit P [2, 3, 5, 7] := ⟨_, rfl⟩
  rw [← hb]
  have Hb := Lib.hid hb
  clear hb
  have HM := Lib.hid hM
  clear hM
  have hn2 : ¬ (P : Int) < 2 := by omega
  have h2i : 2 ≤ (P : Int) := by omega
  go_enter Tryz.func78, Tryz.ntmps78
  go_wp2_with fail
  refine (divides_yes _ _ hin).mono ?_
  rintro e w1 ⟨rfl, rfl⟩
  go_wp2
  go_loopw [15] (fun vk wr => ∃ k : Nat, vk = .int .i64 k ∧ k ≤ 4 ∧ b = wit P ([2, 3, 5, 7].drop k) ∧ (k = 0 ∨ 3 ≤ P) ∧ Below w1.heap.size w1 wr) (fun vk _ => 4 - (intOf vk).toNat)
  case atStart => exact ⟨0, rfl, Nat.zero_le _, Hb.out, .inl rfl, (Below.refl _ w1).alloc (Nat.le_refl _) _⟩
  case round =>
    obtain ⟨k, rfl, hk, hbk, h3, hbr⟩ := hrel
    have Hbr := Lib.hid hbr
    clear hbr
    by_cases hlt : k < 4
    · obtain ⟨q, hq2, hq7, hd, hk0, hidx⟩ := wit_at hlt
      rw [hd] at hbk
      have hqi : ¬ (q : Int) = 0 := by omega
      have htm := tm_nat P q
      by_cases hz : P % q = 0
      · rw [wit_zero hz] at hbk
        rw [hz] at htm
        have Hbk := Lib.hid hbk
        clear hbk hd hk0 h3 hz
        go_wp2
        go_ret
        refine ⟨congrArg (fun x => Ending.returned (.bool x)) ?_, Hbr.out⟩
        rw [Hbk.out]
        exact eqI_nat P q
      · have h3P : 3 ≤ P := by
          rcases h3 with rfl | h3
          · have := hk0 rfl
            subst this
            omega
          · exact h3
        have Hp := Lib.hid (fun w hM => passes_any P q w hM h3P hp2)
        obtain ⟨m, hm⟩ : ∃ m, m = P % q := ⟨_, rfl⟩
        rw [← hm] at htm
        have hm0 : ¬ (m : Int) = 0 := by omega
        rcases hs : stB P q with _ | _
        · rw [wit_fall hz hs] at hbk
          rw [hs] at Hp
          subst hbk
          clear hd hk0 h3 hz hm
          go_wp2_with fail
          refine (Hp.out _ (HM.out.up Hbr.out)).mono ?_
          rintro e w2 ⟨rfl, hb2⟩
          have hB2 := below_next Hbr.out (Nat.le_refl _) hb2
          go_wp2
          go_ret
          exact ⟨rfl, hB2⟩
        · rw [wit_on hz hs] at hbk
          rw [hs] at Hp
          have Hbk := Lib.hid hbk
          clear hd hk0 h3 hz hm hbk
          go_wp2_with fail
          refine (Hp.out _ (HM.out.up Hbr.out)).mono ?_
          rintro e w2 ⟨rfl, hb2⟩
          have hB2 := below_next Hbr.out (Nat.le_refl _) hb2
          have HB2 := Lib.hid hB2
          clear hb2 hB2
          go_wp2
          go_roundw
          case rel => exact ⟨k + 1, by go_num, by omega, Hbk.out, .inr h3P, HB2.out⟩
          case measure => simp [intOf]; omega
    · obtain rfl : k = 4 := by omega
      have hbt : b = true := hbk
      subst hbt
      clear hbk
      go_wp2
      go_ret
      exact ⟨rfl, Hbr.out⟩

set_option maxHeartbeats 2000000 in
set_option maxRecDepth 100000 in
theorem prime_any (p : Int) (w : World) (hM : Met w) : Calls Tryz.prog 78 #[.int .i64 p] w (Gets w (.bool (prB p))) := by
  by_cases h2 : p < 2
  · have hf : prB p = false := prB_false fun h => by have := h.1; omega
    rw [hf]
    clear hf
    go_enter Tryz.func78, Tryz.ntmps78
    go_wp2
    go_ret
    exact gets_same _ _
  · by_cases h3 : p ≤ 2147483647
    · obtain ⟨P, rfl⟩ : ∃ P : Nat, p = P := ⟨p.toNat, by omega⟩
      have e : prB (P : Int) = wit P [2, 3, 5, 7] := by
        unfold prB
        rw [decide_eq_true (show (2 : Int) ≤ (P : Int) by omega), decide_eq_true h3, Int.toNat_natCast]
        rfl
      rw [e]
      exact prime_in P w hM (by omega) (by omega)
    · have hf : prB p = false := prB_false fun h => by have := h.2.1; omega
      rw [hf]
      clear hf
      have hno : ¬ In31 p := fun h => h3 h.2
      go_enter Tryz.func78, Tryz.ntmps78
      go_wp2_with fail
      refine (divides_no p _ hno).mono ?_
      rintro e w' ⟨rfl, rfl⟩
      go_wp2
      go_ret
      exact gets_same _ _

end Wp
end Go.Proofs.YtimmmfppehmfcaaGreatDoor
