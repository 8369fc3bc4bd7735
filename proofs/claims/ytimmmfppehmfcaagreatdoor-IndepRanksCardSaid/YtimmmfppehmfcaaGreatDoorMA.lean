/- The program's divides, Mod, walked. -/
import Derived.Test.YtimmmfppehmfcaaGreatDoorMKit
namespace Go.Proofs.YtimmmfppehmfcaaGreatDoor
open Go.RowKit
namespace Wp

set_option maxHeartbeats 1000000 in
set_option maxRecDepth 100000 in
theorem divides_yes (p : Int) (w : World) (h : In31 p) : Calls Tryz.prog 100 #[.int .i64 p] w fun e w' => e = .returned (.bool true) ∧ w' = w := by
  obtain ⟨h1, h2⟩ := h
  go_enter Tryz.func100, Tryz.ntmps100
  go_wp2
  go_ret
  exact ⟨rfl, rfl⟩
set_option maxHeartbeats 1000000 in
set_option maxRecDepth 100000 in
theorem divides_no (p : Int) (w : World) (h : ¬ In31 p) : Calls Tryz.prog 100 #[.int .i64 p] w fun e w' => e = .returned (.bool false) ∧ w' = w := by
  by_cases h1 : 1 ≤ p
  · have h2 : ¬ p ≤ 2147483647 := by unfold In31 at h; omega
    have hd : decide (p ≤ 2147483647) = false := decide_eq_false h2
    clear h
    go_enter Tryz.func100, Tryz.ntmps100
    go_wp2
    go_ret
    exact ⟨rfl, rfl⟩
  · have h1' : p < 1 := by omega
    clear h
    go_enter Tryz.func100, Tryz.ntmps100
    go_wp2
    go_ret
    exact ⟨rfl, rfl⟩

set_option maxHeartbeats 1000000 in
set_option maxRecDepth 100000 in
theorem mod_no (a p : Int) (w : World) (h : ¬ In31 p) : Calls Tryz.prog 104 #[.int .i64 a, .int .i64 p] w fun e w' => e = .returned (.int .i64 0) ∧ w' = w := by
  go_enter Tryz.func104, Tryz.ntmps104
  go_wp2_with fail
  refine (divides_no p _ h).mono ?_
  rintro e w' ⟨rfl, rfl⟩
  go_wp2
  go_ret
  exact ⟨rfl, rfl⟩

theorem tm_neg {a p : Int} (hp : 1 ≤ p) (h : a.tmod p < 0) : a.tmod p + p = a % p := by
  have := Int.emod_nonneg a (show p ≠ 0 by omega)
  rw [Int.tmod_eq_emod] at h ⊢
  split at h
  · omega
  · rw [if_neg ‹_›]
    omega
theorem tm_pos {a p : Int} (hp : 1 ≤ p) (h : 0 ≤ a.tmod p) : a.tmod p = a % p := by
  have := Int.emod_lt_of_pos a (show 0 < p by omega)
  rw [Int.tmod_eq_emod] at h ⊢
  split at h
  · rw [if_pos ‹_›]
    omega
  · omega
theorem em_lt {a p : Int} (hp : 1 ≤ p) : 0 ≤ a % p ∧ a % p < p := ⟨Int.emod_nonneg a (by omega), Int.emod_lt_of_pos a (by omega)⟩

set_option maxHeartbeats 1000000 in
set_option maxRecDepth 100000 in
theorem mod_yes (a p : Int) (w : World) (h : In31 p) : Calls Tryz.prog 104 #[.int .i64 a, .int .i64 p] w fun e w' => e = .returned (.int .i64 (a % p)) ∧ w' = w := by
  have h1 := h.1
  have h2 := h.2
  have hb := em_lt (a := a) h1
  by_cases h0 : a.tmod p < 0
  · have ht := tm_neg h1 h0
    go_enter Tryz.func104, Tryz.ntmps104
    go_wp2_with fail
    refine (divides_yes p _ h).mono ?_
    rintro e w' ⟨rfl, rfl⟩
    go_wp2
    go_ret
    exact ⟨rfl, rfl⟩
  · have h0' : 0 ≤ a.tmod p := by omega
    have ht := tm_pos h1 h0'
    go_enter Tryz.func104, Tryz.ntmps104
    go_wp2_with fail
    refine (divides_yes p _ h).mono ?_
    rintro e w' ⟨rfl, rfl⟩
    go_wp2
    go_ret
    exact ⟨rfl, rfl⟩
theorem mod_any (a p : Int) (w : World) : Calls Tryz.prog 104 #[.int .i64 a, .int .i64 p] w fun e w' => e = .returned (.int .i64 (modI a p)) ∧ w' = w := by
  unfold modI
  by_cases h : In31 p
  · rw [if_pos h]
    exact mod_yes a p w h
  · rw [if_neg h]
    exact mod_no a p w h

end Wp
end Go.Proofs.YtimmmfppehmfcaaGreatDoor
