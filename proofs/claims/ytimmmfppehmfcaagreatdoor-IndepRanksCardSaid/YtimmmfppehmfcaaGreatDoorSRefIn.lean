/- The document's answer: is a number in a list: walked. -/
import Derived.Test.YtimmmfppehmfcaaGreatDoorSRefMay
namespace Go.Proofs.YtimmmfppehmfcaaGreatDoor
open Go.RowKit
namespace Wp

theorem not_in_step {l : List Int} {x : Int} {k : Nat} (hk : k < l.length) (h : x ∉ l.take k) (hx : (l.getD k 0 == x) = false) : x ∉ l.take (k + 1) := by
  rw [List.take_succ_eq_append_getElem hk, List.mem_append, List.mem_singleton]
  rintro (e | e)
  · exact h e
  · simp [List.getD, hk] at hx
    exact hx e.symm
theorem in_step {l : List Int} {x : Int} {k : Nat} (hk : k < l.length) (hx : l.getD k 0 = x) : l.contains x = true := by
  rw [List.contains_iff_mem, ← hx]
  simp [List.getD, hk]
theorem not_in_all {l : List Int} {x : Int} {k : Nat} (hk : k = l.length) (h : x ∉ l.take k) : l.contains x = false := by
  subst hk
  rw [List.take_length] at h
  rw [← Bool.not_eq_true, List.contains_iff_mem]
  exact h

set_option maxHeartbeats 2000000 in
set_option maxRecDepth 100000 in
theorem refin_is (v : Value) (l : List Int) (x : Int) (B : Nat) (w : World) (hr : Row w B v l) (hl : l.length ≤ 4194304) {b : Bool} (hb : l.contains x = b) :
    Calls Tryz.prog 29 #[v, .int .i64 x] w fun e w' => e = .returned (.bool b) ∧ w' = w := by
  obtain ⟨A, c, rfl, _, hcell⟩ := hr
  have Hcell := Lib.hid hcell
  clear hcell
  have Hb := Lib.hid hb
  clear hb
  have hl' : (l.length : Int) ≤ 4194304 := by omega
  go_enter Tryz.func29, Tryz.ntmps29
  go_wp2
  go_loopw [5] (fun vk wr => ∃ k : Nat, vk = .int .i64 k ∧ k ≤ l.length ∧ wr = w ∧ x ∉ l.take k) (fun vk _ => l.length - (intOf vk).toNat)
  case atStart => exact ⟨0, rfl, Nat.zero_le _, rfl, by simp⟩
  case round =>
    obtain ⟨k, rfl, hk, rfl, hni⟩ := hrel
    by_cases hlt : k < l.length
    · obtain ⟨ad, hA, hab, g1⟩ := Hcell.out k hlt
      subst hA
      have hkl : (k : Int) < (l.length : Int) := by omega
      have Hst := Lib.hid (fun h => not_in_step hlt hni h)
      have Hin := Lib.hid (fun h => in_step (x := x) hlt h)
      clear hni
      generalize l.getD k 0 = y at g1 Hst Hin
      by_cases hyx : y = x
      · have Hc := Lib.hid (Hin.out hyx)
        subst hyx
        go_wp2
        go_ret
        exact ⟨by rw [← Hb.out, Hc.out]; rfl, rfl⟩
      · have hyx' : (y == x) = false := by simp [hyx]
        go_wp2
        go_roundw
        case rel => exact ⟨k + 1, by go_num, by omega, trivial, Hst.out hyx'⟩
        case measure => simp [intOf]; omega
    · have hke : k = l.length := by omega
      have Hc := Lib.hid (not_in_all hke hni)
      subst hke
      go_wp2
      go_ret
      exact ⟨by rw [← Hb.out, Hc.out]; rfl, rfl⟩

theorem refin_any (v : Value) (l : List Int) (x : Int) (B : Nat) (w : World) (hr : Row w B v l) (hl : l.length ≤ 4194304) :
    Calls Tryz.prog 29 #[v, .int .i64 x] w fun e w' => e = .returned (.bool (l.contains x)) ∧ w' = w := refin_is v l x B w hr hl rfl

end Wp
end Go.Proofs.YtimmmfppehmfcaaGreatDoor
