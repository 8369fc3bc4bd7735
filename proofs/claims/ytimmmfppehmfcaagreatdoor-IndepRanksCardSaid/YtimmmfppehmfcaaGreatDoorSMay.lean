/- Whether a list is a set, as the program and as the document ask it, walked. -/
import Derived.Test.YtimmmfppehmfcaaGreatDoorSPlain
namespace Go.Proofs.YtimmmfppehmfcaaGreatDoor
open Go.RowKit
namespace Wp

set_option maxRecDepth 100000 in
theorem fits_any (x : Int) (w : World) : Calls Tryz.prog 69 #[.int .i64 x] w fun e w' => e = .returned (.bool (decide (Fit x))) ∧ w' = w := by
  by_cases h0 : 0 ≤ x
  · by_cases h1 : x ≤ 1099511627776
    · have hf : decide (Fit x) = true := by simp [Fit, h0, h1]
      rw [hf]
      clear hf
      go_enter Tryz.func69, Tryz.ntmps69
      go_wp2
      go_ret
      exact ⟨rfl, rfl⟩
    · have hf : decide (Fit x) = false := by simp [Fit, h1]
      rw [hf]
      clear hf
      go_enter Tryz.func69, Tryz.ntmps69
      go_wp2
      go_ret
      exact ⟨rfl, rfl⟩
  · have hf : decide (Fit x) = false := by simp [Fit, h0]
    rw [hf]
    clear hf
    go_enter Tryz.func69, Tryz.ntmps69
    go_wp2
    go_ret
    exact ⟨rfl, rfl⟩

theorem fits_is (x : Int) (b : Bool) (h : decide (Fit x) = b) (w : World) : Calls Tryz.prog 69 #[.int .i64 x] w fun e w' => e = .returned (.bool b) ∧ w' = w := by
  subst h
  exact fits_any x w
set_option maxHeartbeats 2000000 in
set_option maxRecDepth 100000 in
theorem may_any (v : Value) (l : List Int) (w : World) (hr : Row w w.heap.size v l) (hl : l.length ≤ 9223372036854775807) : Calls Tryz.prog 52 #[v] w (Says w (mayB l)) := by
  obtain ⟨A, c, rfl, _, hcell⟩ := hr
  have Hcell := Lib.hid hcell
  clear hcell
  have hl' : (l.length : Int) ≤ 9223372036854775807 := by omega
  go_enter Tryz.func52, Tryz.ntmps52
  go_wp2
  go_loopw [7] (fun vk wr => ∃ k q : Nat, vk = .int .i64 k ∧ k ≤ l.length ∧ wr = w.drewN q ∧ IsSet (l.take k)) (fun vk _ => l.length - (intOf vk).toNat)
  case atStart => exact ⟨0, 0, rfl, Nat.zero_le _, rfl, by simpa using isSet_nil⟩
  case round =>
    obtain ⟨k, q, rfl, hk, hwr, hset⟩ := hrel
    have Hwr := Lib.hid hwr
    have Hset := Lib.hid hset
    clear hwr hset
    by_cases hlt : k < l.length
    · obtain ⟨ad, hA, hab, hc⟩ := Hcell.out k hlt
      subst hA
      have g1 : wr.cell? (ad.add k) = some (.int .i64 (l.getD k 0)) := by rw [Hwr.out]; exact hc
      clear hc
      have Hstep := Lib.hid (may_step l k hlt Hset.out)
      have Hfail := Lib.hid (may_fails l k hlt)
      have Hq : Hid (Below w.heap.size w wr) := by
        show Below w.heap.size w wr
        rw [Hwr.out]; exact below_drewN (Below.refl _ _) q
      by_cases hk0 : k = 0
      · subst hk0
        rw [add_zero] at g1
        generalize l.getD 0 0 = x at g1 Hstep Hfail
        by_cases hx : Fit x
        · have hfx := fits_is x true (by simp [hx])
          go_wp2_with (go_at_call 69; refine (hfx _).mono ?_; rintro e w' ⟨rfl, rfl⟩)
          go_roundw
          case rel => exact ⟨1, q, rfl, by omega, Hwr.out, Hstep.out hx (.inl trivial)⟩
          case measure => simp [intOf]; omega
        · have hfx := fits_is x false (by simp [hx])
          go_wp2_with (go_at_call 69; refine (hfx _).mono ?_; rintro e w' ⟨rfl, rfl⟩)
          go_ret
          exact says_mk (Hfail.out (.inl hx)) rfl Hq.out
      · obtain ⟨j, hj⟩ : ∃ j, j + 1 = k := ⟨k - 1, by omega⟩
        have hj1 : (k : Int) - 1 = (j : Int) := by omega
        have hjl : (j : Int) < (l.length : Int) := by omega
        have g2 : wr.cell? (ad.add j) = some (.int .i64 (l.getD j 0)) := by
          obtain ⟨ad', hA, _, hc⟩ := Hcell.out j (by omega)
          injection hA with hA
          subst hA
          rw [Hwr.out]; exact hc
        have Hj := Lib.hid hj
        have hkp : 0 < (k : Int) := by omega
        rw [show k - 1 = j from by omega] at Hstep Hfail
        clear hj
        generalize l.getD k 0 = x at g1 Hstep Hfail
        generalize l.getD j 0 = y at g2 Hstep Hfail
        by_cases hx : Fit x
        · have hfx := fits_is x true (by simp [hx])
          by_cases hyx : y < x
          · go_wp2_with (go_at_call 69; refine (hfx _).mono ?_; rintro e w' ⟨rfl, rfl⟩)
            go_roundw
            case rel => exact ⟨k + 1, q, by go_num, by omega, Hwr.out, Hstep.out hx (.inr hyx)⟩
            case measure => simp [intOf]; omega
          · have hxy : x ≤ y := by omega
            go_wp2_with (go_at_call 69; refine (hfx _).mono ?_; rintro e w' ⟨rfl, rfl⟩)
            go_ret
            exact says_mk (Hfail.out (.inr ⟨by omega, hxy⟩)) rfl Hq.out
        · have hfx := fits_is x false (by simp [hx])
          go_wp2_with (go_at_call 69; refine (hfx _).mono ?_; rintro e w' ⟨rfl, rfl⟩)
          go_ret
          exact says_mk (Hfail.out (.inl hx)) rfl Hq.out
    · have hke : k = l.length := by omega
      have Hfin := Lib.hid (may_all l k hke Hset.out)
      subst hke
      go_wp2
      go_ret
      refine says_mk Hfin.out rfl ?_
      rw [Hwr.out]; exact below_drewN (Below.refl _ _) q

end Wp
end Go.Proofs.YtimmmfppehmfcaaGreatDoor
