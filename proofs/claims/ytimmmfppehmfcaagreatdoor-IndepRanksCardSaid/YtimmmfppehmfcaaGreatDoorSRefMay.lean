/- Whether a list is a set, as the document asks it, walked. -/
import Derived.Test.YtimmmfppehmfcaaGreatDoorSPlain
namespace Go.Proofs.YtimmmfppehmfcaaGreatDoor
open Go.RowKit
namespace Wp

set_option maxHeartbeats 2000000 in
set_option maxRecDepth 100000 in
theorem refmay_any (v : Value) (l : List Int) (w : World) (hr : Row w w.heap.size v l) (hl : l.length ≤ 9223372036854775807) : Calls Tryz.prog 28 #[v] w (Says w (mayB l)) := by
  obtain ⟨A, c, rfl, _, hcell⟩ := hr
  have Hcell := Lib.hid hcell
  clear hcell
  have hl' : (l.length : Int) ≤ 9223372036854775807 := by omega
  go_enter Tryz.func28, Tryz.ntmps28
  go_wp2
  go_loopw [3] (fun vk wr => ∃ k q : Nat, vk = .int .i64 k ∧ k ≤ l.length ∧ wr = w.drewN q ∧ IsSet (l.take k)) (fun vk _ => l.length - (intOf vk).toNat)
  case atStart => exact ⟨0, 0, rfl, Nat.zero_le _, rfl, by simpa using isSet_nil⟩
  case round =>
    obtain ⟨k, q, rfl, hk, hwr, hset⟩ := hrel
    have Hwr := Lib.hid hwr
    have Hset := Lib.hid hset
    clear hwr hset
    by_cases hlt : k < l.length
    · obtain ⟨ad, hA, hab, hc⟩ := Hcell.out k hlt
      subst hA
      have g1 : wr.cell? (ad.add k) = some (.int .i64 (l.getD k 0)) := by rw [Hwr.out]; exact hc
      clear hc
      have hkl : (k : Int) < (l.length : Int) := by omega
      have Hstep := Lib.hid (may_step l k hlt Hset.out)
      have Hfail := Lib.hid (may_fails l k hlt)
      have Hq : Hid (Below w.heap.size w wr) := by
        show Below w.heap.size w wr
        rw [Hwr.out]; exact below_drewN (Below.refl _ _) q
      by_cases hk0 : k = 0
      · subst hk0
        rw [add_zero] at g1
        generalize l.getD 0 0 = x at g1 Hstep Hfail
        by_cases hx0 : 0 ≤ x
        · by_cases hx1 : x ≤ 1099511627776
          · have d0 : decide (x < 0) = false := by simp; omega
            have d1 : decide (1099511627776 < x) = false := by simp; omega
            have d2 : decide ((0:Int) < 0) = false := rfl
            go_wp2
            go_quiet (fail)
            go_wp2
            go_roundw
            case rel => exact ⟨1, q + nq, rfl, by omega, by rw [Hwr.out, World.drewN_drewN], Hstep.out ⟨hx0, hx1⟩ (.inl trivial)⟩
            case measure => simp [intOf]; omega
          · have Hf := Lib.hid (Hfail.out (.inl fun h => hx1 h.2))
            have d0 : decide (x < 0) = false := by simp; omega
            have d1 : 1099511627776 < x := by omega
            clear hx1
            go_wp2
            go_quiet (fail)
            go_wp2
            go_ret
            exact says_mk Hf.out rfl (below_drewN Hq.out _)
        · have Hf := Lib.hid (Hfail.out (.inl fun h => hx0 h.1))
          have d0 : x < 0 := by omega
          clear hx0
          go_wp2
          go_quiet (fail)
          go_wp2
          go_ret
          exact says_mk Hf.out rfl (below_drewN Hq.out _)
      · obtain ⟨j, hj⟩ : ∃ j, j + 1 = k := ⟨k - 1, by omega⟩
        have hj1 : (k : Int) - 1 = (j : Int) := by omega
        have hjl : (j : Int) < (l.length : Int) := by omega
        have g2 : wr.cell? (ad.add j) = some (.int .i64 (l.getD j 0)) := by
          obtain ⟨ad', hA, _, hc⟩ := Hcell.out j (by omega)
          injection hA with hA
          subst hA
          rw [Hwr.out]; exact hc
        have Hj := Lib.hid hj
        have hkp : 0 < k := by omega
        rw [show k - 1 = j from by omega] at Hstep Hfail
        clear hj
        generalize l.getD k 0 = x at g1 Hstep Hfail
        generalize l.getD j 0 = y at g2 Hstep Hfail
        by_cases hx0 : 0 ≤ x
        · by_cases hx1 : x ≤ 1099511627776
          · by_cases hyx : y < x
            · have d0 : decide (x < 0) = false := by simp; omega
              have d1 : decide (1099511627776 < x) = false := by simp; omega
              have d2 : decide (x ≤ y) = false := by simp; omega
              go_wp2
              go_quiet (fail)
              go_wp2
              go_roundw
              case rel => exact ⟨k + 1, q + nq, by go_num, by omega, by rw [Hwr.out, World.drewN_drewN], Hstep.out ⟨hx0, hx1⟩ (.inr hyx)⟩
              case measure => simp [intOf]; omega
            · have hxy : x ≤ y := by omega
              have Hf := Lib.hid (Hfail.out (.inr ⟨by omega, hxy⟩))
              have d0 : decide (x < 0) = false := by simp; omega
              have d1 : decide (1099511627776 < x) = false := by simp; omega
              clear hyx
              go_wp2
              go_quiet (fail)
              go_wp2
              go_ret
              exact says_mk Hf.out rfl (below_drewN Hq.out _)
          · have Hf := Lib.hid (Hfail.out (.inl fun h => hx1 h.2))
            have d0 : decide (x < 0) = false := by simp; omega
            have d1 : 1099511627776 < x := by omega
            clear hx1
            go_wp2
            go_quiet (fail)
            go_wp2
            go_ret
            exact says_mk Hf.out rfl (below_drewN Hq.out _)
        · have Hf := Lib.hid (Hfail.out (.inl fun h => hx0 h.1))
          have d0 : x < 0 := by omega
          clear hx0
          go_wp2
          go_quiet (fail)
          go_wp2
          go_ret
          exact says_mk Hf.out rfl (below_drewN Hq.out _)
    · have hke : k = l.length := by omega
      have Hfin := Lib.hid (may_all l k hke Hset.out)
      subst hke
      go_wp2
      go_ret
      refine says_mk Hfin.out rfl ?_
      rw [Hwr.out]; exact below_drewN (Below.refl _ _) q

theorem refmay_is (v : Value) (l : List Int) (w : World) (hr : Row w w.heap.size v l) (hl : l.length ≤ 9223372036854775807) {x : Bool} (h : mayB l = x) : Calls Tryz.prog 28 #[v] w (Says w x) := by
  subst h
  exact refmay_any v l w hr hl

end Wp
end Go.Proofs.YtimmmfppehmfcaaGreatDoor
