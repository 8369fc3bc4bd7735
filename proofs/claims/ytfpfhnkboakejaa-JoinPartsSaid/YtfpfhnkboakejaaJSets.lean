/- The document's helper that compares two lists of sets, walked, where they are the same. -/
import Derived.Test.YtfpfhnkboakejaaJRows
namespace Go.Proofs.Ytfpfhnkboakejaa
open Go.RowKit
namespace Wp

set_option maxHeartbeats 4000000 in
set_option maxRecDepth 100000 in
theorem sets_same (va vb : Value) (pp : List (List Int)) (w : World) (ha : Rows2 w w.heap.size va pp) (hb : Rows2 w w.heap.size vb pp) (hl : pp.length ≤ 1048576) (hl2 : ∀ p ∈ pp, p.length ≤ 1048576) :
    Calls Try.prog 14 #[va, vb] w (Says w true) := by
  obtain ⟨A, ca, rfl, _, hca⟩ := ha
  obtain ⟨A', cb, rfl, _, hcb⟩ := hb
  have Hca := Lib.hid hca
  have Hcb := Lib.hid hcb
  have Hl2 := Lib.hid hl2
  have hl' : (pp.length : Int) ≤ 1048576 := by omega
  clear hca hcb hl2
  go_enter Try.func14, Try.ntmps14
  go_wp2
  go_loopw [5] (fun vi wr => ∃ i : Nat, vi = .int .i64 i ∧ i ≤ pp.length ∧ Below w.heap.size w wr) (fun vi _ => pp.length - (intOf vi).toNat)
  case atStart => exact ⟨0, rfl, Nat.zero_le _, Below.refl _ _⟩
  case round =>
    obtain ⟨i, rfl, hi, hbr⟩ := hrel
    have Hbr := Lib.hid hbr
    clear hbr
    by_cases hlt : i < pp.length
    · obtain ⟨ad, u, hA, hB, h1, hr1⟩ := Hca.out i hlt
      obtain ⟨ad', u', hA', hB', h2, hr2⟩ := Hcb.out i hlt
      subst hA hA'
      have hp : (pp.getD i []).length ≤ 1048576 := Hl2.out _ (by simp [List.getD, hlt])
      have g1 := (Hbr.out.cell (p := ad.add i) (by rw [add_block]; exact hB)).trans h1
      have g2 := (Hbr.out.cell (p := ad'.add i) (by rw [add_block]; exact hB')).trans h2
      clear h1 h2 Hca Hcb Hl2
      generalize pp.getD i [] = p at *
      obtain ⟨B, c1, rfl, _, hk1⟩ := hr1
      obtain ⟨B', c2, rfl, _, hk2⟩ := hr2
      have Hk1 := Lib.hid hk1
      have Hk2 := Lib.hid hk2
      have hp' : (p.length : Int) ≤ 1048576 := by omega
      have hlt' : (i : Int) < (pp.length : Int) := by omega
      clear hk1 hk2
      go_wp2
      go_quiet (fail)
      generalize hW : wr.drewN _ = W
      have hbw : Below w.heap.size w W := by rw [← hW]; exact below_drewN Hbr.out _
      have q1 := (by rw [← hW]; exact g1 : W.cell? (ad.add i) = some (.slice B p.length c1))
      have q2 := (by rw [← hW]; exact g2 : W.cell? (ad'.add i) = some (.slice B' p.length c2))
      have Hbw := Lib.hid hbw
      clear hW hbw g1 g2
      go_wp2
      go_loopw [6] (fun vk wq => ∃ k : Nat, vk = .int .i64 k ∧ k ≤ p.length ∧ Below w.heap.size w wq) (fun vk _ => p.length - (intOf vk).toNat)
      case atStart => exact ⟨0, rfl, Nat.zero_le _, Hbw.out⟩
      case round =>
        clear Hbr
        obtain ⟨k, rfl, hk, hbr⟩ := hrel
        have Hbr := Lib.hid hbr
        clear hbr
        have Hm1 : Hid (wr.cell? (ad.add i) = some (.slice B p.length c1)) := by
          refine (Hbr.out.cell (p := ad.add i) (by rw [add_block]; exact hB)).trans ?_
          rw [← Hbw.out.cell (p := ad.add i) (by rw [add_block]; exact hB)]
          exact q1
        have Hm2 : Hid (wr.cell? (ad'.add i) = some (.slice B' p.length c2)) := by
          refine (Hbr.out.cell (p := ad'.add i) (by rw [add_block]; exact hB')).trans ?_
          rw [← Hbw.out.cell (p := ad'.add i) (by rw [add_block]; exact hB')]
          exact q2
        clear q1 q2 Hbw
        have m1 := Hm1.out
        have m2 := Hm2.out
        clear Hm1 Hm2
        by_cases hlk : k < p.length
        · obtain ⟨bd, hB1, hbb, hc1⟩ := Hk1.out k hlk
          obtain ⟨bd', hB2, hbb', hc2⟩ := Hk2.out k hlk
          subst hB1 hB2
          have n1 := (Hbr.out.cell (p := bd.add k) (by rw [add_block]; exact hbb)).trans hc1
          have n2 := (Hbr.out.cell (p := bd'.add k) (by rw [add_block]; exact hbb')).trans hc2
          have hlk' : (k : Int) < (p.length : Int) := by omega
          clear hc1 hc2 Hk1 Hk2
          generalize p.getD k 0 = x at *
          have hxx : (x != x) = false := by simp
          go_wp2
          go_quiet (fail)
          go_wp2
          go_roundw
          case rel => exact ⟨k + 1, by go_num, by omega, below_drewN Hbr.out _⟩
          case measure => simp [intOf]; omega
        · have hke : k = p.length := by omega
          go_wp2
          go_roundw
          case rel => exact ⟨i + 1, by go_num, by omega, Hbr.out⟩
          case measure => simp [intOf]; omega
    · have hke : i = pp.length := by omega
      go_wp2
      go_ret
      exact ⟨rfl, Hbr.out⟩

end Wp
end Go.Proofs.Ytfpfhnkboakejaa
