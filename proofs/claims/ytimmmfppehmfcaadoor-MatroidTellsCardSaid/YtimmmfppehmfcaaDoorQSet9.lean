/- The document's Set, and the law's own 'in', walked. -/
import Derived.Test.YtimmmfppehmfcaaDoorSRefMay
import Derived.Test.YtimmmfppehmfcaaDoorQSides
namespace Go.Proofs.YtimmmfppehmfcaaDoor
open Go.RowKit
namespace Wp

set_option maxHeartbeats 2000000 in
set_option maxRecDepth 100000 in
theorem set9_any (v : Value) (l : List Int) (n : Int) (w : World) (hr : Row w w.heap.size v l) : Calls Tryd.prog 17 #[v, .int .i64 n] w (Says w (okA n l)) := by
  have Hr := Lib.hid hr
  obtain ⟨A, c, rfl, hcap, hcell⟩ := hr
  have hLm : (l.length : Int) ≤ 9223372036854775807 := by
    have h1 := hcap.1
    have h2 := hcap.2.1
    unfold maxLen at h2
    omega
  have hlm : l.length ≤ 9223372036854775807 := by omega
  have Hcell := Lib.hid hcell
  clear hcap hcell
  rcases hm : mayB l with _ | _
  · rw [okA_no hm]
    have Hm := Lib.hid hm
    clear hm
    go_enter Tryd.func17, Tryd.ntmps17
    go_wp2_with fail
    refine (refmay_is _ l w Hr.out hlm Hm.out).mono ?_
    rintro e w1 ⟨rfl, hb1⟩
    have Hb1 := Lib.hid hb1
    clear hb1
    go_wp2
    go_ret
    exact ⟨rfl, Hb1.out⟩
  · have Hm := Lib.hid hm
    clear hm
    by_cases h0 : l.length = 0
    · rw [okA_nil Hm.out h0]
      have h0' : ((l.length : Int) == 0) = true := by simpa using h0
      clear h0
      go_enter Tryd.func17, Tryd.ntmps17
      go_wp2_with fail
      refine (refmay_is _ l w Hr.out hlm Hm.out).mono ?_
      rintro e w1 ⟨rfl, hb1⟩
      have Hb1 := Lib.hid hb1
      clear hb1
      go_wp2
      go_ret
      exact ⟨rfl, Hb1.out⟩
    · obtain ⟨x, hx⟩ : ∃ x, l.getD (l.length - 1) 0 = x := ⟨_, rfl⟩
      obtain ⟨al, hAl, halb, hcx⟩ := Hcell.out (l.length - 1) (by omega)
      rw [okA_last Hm.out (by omega) hx]
      rw [hx] at hcx
      subst hAl
      obtain ⟨L, hL⟩ : ∃ L, l.length = L := ⟨_, rfl⟩
      have HL := Lib.hid hL
      rw [hL] at hcx Hr hLm h0
      rw [hL]
      have h0' : ((L : Int) == 0) = false := by simpa using h0
      have hL0 : (0 : Int) < (L : Int) := by omega
      have hw1 : IntKind.i64.wrap ((L : Int) - 1) = (L : Int) - 1 := by rw [IntKind.wrap_i64]; omega
      have hw2 : (0 : Int) ≤ (L : Int) - 1 := by omega
      have hw3 : (L : Int) - 1 < (L : Int) := by omega
      have hw4 : ((L : Int) - 1).toNat = L - 1 := by omega
      clear hx h0 hL
      go_enter Tryd.func17, Tryd.ntmps17
      go_wp2_with fail
      refine (refmay_is _ l w Hr.out hlm Hm.out).mono ?_
      rintro e w1 ⟨rfl, hb1⟩
      have Hb1 := Lib.hid hb1
      have g2 := (hb1.cell (p := al.add (L - 1)) (by rw [add_block]; exact halb)).trans hcx
      clear hb1 hcx
      go_wp2
      go_ret
      exact ⟨rfl, Hb1.out⟩

theorem con_stop {l : List Int} {x : Int} {k : Nat} (hk : k < l.length) (h : l.getD k 0 = x) : l.contains x = true := by
  rw [List.contains_iff_mem, ← h, show l.getD k 0 = l[k] by simp [List.getD, hk]]
  exact List.getElem_mem hk
theorem con_none {l : List Int} {x : Int} (h : ∀ j, j < l.length → l.getD j 0 ≠ x) : l.contains x = false := by
  rw [← Bool.not_eq_true, List.contains_iff_mem]
  intro hx
  obtain ⟨j, hj, rfl⟩ := List.mem_iff_getElem.1 hx
  exact h j hj (by simp [List.getD, hj])

set_option maxHeartbeats 1000000 in
set_option maxRecDepth 100000 in
theorem in9_any (v : Value) (l : List Int) (x : Int) (w : World) (hr : Row w w.heap.size v l) : Calls Tryd.prog 18 #[v, .int .i64 x] w (Says w (l.contains x)) := by
  obtain ⟨C, hC⟩ : ∃ C, l.contains x = C := ⟨_, rfl⟩
  rw [hC]
  have HC := Lib.hid hC
  clear hC
  obtain ⟨A, c, rfl, hcap, hcell⟩ := hr
  have hLm : (l.length : Int) ≤ 9223372036854775807 := by
    have h1 := hcap.1
    have h2 := hcap.2.1
    unfold maxLen at h2
    omega
  have Hcell := Lib.hid hcell
  clear hcap hcell
  go_enter Tryd.func18, Tryd.ntmps18
  go_wp2
  go_loop [5] (fun vk => ∃ k : Nat, vk = .int .i64 k ∧ k ≤ l.length ∧ ∀ j, j < k → l.getD j 0 ≠ x) (fun vk => l.length - (intOf vk).toNat)
  case atStart => exact ⟨0, rfl, Nat.zero_le _, fun j hj => absurd hj (Nat.not_lt_zero _)⟩
  case round =>
    obtain ⟨k, rfl, hk, hno⟩ := hrel
    have Hno := Lib.hid hno
    clear hno
    by_cases hlt : k < l.length
    · have hltI : (k : Int) < (l.length : Int) := by omega
      obtain ⟨ad, hA, hab, hc⟩ := Hcell.out k hlt
      subst hA
      obtain ⟨y, hy⟩ : ∃ y, l.getD k 0 = y := ⟨_, rfl⟩
      have Hy := Lib.hid hy
      rw [hy] at hc
      clear hy
      by_cases hyx : y = x
      · subst hyx
        have hCt : C = true := by rw [← HC.out]; exact con_stop hlt Hy.out
        subst hCt
        go_wp2
        go_ret
        exact ⟨rfl, Below.refl _ _⟩
      · have hne : (y == x) = false := by simpa using hyx
        have Hnext : Hid (∀ j, j < k + 1 → l.getD j 0 ≠ x) := fun j hj => by
          by_cases e : j = k
          · rw [e, Hy.out]; exact hyx
          · exact Hno.out j (by omega)
        clear hyx
        go_wp2
        go_round
        case rel => exact ⟨k + 1, by go_num, by omega, Hnext.out⟩
        case measure => simp [intOf]; omega
    · have hke : k = l.length := by omega
      subst hke
      have hCt : C = false := by rw [← HC.out]; exact con_none Hno.out
      subst hCt
      go_wp2
      go_ret
      exact ⟨rfl, Below.refl _ _⟩

end Wp
end Go.Proofs.YtimmmfppehmfcaaDoor
