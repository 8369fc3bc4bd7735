/- The program's elim.May, walked: whether columns may be. -/
import Derived.Test.YtolnkgghejhaeaaGreatDoorZQ
import Derived.Test.YtolnkgghejhaeaaGreatDoorLFind
import Derived.Test.YtolnkgghejhaeaaGreatDoorZM
import Derived.Laws.EntriesVeiled
namespace Go.Proofs.YtolnkgghejhaeaaGreatDoor
open Go.RowKit
namespace Wp

set_option maxRecDepth 100000 in
theorem wrong_any (p x : Int) (B : Nat) (W : World) (hc : W.cell? ⟨B, 0, none⟩ = some (.int .i64 p)) :
    Calls Tryz.prog 129 #[.int .i64 x, .pointer (some ⟨B, 0, none⟩)] W fun e W' => e = .returned (.bool (wrongB p x)) ∧ Below W.heap.size W W' := by
  unfold wrongB
  by_cases h1 : x < 0
  · rw [decide_eq_true (Or.inl h1)]
    go_enter Tryz.func129, Tryz.ntmps129
    go_wp2
    go_ret
    exact ⟨rfl, Below.refl _ _⟩
  · have h1' : 0 ≤ x := by omega
    rw [show decide (x < 0 ∨ p ≤ x) = decide (p ≤ x) from decide_eq_decide.2 ⟨fun h => h.resolve_left h1, .inr⟩]
    clear h1
    go_enter Tryz.func129, Tryz.ntmps129
    go_wp2
    go_ret
    refine ⟨?_, Below.refl _ _⟩
    show Ending.returned (.bool (decide (x < 0) || decide (p ≤ x))) = _
    rw [decide_eq_false (show ¬ x < 0 by omega), Bool.false_or]

/-- In block B the number p lies. -/
theorem wrongtest (p : Int) (B : Nat) (w : World) (hB : B < w.heap.size) (hc : w.cell? ⟨B, 0, none⟩ = some (.int .i64 p)) : Tests w 129 #[.pointer (some ⟨B, 0, none⟩)] (wrongB p) :=
  fun x W hW => wrong_any p x B W ((hW.cell (p := ⟨B, 0, none⟩) hB).trans hc)

set_option maxHeartbeats 1000000 in
set_option maxRecDepth 100000 in
theorem badrow_any (p rows : Int) (bp br bw : Nat) (v : Value) (zs : List Int) (w : World) (hbp : bp < w.heap.size) (hp : w.cell? ⟨bp, 0, none⟩ = some (.int .i64 p)) (hrows : w.cell? ⟨br, 0, none⟩ = some (.int .i64 rows))
    (hw : w.cell? ⟨bw, 0, none⟩ = some (.func (.func 129) #[] #[.pointer (some ⟨bp, 0, none⟩)])) (hr : Row w w.heap.size v zs) (h64 : rows ≤ 64) :
    Calls Tryz.prog 130 #[v, .pointer (some ⟨br, 0, none⟩), .pointer (some ⟨bw, 0, none⟩)] w fun e w' => e = .returned (.bool (badRow p rows zs)) ∧ Below w.heap.size w w' := by
  unfold badRow
  by_cases hl : (zs.length : Int) = rows
  · have Hc := Lib.hid (contains_any 129 #[.pointer (some ⟨bp, 0, none⟩)] (wrongB p) v zs w (enters_of Tryz.func129 (by kernel_rfl) rfl) hr (by omega) (wrongtest p bp w hbp hp))
    obtain ⟨A, c, rfl, _⟩ := hr
    rw [decide_eq_false (by omega), Bool.false_or]
    generalize zs.any (wrongB p) = b at *
    have hne : ((zs.length : Int) != rows) = false := by simp [hl]
    clear hl hp
    go_enter Tryz.func130, Tryz.ntmps130
    go_wp2_with fail
    refine (Hc.out).mono ?_
    rintro e w1 ⟨rfl, hb1⟩
    go_wp2
    go_ret
    refine ⟨?_, hb1⟩
    rfl
  · rw [decide_eq_true hl, Bool.true_or]
    obtain ⟨A, c, rfl, _⟩ := hr
    have hne : ((zs.length : Int) != rows) = true := by simpa using hl
    clear hl hp
    go_enter Tryz.func130, Tryz.ntmps130
    go_wp2
    go_ret
    exact ⟨rfl, Below.refl _ _⟩

theorem badtest (p rows : Int) (bp br bw : Nat) (w : World) (hbp : bp < w.heap.size) (hbr : br < w.heap.size) (hbw : bw < w.heap.size) (hp : w.cell? ⟨bp, 0, none⟩ = some (.int .i64 p)) (hrows : w.cell? ⟨br, 0, none⟩ = some (.int .i64 rows))
    (hw : w.cell? ⟨bw, 0, none⟩ = some (.func (.func 129) #[] #[.pointer (some ⟨bp, 0, none⟩)])) (h64 : rows ≤ 64) :
    TestsR w 130 #[.pointer (some ⟨br, 0, none⟩), .pointer (some ⟨bw, 0, none⟩)] (badRow p rows) :=
  fun u zs W hW hu => badrow_any p rows bp br bw u zs W (Nat.lt_of_lt_of_le hbp hW.size) ((hW.cell (p := ⟨bp, 0, none⟩) hbp).trans hp) ((hW.cell (p := ⟨br, 0, none⟩) hbr).trans hrows) ((hW.cell (p := ⟨bw, 0, none⟩) hbw).trans hw) hu h64

theorem prime_is (p : Int) (b : Bool) (h : prB p = b) (w : World) (hM : Met w) : Calls Tryz.prog 128 #[.int .i64 p] w (Gets w (.bool b)) := by
  subst h
  exact prime_any p w hM

/-- Two numbers more in memory. -/
theorem below_two (w : World) (o1 o2 : Obj) : Below w.heap.size w ((w.alloc o1).alloc o2) := ((Below.refl _ w).alloc (Nat.le_refl _) _).alloc (by simp) _

set_option maxHeartbeats 4000000 in
set_option maxRecDepth 100000 in
theorem emay_any (p rows : Int) (v : Value) (cols : List (List Int)) (w : World) (hM : Met w) (hr : Rows2 w w.heap.size v cols) :
    Calls Tryz.prog 102 #[.int .i64 p, .int .i64 rows, v] w (Says w (elimB p rows cols)) := by
  have Hr := Lib.hid hr
  have HM := Lib.hid hM
  obtain ⟨A, c, rfl, hn, _⟩ := hr
  have hlm : (cols.length : Int) ≤ 9223372036854775807 := by have := hn.1; have := hn.2.1; unfold maxLen at *; omega
  have Hb0 := Lib.hid (below_two w (.cells #[.int .i64 p] 3) (.cells #[.int .i64 rows] 3))
  clear hn hM
  unfold elimB
  rcases hp : prB p with _ | _
  · simp only [Bool.false_and]
    have HP := Lib.hid hp
    clear hp
    go_enter Tryz.func102, Tryz.ntmps102
    go_wp2_with fail
    refine (prime_is p false HP.out _ (HM.out.up Hb0.out)).mono ?_
    rintro e w1 ⟨rfl, hb1⟩
    have Hb1 := Lib.hid (below_next Hb0.out (Nat.le_refl _) hb1)
    clear hb1
    go_wp2
    go_ret
    exact ⟨rfl, Hb1.out⟩
  · simp only [Bool.true_and]
    have HP := Lib.hid hp
    clear hp
    by_cases h1 : rows < 0
    · rw [decide_eq_false (show ¬ (0 ≤ rows ∧ rows ≤ 64) by omega)]
      simp only [Bool.false_and]
      go_enter Tryz.func102, Tryz.ntmps102
      go_wp2_with fail
      refine (prime_is p true HP.out _ (HM.out.up Hb0.out)).mono ?_
      rintro e w1 ⟨rfl, hb1⟩
      have c0 : w1.cell? ⟨w.heap.size, 0, none⟩ = some (.int .i64 p) := (hb1.cell (p := ⟨w.heap.size, 0, none⟩) (by simp; omega)).trans (by simp [go_sem])
      have c1 : w1.cell? ⟨w.heap.size + 1, 0, none⟩ = some (.int .i64 rows) := (hb1.cell (p := ⟨w.heap.size + 1, 0, none⟩) (by simp)).trans (by simp [go_sem])
      have Hb1 := Lib.hid (below_next Hb0.out (Nat.le_refl _) hb1)
      have Hs1 : Hid (w.heap.size + 1 < w1.heap.size) := by
        have := hb1.size
        show _ < _
        simp at this
        omega
      clear hb1
      go_wp2
      go_ret
      exact ⟨rfl, Hb1.out⟩
    · have h1' : 0 ≤ rows := by omega
      clear h1
      by_cases h2 : 64 < rows
      · rw [decide_eq_false (show ¬ (0 ≤ rows ∧ rows ≤ 64) by omega)]
        simp only [Bool.false_and]
        go_enter Tryz.func102, Tryz.ntmps102
        go_wp2_with fail
        refine (prime_is p true HP.out _ (HM.out.up Hb0.out)).mono ?_
        rintro e w1 ⟨rfl, hb1⟩
        have c0 : w1.cell? ⟨w.heap.size, 0, none⟩ = some (.int .i64 p) := (hb1.cell (p := ⟨w.heap.size, 0, none⟩) (by simp; omega)).trans (by simp [go_sem])
        have c1 : w1.cell? ⟨w.heap.size + 1, 0, none⟩ = some (.int .i64 rows) := (hb1.cell (p := ⟨w.heap.size + 1, 0, none⟩) (by simp)).trans (by simp [go_sem])
        have Hb1 := Lib.hid (below_next Hb0.out (Nat.le_refl _) hb1)
        have Hs1 : Hid (w.heap.size + 1 < w1.heap.size) := by
          have := hb1.size
          show _ < _
          simp at this
          omega
        clear hb1
        go_wp2
        go_ret
        exact ⟨rfl, Hb1.out⟩
      · have h2' : rows ≤ 64 := by omega
        rw [decide_eq_true (show 0 ≤ rows ∧ rows ≤ 64 from ⟨h1', h2'⟩), Bool.true_and]
        clear h2
        by_cases h3 : cols.length ≤ 64
        · rw [decide_eq_true h3, Bool.true_and]
          have h3' : (cols.length : Int) ≤ 64 := by omega
          generalize hcb : cols.any (badRow p rows) = cb
          have Hcb := Lib.hid hcb
          have H3 := Lib.hid h3
          clear hcb h3
          go_enter Tryz.func102, Tryz.ntmps102
          go_wp2_with fail
          refine (prime_is p true HP.out _ (HM.out.up Hb0.out)).mono ?_
          rintro e w1 ⟨rfl, hb1⟩
          have c0 : w1.cell? ⟨w.heap.size, 0, none⟩ = some (.int .i64 p) := (hb1.cell (p := ⟨w.heap.size, 0, none⟩) (by simp; omega)).trans (by simp [go_sem])
          have c1 : w1.cell? ⟨w.heap.size + 1, 0, none⟩ = some (.int .i64 rows) := (hb1.cell (p := ⟨w.heap.size + 1, 0, none⟩) (by simp)).trans (by simp [go_sem])
          have Hb1 := Lib.hid (below_next Hb0.out (Nat.le_refl _) hb1)
          have Hs1 : Hid (w.heap.size + 1 < w1.heap.size) := by
            have := hb1.size
            show _ < _
            simp at this
            omega
          clear hb1
          have Hd : Hid (Below w.heap.size w (w1.alloc (.cells #[.func (.func 129) #[] #[.pointer (some ⟨w.heap.size, 0, none⟩)]] 48))) := Hb1.out.alloc Hb1.out.size _
          go_wp2_with fail
          refine (containsR_any 130 _ (badRow p rows) _ cols _ (enters_of Tryz.func130 (by kernel_rfl) rfl) (Hr.out.up Hd.out) (by have := H3.out; omega) (badtest p rows w.heap.size (w.heap.size + 1) w1.heap.size _ (by have := Hs1.out; simp; omega) (by have := Hs1.out; simp; omega) (by simp) ?_ ?_ ?_ h2')).mono ?_
          · rw [World.cell?_alloc_lt]
            · exact c0
            · have := Hs1.out
              show w.heap.size < _
              omega
          · rw [World.cell?_alloc_lt]
            · exact c1
            · exact Hs1.out
          · exact (Blk.new w1 _ _).cell 0
          rintro e w2 ⟨rfl, hb2⟩
          rw [Hcb.out]
          have Hb2 := Lib.hid (below_next Hd.out (Nat.le_refl _) hb2)
          clear hb2
          go_wp2
          go_ret
          exact ⟨rfl, Hb2.out⟩
        · rw [decide_eq_false h3, Bool.false_and]
          have h3' : 64 < (cols.length : Int) := by omega
          clear h3
          go_enter Tryz.func102, Tryz.ntmps102
          go_wp2_with fail
          refine (prime_is p true HP.out _ (HM.out.up Hb0.out)).mono ?_
          rintro e w1 ⟨rfl, hb1⟩
          have c0 : w1.cell? ⟨w.heap.size, 0, none⟩ = some (.int .i64 p) := (hb1.cell (p := ⟨w.heap.size, 0, none⟩) (by simp; omega)).trans (by simp [go_sem])
          have c1 : w1.cell? ⟨w.heap.size + 1, 0, none⟩ = some (.int .i64 rows) := (hb1.cell (p := ⟨w.heap.size + 1, 0, none⟩) (by simp)).trans (by simp [go_sem])
          have Hb1 := Lib.hid (below_next Hb0.out (Nat.le_refl _) hb1)
          have Hs1 : Hid (w.heap.size + 1 < w1.heap.size) := by
            have := hb1.size
            show _ < _
            simp at this
            omega
          clear hb1
          go_wp2
          go_ret
          exact ⟨rfl, Hb1.out⟩

end Wp
end Go.Proofs.YtolnkgghejhaeaaGreatDoor
