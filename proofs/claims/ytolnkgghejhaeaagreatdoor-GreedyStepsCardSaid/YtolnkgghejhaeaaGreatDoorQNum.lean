/- The program's numbers: whether a list has so many, all in bounds; and no edge. -/
import Derived.Test.YtolnkgghejhaeaaGreatDoorZQ
import Derived.Test.YtolnkgghejhaeaaGreatDoorLFind
namespace Go.Proofs.YtolnkgghejhaeaaGreatDoor
open Go.RowKit
namespace Wp

set_option maxRecDepth 100000 in
theorem out_any (below x : Int) (B : Nat) (W : World) (hc : W.cell? ⟨B, 0, none⟩ = some (.int .i64 below)) :
    Calls Tryz.prog 126 #[.int .i64 x, .pointer (some ⟨B, 0, none⟩)] W fun e W' => e = .returned (.bool (outB below x)) ∧ Below W.heap.size W W' := by
  unfold outB
  by_cases h1 : x < 0
  · rw [decide_eq_true (Or.inl h1)]
    go_enter Tryz.func126, Tryz.ntmps126
    go_wp2
    go_ret
    exact ⟨rfl, Below.refl _ _⟩
  · have h1' : 0 ≤ x := by omega
    rw [show decide (x < 0 ∨ below ≤ x) = decide (below ≤ x) from decide_eq_decide.2 ⟨fun h => h.resolve_left h1, .inr⟩]
    clear h1
    go_enter Tryz.func126, Tryz.ntmps126
    go_wp2
    go_ret
    refine ⟨?_, Below.refl _ _⟩
    show Ending.returned (.bool (decide (x < 0) || decide (below ≤ x))) = _
    rw [decide_eq_false (show ¬ x < 0 by omega), Bool.false_or]

theorem outtest (below : Int) (B : Nat) (w : World) (hB : B < w.heap.size) (hc : w.cell? ⟨B, 0, none⟩ = some (.int .i64 below)) : Tests w 126 #[.pointer (some ⟨B, 0, none⟩)] (outB below) :=
  fun x W hW => out_any below x B W ((hW.cell (p := ⟨B, 0, none⟩) hB).trans hc)

set_option maxHeartbeats 1000000 in
set_option maxRecDepth 100000 in
theorem numbers_any (many below : Int) (v : Value) (zs : List Int) (w : World) (hr : Row w w.heap.size v zs) (hm : many ≤ 1048576) :
    Calls Tryz.prog 99 #[v, .int .i64 many, .int .i64 below] w (Says w (numsB zs many below)) := by
  unfold numsB
  have Hb0 := Lib.hid (show Below w.heap.size w (w.alloc (.cells #[.int .i64 below] 3)) from (Below.refl _ _).alloc (Nat.le_refl _) _)
  by_cases hl : (zs.length : Int) = many
  · have hru := (hr.below Hb0.out).mono Hb0.out.size
    have Hc := Lib.hid (contains_any 126 #[.pointer (some ⟨w.heap.size, 0, none⟩)] (outB below) v zs (w.alloc (.cells #[.int .i64 below] 3)) (enters_of Tryz.func126 (by kernel_rfl) rfl) hru (by omega) (outtest below w.heap.size _ (by simp) (by simp [go_sem])))
    obtain ⟨A, c, rfl, _⟩ := hr
    rw [decide_eq_true hl, Bool.true_and]
    generalize zs.any (outB below) = b at *
    have hne : ((zs.length : Int) == many) = true := by simp [hl]
    clear hl hru
    go_enter Tryz.func99, Tryz.ntmps99
    go_wp2_with fail
    refine (Hc.out).mono ?_
    rintro e w1 ⟨rfl, hb1⟩
    go_wp2
    go_ret
    refine ⟨?_, Hb0.out.trans (hb1.mono Hb0.out.size)⟩
    rfl
  · rw [decide_eq_false hl, Bool.false_and]
    obtain ⟨A, c, rfl, _⟩ := hr
    have hne : ((zs.length : Int) == many) = false := by simpa using hl
    clear hl
    go_enter Tryz.func99, Tryz.ntmps99
    go_wp2
    go_ret
    exact ⟨rfl, Hb0.out⟩

set_option maxRecDepth 100000 in
theorem edge_any (A : Int) (B : Nat) (v : Value) (zs : List Int) (W : World) (hc : W.cell? ⟨B, 2, none⟩ = some (.int .i64 A)) (hr : Row W W.heap.size v zs) :
    Calls Tryz.prog 98 #[v, .pointer (some ⟨B, 0, none⟩)] W (Says W (edgeB A zs)) := by
  have Hc := Lib.hid (numbers_any 2 A v zs W hr (by decide))
  unfold edgeB
  obtain ⟨A0, c, rfl, _⟩ := hr
  generalize numsB zs 2 A = b at *
  go_enter Tryz.func98, Tryz.ntmps98
  go_wp2_with fail
  refine (Hc.out).mono ?_
  rintro e w1 ⟨rfl, hb1⟩
  go_wp2
  go_ret
  exact ⟨rfl, hb1⟩

end Wp
end Go.Proofs.YtolnkgghejhaeaaGreatDoor
