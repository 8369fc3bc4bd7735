/- Which of two pairs comes ahead: the program's Less, walked, with cmp.Compare and cmp.Or. -/
import Derived.Test.YtcdfjhmlpdhelaaOSwap
import Derived.StillTailTactics
namespace Go.Proofs.Ytcdfjhmlpdhelaa
open Go Go.RowKit
namespace Wp

/-- -1, 0 or 1. -/
def cmpI (x y : Int) : Int := if x < y then -1 else if y < x then 1 else 0
theorem cmp_any (x y : Int) (w : World) : Calls Try.prog 50 #[.int .i64 x, .int .i64 y] w fun e w' => e = .returned (.int .i64 (cmpI x y)) ∧ w' = w := by
  have hnan : ∀ (z : Int) (w : World), Calls Try.prog 66 #[.int .i64 z] w fun e w' => e = .returned (.bool false) ∧ w' = w := by
    intro z w
    go_enter Try.func66, Try.ntmps66
    go_wp2
    go_ret
    exact ⟨by simp, rfl⟩
  have HN := Lib.hid hnan
  clear hnan
  go_enter Try.func50, Try.ntmps50
  go_wp2_with (go_at_call 66; refine (HN.out _ _).mono ?_; rintro e w' ⟨rfl, hw⟩; rw [hw])
  all_goals (go_ret; refine ⟨?_, rfl⟩; unfold cmpI; (repeat' split) <;> first | rfl | (exfalso; omega))

/-- The first of two that is not 0. -/
def orI (a b : Int) : Int := if a = 0 then b else a
theorem or_any (a b : Int) (g : Nat) (w : World) (h : Blk w g 3 #[.int .i64 a, .int .i64 b]) :
    Calls Try.prog 49 #[.slice (some ⟨g, 0, none⟩) 2 2] w fun e w' => e = .returned (.int .i64 (orI a b)) ∧ w' = w := by
  have h0 := h.cell 0
  have h1 := h.cell 1
  simp only [List.getElem?_toArray, List.getElem?_cons_zero, List.getElem?_cons_succ] at h0 h1
  clear h
  unfold orI
  by_cases ha : a = 0
  · subst ha
    rw [if_pos rfl]
    by_cases hb : b = 0
    · subst hb
      go_enter Try.func49, Try.ntmps49
      go_wp2
      refine wp_loop_rounds 3 ?_
      rw [rounds_succ]
      go_wp2
      rw [rounds_succ]
      go_wp2
      rw [rounds_succ]
      go_wp2
      go_ret
      exact ⟨rfl, rfl⟩
    · have hb1 : (b != 0) = true := by simpa using hb
      go_enter Try.func49, Try.ntmps49
      go_wp2
      refine wp_loop_rounds 2 ?_
      rw [rounds_succ]
      go_wp2
      rw [rounds_succ]
      go_wp2
      go_ret
      exact ⟨rfl, rfl⟩
  · have ha1 : (a != 0) = true := by simpa using ha
    rw [if_neg ha]
    go_enter Try.func49, Try.ntmps49
    go_wp2
    refine wp_loop_rounds 1 ?_
    rw [rounds_succ]
    go_wp2
    go_ret
    exact ⟨rfl, rfl⟩
theorem less_is (a b : Int × Int) : decide (orI (cmpI a.1 b.1) (cmpI a.2 b.2) < 0) = decide (ltP a b) := by
  refine decide_eq_decide.2 ?_
  unfold orI cmpI ltP
  (repeat' split) <;> omega

set_option maxHeartbeats 8000000 in
set_option maxRecDepth 1000000 in
theorem less_any (v : Value) (ps : List (Int × Int)) (i j : Nat) (hi : i < ps.length) (hj : j < ps.length) (w : World) (h : OwnP w v ps) :
    Calls Try.prog 116 #[v, .int .i64 (i : Int), .int .i64 (j : Int)] w (Says w (decide (ltP (atP ps i) (atP ps j)))) := by
  obtain ⟨g, cap, cur, hb⟩ := h.some_ (by omega)
  obtain ⟨ci1, ci2⟩ := hb.cells i hi
  obtain ⟨cj1, cj2⟩ := hb.cells j hj
  have hv := hb.val
  subst hv
  have hiI : (i : Int) < (ps.length : Int) := by omega
  have hjI : (j : Int) < (ps.length : Int) := by omega
  have HE := Lib.hid (less_is (atP ps i) (atP ps j))
  clear hb h hi hj
  generalize atP ps i = x at *
  generalize atP ps j = y at *
  go_enter Try.func116, Try.ntmps116
  go_wp2
  refine wp_region_still_tail 22 (by kernel_rfl) (by kernel_rfl) ?_
  simp only [List.take_succ_cons, List.take_zero, List.drop_succ_cons, List.drop_zero]
  iterate 10 still_step
  still_call (cmp_any _ _ _)
  iterate 10 still_step
  still_call (cmp_any _ _ _)
  refine wpStill_nil ?_
  change wpList _ _ _ _ _ w.drew
  have HB := Lib.hid (Below.refl w.heap.size w).drew
  generalize w.drew = w2 at *
  go_wp2_with (go_at_call 49; refine (or_any _ _ _ _ (Blk.new _ _ _)).mono ?_; rintro e w' ⟨rfl, rfl⟩)
  rw [HE.out]
  go_ret
  exact ⟨rfl, HB.out.alloc HB.out.size _⟩
theorem len_any (v : Value) (ps : List (Int × Int)) (w : World) (h : OwnP w v ps) : Calls Try.prog 46 #[v] w fun e w' => e = .returned (.int .i64 (ps.length : Int)) ∧ w' = w := by
  obtain ⟨A, cap, rfl⟩ := h.slice
  go_enter Try.func46, Try.ntmps46
  go_wp2
  go_ret
  exact ⟨rfl, rfl⟩

end Wp
end Go.Proofs.Ytcdfjhmlpdhelaa
