/- The queue's own calls: New, Push, Pop, Len, walked, of nil too. -/
import Derived.Test.YtcdfjhmlpdhelaaOQueue
namespace Go.Proofs.Ytcdfjhmlpdhelaa
open Go Go.RowKit
namespace Wp

theorem qnew_any (w : World) : Calls Try.prog 25 #[] w fun e w' => e = .returned (qV w.heap.size) ∧ HQ w' (fun i => i < w.heap.size) w.heap.size [] ∧ Below w.heap.size w w' ∧ w.heap.size < w'.heap.size := by
  go_enter Try.func25, Try.ntmps25
  go_wp2
  go_ret
  refine ⟨rfl, ⟨[], .refl _, fun i h0 h1 => absurd h1 (by simp), .slice none 0 0, Blk.new _ _ _, World.ownsRow_nil _ _ _ _, ?_, fun i hi => ⟨by simp; omega, by omega, ?_⟩⟩, (Below.refl _ w).alloc (Nat.le_refl _) _, by simp⟩
  · intro e; cases e
  · intro e; cases e

theorem qlen_any (F : Nat → Prop) (q : Nat) (ms : List (Int × Int)) (w : World) (h : HQ w F q ms) :
    Calls Try.prog 30 #[qV q] w fun e w' => e = .returned (.int .i64 (ms.length : Int)) ∧ w' = w := by
  obtain ⟨ps, hp, _, v, hv⟩ := h
  have hL := len_any v ps w hv.own
  rw [hp.length_eq] at hL
  have HL := Lib.hid hL
  have hc := hv.cell
  unfold qV
  clear hL hv hp
  go_enter Try.func30, Try.ntmps30
  go_wp2_with fail
  refine HL.out.mono ?_
  rintro e w0 ⟨rfl, hw0⟩
  replace hw0 := hw0.symm
  subst hw0
  go_wp2
  go_ret
  exact ⟨rfl, rfl⟩
theorem qlen_nil (w : World) : Calls Try.prog 30 #[.pointer none] w fun e w' => e = .returned (.int .i64 0) ∧ w' = w := by
  go_enter Try.func30, Try.ntmps30
  go_wp2
  go_ret
  exact ⟨rfl, rfl⟩

theorem qpush_nil (k i : Int) (w : World) : Calls Try.prog 26 #[.pointer none, .int .i64 k, .int .i64 i] w fun e w' => e = .returned (.tuple #[]) ∧ w' = w := by
  go_enter Try.func26, Try.ntmps26
  go_wp2
  go_end0
  exact ⟨rfl, rfl⟩
theorem qpush_any (F : Nat → Prop) (q : Nat) (ms : List (Int × Int)) (k i : Int) (hl : ms.length ≤ 1048576) (w : World) (h : HQ w F q ms) :
    Calls Try.prog 26 #[qV q, .int .i64 k, .int .i64 i] w fun e w' => e = .returned (.tuple #[]) ∧ HQ w' F q ((k, i) :: ms) ∧ Fk F w w' := by
  have hu := hpush_any F q ms (k, i) hl w h
  unfold ivQ pairV at hu
  have HU := Lib.hid hu
  unfold qV
  clear hu h
  go_enter Try.func26, Try.ntmps26
  go_wp2_with fail
  refine HU.out.mono ?_
  rintro e w1 ⟨rfl, h1, h2⟩
  go_wp2
  go_end0
  exact ⟨rfl, h1, h2⟩

theorem qpop_nil (w : World) : Calls Try.prog 28 #[.pointer none] w fun e w' => e = .returned (.tuple #[.int .i64 0, .int .i64 0, .bool false]) ∧ w' = w := by
  have HL := Lib.hid (qlen_nil w)
  go_enter Try.func28, Try.ntmps28
  go_wp2_with fail
  refine HL.out.mono ?_
  rintro e w0 ⟨rfl, hw0⟩
  replace hw0 := hw0.symm
  subst hw0
  go_wp2
  go_ret3
  exact ⟨rfl, rfl⟩
theorem qpop_none (F : Nat → Prop) (q : Nat) (w : World) (h : HQ w F q []) : Calls Try.prog 28 #[qV q] w fun e w' => e = .returned (.tuple #[.int .i64 0, .int .i64 0, .bool false]) ∧ w' = w := by
  have HL := Lib.hid (qlen_any F q [] w h)
  clear h
  go_enter Try.func28, Try.ntmps28
  go_wp2_with fail
  refine HL.out.mono ?_
  rintro e w0 ⟨rfl, hw0⟩
  replace hw0 := hw0.symm
  subst hw0
  go_wp2
  go_ret3
  exact ⟨rfl, rfl⟩
set_option maxHeartbeats 8000000 in
theorem qpop_any (F : Nat → Prop) (q : Nat) (ms rest : List (Int × Int)) (x : Int × Int) (hm : ms.Perm (x :: rest)) (hx : ∀ y ∈ ms, ¬ ltP y x) (hl : ms.length ≤ 1048576) (w : World) (h : HQ w F q ms) :
    Calls Try.prog 28 #[qV q] w fun e w' => e = .returned (.tuple #[.int .i64 x.1, .int .i64 x.2, .bool true]) ∧ HQ w' F q rest ∧ Fk F w w' := by
  have HL := Lib.hid (qlen_any F q ms w h)
  have hu := hpop_any F q ms rest x hm hx hl w h
  unfold ivQ pairV at hu
  have HU := Lib.hid hu
  have hta := assert_pair (.int .i64 x.1) (.int .i64 x.2)
  have h0 : ¬ (ms.length : Int) = 0 := by
    have := hm.length_eq
    simp at this
    omega
  have h0b : ((ms.length : Int) == 0) = false := by rw [beq_eq_false_iff_ne]; exact h0
  clear hu h hx hm
  unfold qV at HL ⊢
  go_enter Try.func28, Try.ntmps28
  go_wp2_with fail
  refine HL.out.mono ?_
  rintro e w0 ⟨rfl, hw0⟩
  replace hw0 := hw0.symm
  subst hw0
  go_wp2_with fail
  refine HU.out.mono ?_
  rintro e w1 ⟨rfl, h1, h2⟩
  have H1 := Lib.hid h1
  have H2 := Lib.hid h2
  clear h1 h2
  go_wp2
  go_quiet (fail)
  go_wp2
  have hb : Below w1.heap.size w1 ((w1.alloc (Obj.cells #[.int .i64 x.1, .int .i64 x.2] 66)).drewN nq) := below_drewN ((Below.refl _ w1).alloc (Nat.le_refl _) _) nq
  go_ret3
  exact ⟨rfl, H1.out.quiet hb, H2.out.trans (Fk.of_below hb)⟩

end Wp
end Go.Proofs.Ytcdfjhmlpdhelaa
