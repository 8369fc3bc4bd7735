/- The program's wire.told, walked: the number and the place of a fault. -/
import Derived.Test.YtcabbhiabhblfaaDoorWAsWalk
import Derived.Test.YtcabbhiabhblfaaDoorWIs
import Derived.BigQuiet
import Derived.Deep.QuietTactic
namespace Go.Proofs.YtcabbhiabhblfaaDoor
open Go.RowKit
namespace Wp

theorem asW_below (w : World) (t : Nat) (x y : Value) (B : Nat) (hB : B ≤ t) (h : B ≤ w.heap.size) : Below B w (asW w t x y) := by
  unfold asW
  refine Below.setCell ?_ (by exact hB) _
  refine Below.setCell ?_ (by exact hB) _
  exact ((((Below.refl _ _).alloc h _).alloc (by simp; omega) _).alloc (by simp; omega) _).alloc (by simp; omega) _

theorem is_eq (E : Nat → Addr) (B p k : Nat) (w : World) (_ : Met E B w) :
    Calls Tryd.prog 42 #[.iface 53 (.agg #[.int .i64 p, .iface 101 (.pointer (some (E k)))]), .iface 101 (.pointer (some (E k)))] w fun e w' => e = .returned (.bool true) ∧ Below w.heap.size w w' :=
  (is_hit _ _ w).mono fun _ _ ⟨h1, h2⟩ => ⟨h1, by subst h2; exact (Below.refl _ _).alloc (Nat.le_refl _) _⟩

theorem is_ne (E : Nat → Addr) (B p k j : Nat) (w : World) (hM : Met E B w) (hk : 1 ≤ k ∧ k ≤ 4) (hj : 1 ≤ j ∧ j ≤ 4) (hkj : j < k) :
    Calls Tryd.prog 42 #[.iface 53 (.agg #[.int .i64 p, .iface 101 (.pointer (some (E k)))]), .iface 101 (.pointer (some (E j)))] w fun e w' => e = .returned (.bool false) ∧ Below w.heap.size w w' := by
  obtain ⟨ca, ta, ha, _⟩ := hM.blk k hk.1 hk.2
  obtain ⟨cb, tb, hb, _⟩ := hM.blk j hj.1 hj.2
  exact (is_miss _ _ _ ca cb ta tb w (fun e => hM.ne j k hj.1 hkj hk.2 e.symm) ha hb).mono fun _ _ ⟨h1, h2⟩ => ⟨h1, by subst h2; exact (Below.refl _ _).alloc (Nat.le_refl _) _⟩

theorem ix0 (x0 x1 x2 x3 x4 x5 x6 x7 : Value) (w : World) : (Instr.index 65 (.agg #[x0, x1, x2, x3, x4, x5, x6, x7]) (.int .i64 0)).run Tryd.prog w = .ok (.agg #[x0, x1]) w := by kernel_rfl
theorem ix1 (x0 x1 x2 x3 x4 x5 x6 x7 : Value) (w : World) : (Instr.index 65 (.agg #[x0, x1, x2, x3, x4, x5, x6, x7]) (.int .i64 1)).run Tryd.prog w = .ok (.agg #[x2, x3]) w := by kernel_rfl
theorem ix2 (x0 x1 x2 x3 x4 x5 x6 x7 : Value) (w : World) : (Instr.index 65 (.agg #[x0, x1, x2, x3, x4, x5, x6, x7]) (.int .i64 2)).run Tryd.prog w = .ok (.agg #[x4, x5]) w := by kernel_rfl
theorem ix3 (x0 x1 x2 x3 x4 x5 x6 x7 : Value) (w : World) : (Instr.index 65 (.agg #[x0, x1, x2, x3, x4, x5, x6, x7]) (.int .i64 3)).run Tryd.prog w = .ok (.agg #[x6, x7]) w := by kernel_rfl

set_option maxHeartbeats 2000000 in
set_option maxRecDepth 100000 in
theorem told_1 (E : Nat → Addr) (B : Nat) (p : Nat) (w : World) (hM : Met E B w) (hB : B ≤ w.heap.size) :
    Calls Tryd.prog 36 #[errV E (some (p, 1))] w fun e w' => e = .returned (.tuple #[.int .i64 10, .int .i64 p]) ∧ Below w.heap.size w w' := by
  unfold errV
  have g1 := hM.g1
  have g2 := hM.g2
  have g3 := hM.g3
  have g4 := hM.g4
  go_enter Tryd.func36, Tryd.ntmps36
  go_wp2_with fail
  clear g1 g2 g3 g4
  have hb0 : Below w.heap.size w ((w.alloc (.cells #[.iface 101 (.pointer (some (E 1))), .int .i64 10, .iface 101 (.pointer (some (E 2))), .int .i64 11, .iface 101 (.pointer (some (E 3))), .int .i64 12, .iface 101 (.pointer (some (E 4))), .int .i64 13] 65)).alloc (.cells #[.int .i64 0, .nilIface] 53)) := ((Below.refl _ _).alloc (Nat.le_refl _) _).alloc (by simp) _
  have ha0 := (Blk.new w 65 #[.iface 101 (.pointer (some (E 1))), .int .i64 10, .iface 101 (.pointer (some (E 2))), .int .i64 11, .iface 101 (.pointer (some (E 3))), .int .i64 12, .iface 101 (.pointer (some (E 4))), .int .i64 13]).alloc (.cells #[.int .i64 0, .nilIface] 53)
  have hf0 : Blk ((w.alloc (.cells #[.iface 101 (.pointer (some (E 1))), .int .i64 10, .iface 101 (.pointer (some (E 2))), .int .i64 11, .iface 101 (.pointer (some (E 3))), .int .i64 12, .iface 101 (.pointer (some (E 4))), .int .i64 13] 65)).alloc (.cells #[.int .i64 0, .nilIface] 53)) (w.heap.size + 1) 53 #[.int .i64 0, .nilIface] := by
    have h := Blk.new (w.alloc (.cells #[.iface 101 (.pointer (some (E 1))), .int .i64 10, .iface 101 (.pointer (some (E 2))), .int .i64 11, .iface 101 (.pointer (some (E 3))), .int .i64 12, .iface 101 (.pointer (some (E 4))), .int .i64 13] 65)) 53 #[.int .i64 0, .nilIface]
    simpa using h
  generalize hw0 : ((w.alloc (.cells #[.iface 101 (.pointer (some (E 1))), .int .i64 10, .iface 101 (.pointer (some (E 2))), .int .i64 11, .iface 101 (.pointer (some (E 3))), .int .i64 12, .iface 101 (.pointer (some (E 4))), .int .i64 13] 65)).alloc (.cells #[.int .i64 0, .nilIface] 53)) = w0 at *
  have hz0 : w.heap.size + 2 = w0.heap.size := by rw [← hw0]; simp
  clear hw0
  have hM0 : Met E B w0 := hM.below (hb0.mono hB)
  refine (as_hit _ _ _ _ _ _ rfl rfl hM0.gt hf0).mono ?_
  rintro e w1 ⟨rfl, hw1⟩
  have hb1 : Below w.heap.size w w1 := hb0.trans (by rw [← hw1]; exact asW_below _ _ _ _ _ (by omega) (by omega))
  have ha1 : Blk w1 w.heap.size 65 #[.iface 101 (.pointer (some (E 1))), .int .i64 10, .iface 101 (.pointer (some (E 2))), .int .i64 11, .iface 101 (.pointer (some (E 3))), .int .i64 12, .iface 101 (.pointer (some (E 4))), .int .i64 13] := ha0.below (by rw [← hw1]; exact asW_below w0 (w.heap.size + 1) _ _ (w.heap.size + 1) (Nat.le_refl _) (by omega)) (by omega)
  have hf1 : Blk w1 (w.heap.size + 1) 53 #[.int .i64 p, .iface 101 (.pointer (some (E 1)))] := by
    rw [← hw1]
    unfold asW
    exact (((((hf0.alloc _).alloc _).alloc _).alloc _).set_ 0 _).set_ 1 _
  have hz1 : w.heap.size + 2 ≤ w1.heap.size := by
    have h2 := (asW_below w0 (w.heap.size + 1) (.int .i64 p) (.iface 101 (.pointer (some (E 1)))) w.heap.size (by omega) (by omega)).size
    rw [hw1] at h2
    omega
  clear hw1 ha0 hf0 hM0 hz0 hb0
  have k0 := ha1.cell 0
  have k1 := ha1.cell 1
  have k2 := ha1.cell 2
  have k3 := ha1.cell 3
  have k4 := ha1.cell 4
  have k5 := ha1.cell 5
  have k6 := ha1.cell 6
  have k7 := ha1.cell 7
  simp only [List.getElem?_toArray, List.getElem?_cons_zero, List.getElem?_cons_succ] at k0 k1 k2 k3 k4 k5 k6 k7
  have y0 := ix0
  have y1 := ix1
  have y2 := ix2
  have y3 := ix3
  have hM1 : Met E B w1 := hM.below (hb1.mono hB)
  go_wp2_with fail
  clear k0 k1 k2 k3 k4 k5 k6 k7 ha1
  refine wp_loop_rounds 1 ?_
  rw [rounds_succ]
  go_wp2_with fail
  refine (is_eq E B p 1 _ (hM1.below ((Below.refl _ _).alloc (by have := hb1.size; omega) _))).mono ?_
  rintro e w2 ⟨rfl, hc1⟩
  have hb2 : Below w.heap.size w w2 := (hb1.alloc (by have := hb1.size; omega) _).trans (hc1.mono (by have := hb1.size; simp; omega))
  have hf2 := (hf1.alloc (.cells #[.iface 101 (.pointer (some (E 1))), .int .i64 10] 64)).below hc1 (by simp; omega)
  have hn2 := (Blk.new w1 64 #[.iface 101 (.pointer (some (E 1))), .int .i64 10]).below hc1 (by simp)
  have q0 := hf2.cell 0
  have q1 := hn2.cell 1
  simp only [List.getElem?_toArray, List.getElem?_cons_zero, List.getElem?_cons_succ] at q0 q1
  clear hc1 hM1 hf1 hz1
  go_wp2
  go_quiet (fail)
  go_wp2
  go_ret2
  exact ⟨rfl, below_drewN hb2 _⟩

set_option maxHeartbeats 2000000 in
set_option maxRecDepth 100000 in
theorem told_2 (E : Nat → Addr) (B : Nat) (p : Nat) (w : World) (hM : Met E B w) (hB : B ≤ w.heap.size) :
    Calls Tryd.prog 36 #[errV E (some (p, 2))] w fun e w' => e = .returned (.tuple #[.int .i64 11, .int .i64 p]) ∧ Below w.heap.size w w' := by
  unfold errV
  have g1 := hM.g1
  have g2 := hM.g2
  have g3 := hM.g3
  have g4 := hM.g4
  go_enter Tryd.func36, Tryd.ntmps36
  go_wp2_with fail
  clear g1 g2 g3 g4
  have hb0 : Below w.heap.size w ((w.alloc (.cells #[.iface 101 (.pointer (some (E 1))), .int .i64 10, .iface 101 (.pointer (some (E 2))), .int .i64 11, .iface 101 (.pointer (some (E 3))), .int .i64 12, .iface 101 (.pointer (some (E 4))), .int .i64 13] 65)).alloc (.cells #[.int .i64 0, .nilIface] 53)) := ((Below.refl _ _).alloc (Nat.le_refl _) _).alloc (by simp) _
  have ha0 := (Blk.new w 65 #[.iface 101 (.pointer (some (E 1))), .int .i64 10, .iface 101 (.pointer (some (E 2))), .int .i64 11, .iface 101 (.pointer (some (E 3))), .int .i64 12, .iface 101 (.pointer (some (E 4))), .int .i64 13]).alloc (.cells #[.int .i64 0, .nilIface] 53)
  have hf0 : Blk ((w.alloc (.cells #[.iface 101 (.pointer (some (E 1))), .int .i64 10, .iface 101 (.pointer (some (E 2))), .int .i64 11, .iface 101 (.pointer (some (E 3))), .int .i64 12, .iface 101 (.pointer (some (E 4))), .int .i64 13] 65)).alloc (.cells #[.int .i64 0, .nilIface] 53)) (w.heap.size + 1) 53 #[.int .i64 0, .nilIface] := by
    have h := Blk.new (w.alloc (.cells #[.iface 101 (.pointer (some (E 1))), .int .i64 10, .iface 101 (.pointer (some (E 2))), .int .i64 11, .iface 101 (.pointer (some (E 3))), .int .i64 12, .iface 101 (.pointer (some (E 4))), .int .i64 13] 65)) 53 #[.int .i64 0, .nilIface]
    simpa using h
  generalize hw0 : ((w.alloc (.cells #[.iface 101 (.pointer (some (E 1))), .int .i64 10, .iface 101 (.pointer (some (E 2))), .int .i64 11, .iface 101 (.pointer (some (E 3))), .int .i64 12, .iface 101 (.pointer (some (E 4))), .int .i64 13] 65)).alloc (.cells #[.int .i64 0, .nilIface] 53)) = w0 at *
  have hz0 : w.heap.size + 2 = w0.heap.size := by rw [← hw0]; simp
  clear hw0
  have hM0 : Met E B w0 := hM.below (hb0.mono hB)
  refine (as_hit _ _ _ _ _ _ rfl rfl hM0.gt hf0).mono ?_
  rintro e w1 ⟨rfl, hw1⟩
  have hb1 : Below w.heap.size w w1 := hb0.trans (by rw [← hw1]; exact asW_below _ _ _ _ _ (by omega) (by omega))
  have ha1 : Blk w1 w.heap.size 65 #[.iface 101 (.pointer (some (E 1))), .int .i64 10, .iface 101 (.pointer (some (E 2))), .int .i64 11, .iface 101 (.pointer (some (E 3))), .int .i64 12, .iface 101 (.pointer (some (E 4))), .int .i64 13] := ha0.below (by rw [← hw1]; exact asW_below w0 (w.heap.size + 1) _ _ (w.heap.size + 1) (Nat.le_refl _) (by omega)) (by omega)
  have hf1 : Blk w1 (w.heap.size + 1) 53 #[.int .i64 p, .iface 101 (.pointer (some (E 2)))] := by
    rw [← hw1]
    unfold asW
    exact (((((hf0.alloc _).alloc _).alloc _).alloc _).set_ 0 _).set_ 1 _
  have hz1 : w.heap.size + 2 ≤ w1.heap.size := by
    have h2 := (asW_below w0 (w.heap.size + 1) (.int .i64 p) (.iface 101 (.pointer (some (E 2)))) w.heap.size (by omega) (by omega)).size
    rw [hw1] at h2
    omega
  clear hw1 ha0 hf0 hM0 hz0 hb0
  have k0 := ha1.cell 0
  have k1 := ha1.cell 1
  have k2 := ha1.cell 2
  have k3 := ha1.cell 3
  have k4 := ha1.cell 4
  have k5 := ha1.cell 5
  have k6 := ha1.cell 6
  have k7 := ha1.cell 7
  simp only [List.getElem?_toArray, List.getElem?_cons_zero, List.getElem?_cons_succ] at k0 k1 k2 k3 k4 k5 k6 k7
  have y0 := ix0
  have y1 := ix1
  have y2 := ix2
  have y3 := ix3
  have hM1 : Met E B w1 := hM.below (hb1.mono hB)
  go_wp2_with fail
  clear k0 k1 k2 k3 k4 k5 k6 k7 ha1
  refine wp_loop_rounds 2 ?_
  rw [rounds_succ]
  go_wp2_with fail
  refine (is_ne E B p 2 1 _ (hM1.below ((Below.refl _ _).alloc (by have := hb1.size; omega) _)) (by decide) (by decide) (by decide)).mono ?_
  rintro e w2 ⟨rfl, hc1⟩
  have hb2 : Below w.heap.size w w2 := (hb1.alloc (by have := hb1.size; omega) _).trans (hc1.mono (by have := hb1.size; simp; omega))
  have hf2 := (hf1.alloc (.cells #[.iface 101 (.pointer (some (E 1))), .int .i64 10] 64)).below hc1 (by simp; omega)
  have hz2 : w.heap.size + 2 ≤ w2.heap.size := by have := hc1.size; simp at this; omega
  have hM2 : Met E B w2 := hM.below (hb2.mono hB)
  clear hc1 hM1 hf1 hz1 hb1
  go_wp2_with fail
  rw [rounds_succ]
  go_wp2_with fail
  refine (is_eq E B p 2 _ (hM2.below ((Below.refl _ _).alloc (by have := hb2.size; omega) _))).mono ?_
  rintro e w3 ⟨rfl, hc2⟩
  have hb3 : Below w.heap.size w w3 := (hb2.alloc (by have := hb2.size; omega) _).trans (hc2.mono (by have := hb2.size; simp; omega))
  have hf3 := (hf2.alloc (.cells #[.iface 101 (.pointer (some (E 2))), .int .i64 11] 64)).below hc2 (by simp; omega)
  have hn3 := (Blk.new w2 64 #[.iface 101 (.pointer (some (E 2))), .int .i64 11]).below hc2 (by simp)
  have q0 := hf3.cell 0
  have q1 := hn3.cell 1
  simp only [List.getElem?_toArray, List.getElem?_cons_zero, List.getElem?_cons_succ] at q0 q1
  clear hc2 hM2 hf2 hz2
  go_wp2
  go_quiet (fail)
  go_wp2
  go_ret2
  exact ⟨rfl, below_drewN hb3 _⟩

set_option maxHeartbeats 2000000 in
set_option maxRecDepth 100000 in
theorem told_3 (E : Nat → Addr) (B : Nat) (p : Nat) (w : World) (hM : Met E B w) (hB : B ≤ w.heap.size) :
    Calls Tryd.prog 36 #[errV E (some (p, 3))] w fun e w' => e = .returned (.tuple #[.int .i64 12, .int .i64 p]) ∧ Below w.heap.size w w' := by
  unfold errV
  have g1 := hM.g1
  have g2 := hM.g2
  have g3 := hM.g3
  have g4 := hM.g4
  go_enter Tryd.func36, Tryd.ntmps36
  go_wp2_with fail
  clear g1 g2 g3 g4
  have hb0 : Below w.heap.size w ((w.alloc (.cells #[.iface 101 (.pointer (some (E 1))), .int .i64 10, .iface 101 (.pointer (some (E 2))), .int .i64 11, .iface 101 (.pointer (some (E 3))), .int .i64 12, .iface 101 (.pointer (some (E 4))), .int .i64 13] 65)).alloc (.cells #[.int .i64 0, .nilIface] 53)) := ((Below.refl _ _).alloc (Nat.le_refl _) _).alloc (by simp) _
  have ha0 := (Blk.new w 65 #[.iface 101 (.pointer (some (E 1))), .int .i64 10, .iface 101 (.pointer (some (E 2))), .int .i64 11, .iface 101 (.pointer (some (E 3))), .int .i64 12, .iface 101 (.pointer (some (E 4))), .int .i64 13]).alloc (.cells #[.int .i64 0, .nilIface] 53)
  have hf0 : Blk ((w.alloc (.cells #[.iface 101 (.pointer (some (E 1))), .int .i64 10, .iface 101 (.pointer (some (E 2))), .int .i64 11, .iface 101 (.pointer (some (E 3))), .int .i64 12, .iface 101 (.pointer (some (E 4))), .int .i64 13] 65)).alloc (.cells #[.int .i64 0, .nilIface] 53)) (w.heap.size + 1) 53 #[.int .i64 0, .nilIface] := by
    have h := Blk.new (w.alloc (.cells #[.iface 101 (.pointer (some (E 1))), .int .i64 10, .iface 101 (.pointer (some (E 2))), .int .i64 11, .iface 101 (.pointer (some (E 3))), .int .i64 12, .iface 101 (.pointer (some (E 4))), .int .i64 13] 65)) 53 #[.int .i64 0, .nilIface]
    simpa using h
  generalize hw0 : ((w.alloc (.cells #[.iface 101 (.pointer (some (E 1))), .int .i64 10, .iface 101 (.pointer (some (E 2))), .int .i64 11, .iface 101 (.pointer (some (E 3))), .int .i64 12, .iface 101 (.pointer (some (E 4))), .int .i64 13] 65)).alloc (.cells #[.int .i64 0, .nilIface] 53)) = w0 at *
  have hz0 : w.heap.size + 2 = w0.heap.size := by rw [← hw0]; simp
  clear hw0
  have hM0 : Met E B w0 := hM.below (hb0.mono hB)
  refine (as_hit _ _ _ _ _ _ rfl rfl hM0.gt hf0).mono ?_
  rintro e w1 ⟨rfl, hw1⟩
  have hb1 : Below w.heap.size w w1 := hb0.trans (by rw [← hw1]; exact asW_below _ _ _ _ _ (by omega) (by omega))
  have ha1 : Blk w1 w.heap.size 65 #[.iface 101 (.pointer (some (E 1))), .int .i64 10, .iface 101 (.pointer (some (E 2))), .int .i64 11, .iface 101 (.pointer (some (E 3))), .int .i64 12, .iface 101 (.pointer (some (E 4))), .int .i64 13] := ha0.below (by rw [← hw1]; exact asW_below w0 (w.heap.size + 1) _ _ (w.heap.size + 1) (Nat.le_refl _) (by omega)) (by omega)
  have hf1 : Blk w1 (w.heap.size + 1) 53 #[.int .i64 p, .iface 101 (.pointer (some (E 3)))] := by
    rw [← hw1]
    unfold asW
    exact (((((hf0.alloc _).alloc _).alloc _).alloc _).set_ 0 _).set_ 1 _
  have hz1 : w.heap.size + 2 ≤ w1.heap.size := by
    have h2 := (asW_below w0 (w.heap.size + 1) (.int .i64 p) (.iface 101 (.pointer (some (E 3)))) w.heap.size (by omega) (by omega)).size
    rw [hw1] at h2
    omega
  clear hw1 ha0 hf0 hM0 hz0 hb0
  have k0 := ha1.cell 0
  have k1 := ha1.cell 1
  have k2 := ha1.cell 2
  have k3 := ha1.cell 3
  have k4 := ha1.cell 4
  have k5 := ha1.cell 5
  have k6 := ha1.cell 6
  have k7 := ha1.cell 7
  simp only [List.getElem?_toArray, List.getElem?_cons_zero, List.getElem?_cons_succ] at k0 k1 k2 k3 k4 k5 k6 k7
  have y0 := ix0
  have y1 := ix1
  have y2 := ix2
  have y3 := ix3
  have hM1 : Met E B w1 := hM.below (hb1.mono hB)
  go_wp2_with fail
  clear k0 k1 k2 k3 k4 k5 k6 k7 ha1
  refine wp_loop_rounds 3 ?_
  rw [rounds_succ]
  go_wp2_with fail
  refine (is_ne E B p 3 1 _ (hM1.below ((Below.refl _ _).alloc (by have := hb1.size; omega) _)) (by decide) (by decide) (by decide)).mono ?_
  rintro e w2 ⟨rfl, hc1⟩
  have hb2 : Below w.heap.size w w2 := (hb1.alloc (by have := hb1.size; omega) _).trans (hc1.mono (by have := hb1.size; simp; omega))
  have hf2 := (hf1.alloc (.cells #[.iface 101 (.pointer (some (E 1))), .int .i64 10] 64)).below hc1 (by simp; omega)
  have hz2 : w.heap.size + 2 ≤ w2.heap.size := by have := hc1.size; simp at this; omega
  have hM2 : Met E B w2 := hM.below (hb2.mono hB)
  clear hc1 hM1 hf1 hz1 hb1
  go_wp2_with fail
  rw [rounds_succ]
  go_wp2_with fail
  refine (is_ne E B p 3 2 _ (hM2.below ((Below.refl _ _).alloc (by have := hb2.size; omega) _)) (by decide) (by decide) (by decide)).mono ?_
  rintro e w3 ⟨rfl, hc2⟩
  have hb3 : Below w.heap.size w w3 := (hb2.alloc (by have := hb2.size; omega) _).trans (hc2.mono (by have := hb2.size; simp; omega))
  have hf3 := (hf2.alloc (.cells #[.iface 101 (.pointer (some (E 2))), .int .i64 11] 64)).below hc2 (by simp; omega)
  have hz3 : w.heap.size + 2 ≤ w3.heap.size := by have := hc2.size; simp at this; omega
  have hM3 : Met E B w3 := hM.below (hb3.mono hB)
  clear hc2 hM2 hf2 hz2 hb2
  go_wp2_with fail
  rw [rounds_succ]
  go_wp2_with fail
  refine (is_eq E B p 3 _ (hM3.below ((Below.refl _ _).alloc (by have := hb3.size; omega) _))).mono ?_
  rintro e w4 ⟨rfl, hc3⟩
  have hb4 : Below w.heap.size w w4 := (hb3.alloc (by have := hb3.size; omega) _).trans (hc3.mono (by have := hb3.size; simp; omega))
  have hf4 := (hf3.alloc (.cells #[.iface 101 (.pointer (some (E 3))), .int .i64 12] 64)).below hc3 (by simp; omega)
  have hn4 := (Blk.new w3 64 #[.iface 101 (.pointer (some (E 3))), .int .i64 12]).below hc3 (by simp)
  have q0 := hf4.cell 0
  have q1 := hn4.cell 1
  simp only [List.getElem?_toArray, List.getElem?_cons_zero, List.getElem?_cons_succ] at q0 q1
  clear hc3 hM3 hf3 hz3
  go_wp2
  go_quiet (fail)
  go_wp2
  go_ret2
  exact ⟨rfl, below_drewN hb4 _⟩

set_option maxHeartbeats 2000000 in
set_option maxRecDepth 100000 in
theorem told_4 (E : Nat → Addr) (B : Nat) (p : Nat) (w : World) (hM : Met E B w) (hB : B ≤ w.heap.size) :
    Calls Tryd.prog 36 #[errV E (some (p, 4))] w fun e w' => e = .returned (.tuple #[.int .i64 13, .int .i64 p]) ∧ Below w.heap.size w w' := by
  unfold errV
  have g1 := hM.g1
  have g2 := hM.g2
  have g3 := hM.g3
  have g4 := hM.g4
  go_enter Tryd.func36, Tryd.ntmps36
  go_wp2_with fail
  clear g1 g2 g3 g4
  have hb0 : Below w.heap.size w ((w.alloc (.cells #[.iface 101 (.pointer (some (E 1))), .int .i64 10, .iface 101 (.pointer (some (E 2))), .int .i64 11, .iface 101 (.pointer (some (E 3))), .int .i64 12, .iface 101 (.pointer (some (E 4))), .int .i64 13] 65)).alloc (.cells #[.int .i64 0, .nilIface] 53)) := ((Below.refl _ _).alloc (Nat.le_refl _) _).alloc (by simp) _
  have ha0 := (Blk.new w 65 #[.iface 101 (.pointer (some (E 1))), .int .i64 10, .iface 101 (.pointer (some (E 2))), .int .i64 11, .iface 101 (.pointer (some (E 3))), .int .i64 12, .iface 101 (.pointer (some (E 4))), .int .i64 13]).alloc (.cells #[.int .i64 0, .nilIface] 53)
  have hf0 : Blk ((w.alloc (.cells #[.iface 101 (.pointer (some (E 1))), .int .i64 10, .iface 101 (.pointer (some (E 2))), .int .i64 11, .iface 101 (.pointer (some (E 3))), .int .i64 12, .iface 101 (.pointer (some (E 4))), .int .i64 13] 65)).alloc (.cells #[.int .i64 0, .nilIface] 53)) (w.heap.size + 1) 53 #[.int .i64 0, .nilIface] := by
    have h := Blk.new (w.alloc (.cells #[.iface 101 (.pointer (some (E 1))), .int .i64 10, .iface 101 (.pointer (some (E 2))), .int .i64 11, .iface 101 (.pointer (some (E 3))), .int .i64 12, .iface 101 (.pointer (some (E 4))), .int .i64 13] 65)) 53 #[.int .i64 0, .nilIface]
    simpa using h
  generalize hw0 : ((w.alloc (.cells #[.iface 101 (.pointer (some (E 1))), .int .i64 10, .iface 101 (.pointer (some (E 2))), .int .i64 11, .iface 101 (.pointer (some (E 3))), .int .i64 12, .iface 101 (.pointer (some (E 4))), .int .i64 13] 65)).alloc (.cells #[.int .i64 0, .nilIface] 53)) = w0 at *
  have hz0 : w.heap.size + 2 = w0.heap.size := by rw [← hw0]; simp
  clear hw0
  have hM0 : Met E B w0 := hM.below (hb0.mono hB)
  refine (as_hit _ _ _ _ _ _ rfl rfl hM0.gt hf0).mono ?_
  rintro e w1 ⟨rfl, hw1⟩
  have hb1 : Below w.heap.size w w1 := hb0.trans (by rw [← hw1]; exact asW_below _ _ _ _ _ (by omega) (by omega))
  have ha1 : Blk w1 w.heap.size 65 #[.iface 101 (.pointer (some (E 1))), .int .i64 10, .iface 101 (.pointer (some (E 2))), .int .i64 11, .iface 101 (.pointer (some (E 3))), .int .i64 12, .iface 101 (.pointer (some (E 4))), .int .i64 13] := ha0.below (by rw [← hw1]; exact asW_below w0 (w.heap.size + 1) _ _ (w.heap.size + 1) (Nat.le_refl _) (by omega)) (by omega)
  have hf1 : Blk w1 (w.heap.size + 1) 53 #[.int .i64 p, .iface 101 (.pointer (some (E 4)))] := by
    rw [← hw1]
    unfold asW
    exact (((((hf0.alloc _).alloc _).alloc _).alloc _).set_ 0 _).set_ 1 _
  have hz1 : w.heap.size + 2 ≤ w1.heap.size := by
    have h2 := (asW_below w0 (w.heap.size + 1) (.int .i64 p) (.iface 101 (.pointer (some (E 4)))) w.heap.size (by omega) (by omega)).size
    rw [hw1] at h2
    omega
  clear hw1 ha0 hf0 hM0 hz0 hb0
  have k0 := ha1.cell 0
  have k1 := ha1.cell 1
  have k2 := ha1.cell 2
  have k3 := ha1.cell 3
  have k4 := ha1.cell 4
  have k5 := ha1.cell 5
  have k6 := ha1.cell 6
  have k7 := ha1.cell 7
  simp only [List.getElem?_toArray, List.getElem?_cons_zero, List.getElem?_cons_succ] at k0 k1 k2 k3 k4 k5 k6 k7
  have y0 := ix0
  have y1 := ix1
  have y2 := ix2
  have y3 := ix3
  have hM1 : Met E B w1 := hM.below (hb1.mono hB)
  go_wp2_with fail
  clear k0 k1 k2 k3 k4 k5 k6 k7 ha1
  refine wp_loop_rounds 4 ?_
  rw [rounds_succ]
  go_wp2_with fail
  refine (is_ne E B p 4 1 _ (hM1.below ((Below.refl _ _).alloc (by have := hb1.size; omega) _)) (by decide) (by decide) (by decide)).mono ?_
  rintro e w2 ⟨rfl, hc1⟩
  have hb2 : Below w.heap.size w w2 := (hb1.alloc (by have := hb1.size; omega) _).trans (hc1.mono (by have := hb1.size; simp; omega))
  have hf2 := (hf1.alloc (.cells #[.iface 101 (.pointer (some (E 1))), .int .i64 10] 64)).below hc1 (by simp; omega)
  have hz2 : w.heap.size + 2 ≤ w2.heap.size := by have := hc1.size; simp at this; omega
  have hM2 : Met E B w2 := hM.below (hb2.mono hB)
  clear hc1 hM1 hf1 hz1 hb1
  go_wp2_with fail
  rw [rounds_succ]
  go_wp2_with fail
  refine (is_ne E B p 4 2 _ (hM2.below ((Below.refl _ _).alloc (by have := hb2.size; omega) _)) (by decide) (by decide) (by decide)).mono ?_
  rintro e w3 ⟨rfl, hc2⟩
  have hb3 : Below w.heap.size w w3 := (hb2.alloc (by have := hb2.size; omega) _).trans (hc2.mono (by have := hb2.size; simp; omega))
  have hf3 := (hf2.alloc (.cells #[.iface 101 (.pointer (some (E 2))), .int .i64 11] 64)).below hc2 (by simp; omega)
  have hz3 : w.heap.size + 2 ≤ w3.heap.size := by have := hc2.size; simp at this; omega
  have hM3 : Met E B w3 := hM.below (hb3.mono hB)
  clear hc2 hM2 hf2 hz2 hb2
  go_wp2_with fail
  rw [rounds_succ]
  go_wp2_with fail
  refine (is_ne E B p 4 3 _ (hM3.below ((Below.refl _ _).alloc (by have := hb3.size; omega) _)) (by decide) (by decide) (by decide)).mono ?_
  rintro e w4 ⟨rfl, hc3⟩
  have hb4 : Below w.heap.size w w4 := (hb3.alloc (by have := hb3.size; omega) _).trans (hc3.mono (by have := hb3.size; simp; omega))
  have hf4 := (hf3.alloc (.cells #[.iface 101 (.pointer (some (E 3))), .int .i64 12] 64)).below hc3 (by simp; omega)
  have hz4 : w.heap.size + 2 ≤ w4.heap.size := by have := hc3.size; simp at this; omega
  have hM4 : Met E B w4 := hM.below (hb4.mono hB)
  clear hc3 hM3 hf3 hz3 hb3
  go_wp2_with fail
  rw [rounds_succ]
  go_wp2_with fail
  refine (is_eq E B p 4 _ (hM4.below ((Below.refl _ _).alloc (by have := hb4.size; omega) _))).mono ?_
  rintro e w5 ⟨rfl, hc4⟩
  have hb5 : Below w.heap.size w w5 := (hb4.alloc (by have := hb4.size; omega) _).trans (hc4.mono (by have := hb4.size; simp; omega))
  have hf5 := (hf4.alloc (.cells #[.iface 101 (.pointer (some (E 4))), .int .i64 13] 64)).below hc4 (by simp; omega)
  have hn5 := (Blk.new w4 64 #[.iface 101 (.pointer (some (E 4))), .int .i64 13]).below hc4 (by simp)
  have q0 := hf5.cell 0
  have q1 := hn5.cell 1
  simp only [List.getElem?_toArray, List.getElem?_cons_zero, List.getElem?_cons_succ] at q0 q1
  clear hc4 hM4 hf4 hz4
  go_wp2
  go_quiet (fail)
  go_wp2
  go_ret2
  exact ⟨rfl, below_drewN hb5 _⟩

/-- The number and the place of whatever is wrong. -/
theorem told_any (E : Nat → Addr) (B : Nat) (p k : Nat) (hk : 1 ≤ k ∧ k ≤ 4) (w : World) (hM : Met E B w) (hB : B ≤ w.heap.size) :
    Calls Tryd.prog 36 #[errV E (some (p, k))] w fun e w' => e = .returned (.tuple #[.int .i64 ((9 + k : Nat) : Int), .int .i64 p]) ∧ Below w.heap.size w w' := by
  have h : k = 1 ∨ k = 2 ∨ k = 3 ∨ k = 4 := by omega
  rcases h with rfl | rfl | rfl | rfl
  · exact told_1 E B p w hM hB
  · exact told_2 E B p w hM hB
  · exact told_3 E B p w hM hB
  · exact told_4 E B p w hM hB

end Wp
end Go.Proofs.YtcabbhiabhblfaaDoor
