/- The law on powers, walked: it answers true. -/
import Derived.Test.YtcfaomadhnbjkaaDoorMLinear
namespace Go.Proofs.YtcfaomadhnbjkaaDoor
open Go.RowKit
namespace Wp

set_option maxHeartbeats 8000000 in
set_option maxRecDepth 100000 in
theorem powers_out (a p x y : Int) (w : World) (hM : Met w) (ho : p < 1 ∨ (2147483647 : Int) < p ∨ x < 0 ∨ y < 0 ∨ (1099511627776 : Int) < x ∨ (1099511627776 : Int) < y) :
    Calls Tryd.prog 5 #[.int .i64 a, .int .i64 p, .agg #[.int .i64 x, .int .i64 y]] w (Truly w) := by
  unfold Truly
  have c0 : (w.alloc (.cells #[.int .i64 x, .int .i64 y] 29)).cell? ⟨w.heap.size, 0, none⟩ = some (.int .i64 x) := cell_of_row _ _ 0 _ _ _ (heap_alloc_new w _)
  have c1 : (w.alloc (.cells #[.int .i64 x, .int .i64 y] 29)).cell? ⟨w.heap.size, 1, none⟩ = some (.int .i64 y) := cell_of_row _ _ 1 _ _ _ (heap_alloc_new w _)
  have hb0 : Below w.heap.size w (w.alloc (.cells #[.int .i64 x, .int .i64 y] 29)) := (Below.refl _ w).alloc (Nat.le_refl _) _
  have hsz : w.heap.size < (w.alloc (.cells #[.int .i64 x, .int .i64 y] 29)).heap.size := by simp
  by_cases g0 : p < 1
  · clear ho
    go_enter Tryd.func5, Tryd.ntmps5
    go_wp2_with fail
    refine (fixed_any _ (hM.up hb0)).mono ?_
    rintro e w1 ⟨rfl, hb1⟩
    have d0 : w1.cell? ⟨w.heap.size, 0, none⟩ = some (.int .i64 x) := (hb1.cell (p := ⟨w.heap.size, 0, none⟩) hsz).trans c0
    have d1 : w1.cell? ⟨w.heap.size, 1, none⟩ = some (.int .i64 y) := (hb1.cell (p := ⟨w.heap.size, 1, none⟩) hsz).trans c1
    have HM1 := Lib.hid ((hM.up hb0).up hb1)
    have HB1 := Lib.hid (below_next hb0 (Nat.le_refl _) hb1)
    clear hb1 c0 c1 hsz hb0 hM
    go_wp2_with fail
    refine (fixed_any _ HM1.out).mono ?_
    rintro e w2 ⟨rfl, hb2⟩
    have HB2 := Lib.hid (below_next HB1.out (Nat.le_refl _) hb2)
    go_wp2
    go_ret
    exact ⟨rfl, HB2.out⟩
  have n0 : ¬ (p < 1) := g0
  clear g0
  by_cases g1 : (2147483647 : Int) < p
  · clear ho
    go_enter Tryd.func5, Tryd.ntmps5
    go_wp2_with fail
    refine (fixed_any _ (hM.up hb0)).mono ?_
    rintro e w1 ⟨rfl, hb1⟩
    have d0 : w1.cell? ⟨w.heap.size, 0, none⟩ = some (.int .i64 x) := (hb1.cell (p := ⟨w.heap.size, 0, none⟩) hsz).trans c0
    have d1 : w1.cell? ⟨w.heap.size, 1, none⟩ = some (.int .i64 y) := (hb1.cell (p := ⟨w.heap.size, 1, none⟩) hsz).trans c1
    have HM1 := Lib.hid ((hM.up hb0).up hb1)
    have HB1 := Lib.hid (below_next hb0 (Nat.le_refl _) hb1)
    clear hb1 c0 c1 hsz hb0 hM
    go_wp2_with fail
    refine (fixed_any _ HM1.out).mono ?_
    rintro e w2 ⟨rfl, hb2⟩
    have HB2 := Lib.hid (below_next HB1.out (Nat.le_refl _) hb2)
    go_wp2
    go_ret
    exact ⟨rfl, HB2.out⟩
  have n1 : ¬ ((2147483647 : Int) < p) := g1
  clear g1
  by_cases g2 : x < 0
  · clear ho
    go_enter Tryd.func5, Tryd.ntmps5
    go_wp2_with fail
    refine (fixed_any _ (hM.up hb0)).mono ?_
    rintro e w1 ⟨rfl, hb1⟩
    have d0 : w1.cell? ⟨w.heap.size, 0, none⟩ = some (.int .i64 x) := (hb1.cell (p := ⟨w.heap.size, 0, none⟩) hsz).trans c0
    have d1 : w1.cell? ⟨w.heap.size, 1, none⟩ = some (.int .i64 y) := (hb1.cell (p := ⟨w.heap.size, 1, none⟩) hsz).trans c1
    have HM1 := Lib.hid ((hM.up hb0).up hb1)
    have HB1 := Lib.hid (below_next hb0 (Nat.le_refl _) hb1)
    clear hb1 c0 c1 hsz hb0 hM
    go_wp2_with fail
    refine (fixed_any _ HM1.out).mono ?_
    rintro e w2 ⟨rfl, hb2⟩
    have HB2 := Lib.hid (below_next HB1.out (Nat.le_refl _) hb2)
    go_wp2
    go_ret
    exact ⟨rfl, HB2.out⟩
  have n2 : ¬ (x < 0) := g2
  clear g2
  by_cases g3 : y < 0
  · clear ho
    go_enter Tryd.func5, Tryd.ntmps5
    go_wp2_with fail
    refine (fixed_any _ (hM.up hb0)).mono ?_
    rintro e w1 ⟨rfl, hb1⟩
    have d0 : w1.cell? ⟨w.heap.size, 0, none⟩ = some (.int .i64 x) := (hb1.cell (p := ⟨w.heap.size, 0, none⟩) hsz).trans c0
    have d1 : w1.cell? ⟨w.heap.size, 1, none⟩ = some (.int .i64 y) := (hb1.cell (p := ⟨w.heap.size, 1, none⟩) hsz).trans c1
    have HM1 := Lib.hid ((hM.up hb0).up hb1)
    have HB1 := Lib.hid (below_next hb0 (Nat.le_refl _) hb1)
    clear hb1 c0 c1 hsz hb0 hM
    go_wp2_with fail
    refine (fixed_any _ HM1.out).mono ?_
    rintro e w2 ⟨rfl, hb2⟩
    have HB2 := Lib.hid (below_next HB1.out (Nat.le_refl _) hb2)
    go_wp2
    go_ret
    exact ⟨rfl, HB2.out⟩
  have n3 : ¬ (y < 0) := g3
  clear g3
  by_cases g4 : (1099511627776 : Int) < x
  · clear ho
    go_enter Tryd.func5, Tryd.ntmps5
    go_wp2_with fail
    refine (fixed_any _ (hM.up hb0)).mono ?_
    rintro e w1 ⟨rfl, hb1⟩
    have d0 : w1.cell? ⟨w.heap.size, 0, none⟩ = some (.int .i64 x) := (hb1.cell (p := ⟨w.heap.size, 0, none⟩) hsz).trans c0
    have d1 : w1.cell? ⟨w.heap.size, 1, none⟩ = some (.int .i64 y) := (hb1.cell (p := ⟨w.heap.size, 1, none⟩) hsz).trans c1
    have HM1 := Lib.hid ((hM.up hb0).up hb1)
    have HB1 := Lib.hid (below_next hb0 (Nat.le_refl _) hb1)
    clear hb1 c0 c1 hsz hb0 hM
    go_wp2_with fail
    refine (fixed_any _ HM1.out).mono ?_
    rintro e w2 ⟨rfl, hb2⟩
    have HB2 := Lib.hid (below_next HB1.out (Nat.le_refl _) hb2)
    go_wp2
    go_ret
    exact ⟨rfl, HB2.out⟩
  have n4 : ¬ ((1099511627776 : Int) < x) := g4
  clear g4
  by_cases g5 : (1099511627776 : Int) < y
  · clear ho
    go_enter Tryd.func5, Tryd.ntmps5
    go_wp2_with fail
    refine (fixed_any _ (hM.up hb0)).mono ?_
    rintro e w1 ⟨rfl, hb1⟩
    have d0 : w1.cell? ⟨w.heap.size, 0, none⟩ = some (.int .i64 x) := (hb1.cell (p := ⟨w.heap.size, 0, none⟩) hsz).trans c0
    have d1 : w1.cell? ⟨w.heap.size, 1, none⟩ = some (.int .i64 y) := (hb1.cell (p := ⟨w.heap.size, 1, none⟩) hsz).trans c1
    have HM1 := Lib.hid ((hM.up hb0).up hb1)
    have HB1 := Lib.hid (below_next hb0 (Nat.le_refl _) hb1)
    clear hb1 c0 c1 hsz hb0 hM
    go_wp2_with fail
    refine (fixed_any _ HM1.out).mono ?_
    rintro e w2 ⟨rfl, hb2⟩
    have HB2 := Lib.hid (below_next HB1.out (Nat.le_refl _) hb2)
    go_wp2
    go_ret
    exact ⟨rfl, HB2.out⟩
  have n5 : ¬ ((1099511627776 : Int) < y) := g5
  clear g5
  exfalso
  omega

set_option maxHeartbeats 8000000 in
set_option maxRecDepth 100000 in
theorem powers_no (a p x y s qs qx qy : Int) (w : World) (hM : Met w) (n0 : ¬ p < 1) (n1 : ¬ (2147483647 : Int) < p) (n2 : ¬ x < 0) (n3 : ¬ y < 0) (n4 : ¬ (1099511627776 : Int) < x) (n5 : ¬ (1099511627776 : Int) < y)
    (hs : wrap64 (x + y) = s) (hqs : powI a s p = qs) (hqx : powI a x p = qx) (hqy : powI a y p = qy) (em : (wrap64 (qx * qy)).tmod p = qs) (hpr : prB p = false) :
    Calls Tryd.prog 5 #[.int .i64 a, .int .i64 p, .agg #[.int .i64 x, .int .i64 y]] w (Truly w) := by
  unfold Truly
  have hsb : x + y = s := by rw [← hs]; unfold wrap64; omega
  have hsl : s ≤ 9223372036854775807 := by omega
  have Hpow := Lib.hid (fun n w (h : n = s ∨ n = x ∨ n = y) => pow_all a n p w (by omega))
  have Hpr := Lib.hid (fun w => refprime_all p w)
  rw [hpr] at Hpr
  have Hm := Lib.hid (fun w => refmod_any a p w)
  have Hpf := Lib.hid (fun w => pow_all a (p - 1) p w (by omega))
  have hp0 : ¬ p = 0 := by omega
  have c0 : (w.alloc (.cells #[.int .i64 x, .int .i64 y] 29)).cell? ⟨w.heap.size, 0, none⟩ = some (.int .i64 x) := cell_of_row _ _ 0 _ _ _ (heap_alloc_new w _)
  have c1 : (w.alloc (.cells #[.int .i64 x, .int .i64 y] 29)).cell? ⟨w.heap.size, 1, none⟩ = some (.int .i64 y) := cell_of_row _ _ 1 _ _ _ (heap_alloc_new w _)
  have hb0 : Below w.heap.size w (w.alloc (.cells #[.int .i64 x, .int .i64 y] 29)) := (Below.refl _ w).alloc (Nat.le_refl _) _
  have hsz : w.heap.size < (w.alloc (.cells #[.int .i64 x, .int .i64 y] 29)).heap.size := by simp
  go_enter Tryd.func5, Tryd.ntmps5
  go_wp2_with fail
  refine (fixed_any _ (hM.up hb0)).mono ?_
  rintro e w1 ⟨rfl, hb1⟩
  have d0 : w1.cell? ⟨w.heap.size, 0, none⟩ = some (.int .i64 x) := (hb1.cell (p := ⟨w.heap.size, 0, none⟩) hsz).trans c0
  have d1 : w1.cell? ⟨w.heap.size, 1, none⟩ = some (.int .i64 y) := (hb1.cell (p := ⟨w.heap.size, 1, none⟩) hsz).trans c1
  have HM1 := Lib.hid ((hM.up hb0).up hb1)
  have HB1 := Lib.hid (below_next hb0 (Nat.le_refl _) hb1)
  clear hb1 c0 c1 hsz hb0 hM
  go_wp2_with fail
  go_quiet (first | (go_at_call 15; exact Calls.quiet_of_same (Hpow.out _ _ (by first | exact .inl rfl | exact .inr (.inl rfl) | exact .inr (.inr rfl)))))
  go_wp2
  have HB2 := Lib.hid (below_drewN HB1.out nq)
  generalize w1.drewN nq = w2 at *
  go_quiet (first | (go_at_call 12; exact Calls.quiet_of_same (Hpr.out _)) | (go_at_call 14; exact Calls.quiet_of_same (Hm.out _)) | (go_at_call 15; exact Calls.quiet_of_same (Hpf.out _)))
  go_wp2
  go_ret
  exact ⟨rfl, below_drewN HB2.out _⟩

set_option maxHeartbeats 8000000 in
set_option maxRecDepth 100000 in
theorem powers_zero (a p x y s qs qx qy : Int) (w : World) (hM : Met w) (n0 : ¬ p < 1) (n1 : ¬ (2147483647 : Int) < p) (n2 : ¬ x < 0) (n3 : ¬ y < 0) (n4 : ¬ (1099511627776 : Int) < x) (n5 : ¬ (1099511627776 : Int) < y)
    (hs : wrap64 (x + y) = s) (hqs : powI a s p = qs) (hqx : powI a x p = qx) (hqy : powI a y p = qy) (em : (wrap64 (qx * qy)).tmod p = qs) (hpr : prB p = true) (hm : modI a p = 0) :
    Calls Tryd.prog 5 #[.int .i64 a, .int .i64 p, .agg #[.int .i64 x, .int .i64 y]] w (Truly w) := by
  unfold Truly
  have hsb : x + y = s := by rw [← hs]; unfold wrap64; omega
  have hsl : s ≤ 9223372036854775807 := by omega
  have Hpow := Lib.hid (fun n w (h : n = s ∨ n = x ∨ n = y) => pow_all a n p w (by omega))
  have Hpr := Lib.hid (fun w => refprime_all p w)
  rw [hpr] at Hpr
  have Hm := Lib.hid (fun w => refmod_any a p w)
  rw [hm] at Hm
  have Hpf := Lib.hid (fun w => pow_all a (p - 1) p w (by omega))
  have hp0 : ¬ p = 0 := by omega
  have c0 : (w.alloc (.cells #[.int .i64 x, .int .i64 y] 29)).cell? ⟨w.heap.size, 0, none⟩ = some (.int .i64 x) := cell_of_row _ _ 0 _ _ _ (heap_alloc_new w _)
  have c1 : (w.alloc (.cells #[.int .i64 x, .int .i64 y] 29)).cell? ⟨w.heap.size, 1, none⟩ = some (.int .i64 y) := cell_of_row _ _ 1 _ _ _ (heap_alloc_new w _)
  have hb0 : Below w.heap.size w (w.alloc (.cells #[.int .i64 x, .int .i64 y] 29)) := (Below.refl _ w).alloc (Nat.le_refl _) _
  have hsz : w.heap.size < (w.alloc (.cells #[.int .i64 x, .int .i64 y] 29)).heap.size := by simp
  go_enter Tryd.func5, Tryd.ntmps5
  go_wp2_with fail
  refine (fixed_any _ (hM.up hb0)).mono ?_
  rintro e w1 ⟨rfl, hb1⟩
  have d0 : w1.cell? ⟨w.heap.size, 0, none⟩ = some (.int .i64 x) := (hb1.cell (p := ⟨w.heap.size, 0, none⟩) hsz).trans c0
  have d1 : w1.cell? ⟨w.heap.size, 1, none⟩ = some (.int .i64 y) := (hb1.cell (p := ⟨w.heap.size, 1, none⟩) hsz).trans c1
  have HM1 := Lib.hid ((hM.up hb0).up hb1)
  have HB1 := Lib.hid (below_next hb0 (Nat.le_refl _) hb1)
  clear hb1 c0 c1 hsz hb0 hM
  go_wp2_with fail
  go_quiet (first | (go_at_call 15; exact Calls.quiet_of_same (Hpow.out _ _ (by first | exact .inl rfl | exact .inr (.inl rfl) | exact .inr (.inr rfl)))))
  go_wp2
  have HB2 := Lib.hid (below_drewN HB1.out nq)
  generalize w1.drewN nq = w2 at *
  go_quiet (first | (go_at_call 12; exact Calls.quiet_of_same (Hpr.out _)) | (go_at_call 14; exact Calls.quiet_of_same (Hm.out _)) | (go_at_call 15; exact Calls.quiet_of_same (Hpf.out _)))
  go_wp2
  go_ret
  exact ⟨rfl, below_drewN HB2.out _⟩

set_option maxHeartbeats 8000000 in
set_option maxRecDepth 100000 in
theorem powers_some (a p x y s qs qx qy m : Int) (w : World) (hM : Met w) (n0 : ¬ p < 1) (n1 : ¬ (2147483647 : Int) < p) (n2 : ¬ x < 0) (n3 : ¬ y < 0) (n4 : ¬ (1099511627776 : Int) < x) (n5 : ¬ (1099511627776 : Int) < y)
    (hs : wrap64 (x + y) = s) (hqs : powI a s p = qs) (hqx : powI a x p = qx) (hqy : powI a y p = qy) (em : (wrap64 (qx * qy)).tmod p = qs) (hpr : prB p = true) (hm : modI a p = m) (hm0 : (m == 0) = false) (hpf : powI a (p - 1) p = 1) (ht : (1 : Int).tmod p = 1) :
    Calls Tryd.prog 5 #[.int .i64 a, .int .i64 p, .agg #[.int .i64 x, .int .i64 y]] w (Truly w) := by
  unfold Truly
  have hsb : x + y = s := by rw [← hs]; unfold wrap64; omega
  have hsl : s ≤ 9223372036854775807 := by omega
  have Hpow := Lib.hid (fun n w (h : n = s ∨ n = x ∨ n = y) => pow_all a n p w (by omega))
  have Hpr := Lib.hid (fun w => refprime_all p w)
  rw [hpr] at Hpr
  have Hm := Lib.hid (fun w => refmod_any a p w)
  rw [hm] at Hm
  have Hpf := Lib.hid (fun w => pow_all a (p - 1) p w (by omega))
  rw [hpf] at Hpf
  have hp0 : ¬ p = 0 := by omega
  have c0 : (w.alloc (.cells #[.int .i64 x, .int .i64 y] 29)).cell? ⟨w.heap.size, 0, none⟩ = some (.int .i64 x) := cell_of_row _ _ 0 _ _ _ (heap_alloc_new w _)
  have c1 : (w.alloc (.cells #[.int .i64 x, .int .i64 y] 29)).cell? ⟨w.heap.size, 1, none⟩ = some (.int .i64 y) := cell_of_row _ _ 1 _ _ _ (heap_alloc_new w _)
  have hb0 : Below w.heap.size w (w.alloc (.cells #[.int .i64 x, .int .i64 y] 29)) := (Below.refl _ w).alloc (Nat.le_refl _) _
  have hsz : w.heap.size < (w.alloc (.cells #[.int .i64 x, .int .i64 y] 29)).heap.size := by simp
  go_enter Tryd.func5, Tryd.ntmps5
  go_wp2_with fail
  refine (fixed_any _ (hM.up hb0)).mono ?_
  rintro e w1 ⟨rfl, hb1⟩
  have d0 : w1.cell? ⟨w.heap.size, 0, none⟩ = some (.int .i64 x) := (hb1.cell (p := ⟨w.heap.size, 0, none⟩) hsz).trans c0
  have d1 : w1.cell? ⟨w.heap.size, 1, none⟩ = some (.int .i64 y) := (hb1.cell (p := ⟨w.heap.size, 1, none⟩) hsz).trans c1
  have HM1 := Lib.hid ((hM.up hb0).up hb1)
  have HB1 := Lib.hid (below_next hb0 (Nat.le_refl _) hb1)
  clear hb1 c0 c1 hsz hb0 hM
  go_wp2_with fail
  go_quiet (first | (go_at_call 15; exact Calls.quiet_of_same (Hpow.out _ _ (by first | exact .inl rfl | exact .inr (.inl rfl) | exact .inr (.inr rfl)))))
  go_wp2
  have HB2 := Lib.hid (below_drewN HB1.out nq)
  generalize w1.drewN nq = w2 at *
  go_quiet (first | (go_at_call 12; exact Calls.quiet_of_same (Hpr.out _)) | (go_at_call 14; exact Calls.quiet_of_same (Hm.out _)) | (go_at_call 15; exact Calls.quiet_of_same (Hpf.out _)))
  go_wp2
  go_ret
  exact ⟨rfl, below_drewN HB2.out _⟩

theorem pow_add_is {a x y p : Int} (h : In31 p) (hx : 0 ≤ x) (hy : 0 ≤ y) : (wrap64 (powI a x p * powI a y p)).tmod p = powI a (x + y) p := by
  obtain ⟨P, rfl⟩ : ∃ P : Nat, p = P := ⟨p.toNat, by have := h.1; omega⟩
  obtain ⟨X, rfl⟩ : ∃ X : Nat, x = X := ⟨x.toNat, by omega⟩
  obtain ⟨Y, rfl⟩ : ∃ Y : Nat, y = Y := ⟨y.toNat, by omega⟩
  have h1 := h.1
  have h2 := h.2
  unfold powI
  rw [if_pos ⟨h, hx⟩, if_pos ⟨h, hy⟩, if_pos ⟨h, by omega⟩, Int.toNat_natCast, Int.toNat_natCast, Int.toNat_natCast, show ((X : Int) + (Y : Int)).toNat = X + Y by omega]
  refine mul_tm (Nat.mod_lt _ (by omega)) (Nat.mod_lt _ (by omega)) (by omega) ?_
  rw [← Nat.mul_mod, Nat.pow_add]
theorem pow_fermat {a p : Int} (h : PrI p) (ha : a % p ≠ 0) : powI a (p - 1) p = 1 := by
  obtain ⟨h2, hM, hp⟩ := h
  obtain ⟨P, rfl⟩ : ∃ P : Nat, p = P := ⟨p.toNat, by omega⟩
  rw [Int.toNat_natCast] at hp
  have hb := em_lt (a := a) (p := (P : Int)) (by omega)
  obtain ⟨x, hx⟩ : ∃ x : Nat, a % (P : Int) = x := ⟨(a % P).toNat, by omega⟩
  unfold powI
  rw [if_pos ⟨⟨by omega, hM⟩, by omega⟩, hx, Int.toNat_natCast, Int.toNat_natCast, show ((P : Int) - 1).toNat = P - 1 by omega, fermat hp fun hd => ?_]
  · rfl
  · have := Nat.le_of_dvd (by omega) hd
    omega
theorem powers_any (a p x y : Int) (w : World) (hM : Met w) : Calls Tryd.prog 5 #[.int .i64 a, .int .i64 p, .agg #[.int .i64 x, .int .i64 y]] w (Truly w) := by
  by_cases ho : p < 1 ∨ (2147483647 : Int) < p ∨ x < 0 ∨ y < 0 ∨ (1099511627776 : Int) < x ∨ (1099511627776 : Int) < y
  · exact powers_out a p x y w hM ho
  · have hin : In31 p := ⟨by omega, by omega⟩
    have hs : wrap64 (x + y) = x + y := by unfold wrap64; omega
    have em := pow_add_is (a := a) (x := x) (y := y) hin (by omega) (by omega)
    have hmod : modI a p = a % p := if_pos hin
    rcases hpr : prB p with _ | _
    · exact powers_no a p x y _ _ _ _ w hM (by omega) (by omega) (by omega) (by omega) (by omega) (by omega) hs rfl rfl rfl em hpr
    · have hpi := prB_iff.1 hpr
      by_cases hz : a % p = 0
      · exact powers_zero a p x y _ _ _ _ w hM (by omega) (by omega) (by omega) (by omega) (by omega) (by omega) hs rfl rfl rfl em hpr (hmod.trans hz)
      · refine powers_some a p x y _ _ _ _ _ w hM (by omega) (by omega) (by omega) (by omega) (by omega) (by omega) hs rfl rfl rfl em hpr hmod (by simpa using hz) (pow_fermat hpi hz) ?_
        have h2 := hpi.1
        rw [emod_tm (by omega) (by decide)]
        exact Int.emod_eq_of_lt (by decide) (by omega)

end Wp
end Go.Proofs.YtcfaomadhnbjkaaDoor
