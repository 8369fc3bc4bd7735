/- IndepDuals, walked: it answers true. -/
import Derived.Test.YtbjngggcpojefaaGreatDoorIKeep
import Derived.Test.YtbjngggcpojefaaGreatDoorIMinP
import Derived.Test.YtbjngggcpojefaaGreatDoorISub
import Derived.Test.YtbjngggcpojefaaGreatDoorZT
import Derived.Deep.RegionHeld3
namespace Go.Proofs.YtbjngggcpojefaaGreatDoor
open Go.RowKit
namespace Wp

set_option maxHeartbeats 16000000 in
set_option maxRecDepth 100000 in
theorem duals_1 (E : Nat → Addr) (m : Mat) (v sa sb : Value) (a b : List Int) (w : World) (hv : MatV w w.heap.size v m) (hl : Lim m) (hra : Row w w.heap.size sa a) (hrb : Row w w.heap.size sb b) (hE : Env E w) (hf : fewB 9 m 10 = false) : Calls Tryz.prog 4 #[v, sa, sb] w (Truly w) := by
  have Hf := Lib.hid hf
  clear hf
  have Hl := Lib.hid hl
  obtain ⟨lv, iv, hve, hl2, hi2⟩ := hv.open
  have Hb0 := Lib.hid (boxed_below w m lv iv)
  have HV := Lib.hid (hv.up Hb0.out)
  have HE := Lib.hid (hE.up Hb0.out)
  have HA := Lib.hid (hra.up Hb0.out)
  have HBv := Lib.hid (hrb.up Hb0.out)
  have Hblk := Lib.hid (boxed_blk w m lv iv)
  obtain ⟨Al, cl, rfl, _⟩ := hl2
  obtain ⟨Ai, ci, rfl, _⟩ := hi2
  obtain ⟨Aa, ca, hsa, hcapa, _⟩ := id hra
  obtain ⟨Ab, cb, hsb, hcapb, _⟩ := id hrb
  have haI : (a.length : Int) ≤ 9223372036854775807 := by have h1 := hcapa.1; have h2 := hcapa.2.1; unfold maxLen at h2; omega
  have hbI : (b.length : Int) ≤ 9223372036854775807 := by have h1 := hcapb.1; have h2 := hcapb.2.1; unfold maxLen at h2; omega
  subst hve hsa hsb
  unfold boxed at *
  clear hv hl hE hra hrb hcapa hcapb
  go_enter Tryz.func4, Tryz.ntmps4
  have hw0 := Hb0
  clear hw0
  go_wp2_with fail
  refine (fixed_any E _ HE.out).mono ?_
  rintro e w1 ⟨rfl, hb1⟩
  replace HE := Lib.hid (HE.out.up hb1)
  replace HV := Lib.hid (HV.out.up hb1)
  replace HA := Lib.hid (HA.out.up hb1)
  replace HBv := Lib.hid (HBv.out.up hb1)
  replace Hblk := Lib.hid (Hblk.out.below hb1 Hblk.out.lt)
  replace Hb0 := Lib.hid (below_next Hb0.out (Nat.le_refl _) hb1)
  clear hb1
  have k0 := Hblk.out.cell 0
  have k1 := Hblk.out.cell 1
  have k2 := Hblk.out.cell 2
  have k3 := Hblk.out.cell 3
  have k4 := Hblk.out.cell 4
  have k5 := Hblk.out.cell 5
  go_wp2_with fail
  refine (few_any m _ 10 _ HV.out Hl.out).mono ?_
  rintro e w2 ⟨rfl, hb2⟩
  rw [Hf.out]
  clear k0 k1 k2 k3 k4 k5
  replace HE := Lib.hid (HE.out.up hb2)
  replace HV := Lib.hid (HV.out.up hb2)
  replace HA := Lib.hid (HA.out.up hb2)
  replace HBv := Lib.hid (HBv.out.up hb2)
  replace Hblk := Lib.hid (Hblk.out.below hb2 Hblk.out.lt)
  replace Hb0 := Lib.hid (below_next Hb0.out (Nat.le_refl _) hb2)
  clear hb2
  go_wp2_with fail
  refine (fixed_any E _ HE.out).mono ?_
  rintro e w9 ⟨rfl, hb9⟩
  replace HE := Lib.hid (HE.out.up hb9)
  replace HV := Lib.hid (HV.out.up hb9)
  replace HA := Lib.hid (HA.out.up hb9)
  replace HBv := Lib.hid (HBv.out.up hb9)
  replace Hblk := Lib.hid (Hblk.out.below hb9 Hblk.out.lt)
  replace Hb0 := Lib.hid (below_next Hb0.out (Nat.le_refl _) hb9)
  clear hb9
  go_wp2
  go_ret
  exact ⟨rfl, Hb0.out⟩

set_option maxHeartbeats 16000000 in
set_option maxRecDepth 100000 in
theorem duals_2 (E : Nat → Addr) (m : Mat) (v sa sb : Value) (a b : List Int) (w : World) (hv : MatV w w.heap.size v m) (hl : Lim m) (hra : Row w w.heap.size sa a) (hrb : Row w w.heap.size sb b) (hE : Env E w) (hf : fewB 9 m 10 = true) (hma : mayI m a = false) : Calls Tryz.prog 4 #[v, sa, sb] w (Truly w) := by
  have Hf := Lib.hid hf
  have Hma := Lib.hid hma
  clear hf hma
  have Hl := Lib.hid hl
  obtain ⟨lv, iv, hve, hl2, hi2⟩ := hv.open
  have Hb0 := Lib.hid (boxed_below w m lv iv)
  have HV := Lib.hid (hv.up Hb0.out)
  have HE := Lib.hid (hE.up Hb0.out)
  have HA := Lib.hid (hra.up Hb0.out)
  have HBv := Lib.hid (hrb.up Hb0.out)
  have Hblk := Lib.hid (boxed_blk w m lv iv)
  obtain ⟨Al, cl, rfl, _⟩ := hl2
  obtain ⟨Ai, ci, rfl, _⟩ := hi2
  obtain ⟨Aa, ca, hsa, hcapa, _⟩ := id hra
  obtain ⟨Ab, cb, hsb, hcapb, _⟩ := id hrb
  have haI : (a.length : Int) ≤ 9223372036854775807 := by have h1 := hcapa.1; have h2 := hcapa.2.1; unfold maxLen at h2; omega
  have hbI : (b.length : Int) ≤ 9223372036854775807 := by have h1 := hcapb.1; have h2 := hcapb.2.1; unfold maxLen at h2; omega
  subst hve hsa hsb
  unfold boxed at *
  clear hv hl hE hra hrb hcapa hcapb
  go_enter Tryz.func4, Tryz.ntmps4
  have hw0 := Hb0
  clear hw0
  go_wp2_with fail
  refine (fixed_any E _ HE.out).mono ?_
  rintro e w1 ⟨rfl, hb1⟩
  replace HE := Lib.hid (HE.out.up hb1)
  replace HV := Lib.hid (HV.out.up hb1)
  replace HA := Lib.hid (HA.out.up hb1)
  replace HBv := Lib.hid (HBv.out.up hb1)
  replace Hblk := Lib.hid (Hblk.out.below hb1 Hblk.out.lt)
  replace Hb0 := Lib.hid (below_next Hb0.out (Nat.le_refl _) hb1)
  clear hb1
  have k0 := Hblk.out.cell 0
  have k1 := Hblk.out.cell 1
  have k2 := Hblk.out.cell 2
  have k3 := Hblk.out.cell 3
  have k4 := Hblk.out.cell 4
  have k5 := Hblk.out.cell 5
  go_wp2_with fail
  refine (few_any m _ 10 _ HV.out Hl.out).mono ?_
  rintro e w2 ⟨rfl, hb2⟩
  rw [Hf.out]
  clear k0 k1 k2 k3 k4 k5
  replace HE := Lib.hid (HE.out.up hb2)
  replace HV := Lib.hid (HV.out.up hb2)
  replace HA := Lib.hid (HA.out.up hb2)
  replace HBv := Lib.hid (HBv.out.up hb2)
  replace Hblk := Lib.hid (Hblk.out.below hb2 Hblk.out.lt)
  replace Hb0 := Lib.hid (below_next Hb0.out (Nat.le_refl _) hb2)
  clear hb2
  have k0 := Hblk.out.cell 0
  have k1 := Hblk.out.cell 1
  have k2 := Hblk.out.cell 2
  have k3 := Hblk.out.cell 3
  have k4 := Hblk.out.cell 4
  have k5 := Hblk.out.cell 5
  go_wp2_with fail
  refine (rmay10_any m _ _ a _ HV.out (few_sml Hf.out) HA.out).mono ?_
  rintro e w3 ⟨rfl, hb3⟩
  rw [Hma.out]
  clear k0 k1 k2 k3 k4 k5
  replace HE := Lib.hid (HE.out.up hb3)
  replace HV := Lib.hid (HV.out.up hb3)
  replace HA := Lib.hid (HA.out.up hb3)
  replace HBv := Lib.hid (HBv.out.up hb3)
  replace Hblk := Lib.hid (Hblk.out.below hb3 Hblk.out.lt)
  replace Hb0 := Lib.hid (below_next Hb0.out (Nat.le_refl _) hb3)
  clear hb3
  go_wp2_with fail
  refine (fixed_any E _ HE.out).mono ?_
  rintro e w9 ⟨rfl, hb9⟩
  replace HE := Lib.hid (HE.out.up hb9)
  replace HV := Lib.hid (HV.out.up hb9)
  replace HA := Lib.hid (HA.out.up hb9)
  replace HBv := Lib.hid (HBv.out.up hb9)
  replace Hblk := Lib.hid (Hblk.out.below hb9 Hblk.out.lt)
  replace Hb0 := Lib.hid (below_next Hb0.out (Nat.le_refl _) hb9)
  clear hb9
  go_wp2
  go_ret
  exact ⟨rfl, Hb0.out⟩

set_option maxHeartbeats 16000000 in
set_option maxRecDepth 100000 in
theorem duals_3 (E : Nat → Addr) (m : Mat) (v sa sb : Value) (a b : List Int) (w : World) (hv : MatV w w.heap.size v m) (hl : Lim m) (hra : Row w w.heap.size sa a) (hrb : Row w w.heap.size sb b) (hE : Env E w) (hf : fewB 9 m 10 = true) (hma : mayI m a = true) (hmb : mayI m b = false) : Calls Tryz.prog 4 #[v, sa, sb] w (Truly w) := by
  have Hf := Lib.hid hf
  have Hma := Lib.hid hma
  have Hmb := Lib.hid hmb
  clear hf hma hmb
  have Hl := Lib.hid hl
  obtain ⟨lv, iv, hve, hl2, hi2⟩ := hv.open
  have Hb0 := Lib.hid (boxed_below w m lv iv)
  have HV := Lib.hid (hv.up Hb0.out)
  have HE := Lib.hid (hE.up Hb0.out)
  have HA := Lib.hid (hra.up Hb0.out)
  have HBv := Lib.hid (hrb.up Hb0.out)
  have Hblk := Lib.hid (boxed_blk w m lv iv)
  obtain ⟨Al, cl, rfl, _⟩ := hl2
  obtain ⟨Ai, ci, rfl, _⟩ := hi2
  obtain ⟨Aa, ca, hsa, hcapa, _⟩ := id hra
  obtain ⟨Ab, cb, hsb, hcapb, _⟩ := id hrb
  have haI : (a.length : Int) ≤ 9223372036854775807 := by have h1 := hcapa.1; have h2 := hcapa.2.1; unfold maxLen at h2; omega
  have hbI : (b.length : Int) ≤ 9223372036854775807 := by have h1 := hcapb.1; have h2 := hcapb.2.1; unfold maxLen at h2; omega
  subst hve hsa hsb
  unfold boxed at *
  clear hv hl hE hra hrb hcapa hcapb
  go_enter Tryz.func4, Tryz.ntmps4
  have hw0 := Hb0
  clear hw0
  go_wp2_with fail
  refine (fixed_any E _ HE.out).mono ?_
  rintro e w1 ⟨rfl, hb1⟩
  replace HE := Lib.hid (HE.out.up hb1)
  replace HV := Lib.hid (HV.out.up hb1)
  replace HA := Lib.hid (HA.out.up hb1)
  replace HBv := Lib.hid (HBv.out.up hb1)
  replace Hblk := Lib.hid (Hblk.out.below hb1 Hblk.out.lt)
  replace Hb0 := Lib.hid (below_next Hb0.out (Nat.le_refl _) hb1)
  clear hb1
  have k0 := Hblk.out.cell 0
  have k1 := Hblk.out.cell 1
  have k2 := Hblk.out.cell 2
  have k3 := Hblk.out.cell 3
  have k4 := Hblk.out.cell 4
  have k5 := Hblk.out.cell 5
  go_wp2_with fail
  refine (few_any m _ 10 _ HV.out Hl.out).mono ?_
  rintro e w2 ⟨rfl, hb2⟩
  rw [Hf.out]
  clear k0 k1 k2 k3 k4 k5
  replace HE := Lib.hid (HE.out.up hb2)
  replace HV := Lib.hid (HV.out.up hb2)
  replace HA := Lib.hid (HA.out.up hb2)
  replace HBv := Lib.hid (HBv.out.up hb2)
  replace Hblk := Lib.hid (Hblk.out.below hb2 Hblk.out.lt)
  replace Hb0 := Lib.hid (below_next Hb0.out (Nat.le_refl _) hb2)
  clear hb2
  have k0 := Hblk.out.cell 0
  have k1 := Hblk.out.cell 1
  have k2 := Hblk.out.cell 2
  have k3 := Hblk.out.cell 3
  have k4 := Hblk.out.cell 4
  have k5 := Hblk.out.cell 5
  go_wp2_with fail
  refine (rmay10_any m _ _ a _ HV.out (few_sml Hf.out) HA.out).mono ?_
  rintro e w3 ⟨rfl, hb3⟩
  rw [Hma.out]
  clear k0 k1 k2 k3 k4 k5
  replace HE := Lib.hid (HE.out.up hb3)
  replace HV := Lib.hid (HV.out.up hb3)
  replace HA := Lib.hid (HA.out.up hb3)
  replace HBv := Lib.hid (HBv.out.up hb3)
  replace Hblk := Lib.hid (Hblk.out.below hb3 Hblk.out.lt)
  replace Hb0 := Lib.hid (below_next Hb0.out (Nat.le_refl _) hb3)
  clear hb3
  have k0 := Hblk.out.cell 0
  have k1 := Hblk.out.cell 1
  have k2 := Hblk.out.cell 2
  have k3 := Hblk.out.cell 3
  have k4 := Hblk.out.cell 4
  have k5 := Hblk.out.cell 5
  go_wp2_with fail
  refine (rmay10_any m _ _ b _ HV.out (few_sml Hf.out) HBv.out).mono ?_
  rintro e w4 ⟨rfl, hb4⟩
  rw [Hmb.out]
  clear k0 k1 k2 k3 k4 k5
  replace HE := Lib.hid (HE.out.up hb4)
  replace HV := Lib.hid (HV.out.up hb4)
  replace HA := Lib.hid (HA.out.up hb4)
  replace HBv := Lib.hid (HBv.out.up hb4)
  replace Hblk := Lib.hid (Hblk.out.below hb4 Hblk.out.lt)
  replace Hb0 := Lib.hid (below_next Hb0.out (Nat.le_refl _) hb4)
  clear hb4
  go_wp2_with fail
  refine (fixed_any E _ HE.out).mono ?_
  rintro e w9 ⟨rfl, hb9⟩
  replace HE := Lib.hid (HE.out.up hb9)
  replace HV := Lib.hid (HV.out.up hb9)
  replace HA := Lib.hid (HA.out.up hb9)
  replace HBv := Lib.hid (HBv.out.up hb9)
  replace Hblk := Lib.hid (Hblk.out.below hb9 Hblk.out.lt)
  replace Hb0 := Lib.hid (below_next Hb0.out (Nat.le_refl _) hb9)
  clear hb9
  go_wp2
  go_ret
  exact ⟨rfl, Hb0.out⟩

set_option maxHeartbeats 16000000 in
set_option maxRecDepth 100000 in
theorem duals_4 (E : Nat → Addr) (m : Mat) (v sa sb : Value) (a b : List Int) (w : World) (hv : MatV w w.heap.size v m) (hl : Lim m) (hra : Row w w.heap.size sa a) (hrb : Row w w.heap.size sb b) (hE : Env E w) (hf : fewB 9 m 10 = true) (hma : mayI m a = true) (hmb : mayI m b = true) (h3 : 2 < dp 4 m) : Calls Tryz.prog 4 #[v, sa, sb] w (Truly w) := by
  have Hf := Lib.hid hf
  have Hma := Lib.hid hma
  have Hmb := Lib.hid hmb
  obtain ⟨P, hP⟩ : ∃ P : Nat, dp 4 m = P := ⟨_, rfl⟩
  have HP : Hid (deepI m = (P : Int)) := Lib.hid (by rw [← hP]; rfl)
  rw [hP] at h3
  have h3I : (2 : Int) < (P : Int) := by omega
  clear hf hma hmb hP h3
  have Hl := Lib.hid hl
  obtain ⟨lv, iv, hve, hl2, hi2⟩ := hv.open
  have Hb0 := Lib.hid (boxed_below w m lv iv)
  have HV := Lib.hid (hv.up Hb0.out)
  have HE := Lib.hid (hE.up Hb0.out)
  have HA := Lib.hid (hra.up Hb0.out)
  have HBv := Lib.hid (hrb.up Hb0.out)
  have Hblk := Lib.hid (boxed_blk w m lv iv)
  obtain ⟨Al, cl, rfl, _⟩ := hl2
  obtain ⟨Ai, ci, rfl, _⟩ := hi2
  obtain ⟨Aa, ca, hsa, hcapa, _⟩ := id hra
  obtain ⟨Ab, cb, hsb, hcapb, _⟩ := id hrb
  have haI : (a.length : Int) ≤ 9223372036854775807 := by have h1 := hcapa.1; have h2 := hcapa.2.1; unfold maxLen at h2; omega
  have hbI : (b.length : Int) ≤ 9223372036854775807 := by have h1 := hcapb.1; have h2 := hcapb.2.1; unfold maxLen at h2; omega
  subst hve hsa hsb
  unfold boxed at *
  clear hv hl hE hra hrb hcapa hcapb
  go_enter Tryz.func4, Tryz.ntmps4
  have hw0 := Hb0
  clear hw0
  go_wp2_with fail
  refine (fixed_any E _ HE.out).mono ?_
  rintro e w1 ⟨rfl, hb1⟩
  replace HE := Lib.hid (HE.out.up hb1)
  replace HV := Lib.hid (HV.out.up hb1)
  replace HA := Lib.hid (HA.out.up hb1)
  replace HBv := Lib.hid (HBv.out.up hb1)
  replace Hblk := Lib.hid (Hblk.out.below hb1 Hblk.out.lt)
  replace Hb0 := Lib.hid (below_next Hb0.out (Nat.le_refl _) hb1)
  clear hb1
  have k0 := Hblk.out.cell 0
  have k1 := Hblk.out.cell 1
  have k2 := Hblk.out.cell 2
  have k3 := Hblk.out.cell 3
  have k4 := Hblk.out.cell 4
  have k5 := Hblk.out.cell 5
  go_wp2_with fail
  refine (few_any m _ 10 _ HV.out Hl.out).mono ?_
  rintro e w2 ⟨rfl, hb2⟩
  rw [Hf.out]
  clear k0 k1 k2 k3 k4 k5
  replace HE := Lib.hid (HE.out.up hb2)
  replace HV := Lib.hid (HV.out.up hb2)
  replace HA := Lib.hid (HA.out.up hb2)
  replace HBv := Lib.hid (HBv.out.up hb2)
  replace Hblk := Lib.hid (Hblk.out.below hb2 Hblk.out.lt)
  replace Hb0 := Lib.hid (below_next Hb0.out (Nat.le_refl _) hb2)
  clear hb2
  have k0 := Hblk.out.cell 0
  have k1 := Hblk.out.cell 1
  have k2 := Hblk.out.cell 2
  have k3 := Hblk.out.cell 3
  have k4 := Hblk.out.cell 4
  have k5 := Hblk.out.cell 5
  go_wp2_with fail
  refine (rmay10_any m _ _ a _ HV.out (few_sml Hf.out) HA.out).mono ?_
  rintro e w3 ⟨rfl, hb3⟩
  rw [Hma.out]
  clear k0 k1 k2 k3 k4 k5
  replace HE := Lib.hid (HE.out.up hb3)
  replace HV := Lib.hid (HV.out.up hb3)
  replace HA := Lib.hid (HA.out.up hb3)
  replace HBv := Lib.hid (HBv.out.up hb3)
  replace Hblk := Lib.hid (Hblk.out.below hb3 Hblk.out.lt)
  replace Hb0 := Lib.hid (below_next Hb0.out (Nat.le_refl _) hb3)
  clear hb3
  have k0 := Hblk.out.cell 0
  have k1 := Hblk.out.cell 1
  have k2 := Hblk.out.cell 2
  have k3 := Hblk.out.cell 3
  have k4 := Hblk.out.cell 4
  have k5 := Hblk.out.cell 5
  go_wp2_with fail
  refine (rmay10_any m _ _ b _ HV.out (few_sml Hf.out) HBv.out).mono ?_
  rintro e w4 ⟨rfl, hb4⟩
  rw [Hmb.out]
  clear k0 k1 k2 k3 k4 k5
  replace HE := Lib.hid (HE.out.up hb4)
  replace HV := Lib.hid (HV.out.up hb4)
  replace HA := Lib.hid (HA.out.up hb4)
  replace HBv := Lib.hid (HBv.out.up hb4)
  replace Hblk := Lib.hid (Hblk.out.below hb4 Hblk.out.lt)
  replace Hb0 := Lib.hid (below_next Hb0.out (Nat.le_refl _) hb4)
  clear hb4
  have k0 := Hblk.out.cell 0
  have k1 := Hblk.out.cell 1
  have k2 := Hblk.out.cell 2
  have k3 := Hblk.out.cell 3
  have k4 := Hblk.out.cell 4
  have k5 := Hblk.out.cell 5
  go_wp2_with fail
  refine (rDeepl_any m _ _ HV.out Hl.out).mono ?_
  rintro e w5 ⟨rfl, hb5⟩
  rw [HP.out]
  clear k0 k1 k2 k3 k4 k5
  replace HE := Lib.hid (HE.out.up hb5)
  replace HV := Lib.hid (HV.out.up hb5)
  replace HA := Lib.hid (HA.out.up hb5)
  replace HBv := Lib.hid (HBv.out.up hb5)
  replace Hblk := Lib.hid (Hblk.out.below hb5 Hblk.out.lt)
  replace Hb0 := Lib.hid (below_next Hb0.out (Nat.le_refl _) hb5)
  clear hb5
  go_wp2_with fail
  refine (fixed_any E _ HE.out).mono ?_
  rintro e w9 ⟨rfl, hb9⟩
  replace HE := Lib.hid (HE.out.up hb9)
  replace HV := Lib.hid (HV.out.up hb9)
  replace HA := Lib.hid (HA.out.up hb9)
  replace HBv := Lib.hid (HBv.out.up hb9)
  replace Hblk := Lib.hid (Hblk.out.below hb9 Hblk.out.lt)
  replace Hb0 := Lib.hid (below_next Hb0.out (Nat.le_refl _) hb9)
  clear hb9
  go_wp2
  go_ret
  exact ⟨rfl, Hb0.out⟩

set_option maxHeartbeats 16000000 in
set_option maxRecDepth 100000 in
theorem duals_main (E : Nat → Addr) (m : Mat) (v sa sb : Value) (a b : List Int) (w : World) (hv : MatV w w.heap.size v m) (hl : Lim m) (hra : Row w w.heap.size sa a) (hrb : Row w w.heap.size sb b) (hE : Env E w) (hf : fewB 9 m 10 = true) (hma : mayI m a = true) (hmb : mayI m b = true) (h2 : dp 4 m ≤ 2) : Calls Tryz.prog 4 #[v, sa, sb] w (Truly w) := by
  have Hf := Lib.hid hf
  have Hma := Lib.hid hma
  have Hmb := Lib.hid hmb
  have e1 := dual_dual h2 hma
  obtain ⟨p, q, e2, e3, e4, e5⟩ := dual_all (mayI_iff.1 hma).1 (show dp 4 m ≤ 3 by omega)
  have hla := inN_len (mayI_iff.1 hma).2
  have hlb := inN_len (mayI_iff.1 hmb).2
  have hc := (mayI_iff.1 hma).1
  have hn64 := (nN_cast hc).2
  have hla1 : a.length ≤ 1048576 := by omega
  have hlb1 : b.length ≤ 1048576 := by omega
  have hn := chk_n hc
  have hlr := inN_len (inN_rest hn.1 hn.2 (mayI_iff.1 hmb).2.1)
  have hnn : nN m = m.n.toNat := rfl
  have hall := all_len m.n
  obtain ⟨y0, ey⟩ : ∃ y0, indT m a = y0 := ⟨_, rfl⟩
  have ex : indT (dualOf (dualOf m)) a = y0 := by rw [← ey]; unfold indT; rw [e1]
  have HDM := Lib.hid (fun L => dual_minor (L := L) hmb h2)
  obtain ⟨r, hr⟩ : ∃ r, minusL (allL m.n) b = r := ⟨_, rfl⟩
  rw [hr] at hlr HDM
  have Hmin := Lib.hid hr
  have hr64 : r.length ≤ 64 := by omega
  have hr64I : (r.length : Int) ≤ 64 := by omega
  have hsum : IntKind.i64.wrap ((p : Int) + (q : Int)) = m.n := by rw [IntKind.wrap_i64]; omega
  obtain ⟨P, hP⟩ : ∃ P : Nat, dp 4 m = P := ⟨_, rfl⟩
  have HP : Hid (deepI m = (P : Int)) := Lib.hid (by rw [← hP]; rfl)
  rw [hP] at h2
  have h3I : (P : Int) ≤ 2 := by omega
  have Hs := Lib.hid (few_sml Hf.out)
  have Hsd : Hid (Sml (dualOf m)) := Lib.hid (sml_one Hs.out)
  have Hsdd : Hid (Sml (dualOf (dualOf m))) := Lib.hid (sml_one Hsd.out)
  have Hsx : Hid (Sml (contOf (r.length : Int) b (dualOf m))) := Lib.hid (sml_row (by omega) Hsd.out)
  have Hsy : Hid (Sml (dualOf (restOf (r.length : Int) r m))) := Lib.hid (sml_one (sml_row (by omega) Hs.out))
  have HC1 : Hid (∀ (v sv : Value) (W : World), MatV W W.heap.size v (dualOf (dualOf m)) → Row W W.heap.size sv a → Env E W → Calls Tryz.prog 11 #[v, sv] W (Says W y0)) := Lib.hid fun v sv W h1 h2 h3 => by rw [← ex]; exact indep_any E _ _ sv _ W h1 Hsdd.out h2 hla1 h3
  have HC2 : Hid (∀ (v sv : Value) (W : World), MatV W W.heap.size v m → Row W W.heap.size sv a → Env E W → Calls Tryz.prog 11 #[v, sv] W (Says W y0)) := Lib.hid fun v sv W h1 h2 h3 => by rw [← ey]; exact indep_any E _ _ sv _ W h1 Hs.out h2 hla1 h3
  have HC3 : Hid (∀ (v sv : Value) (W : World), MatV W W.heap.size v m → Row W W.heap.size sv (allL m.n) → Env E W → Calls Tryz.prog 17 #[v, sv] W (Tells W (p : Int))) := Lib.hid fun v sv W h1 h2 h3 => by rw [← e2]; exact irank_any E _ _ sv _ W h1 Hs.out h2 (by omega) h3
  have HC4 : Hid (∀ (v sv : Value) (W : World), MatV W W.heap.size v (dualOf m) → Row W W.heap.size sv (allL m.n) → Env E W → Calls Tryz.prog 17 #[v, sv] W (Tells W (q : Int))) := Lib.hid fun v sv W h1 h2 h3 => by rw [← e3]; exact irank_any E _ _ sv _ W h1 Hsd.out h2 (by omega) h3
  have HXY : Hid (∀ L, InN r.length L → indT (contOf (r.length : Int) b (dualOf m)) L = indT (dualOf (restOf (r.length : Int) r m)) L) := Lib.hid fun L hL => by unfold indT; rw [HDM.out L hL]
  have HX : Hid (∀ (L : List Int) (v sv : Value) (W : World), L.length ≤ 64 → MatV W W.heap.size v (contOf (r.length : Int) b (dualOf m)) → Row W W.heap.size sv L → Env E W → Calls Tryz.prog 11 #[v, sv] W (Says W (indT (contOf (r.length : Int) b (dualOf m)) L))) := Lib.hid fun L v sv W hL h1 h2 h3 => indep_any E _ _ sv _ W h1 Hsx.out h2 (by omega) h3
  have HY : Hid (∀ (L : List Int) (v sv : Value) (W : World), L.length ≤ 64 → MatV W W.heap.size v (dualOf (restOf (r.length : Int) r m)) → Row W W.heap.size sv L → Env E W → Calls Tryz.prog 11 #[v, sv] W (Says W (indT (dualOf (restOf (r.length : Int) r m)) L))) := Lib.hid fun L v sv W hL h1 h2 h3 => indep_any E _ _ sv _ W h1 Hsy.out h2 (by omega) h3
  obtain ⟨mn, hmn⟩ : ∃ mn : Nat, min r.length 3 = mn := ⟨_, rfl⟩
  have hmn3 : mn ≤ 3 := by omega
  have hmnr : mn ≤ r.length := by omega
  have hmin : min (r.length : Int) 3 = (mn : Int) := by omega
  clear e1 e2 e3 e4 e5 ex ey hP h2 hf hma hmb hla hlb hc hn64 hn hlr hnn hr HDM hmn
  have Hl := Lib.hid hl
  obtain ⟨lv, iv, hve, hl2, hi2⟩ := hv.open
  have Hb0 := Lib.hid (boxed_below w m lv iv)
  have HV := Lib.hid (hv.up Hb0.out)
  have HE := Lib.hid (hE.up Hb0.out)
  have HA := Lib.hid (hra.up Hb0.out)
  have HBv := Lib.hid (hrb.up Hb0.out)
  have Hblk := Lib.hid (boxed_blk w m lv iv)
  obtain ⟨Al, cl, rfl, _⟩ := hl2
  obtain ⟨Ai, ci, rfl, _⟩ := hi2
  obtain ⟨Aa, ca, hsa, hcapa, _⟩ := id hra
  obtain ⟨Ab, cb, hsb, hcapb, _⟩ := id hrb
  have haI : (a.length : Int) ≤ 9223372036854775807 := by have h1 := hcapa.1; have h2 := hcapa.2.1; unfold maxLen at h2; omega
  have hbI : (b.length : Int) ≤ 9223372036854775807 := by have h1 := hcapb.1; have h2 := hcapb.2.1; unfold maxLen at h2; omega
  subst hve hsa hsb
  unfold boxed at *
  clear hv hl hE hra hrb hcapa hcapb
  go_enter Tryz.func4, Tryz.ntmps4
  have hw0 := Hb0
  clear hw0
  go_wp2_with fail
  refine (fixed_any E _ HE.out).mono ?_
  rintro e w1 ⟨rfl, hb1⟩
  replace HE := Lib.hid (HE.out.up hb1)
  replace HV := Lib.hid (HV.out.up hb1)
  replace HA := Lib.hid (HA.out.up hb1)
  replace HBv := Lib.hid (HBv.out.up hb1)
  replace Hblk := Lib.hid (Hblk.out.below hb1 Hblk.out.lt)
  replace Hb0 := Lib.hid (below_next Hb0.out (Nat.le_refl _) hb1)
  clear hb1
  have k0 := Hblk.out.cell 0
  have k1 := Hblk.out.cell 1
  have k2 := Hblk.out.cell 2
  have k3 := Hblk.out.cell 3
  have k4 := Hblk.out.cell 4
  have k5 := Hblk.out.cell 5
  go_wp2_with fail
  refine (few_any m _ 10 _ HV.out Hl.out).mono ?_
  rintro e w2 ⟨rfl, hb2⟩
  rw [Hf.out]
  clear k0 k1 k2 k3 k4 k5
  replace HE := Lib.hid (HE.out.up hb2)
  replace HV := Lib.hid (HV.out.up hb2)
  replace HA := Lib.hid (HA.out.up hb2)
  replace HBv := Lib.hid (HBv.out.up hb2)
  replace Hblk := Lib.hid (Hblk.out.below hb2 Hblk.out.lt)
  replace Hb0 := Lib.hid (below_next Hb0.out (Nat.le_refl _) hb2)
  clear hb2
  have k0 := Hblk.out.cell 0
  have k1 := Hblk.out.cell 1
  have k2 := Hblk.out.cell 2
  have k3 := Hblk.out.cell 3
  have k4 := Hblk.out.cell 4
  have k5 := Hblk.out.cell 5
  go_wp2_with fail
  refine (rmay10_any m _ _ a _ HV.out (few_sml Hf.out) HA.out).mono ?_
  rintro e w3 ⟨rfl, hb3⟩
  rw [Hma.out]
  clear k0 k1 k2 k3 k4 k5
  replace HE := Lib.hid (HE.out.up hb3)
  replace HV := Lib.hid (HV.out.up hb3)
  replace HA := Lib.hid (HA.out.up hb3)
  replace HBv := Lib.hid (HBv.out.up hb3)
  replace Hblk := Lib.hid (Hblk.out.below hb3 Hblk.out.lt)
  replace Hb0 := Lib.hid (below_next Hb0.out (Nat.le_refl _) hb3)
  clear hb3
  have k0 := Hblk.out.cell 0
  have k1 := Hblk.out.cell 1
  have k2 := Hblk.out.cell 2
  have k3 := Hblk.out.cell 3
  have k4 := Hblk.out.cell 4
  have k5 := Hblk.out.cell 5
  go_wp2_with fail
  refine (rmay10_any m _ _ b _ HV.out (few_sml Hf.out) HBv.out).mono ?_
  rintro e w4 ⟨rfl, hb4⟩
  rw [Hmb.out]
  clear k0 k1 k2 k3 k4 k5
  replace HE := Lib.hid (HE.out.up hb4)
  replace HV := Lib.hid (HV.out.up hb4)
  replace HA := Lib.hid (HA.out.up hb4)
  replace HBv := Lib.hid (HBv.out.up hb4)
  replace Hblk := Lib.hid (Hblk.out.below hb4 Hblk.out.lt)
  replace Hb0 := Lib.hid (below_next Hb0.out (Nat.le_refl _) hb4)
  clear hb4
  have k0 := Hblk.out.cell 0
  have k1 := Hblk.out.cell 1
  have k2 := Hblk.out.cell 2
  have k3 := Hblk.out.cell 3
  have k4 := Hblk.out.cell 4
  have k5 := Hblk.out.cell 5
  go_wp2_with fail
  refine (rDeepl_any m _ _ HV.out Hl.out).mono ?_
  rintro e w5 ⟨rfl, hb5⟩
  rw [HP.out]
  clear k0 k1 k2 k3 k4 k5
  replace HE := Lib.hid (HE.out.up hb5)
  replace HV := Lib.hid (HV.out.up hb5)
  replace HA := Lib.hid (HA.out.up hb5)
  replace HBv := Lib.hid (HBv.out.up hb5)
  replace Hblk := Lib.hid (Hblk.out.below hb5 Hblk.out.lt)
  replace Hb0 := Lib.hid (below_next Hb0.out (Nat.le_refl _) hb5)
  clear hb5
  have k1 := Hblk.out.cell 1
  go_wp2_with fail
  refine (refall_any m.n _).mono ?_
  rintro e w6 ⟨v6, rfl, hr6, hb6⟩
  clear k1
  replace HE := Lib.hid (HE.out.up hb6)
  replace HV := Lib.hid (HV.out.up hb6)
  replace HA := Lib.hid (HA.out.up hb6)
  replace HBv := Lib.hid (HBv.out.up hb6)
  replace Hblk := Lib.hid (Hblk.out.below hb6 Hblk.out.lt)
  replace Hb0 := Lib.hid (below_next Hb0.out (Nat.le_refl _) hb6)
  clear hb6
  have HAl := Lib.hid hr6
  clear hr6
  have hwlt : w.heap.size < w6.heap.size := Hblk.out.lt
  have k0 := Hblk.out.cell 0
  have k1 := Hblk.out.cell 1
  have k2 := Hblk.out.cell 2
  have k3 := Hblk.out.cell 3
  have k4 := Hblk.out.cell 4
  have k5 := Hblk.out.cell 5
  have hwlt1 : w.heap.size < w6.heap.size + 1 := by omega
  have hwle1 : w.heap.size ≤ w6.heap.size + 1 := by omega
  have hwne1 : ¬ w.heap.size = w6.heap.size + 1 := by omega
  have hwlt2 : w.heap.size < w6.heap.size + 1 + 1 := by omega
  have hwle2 : w.heap.size ≤ w6.heap.size + 1 + 1 := by omega
  have hwne2 : ¬ w.heap.size = w6.heap.size + 1 + 1 := by omega
  have hwlt3 : w.heap.size < w6.heap.size + 1 + 1 + 1 := by omega
  have hwle3 : w.heap.size ≤ w6.heap.size + 1 + 1 + 1 := by omega
  have hwne3 : ¬ w.heap.size = w6.heap.size + 1 + 1 + 1 := by omega
  obtain ⟨X, hX⟩ : ∃ X, X = ((((w6.alloc (.cells #[.int .i64 m.t, .int .i64 m.n, .int .i64 m.a, .int .i64 m.b, .slice Al m.l.length cl, .slice Ai m.i.length ci] 25)).alloc (.cells #[.int .i64 8, .int .i64 m.n, .int .i64 0, .int .i64 0, .slice none 0 0, .slice (some ⟨w6.heap.size, 0, none⟩) 1 1] 25)).alloc (.cells #[.int .i64 8, .int .i64 m.n, .int .i64 0, .int .i64 0, .slice none 0 0, .slice (some ⟨w6.heap.size, 0, none⟩) 1 1] 25)).alloc (.cells #[.int .i64 8, .int .i64 m.n, .int .i64 0, .int .i64 0, .slice none 0 0, .slice (some ⟨w6.heap.size + 1 + 1, 0, none⟩) 1 1] 25)) := ⟨_, rfl⟩
  have HX4 := Lib.hid hX
  have Hsz : Hid (X.heap.size = w6.heap.size + 1 + 1 + 1 + 1) := Lib.hid (by rw [hX]; simp only [size_more])
  have Hbx : Hid (Below w6.heap.size w6 X) := Lib.hid (by
    rw [hX]
    exact ((((Below.refl w6.heap.size w6).alloc (Nat.le_refl _) _).alloc (by simp only [size_more]; omega) _).alloc (by simp only [size_more]; omega) _).alloc (by simp only [size_more]; omega) _)
  have hd0 : MatV (w6.alloc (.cells #[.int .i64 m.t, .int .i64 m.n, .int .i64 m.a, .int .i64 m.b, .slice Al m.l.length cl, .slice Ai m.i.length ci] 25)) (w6.alloc (.cells #[.int .i64 m.t, .int .i64 m.n, .int .i64 m.a, .int .i64 m.b, .slice Al m.l.length cl, .slice Ai m.i.length ci] 25)).heap.size (.agg #[.int .i64 8, .int .i64 m.n, .int .i64 0, .int .i64 0, .slice none 0 0, .slice (some ⟨w6.heap.size, 0, none⟩) 1 1]) (dualOf m) := by rw [size_more]; exact dual_lit HV.out
  have HMd : Hid (MatV X X.heap.size (.agg #[.int .i64 8, .int .i64 m.n, .int .i64 0, .int .i64 0, .slice none 0 0, .slice (some ⟨w6.heap.size, 0, none⟩) 1 1]) (dualOf m)) := Lib.hid (by
    have h := ((hd0.upA (.cells #[.int .i64 8, .int .i64 m.n, .int .i64 0, .int .i64 0, .slice none 0 0, .slice (some ⟨w6.heap.size, 0, none⟩) 1 1] 25)).upA (.cells #[.int .i64 8, .int .i64 m.n, .int .i64 0, .int .i64 0, .slice none 0 0, .slice (some ⟨w6.heap.size, 0, none⟩) 1 1] 25)).upA (.cells #[.int .i64 8, .int .i64 m.n, .int .i64 0, .int .i64 0, .slice none 0 0, .slice (some ⟨w6.heap.size + 1 + 1, 0, none⟩) 1 1] 25)
    rw [hX]
    exact h)
  have HMdd : Hid (MatV X X.heap.size (.agg #[.int .i64 8, .int .i64 m.n, .int .i64 0, .int .i64 0, .slice none 0 0, .slice (some ⟨w6.heap.size + 1 + 1, 0, none⟩) 1 1]) (dualOf (dualOf m))) := Lib.hid (by
    have h1 := dual_lit (hd0.upA (.cells #[.int .i64 8, .int .i64 m.n, .int .i64 0, .int .i64 0, .slice none 0 0, .slice (some ⟨w6.heap.size, 0, none⟩) 1 1] 25))
    simp only [size_more] at h1
    have h := (h1.bel ((Below.refl _ (((w6.alloc (.cells #[.int .i64 m.t, .int .i64 m.n, .int .i64 m.a, .int .i64 m.b, .slice Al m.l.length cl, .slice Ai m.i.length ci] 25)).alloc (.cells #[.int .i64 8, .int .i64 m.n, .int .i64 0, .int .i64 0, .slice none 0 0, .slice (some ⟨w6.heap.size, 0, none⟩) 1 1] 25)).alloc (.cells #[.int .i64 8, .int .i64 m.n, .int .i64 0, .int .i64 0, .slice none 0 0, .slice (some ⟨w6.heap.size, 0, none⟩) 1 1] 25))).alloc (by simp only [size_more]; omega) (.cells #[.int .i64 8, .int .i64 m.n, .int .i64 0, .int .i64 0, .slice none 0 0, .slice (some ⟨w6.heap.size + 1 + 1, 0, none⟩) 1 1] 25))).mono (show w6.heap.size + 1 + 1 + 1 ≤ w6.heap.size + 1 + 1 + 1 + 1 by omega)
    rw [Hsz.out, hX]
    exact h)
  have HKd : Hid (Blk X (w6.heap.size + 1) 25 #[.int .i64 8, .int .i64 m.n, .int .i64 0, .int .i64 0, .slice none 0 0, .slice (some ⟨w6.heap.size, 0, none⟩) 1 1]) := Lib.hid (by
    have h := (((Blk.new (w6.alloc (.cells #[.int .i64 m.t, .int .i64 m.n, .int .i64 m.a, .int .i64 m.b, .slice Al m.l.length cl, .slice Ai m.i.length ci] 25)) 25 #[.int .i64 8, .int .i64 m.n, .int .i64 0, .int .i64 0, .slice none 0 0, .slice (some ⟨w6.heap.size, 0, none⟩) 1 1]).alloc (.cells #[.int .i64 8, .int .i64 m.n, .int .i64 0, .int .i64 0, .slice none 0 0, .slice (some ⟨w6.heap.size, 0, none⟩) 1 1] 25)).alloc (.cells #[.int .i64 8, .int .i64 m.n, .int .i64 0, .int .i64 0, .slice none 0 0, .slice (some ⟨w6.heap.size + 1 + 1, 0, none⟩) 1 1] 25))
    simp only [size_more] at h
    rw [hX]
    exact h)
  have HKdd : Hid (Blk X (w6.heap.size + 1 + 1 + 1) 25 #[.int .i64 8, .int .i64 m.n, .int .i64 0, .int .i64 0, .slice none 0 0, .slice (some ⟨w6.heap.size + 1 + 1, 0, none⟩) 1 1]) := Lib.hid (by
    have h := Blk.new (((w6.alloc (.cells #[.int .i64 m.t, .int .i64 m.n, .int .i64 m.a, .int .i64 m.b, .slice Al m.l.length cl, .slice Ai m.i.length ci] 25)).alloc (.cells #[.int .i64 8, .int .i64 m.n, .int .i64 0, .int .i64 0, .slice none 0 0, .slice (some ⟨w6.heap.size, 0, none⟩) 1 1] 25)).alloc (.cells #[.int .i64 8, .int .i64 m.n, .int .i64 0, .int .i64 0, .slice none 0 0, .slice (some ⟨w6.heap.size, 0, none⟩) 1 1] 25)) 25 #[.int .i64 8, .int .i64 m.n, .int .i64 0, .int .i64 0, .slice none 0 0, .slice (some ⟨w6.heap.size + 1 + 1, 0, none⟩) 1 1]
    simp only [size_more] at h
    rw [hX]
    exact h)
  have HKm := Lib.hid (Hblk.out.below Hbx.out Hblk.out.lt)
  clear hX hd0
  go_wp2
  rw [← HX4.out]
  replace HE := Lib.hid (HE.out.up Hbx.out)
  replace HV := Lib.hid (HV.out.up Hbx.out)
  replace HA := Lib.hid (HA.out.up Hbx.out)
  replace HBv := Lib.hid (HBv.out.up Hbx.out)
  replace HAl := Lib.hid (HAl.out.up Hbx.out)
  replace Hb0 := Lib.hid (below_next Hb0.out (Nat.le_refl _) Hbx.out)
  have K1 : Hid (∀ W, Below X.heap.size X W → W.cell? ⟨w.heap.size, 0, none⟩ = some (.int .i64 m.t) ∧ W.cell? ⟨w.heap.size, 1, none⟩ = some (.int .i64 m.n) ∧ W.cell? ⟨w.heap.size, 2, none⟩ = some (.int .i64 m.a) ∧ W.cell? ⟨w.heap.size, 3, none⟩ = some (.int .i64 m.b) ∧ W.cell? ⟨w.heap.size, 4, none⟩ = some (.slice Al m.l.length cl) ∧ W.cell? ⟨w.heap.size, 5, none⟩ = some (.slice Ai m.i.length ci) ∧ W.cell? ⟨w6.heap.size + 1, 0, none⟩ = some (.int .i64 8) ∧ W.cell? ⟨w6.heap.size + 1, 1, none⟩ = some (.int .i64 m.n) ∧ W.cell? ⟨w6.heap.size + 1, 2, none⟩ = some (.int .i64 0) ∧ W.cell? ⟨w6.heap.size + 1, 3, none⟩ = some (.int .i64 0) ∧ W.cell? ⟨w6.heap.size + 1, 4, none⟩ = some (.slice none 0 0) ∧ W.cell? ⟨w6.heap.size + 1, 5, none⟩ = some (.slice (some ⟨w6.heap.size, 0, none⟩) 1 1) ∧ W.cell? ⟨w6.heap.size + 1 + 1 + 1, 0, none⟩ = some (.int .i64 8) ∧ W.cell? ⟨w6.heap.size + 1 + 1 + 1, 1, none⟩ = some (.int .i64 m.n) ∧ W.cell? ⟨w6.heap.size + 1 + 1 + 1, 2, none⟩ = some (.int .i64 0) ∧ W.cell? ⟨w6.heap.size + 1 + 1 + 1, 3, none⟩ = some (.int .i64 0) ∧ W.cell? ⟨w6.heap.size + 1 + 1 + 1, 4, none⟩ = some (.slice none 0 0) ∧ W.cell? ⟨w6.heap.size + 1 + 1 + 1, 5, none⟩ = some (.slice (some ⟨w6.heap.size + 1 + 1, 0, none⟩) 1 1)) := Lib.hid fun W hW => ⟨(HKm.out.below hW HKm.out.lt).cell 0, (HKm.out.below hW HKm.out.lt).cell 1, (HKm.out.below hW HKm.out.lt).cell 2, (HKm.out.below hW HKm.out.lt).cell 3, (HKm.out.below hW HKm.out.lt).cell 4, (HKm.out.below hW HKm.out.lt).cell 5, (HKd.out.below hW HKd.out.lt).cell 0, (HKd.out.below hW HKd.out.lt).cell 1, (HKd.out.below hW HKd.out.lt).cell 2, (HKd.out.below hW HKd.out.lt).cell 3, (HKd.out.below hW HKd.out.lt).cell 4, (HKd.out.below hW HKd.out.lt).cell 5, (HKdd.out.below hW HKdd.out.lt).cell 0, (HKdd.out.below hW HKdd.out.lt).cell 1, (HKdd.out.below hW HKdd.out.lt).cell 2, (HKdd.out.below hW HKdd.out.lt).cell 3, (HKdd.out.below hW HKdd.out.lt).cell 4, (HKdd.out.below hW HKdd.out.lt).cell 5⟩
  have HQ1 : Hid (∀ W, Below X.heap.size X W → Calls Tryz.prog 11 #[.agg #[.int .i64 8, .int .i64 m.n, .int .i64 0, .int .i64 0, .slice none 0 0, .slice (some ⟨w6.heap.size + 1 + 1, 0, none⟩) 1 1], .slice Aa a.length ca] W fun e w' => e = .returned (.bool y0) ∧ Below X.heap.size X w') := Lib.hid fun W hW => (HC1.out _ _ W (HMdd.out.up hW) (HA.out.up hW) (HE.out.up hW)).mono fun _ _ ⟨h2, h3⟩ => ⟨h2, below_next hW (Nat.le_refl _) h3⟩
  have HQ2 : Hid (∀ W, Below X.heap.size X W → Calls Tryz.prog 11 #[.agg #[.int .i64 m.t, .int .i64 m.n, .int .i64 m.a, .int .i64 m.b, .slice Al m.l.length cl, .slice Ai m.i.length ci], .slice Aa a.length ca] W fun e w' => e = .returned (.bool y0) ∧ Below X.heap.size X w') := Lib.hid fun W hW => (HC2.out _ _ W (HV.out.up hW) (HA.out.up hW) (HE.out.up hW)).mono fun _ _ ⟨h2, h3⟩ => ⟨h2, below_next hW (Nat.le_refl _) h3⟩
  have HQ3 : Hid (∀ W, Below X.heap.size X W → Calls Tryz.prog 17 #[.agg #[.int .i64 m.t, .int .i64 m.n, .int .i64 m.a, .int .i64 m.b, .slice Al m.l.length cl, .slice Ai m.i.length ci], v6] W fun e w' => e = .returned (.int .i64 (p : Int)) ∧ Below X.heap.size X w') := Lib.hid fun W hW => (HC3.out _ _ W (HV.out.up hW) (HAl.out.up hW) (HE.out.up hW)).mono fun _ _ ⟨h2, h3⟩ => ⟨h2, below_next hW (Nat.le_refl _) h3⟩
  have HQ4 : Hid (∀ W, Below X.heap.size X W → Calls Tryz.prog 17 #[.agg #[.int .i64 8, .int .i64 m.n, .int .i64 0, .int .i64 0, .slice none 0 0, .slice (some ⟨w6.heap.size, 0, none⟩) 1 1], v6] W fun e w' => e = .returned (.int .i64 (q : Int)) ∧ Below X.heap.size X w') := Lib.hid fun W hW => (HC4.out _ _ W (HMd.out.up hW) (HAl.out.up hW) (HE.out.up hW)).mono fun _ _ ⟨h2, h3⟩ => ⟨h2, below_next hW (Nat.le_refl _) h3⟩
  clear k0 k1 k2 k3 k4 k5
  refine wp_region_below X.heap.size X (by kernel_rfl) (by kernel_rfl) (Below.refl _ _) ?_
  iterate 19 (first
    | go_big_quiet_step (with_reducible exact HQ1.out _)
    | go_big_quiet_step (with_reducible exact HQ2.out _)
    | go_big_quiet_step (with_reducible exact HQ3.out _)
    | go_big_quiet_step (with_reducible exact HQ4.out _)
    | (go_big_quiet_want; apply Exists.intro; refine ⟨fun W hW => ?_, ?_⟩; (· obtain ⟨k0, k1, k2, k3, k4, k5, k6, k7, k8, k9, k10, k11, k12, k13, k14, k15, k16, k17⟩ := K1.out W hW; go_simp; first | exact rfl | exact ⟨rfl, rfl⟩); go_simp; go_big_quiet_on))
  refine wpQuiet_nil ?_
  intro w7 hB7
  have HB7 := Lib.hid hB7
  clear hB7 HQ1 HQ2 HQ3 HQ4 HC1 HC2 HC3 HC4 HKdd HMdd hwlt1 hwle1 hwne1 hwlt2 hwle2 hwne2 hwlt3 hwle3 hwne3
  go_wp2_with fail
  refine (refminus_any _ _ (allL m.n) b _ (HAl.out.up HB7.out) (HBv.out.up HB7.out) (by omega) hlb1).mono ?_
  rintro e w8 ⟨v8, rfl, hr8, hb8⟩
  rw [Hmin.out] at hr8
  have HB8 := Lib.hid (below_next HB7.out (Nat.le_refl _) hb8)
  obtain ⟨Ar, cr, rfl, hcr, _⟩ := id hr8
  have HR := Lib.hid hr8
  replace HE := Lib.hid (HE.out.up HB8.out)
  replace HV := Lib.hid (HV.out.up HB8.out)
  replace HBv := Lib.hid (HBv.out.up HB8.out)
  replace HMd := Lib.hid (HMd.out.up HB8.out)
  replace HKm := Lib.hid (HKm.out.below HB8.out HKm.out.lt)
  replace HKd := Lib.hid (HKd.out.below HB8.out HKd.out.lt)
  replace Hb0 := Lib.hid (below_next Hb0.out (Nat.le_refl _) HB8.out)
  have hwlt : w.heap.size < w8.heap.size := HKm.out.lt
  have hdlt : w6.heap.size + 1 < w8.heap.size := HKd.out.lt
  clear hb8 hr8 hcr HB7 HB8 HA HAl K1 HX4 Hsz Hbx Hblk
  have k0 := HKm.out.cell 0
  have k1 := HKm.out.cell 1
  have k2 := HKm.out.cell 2
  have k3 := HKm.out.cell 3
  have k4 := HKm.out.cell 4
  have k5 := HKm.out.cell 5
  have d0 := HKd.out.cell 0
  have d1 := HKd.out.cell 1
  have d2 := HKd.out.cell 2
  have d3 := HKd.out.cell 3
  have d4 := HKd.out.cell 4
  have d5 := HKd.out.cell 5
  have hwlt1 : w.heap.size < w8.heap.size + 1 := by omega
  have hwle1 : w.heap.size ≤ w8.heap.size + 1 := by omega
  have hwne1 : ¬ w.heap.size = w8.heap.size + 1 := by omega
  have hdlt1 : w6.heap.size + 1 < w8.heap.size + 1 := by omega
  have hdle1 : w6.heap.size + 1 ≤ w8.heap.size + 1 := by omega
  have hdne1 : ¬ w6.heap.size + 1 = w8.heap.size + 1 := by omega
  have hwlt2 : w.heap.size < w8.heap.size + 1 + 1 := by omega
  have hwle2 : w.heap.size ≤ w8.heap.size + 1 + 1 := by omega
  have hwne2 : ¬ w.heap.size = w8.heap.size + 1 + 1 := by omega
  have hdlt2 : w6.heap.size + 1 < w8.heap.size + 1 + 1 := by omega
  have hdle2 : w6.heap.size + 1 ≤ w8.heap.size + 1 + 1 := by omega
  have hdne2 : ¬ w6.heap.size + 1 = w8.heap.size + 1 + 1 := by omega
  have hwlt3 : w.heap.size < w8.heap.size + 1 + 1 + 1 := by omega
  have hwle3 : w.heap.size ≤ w8.heap.size + 1 + 1 + 1 := by omega
  have hwne3 : ¬ w.heap.size = w8.heap.size + 1 + 1 + 1 := by omega
  have hdlt3 : w6.heap.size + 1 < w8.heap.size + 1 + 1 + 1 := by omega
  have hdle3 : w6.heap.size + 1 ≤ w8.heap.size + 1 + 1 + 1 := by omega
  have hdne3 : ¬ w6.heap.size + 1 = w8.heap.size + 1 + 1 + 1 := by omega
  have hwlt4 : w.heap.size < w8.heap.size + 1 + 1 + 1 + 1 := by omega
  have hwle4 : w.heap.size ≤ w8.heap.size + 1 + 1 + 1 + 1 := by omega
  have hwne4 : ¬ w.heap.size = w8.heap.size + 1 + 1 + 1 + 1 := by omega
  have hdlt4 : w6.heap.size + 1 < w8.heap.size + 1 + 1 + 1 + 1 := by omega
  have hdle4 : w6.heap.size + 1 ≤ w8.heap.size + 1 + 1 + 1 + 1 := by omega
  have hdne4 : ¬ w6.heap.size + 1 = w8.heap.size + 1 + 1 + 1 + 1 := by omega
  have hwlt5 : w.heap.size < w8.heap.size + 1 + 1 + 1 + 1 + 1 := by omega
  have hwle5 : w.heap.size ≤ w8.heap.size + 1 + 1 + 1 + 1 + 1 := by omega
  have hwne5 : ¬ w.heap.size = w8.heap.size + 1 + 1 + 1 + 1 + 1 := by omega
  have hdlt5 : w6.heap.size + 1 < w8.heap.size + 1 + 1 + 1 + 1 + 1 := by omega
  have hdle5 : w6.heap.size + 1 ≤ w8.heap.size + 1 + 1 + 1 + 1 + 1 := by omega
  have hdne5 : ¬ w6.heap.size + 1 = w8.heap.size + 1 + 1 + 1 + 1 + 1 := by omega
  have hwlt6 : w.heap.size < w8.heap.size + 1 + 1 + 1 + 1 + 1 + 1 := by omega
  have hwle6 : w.heap.size ≤ w8.heap.size + 1 + 1 + 1 + 1 + 1 + 1 := by omega
  have hwne6 : ¬ w.heap.size = w8.heap.size + 1 + 1 + 1 + 1 + 1 + 1 := by omega
  have hdlt6 : w6.heap.size + 1 < w8.heap.size + 1 + 1 + 1 + 1 + 1 + 1 := by omega
  have hdle6 : w6.heap.size + 1 ≤ w8.heap.size + 1 + 1 + 1 + 1 + 1 + 1 := by omega
  have hdne6 : ¬ w6.heap.size + 1 = w8.heap.size + 1 + 1 + 1 + 1 + 1 + 1 := by omega
  generalize hg : w6.heap.size + 1 = g at *
  clear hg
  obtain ⟨X, hX⟩ : ∃ X, X = (((((((w8.alloc (.cells #[.slice Ab b.length cb] 26)).alloc (.cells #[.int .i64 8, .int .i64 m.n, .int .i64 0, .int .i64 0, .slice none 0 0, .slice (some ⟨w6.heap.size, 0, none⟩) 1 1] 25)).alloc (.cells #[.int .i64 6, .int .i64 (r.length : Int), .int .i64 0, .int .i64 0, .slice (some ⟨w8.heap.size, 0, none⟩) 1 1, .slice (some ⟨w8.heap.size + 1, 0, none⟩) 1 1] 25)).alloc (.cells #[.slice Ar r.length cr] 26)).alloc (.cells #[.int .i64 m.t, .int .i64 m.n, .int .i64 m.a, .int .i64 m.b, .slice Al m.l.length cl, .slice Ai m.i.length ci] 25)).alloc (.cells #[.int .i64 5, .int .i64 (r.length : Int), .int .i64 0, .int .i64 0, .slice (some ⟨w8.heap.size + 1 + 1 + 1, 0, none⟩) 1 1, .slice (some ⟨w8.heap.size + 1 + 1 + 1 + 1, 0, none⟩) 1 1] 25)).alloc (.cells #[.int .i64 8, .int .i64 (r.length : Int), .int .i64 0, .int .i64 0, .slice none 0 0, .slice (some ⟨w8.heap.size + 1 + 1 + 1 + 1 + 1, 0, none⟩) 1 1] 25)) := ⟨_, rfl⟩
  have HX4 := Lib.hid hX
  have Hsz : Hid (X.heap.size = w8.heap.size + 1 + 1 + 1 + 1 + 1 + 1 + 1) := Lib.hid (by rw [hX]; simp only [size_more])
  have Hbx : Hid (Below w8.heap.size w8 X) := Lib.hid (by
    rw [hX]
    exact (((((((Below.refl w8.heap.size w8).alloc (Nat.le_refl _) _).alloc (by simp only [size_more]; omega) _).alloc (by simp only [size_more]; omega) _).alloc (by simp only [size_more]; omega) _).alloc (by simp only [size_more]; omega) _).alloc (by simp only [size_more]; omega) _).alloc (by simp only [size_more]; omega) _)
  have HMx : Hid (MatV X X.heap.size (.agg #[.int .i64 6, .int .i64 (r.length : Int), .int .i64 0, .int .i64 0, .slice (some ⟨w8.heap.size, 0, none⟩) 1 1, .slice (some ⟨w8.heap.size + 1, 0, none⟩) 1 1]) (contOf (r.length : Int) b (dualOf m))) := Lib.hid (by
    have h := part_lit HBv.out HMd.out 6 (r.length : Int)
    rw [Hsz.out, hX]
    exact (h.bel ((((((Below.refl (w8.heap.size + 1 + 1) ((w8.alloc (.cells #[.slice Ab b.length cb] 26)).alloc (.cells #[.int .i64 8, .int .i64 m.n, .int .i64 0, .int .i64 0, .slice none 0 0, .slice (some ⟨w6.heap.size, 0, none⟩) 1 1] 25))).alloc (by simp only [size_more]; omega) _).alloc (by simp only [size_more]; omega) _).alloc (by simp only [size_more]; omega) _).alloc (by simp only [size_more]; omega) _).alloc (by simp only [size_more]; omega) _)).mono (by omega))
  have HMy : Hid (MatV X X.heap.size (.agg #[.int .i64 8, .int .i64 (r.length : Int), .int .i64 0, .int .i64 0, .slice none 0 0, .slice (some ⟨w8.heap.size + 1 + 1 + 1 + 1 + 1, 0, none⟩) 1 1]) (dualOf (restOf (r.length : Int) r m))) := Lib.hid (by
    have h := part_lit (((HR.out.upA (.cells #[.slice Ab b.length cb] 26)).upA (.cells #[.int .i64 8, .int .i64 m.n, .int .i64 0, .int .i64 0, .slice none 0 0, .slice (some ⟨w6.heap.size, 0, none⟩) 1 1] 25)).upA (.cells #[.int .i64 6, .int .i64 (r.length : Int), .int .i64 0, .int .i64 0, .slice (some ⟨w8.heap.size, 0, none⟩) 1 1, .slice (some ⟨w8.heap.size + 1, 0, none⟩) 1 1] 25)) (((HV.out.upA (.cells #[.slice Ab b.length cb] 26)).upA (.cells #[.int .i64 8, .int .i64 m.n, .int .i64 0, .int .i64 0, .slice none 0 0, .slice (some ⟨w6.heap.size, 0, none⟩) 1 1] 25)).upA (.cells #[.int .i64 6, .int .i64 (r.length : Int), .int .i64 0, .int .i64 0, .slice (some ⟨w8.heap.size, 0, none⟩) 1 1, .slice (some ⟨w8.heap.size + 1, 0, none⟩) 1 1] 25)) 5 (r.length : Int)
    simp only [size_more] at h
    have h' : MatV (((((w8.alloc (.cells #[.slice Ab b.length cb] 26)).alloc (.cells #[.int .i64 8, .int .i64 m.n, .int .i64 0, .int .i64 0, .slice none 0 0, .slice (some ⟨w6.heap.size, 0, none⟩) 1 1] 25)).alloc (.cells #[.int .i64 6, .int .i64 (r.length : Int), .int .i64 0, .int .i64 0, .slice (some ⟨w8.heap.size, 0, none⟩) 1 1, .slice (some ⟨w8.heap.size + 1, 0, none⟩) 1 1] 25)).alloc (.cells #[.slice Ar r.length cr] 26)).alloc (.cells #[.int .i64 m.t, .int .i64 m.n, .int .i64 m.a, .int .i64 m.b, .slice Al m.l.length cl, .slice Ai m.i.length ci] 25)) (((((w8.alloc (.cells #[.slice Ab b.length cb] 26)).alloc (.cells #[.int .i64 8, .int .i64 m.n, .int .i64 0, .int .i64 0, .slice none 0 0, .slice (some ⟨w6.heap.size, 0, none⟩) 1 1] 25)).alloc (.cells #[.int .i64 6, .int .i64 (r.length : Int), .int .i64 0, .int .i64 0, .slice (some ⟨w8.heap.size, 0, none⟩) 1 1, .slice (some ⟨w8.heap.size + 1, 0, none⟩) 1 1] 25)).alloc (.cells #[.slice Ar r.length cr] 26)).alloc (.cells #[.int .i64 m.t, .int .i64 m.n, .int .i64 m.a, .int .i64 m.b, .slice Al m.l.length cl, .slice Ai m.i.length ci] 25)).heap.size (.agg #[.int .i64 5, .int .i64 (r.length : Int), .int .i64 0, .int .i64 0, .slice (some ⟨w8.heap.size + 1 + 1 + 1, 0, none⟩) 1 1, .slice (some ⟨w8.heap.size + 1 + 1 + 1 + 1, 0, none⟩) 1 1]) (restOf (r.length : Int) r m) := by simp only [size_more]; exact h
    have h2 := dual_lit h'
    simp only [size_more] at h2
    rw [Hsz.out, hX]
    exact (h2.bel ((Below.refl _ ((((((w8.alloc (.cells #[.slice Ab b.length cb] 26)).alloc (.cells #[.int .i64 8, .int .i64 m.n, .int .i64 0, .int .i64 0, .slice none 0 0, .slice (some ⟨w6.heap.size, 0, none⟩) 1 1] 25)).alloc (.cells #[.int .i64 6, .int .i64 (r.length : Int), .int .i64 0, .int .i64 0, .slice (some ⟨w8.heap.size, 0, none⟩) 1 1, .slice (some ⟨w8.heap.size + 1, 0, none⟩) 1 1] 25)).alloc (.cells #[.slice Ar r.length cr] 26)).alloc (.cells #[.int .i64 m.t, .int .i64 m.n, .int .i64 m.a, .int .i64 m.b, .slice Al m.l.length cl, .slice Ai m.i.length ci] 25)).alloc (.cells #[.int .i64 5, .int .i64 (r.length : Int), .int .i64 0, .int .i64 0, .slice (some ⟨w8.heap.size + 1 + 1 + 1, 0, none⟩) 1 1, .slice (some ⟨w8.heap.size + 1 + 1 + 1 + 1, 0, none⟩) 1 1] 25))).alloc (by simp only [size_more]; omega) (.cells #[.int .i64 8, .int .i64 (r.length : Int), .int .i64 0, .int .i64 0, .slice none 0 0, .slice (some ⟨w8.heap.size + 1 + 1 + 1 + 1 + 1, 0, none⟩) 1 1] 25))).mono (by omega))
  have HKx : Hid (Blk X (w8.heap.size + 1 + 1) 25 #[.int .i64 6, .int .i64 (r.length : Int), .int .i64 0, .int .i64 0, .slice (some ⟨w8.heap.size, 0, none⟩) 1 1, .slice (some ⟨w8.heap.size + 1, 0, none⟩) 1 1]) := Lib.hid (by
    have h := ((((Blk.new ((w8.alloc (.cells #[.slice Ab b.length cb] 26)).alloc (.cells #[.int .i64 8, .int .i64 m.n, .int .i64 0, .int .i64 0, .slice none 0 0, .slice (some ⟨w6.heap.size, 0, none⟩) 1 1] 25)) 25 #[.int .i64 6, .int .i64 (r.length : Int), .int .i64 0, .int .i64 0, .slice (some ⟨w8.heap.size, 0, none⟩) 1 1, .slice (some ⟨w8.heap.size + 1, 0, none⟩) 1 1]).alloc (.cells #[.slice Ar r.length cr] 26)).alloc (.cells #[.int .i64 m.t, .int .i64 m.n, .int .i64 m.a, .int .i64 m.b, .slice Al m.l.length cl, .slice Ai m.i.length ci] 25)).alloc (.cells #[.int .i64 5, .int .i64 (r.length : Int), .int .i64 0, .int .i64 0, .slice (some ⟨w8.heap.size + 1 + 1 + 1, 0, none⟩) 1 1, .slice (some ⟨w8.heap.size + 1 + 1 + 1 + 1, 0, none⟩) 1 1] 25)).alloc (.cells #[.int .i64 8, .int .i64 (r.length : Int), .int .i64 0, .int .i64 0, .slice none 0 0, .slice (some ⟨w8.heap.size + 1 + 1 + 1 + 1 + 1, 0, none⟩) 1 1] 25)
    simp only [size_more] at h
    rw [hX]
    exact h)
  have HKy : Hid (Blk X (w8.heap.size + 1 + 1 + 1 + 1 + 1 + 1) 25 #[.int .i64 8, .int .i64 (r.length : Int), .int .i64 0, .int .i64 0, .slice none 0 0, .slice (some ⟨w8.heap.size + 1 + 1 + 1 + 1 + 1, 0, none⟩) 1 1]) := Lib.hid (by
    have h := Blk.new ((((((w8.alloc (.cells #[.slice Ab b.length cb] 26)).alloc (.cells #[.int .i64 8, .int .i64 m.n, .int .i64 0, .int .i64 0, .slice none 0 0, .slice (some ⟨w6.heap.size, 0, none⟩) 1 1] 25)).alloc (.cells #[.int .i64 6, .int .i64 (r.length : Int), .int .i64 0, .int .i64 0, .slice (some ⟨w8.heap.size, 0, none⟩) 1 1, .slice (some ⟨w8.heap.size + 1, 0, none⟩) 1 1] 25)).alloc (.cells #[.slice Ar r.length cr] 26)).alloc (.cells #[.int .i64 m.t, .int .i64 m.n, .int .i64 m.a, .int .i64 m.b, .slice Al m.l.length cl, .slice Ai m.i.length ci] 25)).alloc (.cells #[.int .i64 5, .int .i64 (r.length : Int), .int .i64 0, .int .i64 0, .slice (some ⟨w8.heap.size + 1 + 1 + 1, 0, none⟩) 1 1, .slice (some ⟨w8.heap.size + 1 + 1 + 1 + 1, 0, none⟩) 1 1] 25)) 25 #[.int .i64 8, .int .i64 (r.length : Int), .int .i64 0, .int .i64 0, .slice none 0 0, .slice (some ⟨w8.heap.size + 1 + 1 + 1 + 1 + 1, 0, none⟩) 1 1]
    simp only [size_more] at h
    rw [hX]
    exact h)
  replace HE := Lib.hid (HE.out.up Hbx.out)
  replace Hb0 := Lib.hid (below_next Hb0.out (Nat.le_refl _) Hbx.out)
  have K1 : Hid (∀ W, Below X.heap.size X W → W.cell? ⟨w8.heap.size + 1 + 1, 0, none⟩ = some (.int .i64 6) ∧ W.cell? ⟨w8.heap.size + 1 + 1, 1, none⟩ = some (.int .i64 (r.length : Int)) ∧ W.cell? ⟨w8.heap.size + 1 + 1, 2, none⟩ = some (.int .i64 0) ∧ W.cell? ⟨w8.heap.size + 1 + 1, 3, none⟩ = some (.int .i64 0) ∧ W.cell? ⟨w8.heap.size + 1 + 1, 4, none⟩ = some (.slice (some ⟨w8.heap.size, 0, none⟩) 1 1) ∧ W.cell? ⟨w8.heap.size + 1 + 1, 5, none⟩ = some (.slice (some ⟨w8.heap.size + 1, 0, none⟩) 1 1) ∧ W.cell? ⟨w8.heap.size + 1 + 1 + 1 + 1 + 1 + 1, 0, none⟩ = some (.int .i64 8) ∧ W.cell? ⟨w8.heap.size + 1 + 1 + 1 + 1 + 1 + 1, 1, none⟩ = some (.int .i64 (r.length : Int)) ∧ W.cell? ⟨w8.heap.size + 1 + 1 + 1 + 1 + 1 + 1, 2, none⟩ = some (.int .i64 0) ∧ W.cell? ⟨w8.heap.size + 1 + 1 + 1 + 1 + 1 + 1, 3, none⟩ = some (.int .i64 0) ∧ W.cell? ⟨w8.heap.size + 1 + 1 + 1 + 1 + 1 + 1, 4, none⟩ = some (.slice none 0 0) ∧ W.cell? ⟨w8.heap.size + 1 + 1 + 1 + 1 + 1 + 1, 5, none⟩ = some (.slice (some ⟨w8.heap.size + 1 + 1 + 1 + 1 + 1, 0, none⟩) 1 1)) := Lib.hid fun W hW => ⟨(HKx.out.below hW HKx.out.lt).cell 0, (HKx.out.below hW HKx.out.lt).cell 1, (HKx.out.below hW HKx.out.lt).cell 2, (HKx.out.below hW HKx.out.lt).cell 3, (HKx.out.below hW HKx.out.lt).cell 4, (HKx.out.below hW HKx.out.lt).cell 5, (HKy.out.below hW HKy.out.lt).cell 0, (HKy.out.below hW HKy.out.lt).cell 1, (HKy.out.below hW HKy.out.lt).cell 2, (HKy.out.below hW HKy.out.lt).cell 3, (HKy.out.below hW HKy.out.lt).cell 4, (HKy.out.below hW HKy.out.lt).cell 5⟩
  clear hX HV HMd HKm HKd HBv HR HKx HKy Hbx Hsz
  go_wp2
  rw [← HX4.out]
  clear HX4 k0 d0 k1 d1 k2 d2 k3 d3 k4 d4 k5 d5 hwlt hdlt hwlt1 hwle1 hwne1 hdlt1 hdle1 hdne1 hwlt2 hwle2 hwne2 hdlt2 hdle2 hdne2 hwlt3 hwle3 hwne3 hdlt3 hdle3 hdne3 hwlt4 hwle4 hwne4 hdlt4 hdle4 hdne4 hwlt5 hwle5 hwne5 hdlt5 hdle5 hdne5 hwlt6 hwle6 hwne6 hdlt6 hdle6 hdne6
  go_loopw [13] (fun vk wr => ∃ k : Nat, vk = .int .i64 k ∧ k ≤ 8 ∧ Below X.heap.size X wr) (fun vk _ => 8 - (intOf vk).toNat)
  case atStart => exact ⟨0, rfl, by omega, Below.refl _ _⟩
  case round =>
    obtain ⟨k, rfl, hk, hbr⟩ := hrel
    have Hbr := Lib.hid hbr
    clear hbr
    by_cases hlt : k < 8
    · have hltI : (k : Int) < 8 := by omega
      go_wp2_with fail
      refine (subset_any mn k _ hmn3 hlt).mono ?_
      rintro e w9 ⟨L, v9, hL, hLl, rfl, hr9, hb9⟩
      have HB9 := Lib.hid (below_next Hbr.out (Nat.le_refl _) hb9)
      obtain ⟨z, hz⟩ : ∃ z, indT (dualOf (restOf (r.length : Int) r m)) L = z := ⟨_, rfl⟩
      have hz' := HXY.out L (inN_more hmnr hL)
      rw [hz] at hz'
      have Hr9 := Lib.hid hr9
      have HQ1 : Hid (∀ W, Below w9.heap.size w9 W → Calls Tryz.prog 11 #[.agg #[.int .i64 6, .int .i64 (r.length : Int), .int .i64 0, .int .i64 0, .slice (some ⟨w8.heap.size, 0, none⟩) 1 1, .slice (some ⟨w8.heap.size + 1, 0, none⟩) 1 1], v9] W fun e w' => e = .returned (.bool z) ∧ Below w9.heap.size w9 w') := Lib.hid fun W hW => by
        have hW2 := below_next HB9.out (Nat.le_refl _) hW
        rw [← hz']
        exact (HX.out L _ _ W (by omega) (HMx.out.up hW2) (Hr9.out.up hW) (HE.out.up hW2)).mono fun _ _ ⟨h2, h3⟩ => ⟨h2, below_next hW (Nat.le_refl _) h3⟩
      have HQ2 : Hid (∀ W, Below w9.heap.size w9 W → Calls Tryz.prog 11 #[.agg #[.int .i64 8, .int .i64 (r.length : Int), .int .i64 0, .int .i64 0, .slice none 0 0, .slice (some ⟨w8.heap.size + 1 + 1 + 1 + 1 + 1, 0, none⟩) 1 1], v9] W fun e w' => e = .returned (.bool z) ∧ Below w9.heap.size w9 w') := Lib.hid fun W hW => by
        have hW2 := below_next HB9.out (Nat.le_refl _) hW
        rw [← hz]
        exact (HY.out L _ _ W (by omega) (HMy.out.up hW2) (Hr9.out.up hW) (HE.out.up hW2)).mono fun _ _ ⟨h2, h3⟩ => ⟨h2, below_next hW (Nat.le_refl _) h3⟩
      have K2 : Hid (∀ W, Below w9.heap.size w9 W → W.cell? ⟨w8.heap.size + 1 + 1, 0, none⟩ = some (.int .i64 6) ∧ W.cell? ⟨w8.heap.size + 1 + 1, 1, none⟩ = some (.int .i64 (r.length : Int)) ∧ W.cell? ⟨w8.heap.size + 1 + 1, 2, none⟩ = some (.int .i64 0) ∧ W.cell? ⟨w8.heap.size + 1 + 1, 3, none⟩ = some (.int .i64 0) ∧ W.cell? ⟨w8.heap.size + 1 + 1, 4, none⟩ = some (.slice (some ⟨w8.heap.size, 0, none⟩) 1 1) ∧ W.cell? ⟨w8.heap.size + 1 + 1, 5, none⟩ = some (.slice (some ⟨w8.heap.size + 1, 0, none⟩) 1 1) ∧ W.cell? ⟨w8.heap.size + 1 + 1 + 1 + 1 + 1 + 1, 0, none⟩ = some (.int .i64 8) ∧ W.cell? ⟨w8.heap.size + 1 + 1 + 1 + 1 + 1 + 1, 1, none⟩ = some (.int .i64 (r.length : Int)) ∧ W.cell? ⟨w8.heap.size + 1 + 1 + 1 + 1 + 1 + 1, 2, none⟩ = some (.int .i64 0) ∧ W.cell? ⟨w8.heap.size + 1 + 1 + 1 + 1 + 1 + 1, 3, none⟩ = some (.int .i64 0) ∧ W.cell? ⟨w8.heap.size + 1 + 1 + 1 + 1 + 1 + 1, 4, none⟩ = some (.slice none 0 0) ∧ W.cell? ⟨w8.heap.size + 1 + 1 + 1 + 1 + 1 + 1, 5, none⟩ = some (.slice (some ⟨w8.heap.size + 1 + 1 + 1 + 1 + 1, 0, none⟩) 1 1)) := Lib.hid fun W hW => K1.out W (below_next HB9.out (Nat.le_refl _) hW)
      clear hz hz' hb9 hr9 hL hLl
      go_wp2
      refine wp_region_below w9.heap.size w9 (by kernel_rfl) (by kernel_rfl) (Below.refl _ _) ?_
      iterate 7 (first
        | go_big_quiet_step (with_reducible exact HQ1.out _)
        | go_big_quiet_step (with_reducible exact HQ2.out _)
        | (go_big_quiet_want; apply Exists.intro; refine ⟨fun W hW => ?_, ?_⟩; (· obtain ⟨k0, k1, k2, k3, k4, k5, k6, k7, k8, k9, k10, k11⟩ := K2.out W hW; go_simp; first | exact rfl | exact ⟨rfl, rfl⟩); go_simp; go_big_quiet_on))
      refine wpQuiet_nil ?_
      intro w10 hB10
      have HB10 := Lib.hid (below_next HB9.out (Nat.le_refl _) hB10)
      clear hB10
      go_wp2
      go_roundw
      case rel => exact ⟨k + 1, by go_num, by omega, HB10.out⟩
      case measure => simp [intOf]; omega
    · have hke : k = 8 := by omega
      subst hke
      go_wp2
      go_ret
      exact ⟨rfl, below_next Hb0.out (Nat.le_refl _) Hbr.out⟩

theorem duals_any (E : Nat → Addr) (m : Mat) (v sa : Value) (a : List Int) (sb : Value) (b : List Int) (w : World) (hv : MatV w w.heap.size v m) (hl : Lim m) (hra : Row w w.heap.size sa a) (hrb : Row w w.heap.size sb b) (hE : Env E w) : Calls Tryz.prog 4 #[v, sa, sb] w (Truly w) := by
  rcases hf : fewB 9 m 10 with _ | _
  · exact duals_1 E m v sa sb a b w hv hl hra hrb hE hf
  · rcases hma : mayI m a with _ | _
    · exact duals_2 E m v sa sb a b w hv hl hra hrb hE hf hma
    · rcases hmb : mayI m b with _ | _
      · exact duals_3 E m v sa sb a b w hv hl hra hrb hE hf hma hmb
      · by_cases h3 : dp 4 m ≤ 2
        · exact duals_main E m v sa sb a b w hv hl hra hrb hE hf hma hmb h3
        · exact duals_4 E m v sa sb a b w hv hl hra hrb hE hf hma hmb (by omega)

end Wp
end Go.Proofs.YtbjngggcpojefaaGreatDoor
