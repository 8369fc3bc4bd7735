/- IndepMinors, walked: it answers true. -/
import Derived.Test.YtbjngggcpojefaaGreatDoorIKeep
import Derived.Test.YtbjngggcpojefaaGreatDoorIMinP
import Derived.Test.YtbjngggcpojefaaGreatDoorZT
import Derived.Deep.RegionHeld3
namespace Go.Proofs.YtbjngggcpojefaaGreatDoor
open Go.RowKit
namespace Wp

set_option maxHeartbeats 16000000 in
set_option maxRecDepth 100000 in
theorem minors_1 (E : Nat → Addr) (m : Mat) (v sa sb : Value) (a b : List Int) (w : World) (hv : MatV w w.heap.size v m) (hl : Lim m) (hra : Row w w.heap.size sa a) (hrb : Row w w.heap.size sb b) (hE : Env E w) (hf : fewB 9 m 10 = false) : Calls Tryz.prog 6 #[v, sa, sb] w (Truly w) := by
  have Hf := Lib.hid hf
  clear hf
  have Hl := Lib.hid hl
  obtain ⟨lv, iv, hve, hl2, hi2⟩ := hv.open
  have Hb0 := Lib.hid (boxed_below w m lv iv)
  have HV := Lib.hid (hv.up Hb0.out)
  have HE := Lib.hid (hE.up Hb0.out)
  have HA := Lib.hid (hra.up Hb0.out)
  have HBv := Lib.hid (hrb.up Hb0.out)
  have Hblk := Lib.hid (boxed_blk w m lv iv)
  obtain ⟨Al, cl, rfl, _⟩ := hl2
  obtain ⟨Ai, ci, rfl, _⟩ := hi2
  obtain ⟨Aa, ca, hsa, hcapa, _⟩ := id hra
  obtain ⟨Ab, cb, hsb, hcapb, _⟩ := id hrb
  have haI : (a.length : Int) ≤ 9223372036854775807 := by have h1 := hcapa.1; have h2 := hcapa.2.1; unfold maxLen at h2; omega
  have hbI : (b.length : Int) ≤ 9223372036854775807 := by have h1 := hcapb.1; have h2 := hcapb.2.1; unfold maxLen at h2; omega
  subst hve hsa hsb
  unfold boxed at *
  clear hv hl hE hra hrb hcapa hcapb
  go_enter Tryz.func6, Tryz.ntmps6
  have hw0 := Hb0
  clear hw0
  go_wp2_with fail
  refine (fixed_any E _ HE.out).mono ?_
  rintro e w1 ⟨rfl, hb1⟩
  replace HE := Lib.hid (HE.out.up hb1)
  replace HV := Lib.hid (HV.out.up hb1)
  replace HA := Lib.hid (HA.out.up hb1)
  replace HBv := Lib.hid (HBv.out.up hb1)
  replace Hblk := Lib.hid (Hblk.out.below hb1 Hblk.out.lt)
  replace Hb0 := Lib.hid (below_next Hb0.out (Nat.le_refl _) hb1)
  clear hb1
  have k0 := Hblk.out.cell 0
  have k1 := Hblk.out.cell 1
  have k2 := Hblk.out.cell 2
  have k3 := Hblk.out.cell 3
  have k4 := Hblk.out.cell 4
  have k5 := Hblk.out.cell 5
  go_wp2_with fail
  refine (few_any m _ 10 _ HV.out Hl.out).mono ?_
  rintro e w2 ⟨rfl, hb2⟩
  rw [Hf.out]
  clear k0 k1 k2 k3 k4 k5
  replace HE := Lib.hid (HE.out.up hb2)
  replace HV := Lib.hid (HV.out.up hb2)
  replace HA := Lib.hid (HA.out.up hb2)
  replace HBv := Lib.hid (HBv.out.up hb2)
  replace Hblk := Lib.hid (Hblk.out.below hb2 Hblk.out.lt)
  replace Hb0 := Lib.hid (below_next Hb0.out (Nat.le_refl _) hb2)
  clear hb2
  go_wp2_with fail
  refine (fixed_any E _ HE.out).mono ?_
  rintro e w9 ⟨rfl, hb9⟩
  replace HE := Lib.hid (HE.out.up hb9)
  replace HV := Lib.hid (HV.out.up hb9)
  replace HA := Lib.hid (HA.out.up hb9)
  replace HBv := Lib.hid (HBv.out.up hb9)
  replace Hblk := Lib.hid (Hblk.out.below hb9 Hblk.out.lt)
  replace Hb0 := Lib.hid (below_next Hb0.out (Nat.le_refl _) hb9)
  clear hb9
  go_wp2
  go_ret
  exact ⟨rfl, Hb0.out⟩

set_option maxHeartbeats 16000000 in
set_option maxRecDepth 100000 in
theorem minors_2 (E : Nat → Addr) (m : Mat) (v sa sb : Value) (a b : List Int) (w : World) (hv : MatV w w.heap.size v m) (hl : Lim m) (hra : Row w w.heap.size sa a) (hrb : Row w w.heap.size sb b) (hE : Env E w) (hf : fewB 9 m 10 = true) (hma : mayI m a = false) : Calls Tryz.prog 6 #[v, sa, sb] w (Truly w) := by
  have Hf := Lib.hid hf
  have Hma := Lib.hid hma
  clear hf hma
  have Hl := Lib.hid hl
  obtain ⟨lv, iv, hve, hl2, hi2⟩ := hv.open
  have Hb0 := Lib.hid (boxed_below w m lv iv)
  have HV := Lib.hid (hv.up Hb0.out)
  have HE := Lib.hid (hE.up Hb0.out)
  have HA := Lib.hid (hra.up Hb0.out)
  have HBv := Lib.hid (hrb.up Hb0.out)
  have Hblk := Lib.hid (boxed_blk w m lv iv)
  obtain ⟨Al, cl, rfl, _⟩ := hl2
  obtain ⟨Ai, ci, rfl, _⟩ := hi2
  obtain ⟨Aa, ca, hsa, hcapa, _⟩ := id hra
  obtain ⟨Ab, cb, hsb, hcapb, _⟩ := id hrb
  have haI : (a.length : Int) ≤ 9223372036854775807 := by have h1 := hcapa.1; have h2 := hcapa.2.1; unfold maxLen at h2; omega
  have hbI : (b.length : Int) ≤ 9223372036854775807 := by have h1 := hcapb.1; have h2 := hcapb.2.1; unfold maxLen at h2; omega
  subst hve hsa hsb
  unfold boxed at *
  clear hv hl hE hra hrb hcapa hcapb
  go_enter Tryz.func6, Tryz.ntmps6
  have hw0 := Hb0
  clear hw0
  go_wp2_with fail
  refine (fixed_any E _ HE.out).mono ?_
  rintro e w1 ⟨rfl, hb1⟩
  replace HE := Lib.hid (HE.out.up hb1)
  replace HV := Lib.hid (HV.out.up hb1)
  replace HA := Lib.hid (HA.out.up hb1)
  replace HBv := Lib.hid (HBv.out.up hb1)
  replace Hblk := Lib.hid (Hblk.out.below hb1 Hblk.out.lt)
  replace Hb0 := Lib.hid (below_next Hb0.out (Nat.le_refl _) hb1)
  clear hb1
  have k0 := Hblk.out.cell 0
  have k1 := Hblk.out.cell 1
  have k2 := Hblk.out.cell 2
  have k3 := Hblk.out.cell 3
  have k4 := Hblk.out.cell 4
  have k5 := Hblk.out.cell 5
  go_wp2_with fail
  refine (few_any m _ 10 _ HV.out Hl.out).mono ?_
  rintro e w2 ⟨rfl, hb2⟩
  rw [Hf.out]
  clear k0 k1 k2 k3 k4 k5
  replace HE := Lib.hid (HE.out.up hb2)
  replace HV := Lib.hid (HV.out.up hb2)
  replace HA := Lib.hid (HA.out.up hb2)
  replace HBv := Lib.hid (HBv.out.up hb2)
  replace Hblk := Lib.hid (Hblk.out.below hb2 Hblk.out.lt)
  replace Hb0 := Lib.hid (below_next Hb0.out (Nat.le_refl _) hb2)
  clear hb2
  have k0 := Hblk.out.cell 0
  have k1 := Hblk.out.cell 1
  have k2 := Hblk.out.cell 2
  have k3 := Hblk.out.cell 3
  have k4 := Hblk.out.cell 4
  have k5 := Hblk.out.cell 5
  go_wp2_with fail
  refine (rmay10_any m _ _ a _ HV.out (few_sml Hf.out) HA.out).mono ?_
  rintro e w3 ⟨rfl, hb3⟩
  rw [Hma.out]
  clear k0 k1 k2 k3 k4 k5
  replace HE := Lib.hid (HE.out.up hb3)
  replace HV := Lib.hid (HV.out.up hb3)
  replace HA := Lib.hid (HA.out.up hb3)
  replace HBv := Lib.hid (HBv.out.up hb3)
  replace Hblk := Lib.hid (Hblk.out.below hb3 Hblk.out.lt)
  replace Hb0 := Lib.hid (below_next Hb0.out (Nat.le_refl _) hb3)
  clear hb3
  go_wp2_with fail
  refine (fixed_any E _ HE.out).mono ?_
  rintro e w9 ⟨rfl, hb9⟩
  replace HE := Lib.hid (HE.out.up hb9)
  replace HV := Lib.hid (HV.out.up hb9)
  replace HA := Lib.hid (HA.out.up hb9)
  replace HBv := Lib.hid (HBv.out.up hb9)
  replace Hblk := Lib.hid (Hblk.out.below hb9 Hblk.out.lt)
  replace Hb0 := Lib.hid (below_next Hb0.out (Nat.le_refl _) hb9)
  clear hb9
  go_wp2
  go_ret
  exact ⟨rfl, Hb0.out⟩

set_option maxHeartbeats 16000000 in
set_option maxRecDepth 100000 in
theorem minors_3 (E : Nat → Addr) (m : Mat) (v sa sb : Value) (a b : List Int) (w : World) (hv : MatV w w.heap.size v m) (hl : Lim m) (hra : Row w w.heap.size sa a) (hrb : Row w w.heap.size sb b) (hE : Env E w) (hf : fewB 9 m 10 = true) (hma : mayI m a = true) (hmb : mayI m b = false) : Calls Tryz.prog 6 #[v, sa, sb] w (Truly w) := by
  have Hf := Lib.hid hf
  have Hma := Lib.hid hma
  have Hmb := Lib.hid hmb
  clear hf hma hmb
  have Hl := Lib.hid hl
  obtain ⟨lv, iv, hve, hl2, hi2⟩ := hv.open
  have Hb0 := Lib.hid (boxed_below w m lv iv)
  have HV := Lib.hid (hv.up Hb0.out)
  have HE := Lib.hid (hE.up Hb0.out)
  have HA := Lib.hid (hra.up Hb0.out)
  have HBv := Lib.hid (hrb.up Hb0.out)
  have Hblk := Lib.hid (boxed_blk w m lv iv)
  obtain ⟨Al, cl, rfl, _⟩ := hl2
  obtain ⟨Ai, ci, rfl, _⟩ := hi2
  obtain ⟨Aa, ca, hsa, hcapa, _⟩ := id hra
  obtain ⟨Ab, cb, hsb, hcapb, _⟩ := id hrb
  have haI : (a.length : Int) ≤ 9223372036854775807 := by have h1 := hcapa.1; have h2 := hcapa.2.1; unfold maxLen at h2; omega
  have hbI : (b.length : Int) ≤ 9223372036854775807 := by have h1 := hcapb.1; have h2 := hcapb.2.1; unfold maxLen at h2; omega
  subst hve hsa hsb
  unfold boxed at *
  clear hv hl hE hra hrb hcapa hcapb
  go_enter Tryz.func6, Tryz.ntmps6
  have hw0 := Hb0
  clear hw0
  go_wp2_with fail
  refine (fixed_any E _ HE.out).mono ?_
  rintro e w1 ⟨rfl, hb1⟩
  replace HE := Lib.hid (HE.out.up hb1)
  replace HV := Lib.hid (HV.out.up hb1)
  replace HA := Lib.hid (HA.out.up hb1)
  replace HBv := Lib.hid (HBv.out.up hb1)
  replace Hblk := Lib.hid (Hblk.out.below hb1 Hblk.out.lt)
  replace Hb0 := Lib.hid (below_next Hb0.out (Nat.le_refl _) hb1)
  clear hb1
  have k0 := Hblk.out.cell 0
  have k1 := Hblk.out.cell 1
  have k2 := Hblk.out.cell 2
  have k3 := Hblk.out.cell 3
  have k4 := Hblk.out.cell 4
  have k5 := Hblk.out.cell 5
  go_wp2_with fail
  refine (few_any m _ 10 _ HV.out Hl.out).mono ?_
  rintro e w2 ⟨rfl, hb2⟩
  rw [Hf.out]
  clear k0 k1 k2 k3 k4 k5
  replace HE := Lib.hid (HE.out.up hb2)
  replace HV := Lib.hid (HV.out.up hb2)
  replace HA := Lib.hid (HA.out.up hb2)
  replace HBv := Lib.hid (HBv.out.up hb2)
  replace Hblk := Lib.hid (Hblk.out.below hb2 Hblk.out.lt)
  replace Hb0 := Lib.hid (below_next Hb0.out (Nat.le_refl _) hb2)
  clear hb2
  have k0 := Hblk.out.cell 0
  have k1 := Hblk.out.cell 1
  have k2 := Hblk.out.cell 2
  have k3 := Hblk.out.cell 3
  have k4 := Hblk.out.cell 4
  have k5 := Hblk.out.cell 5
  go_wp2_with fail
  refine (rmay10_any m _ _ a _ HV.out (few_sml Hf.out) HA.out).mono ?_
  rintro e w3 ⟨rfl, hb3⟩
  rw [Hma.out]
  clear k0 k1 k2 k3 k4 k5
  replace HE := Lib.hid (HE.out.up hb3)
  replace HV := Lib.hid (HV.out.up hb3)
  replace HA := Lib.hid (HA.out.up hb3)
  replace HBv := Lib.hid (HBv.out.up hb3)
  replace Hblk := Lib.hid (Hblk.out.below hb3 Hblk.out.lt)
  replace Hb0 := Lib.hid (below_next Hb0.out (Nat.le_refl _) hb3)
  clear hb3
  have k0 := Hblk.out.cell 0
  have k1 := Hblk.out.cell 1
  have k2 := Hblk.out.cell 2
  have k3 := Hblk.out.cell 3
  have k4 := Hblk.out.cell 4
  have k5 := Hblk.out.cell 5
  go_wp2_with fail
  refine (rmay10_any m _ _ b _ HV.out (few_sml Hf.out) HBv.out).mono ?_
  rintro e w4 ⟨rfl, hb4⟩
  rw [Hmb.out]
  clear k0 k1 k2 k3 k4 k5
  replace HE := Lib.hid (HE.out.up hb4)
  replace HV := Lib.hid (HV.out.up hb4)
  replace HA := Lib.hid (HA.out.up hb4)
  replace HBv := Lib.hid (HBv.out.up hb4)
  replace Hblk := Lib.hid (Hblk.out.below hb4 Hblk.out.lt)
  replace Hb0 := Lib.hid (below_next Hb0.out (Nat.le_refl _) hb4)
  clear hb4
  go_wp2_with fail
  refine (fixed_any E _ HE.out).mono ?_
  rintro e w9 ⟨rfl, hb9⟩
  replace HE := Lib.hid (HE.out.up hb9)
  replace HV := Lib.hid (HV.out.up hb9)
  replace HA := Lib.hid (HA.out.up hb9)
  replace HBv := Lib.hid (HBv.out.up hb9)
  replace Hblk := Lib.hid (Hblk.out.below hb9 Hblk.out.lt)
  replace Hb0 := Lib.hid (below_next Hb0.out (Nat.le_refl _) hb9)
  clear hb9
  go_wp2
  go_ret
  exact ⟨rfl, Hb0.out⟩

set_option maxHeartbeats 16000000 in
set_option maxRecDepth 100000 in
theorem minors_4 (E : Nat → Addr) (m : Mat) (v sa sb : Value) (a b : List Int) (w : World) (hv : MatV w w.heap.size v m) (hl : Lim m) (hra : Row w w.heap.size sa a) (hrb : Row w w.heap.size sb b) (hE : Env E w) (hf : fewB 9 m 10 = true) (hma : mayI m a = true) (hmb : mayI m b = true) (h3 : 3 < dp 4 m) : Calls Tryz.prog 6 #[v, sa, sb] w (Truly w) := by
  have Hf := Lib.hid hf
  have Hma := Lib.hid hma
  have Hmb := Lib.hid hmb
  obtain ⟨P, hP⟩ : ∃ P : Nat, dp 4 m = P := ⟨_, rfl⟩
  have HP : Hid (deepI m = (P : Int)) := Lib.hid (by rw [← hP]; rfl)
  rw [hP] at h3
  have h3I : (3 : Int) < (P : Int) := by omega
  clear hf hma hmb hP h3
  have Hl := Lib.hid hl
  obtain ⟨lv, iv, hve, hl2, hi2⟩ := hv.open
  have Hb0 := Lib.hid (boxed_below w m lv iv)
  have HV := Lib.hid (hv.up Hb0.out)
  have HE := Lib.hid (hE.up Hb0.out)
  have HA := Lib.hid (hra.up Hb0.out)
  have HBv := Lib.hid (hrb.up Hb0.out)
  have Hblk := Lib.hid (boxed_blk w m lv iv)
  obtain ⟨Al, cl, rfl, _⟩ := hl2
  obtain ⟨Ai, ci, rfl, _⟩ := hi2
  obtain ⟨Aa, ca, hsa, hcapa, _⟩ := id hra
  obtain ⟨Ab, cb, hsb, hcapb, _⟩ := id hrb
  have haI : (a.length : Int) ≤ 9223372036854775807 := by have h1 := hcapa.1; have h2 := hcapa.2.1; unfold maxLen at h2; omega
  have hbI : (b.length : Int) ≤ 9223372036854775807 := by have h1 := hcapb.1; have h2 := hcapb.2.1; unfold maxLen at h2; omega
  subst hve hsa hsb
  unfold boxed at *
  clear hv hl hE hra hrb hcapa hcapb
  go_enter Tryz.func6, Tryz.ntmps6
  have hw0 := Hb0
  clear hw0
  go_wp2_with fail
  refine (fixed_any E _ HE.out).mono ?_
  rintro e w1 ⟨rfl, hb1⟩
  replace HE := Lib.hid (HE.out.up hb1)
  replace HV := Lib.hid (HV.out.up hb1)
  replace HA := Lib.hid (HA.out.up hb1)
  replace HBv := Lib.hid (HBv.out.up hb1)
  replace Hblk := Lib.hid (Hblk.out.below hb1 Hblk.out.lt)
  replace Hb0 := Lib.hid (below_next Hb0.out (Nat.le_refl _) hb1)
  clear hb1
  have k0 := Hblk.out.cell 0
  have k1 := Hblk.out.cell 1
  have k2 := Hblk.out.cell 2
  have k3 := Hblk.out.cell 3
  have k4 := Hblk.out.cell 4
  have k5 := Hblk.out.cell 5
  go_wp2_with fail
  refine (few_any m _ 10 _ HV.out Hl.out).mono ?_
  rintro e w2 ⟨rfl, hb2⟩
  rw [Hf.out]
  clear k0 k1 k2 k3 k4 k5
  replace HE := Lib.hid (HE.out.up hb2)
  replace HV := Lib.hid (HV.out.up hb2)
  replace HA := Lib.hid (HA.out.up hb2)
  replace HBv := Lib.hid (HBv.out.up hb2)
  replace Hblk := Lib.hid (Hblk.out.below hb2 Hblk.out.lt)
  replace Hb0 := Lib.hid (below_next Hb0.out (Nat.le_refl _) hb2)
  clear hb2
  have k0 := Hblk.out.cell 0
  have k1 := Hblk.out.cell 1
  have k2 := Hblk.out.cell 2
  have k3 := Hblk.out.cell 3
  have k4 := Hblk.out.cell 4
  have k5 := Hblk.out.cell 5
  go_wp2_with fail
  refine (rmay10_any m _ _ a _ HV.out (few_sml Hf.out) HA.out).mono ?_
  rintro e w3 ⟨rfl, hb3⟩
  rw [Hma.out]
  clear k0 k1 k2 k3 k4 k5
  replace HE := Lib.hid (HE.out.up hb3)
  replace HV := Lib.hid (HV.out.up hb3)
  replace HA := Lib.hid (HA.out.up hb3)
  replace HBv := Lib.hid (HBv.out.up hb3)
  replace Hblk := Lib.hid (Hblk.out.below hb3 Hblk.out.lt)
  replace Hb0 := Lib.hid (below_next Hb0.out (Nat.le_refl _) hb3)
  clear hb3
  have k0 := Hblk.out.cell 0
  have k1 := Hblk.out.cell 1
  have k2 := Hblk.out.cell 2
  have k3 := Hblk.out.cell 3
  have k4 := Hblk.out.cell 4
  have k5 := Hblk.out.cell 5
  go_wp2_with fail
  refine (rmay10_any m _ _ b _ HV.out (few_sml Hf.out) HBv.out).mono ?_
  rintro e w4 ⟨rfl, hb4⟩
  rw [Hmb.out]
  clear k0 k1 k2 k3 k4 k5
  replace HE := Lib.hid (HE.out.up hb4)
  replace HV := Lib.hid (HV.out.up hb4)
  replace HA := Lib.hid (HA.out.up hb4)
  replace HBv := Lib.hid (HBv.out.up hb4)
  replace Hblk := Lib.hid (Hblk.out.below hb4 Hblk.out.lt)
  replace Hb0 := Lib.hid (below_next Hb0.out (Nat.le_refl _) hb4)
  clear hb4
  have k0 := Hblk.out.cell 0
  have k1 := Hblk.out.cell 1
  have k2 := Hblk.out.cell 2
  have k3 := Hblk.out.cell 3
  have k4 := Hblk.out.cell 4
  have k5 := Hblk.out.cell 5
  go_wp2_with fail
  refine (rDeepl_any m _ _ HV.out Hl.out).mono ?_
  rintro e w5 ⟨rfl, hb5⟩
  rw [HP.out]
  clear k0 k1 k2 k3 k4 k5
  replace HE := Lib.hid (HE.out.up hb5)
  replace HV := Lib.hid (HV.out.up hb5)
  replace HA := Lib.hid (HA.out.up hb5)
  replace HBv := Lib.hid (HBv.out.up hb5)
  replace Hblk := Lib.hid (Hblk.out.below hb5 Hblk.out.lt)
  replace Hb0 := Lib.hid (below_next Hb0.out (Nat.le_refl _) hb5)
  clear hb5
  go_wp2_with fail
  refine (fixed_any E _ HE.out).mono ?_
  rintro e w9 ⟨rfl, hb9⟩
  replace HE := Lib.hid (HE.out.up hb9)
  replace HV := Lib.hid (HV.out.up hb9)
  replace HA := Lib.hid (HA.out.up hb9)
  replace HBv := Lib.hid (HBv.out.up hb9)
  replace Hblk := Lib.hid (Hblk.out.below hb9 Hblk.out.lt)
  replace Hb0 := Lib.hid (below_next Hb0.out (Nat.le_refl _) hb9)
  clear hb9
  go_wp2
  go_ret
  exact ⟨rfl, Hb0.out⟩

set_option maxHeartbeats 16000000 in
set_option maxRecDepth 100000 in
theorem minors_main (E : Nat → Addr) (m : Mat) (v sa sb : Value) (a b : List Int) (w : World) (hv : MatV w w.heap.size v m) (hl : Lim m) (hra : Row w w.heap.size sa a) (hrb : Row w w.heap.size sb b) (hE : Env E w) (hf : fewB 9 m 10 = true) (hma : mayI m a = true) (hmb : mayI m b = true) (h3 : dp 4 m ≤ 3) : Calls Tryz.prog 6 #[v, sa, sb] w (Truly w) := by
  have Hf := Lib.hid hf
  have Hma := Lib.hid hma
  have Hmb := Lib.hid hmb
  obtain ⟨e1, hg64, p, q, e2, e3, hqp, hp64, e4⟩ := minors_fact (s := b) hma h3
  have hla := inN_len (mayI_iff.1 hma).2
  have hlb := inN_len (mayI_iff.1 hmb).2
  have hc := (mayI_iff.1 hma).1
  have hn64 := (nN_cast hc).2
  have hla1 : a.length ≤ 1048576 := by omega
  have hlb1 : b.length ≤ 1048576 := by omega
  have hn := chk_n hc
  have hlr := inN_len (inN_rest hn.1 hn.2 (mayI_iff.1 hma).2.1)
  have hnn : nN m = m.n.toNat := rfl
  have hall := all_len m.n
  obtain ⟨p0, ep⟩ : ∃ p0, rankT m (gotL b a a.length) = p0 := ⟨_, rfl⟩
  rw [ep] at e1
  have hmb2 : mayB b = true := mayB_of (mayI_iff.1 hmb).2.1
  obtain ⟨r, hr⟩ : ∃ r, minusL (allL m.n) a = r := ⟨_, rfl⟩
  rw [hr] at e2 e4 hlr
  have Hmin := Lib.hid hr
  have hr64 : r.length ≤ 64 := by omega
  have ha64 : a.length ≤ 64 := by omega
  have hr64I : (r.length : Int) ≤ 64 := by omega
  have ha64I : (a.length : Int) ≤ 64 := by omega
  have hlu : (unionL a (gotL b r r.length)).length ≤ 1048576 := by
    have := union_length a (gotL b r r.length)
    rw [got_len] at this
    have := plc_len b r r.length
    omega
  have hg1 : (plcL b a a.length).length ≤ 1048576 := by have := plc_len b a a.length; omega
  have hg2 : (plcL b r r.length).length ≤ 1048576 := by have := plc_len b r r.length; omega
  have hg3 : (gotL b r r.length).length ≤ 1048576 := by rw [got_len]; exact hg2
  have hsub : IntKind.i64.wrap ((p : Int) - (q : Int)) = (p : Int) - (q : Int) := by rw [IntKind.wrap_i64]; omega
  obtain ⟨P, hP⟩ : ∃ P : Nat, dp 4 m = P := ⟨_, rfl⟩
  have HP : Hid (deepI m = (P : Int)) := Lib.hid (by rw [← hP]; rfl)
  rw [hP] at h3
  have h3I : (P : Int) ≤ 3 := by omega
  have Hs := Lib.hid (few_sml Hf.out)
  have Hs1 : Hid (Sml (restOf (a.length : Int) a m)) := Lib.hid (sml_row (by omega) Hs.out)
  have Hs2 : Hid (Sml (contOf (r.length : Int) a m)) := Lib.hid (sml_row (by omega) Hs.out)
  have HR1 : Hid (∀ (v sv : Value) (W : World), MatV W W.heap.size v (restOf (a.length : Int) a m) → Row W W.heap.size sv (plcL b a a.length) → Env E W → Calls Tryz.prog 17 #[v, sv] W (Tells W p0)) := Lib.hid fun v sv W h1 h2 h3 => by rw [← e1]; exact irank_any E _ _ sv _ W h1 Hs1.out h2 hg1 h3
  have HR2 : Hid (∀ (v sv : Value) (W : World), MatV W W.heap.size v m → Row W W.heap.size sv (gotL b a a.length) → Env E W → Calls Tryz.prog 17 #[v, sv] W (Tells W p0)) := Lib.hid fun v sv W h1 h2 h3 => by rw [← ep]; exact irank_any E _ _ sv _ W h1 Hs.out h2 (by omega) h3
  have HR3 : Hid (∀ (v sv : Value) (W : World), MatV W W.heap.size v (contOf (r.length : Int) a m) → Row W W.heap.size sv (plcL b r r.length) → Env E W → Calls Tryz.prog 17 #[v, sv] W (Tells W ((p : Int) - (q : Int)))) := Lib.hid fun v sv W h1 h2 h3 => by rw [← e4]; exact irank_any E _ _ sv _ W h1 Hs2.out h2 hg2 h3
  have HR4 : Hid (∀ (v sv : Value) (W : World), MatV W W.heap.size v m → Row W W.heap.size sv (unionL a (gotL b r r.length)) → Env E W → Calls Tryz.prog 17 #[v, sv] W (Tells W (p : Int))) := Lib.hid fun v sv W h1 h2 h3 => by rw [← e2]; exact irank_any E _ _ sv _ W h1 Hs.out h2 hlu h3
  have HR5 : Hid (∀ (v sv : Value) (W : World), MatV W W.heap.size v m → Row W W.heap.size sv a → Env E W → Calls Tryz.prog 17 #[v, sv] W (Tells W (q : Int))) := Lib.hid fun v sv W h1 h2 h3 => by rw [← e3]; exact irank_any E _ _ sv _ W h1 Hs.out h2 hla1 h3
  have HRU : Hid (∀ (va vb : Value) (W : World), Row W W.heap.size va a → Row W W.heap.size vb (gotL b r r.length) → Calls Tryz.prog 14 #[va, vb] W (Gives W (unionL a (gotL b r r.length)))) := Lib.hid fun va vb W h1 h2 => refunion_any va vb a _ W h1 h2 hla1 hg3
  have Hyes := Lib.hid (fun x => hasB_is (l := b) hmb2 x)
  have HNa := Lib.hid (fun k (h : b.contains (a.getD k 0) = false) => And.intro (plc_no (s := b) (l := a) (k := k) h) (got_no (s := b) (l := a) (k := k) h))
  have HYa := Lib.hid (fun k (h : b.contains (a.getD k 0) = true) => And.intro (plc_yes (s := b) (l := a) (k := k) h) (got_yes (s := b) (l := a) (k := k) h))
  have HNr := Lib.hid (fun k (h : b.contains (r.getD k 0) = false) => And.intro (plc_no (s := b) (l := r) (k := k) h) (got_no (s := b) (l := r) (k := k) h))
  have HYr := Lib.hid (fun k (h : b.contains (r.getD k 0) = true) => And.intro (plc_yes (s := b) (l := r) (k := k) h) (got_yes (s := b) (l := r) (k := k) h))
  have Hpl := Lib.hid (fun (l : List Int) k => plc_len b l k)
  have Hgl := Lib.hid (fun (l : List Int) k => got_len b l k)
  clear e1 e2 e3 e4 ep hP h3 hf hma hmb hla hlb hc hn64 hn hlr hnn hr hg64 hqp hp64 hmb2
  have Hl := Lib.hid hl
  obtain ⟨lv, iv, hve, hl2, hi2⟩ := hv.open
  have Hb0 := Lib.hid (boxed_below w m lv iv)
  have HV := Lib.hid (hv.up Hb0.out)
  have HE := Lib.hid (hE.up Hb0.out)
  have HA := Lib.hid (hra.up Hb0.out)
  have HBv := Lib.hid (hrb.up Hb0.out)
  have Hblk := Lib.hid (boxed_blk w m lv iv)
  obtain ⟨Al, cl, rfl, _⟩ := hl2
  obtain ⟨Ai, ci, rfl, _⟩ := hi2
  obtain ⟨Aa, ca, hsa, hcapa, _⟩ := id hra
  obtain ⟨Ab, cb, hsb, hcapb, _⟩ := id hrb
  have haI : (a.length : Int) ≤ 9223372036854775807 := by have h1 := hcapa.1; have h2 := hcapa.2.1; unfold maxLen at h2; omega
  have hbI : (b.length : Int) ≤ 9223372036854775807 := by have h1 := hcapb.1; have h2 := hcapb.2.1; unfold maxLen at h2; omega
  subst hve hsa hsb
  unfold boxed at *
  clear hv hl hE hra hrb hcapa hcapb
  go_enter Tryz.func6, Tryz.ntmps6
  have hw0 := Hb0
  clear hw0
  go_wp2_with fail
  refine (fixed_any E _ HE.out).mono ?_
  rintro e w1 ⟨rfl, hb1⟩
  replace HE := Lib.hid (HE.out.up hb1)
  replace HV := Lib.hid (HV.out.up hb1)
  replace HA := Lib.hid (HA.out.up hb1)
  replace HBv := Lib.hid (HBv.out.up hb1)
  replace Hblk := Lib.hid (Hblk.out.below hb1 Hblk.out.lt)
  replace Hb0 := Lib.hid (below_next Hb0.out (Nat.le_refl _) hb1)
  clear hb1
  have k0 := Hblk.out.cell 0
  have k1 := Hblk.out.cell 1
  have k2 := Hblk.out.cell 2
  have k3 := Hblk.out.cell 3
  have k4 := Hblk.out.cell 4
  have k5 := Hblk.out.cell 5
  go_wp2_with fail
  refine (few_any m _ 10 _ HV.out Hl.out).mono ?_
  rintro e w2 ⟨rfl, hb2⟩
  rw [Hf.out]
  clear k0 k1 k2 k3 k4 k5
  replace HE := Lib.hid (HE.out.up hb2)
  replace HV := Lib.hid (HV.out.up hb2)
  replace HA := Lib.hid (HA.out.up hb2)
  replace HBv := Lib.hid (HBv.out.up hb2)
  replace Hblk := Lib.hid (Hblk.out.below hb2 Hblk.out.lt)
  replace Hb0 := Lib.hid (below_next Hb0.out (Nat.le_refl _) hb2)
  clear hb2
  have k0 := Hblk.out.cell 0
  have k1 := Hblk.out.cell 1
  have k2 := Hblk.out.cell 2
  have k3 := Hblk.out.cell 3
  have k4 := Hblk.out.cell 4
  have k5 := Hblk.out.cell 5
  go_wp2_with fail
  refine (rmay10_any m _ _ a _ HV.out (few_sml Hf.out) HA.out).mono ?_
  rintro e w3 ⟨rfl, hb3⟩
  rw [Hma.out]
  clear k0 k1 k2 k3 k4 k5
  replace HE := Lib.hid (HE.out.up hb3)
  replace HV := Lib.hid (HV.out.up hb3)
  replace HA := Lib.hid (HA.out.up hb3)
  replace HBv := Lib.hid (HBv.out.up hb3)
  replace Hblk := Lib.hid (Hblk.out.below hb3 Hblk.out.lt)
  replace Hb0 := Lib.hid (below_next Hb0.out (Nat.le_refl _) hb3)
  clear hb3
  have k0 := Hblk.out.cell 0
  have k1 := Hblk.out.cell 1
  have k2 := Hblk.out.cell 2
  have k3 := Hblk.out.cell 3
  have k4 := Hblk.out.cell 4
  have k5 := Hblk.out.cell 5
  go_wp2_with fail
  refine (rmay10_any m _ _ b _ HV.out (few_sml Hf.out) HBv.out).mono ?_
  rintro e w4 ⟨rfl, hb4⟩
  rw [Hmb.out]
  clear k0 k1 k2 k3 k4 k5
  replace HE := Lib.hid (HE.out.up hb4)
  replace HV := Lib.hid (HV.out.up hb4)
  replace HA := Lib.hid (HA.out.up hb4)
  replace HBv := Lib.hid (HBv.out.up hb4)
  replace Hblk := Lib.hid (Hblk.out.below hb4 Hblk.out.lt)
  replace Hb0 := Lib.hid (below_next Hb0.out (Nat.le_refl _) hb4)
  clear hb4
  have k0 := Hblk.out.cell 0
  have k1 := Hblk.out.cell 1
  have k2 := Hblk.out.cell 2
  have k3 := Hblk.out.cell 3
  have k4 := Hblk.out.cell 4
  have k5 := Hblk.out.cell 5
  go_wp2_with fail
  refine (rDeepl_any m _ _ HV.out Hl.out).mono ?_
  rintro e w5 ⟨rfl, hb5⟩
  rw [HP.out]
  clear k0 k1 k2 k3 k4 k5
  replace HE := Lib.hid (HE.out.up hb5)
  replace HV := Lib.hid (HV.out.up hb5)
  replace HA := Lib.hid (HA.out.up hb5)
  replace HBv := Lib.hid (HBv.out.up hb5)
  replace Hblk := Lib.hid (Hblk.out.below hb5 Hblk.out.lt)
  replace Hb0 := Lib.hid (below_next Hb0.out (Nat.le_refl _) hb5)
  clear hb5
  have k1 := Hblk.out.cell 1
  go_wp2_with fail
  refine (refall_any m.n _).mono ?_
  rintro e w6 ⟨v6, rfl, hr6, hb6⟩
  clear k1
  replace HE := Lib.hid (HE.out.up hb6)
  replace HV := Lib.hid (HV.out.up hb6)
  replace HA := Lib.hid (HA.out.up hb6)
  replace HBv := Lib.hid (HBv.out.up hb6)
  replace Hblk := Lib.hid (Hblk.out.below hb6 Hblk.out.lt)
  replace Hb0 := Lib.hid (below_next Hb0.out (Nat.le_refl _) hb6)
  clear hb6
  go_wp2_with fail
  refine (refminus_any _ _ (allL m.n) a _ hr6 HA.out (by omega) hla1).mono ?_
  rintro e w7 ⟨v7, rfl, hr7, hb7⟩
  rw [Hmin.out] at hr7
  replace HE := Lib.hid (HE.out.up hb7)
  replace HV := Lib.hid (HV.out.up hb7)
  replace HA := Lib.hid (HA.out.up hb7)
  replace HBv := Lib.hid (HBv.out.up hb7)
  replace Hblk := Lib.hid (Hblk.out.below hb7 Hblk.out.lt)
  replace Hb0 := Lib.hid (below_next Hb0.out (Nat.le_refl _) hb7)
  clear hb7
  obtain ⟨Ar, cr, rfl, hcr, _⟩ := id hr7
  have HR := Lib.hid hr7
  clear hr6 hr7 hcr
  have HB := Lib.hid (Below.refl w7.heap.size w7)
  have F0 : Hid (Fam ((((w7.alloc (.cells #[] 3)).alloc (.cells #[] 3)).alloc (.cells #[] 3)).alloc (.cells #[] 3)) w7.heap.size [.slice (some ⟨w7.heap.size, 0, none⟩) 0 0, .slice (some ⟨w7.heap.size + 1, 0, none⟩) 0 0, .slice (some ⟨w7.heap.size + 1 + 1, 0, none⟩) 0 0, .slice (some ⟨w7.heap.size + 1 + 1 + 1, 0, none⟩) 0 0] [[], [], [], []]) := Lib.hid (by
    have h1 := (fam_nil w7 w7.heap.size).lit (Nat.le_refl _)
    have h2 := h1.lit (by rw [size_more]; omega)
    have h3 := h2.lit (by simp only [size_more]; omega)
    have h4 := h3.lit (by simp only [size_more]; omega)
    simp only [size_more] at h4
    exact h4)
  have Hb8 : Hid (Below w7.heap.size w7 ((((w7.alloc (.cells #[] 3)).alloc (.cells #[] 3)).alloc (.cells #[] 3)).alloc (.cells #[] 3))) := Lib.hid (((((Below.refl _ _).alloc (Nat.le_refl _) _).alloc (by simp only [size_more]; omega) _).alloc (by simp only [size_more]; omega) _).alloc (by simp only [size_more]; omega) _)
  clear HB
  go_wp2
  go_loopw [8, 10, 12] (fun v8 v10 vk wr => ∃ k : Nat, vk = .int .i64 k ∧ k ≤ a.length ∧ Fam wr w7.heap.size [v8, .slice (some ⟨w7.heap.size + 1, 0, none⟩) 0 0, v10, .slice (some ⟨w7.heap.size + 1 + 1 + 1, 0, none⟩) 0 0] [plcL b a k, [], gotL b a k, []] ∧ Below w7.heap.size w7 wr) (fun _ _ vk _ => a.length - (intOf vk).toNat)
  case atStart => exact ⟨0, rfl, Nat.zero_le _, F0.out, Hb8.out⟩
  case round =>
    clear F0 Hb8
    obtain ⟨k, rfl, hk, hfam, hbr⟩ := hrel
    have Hbr := Lib.hid hbr
    have F1 := Lib.hid hfam
    clear hfam hbr
    by_cases hlt : k < a.length
    · have hltI : (k : Int) < (a.length : Int) := by omega
      obtain ⟨ad, hAa, hcl⟩ := Row.nth HA.out hlt
      subst hAa
      have Hcl := Lib.hid hcl
      clear hcl
      obtain ⟨z, hz⟩ : ∃ z, a.getD k 0 = z := ⟨_, rfl⟩
      have Hz := Lib.hid hz
      have g1 := Hcl.out wr Hbr.out
      rw [hz] at g1
      obtain ⟨bb, hbb⟩ : ∃ bb, hasB b z = bb := ⟨_, rfl⟩
      have Hbb := Lib.hid hbb
      have HN' : Hid (bb = false → plcL b a (k + 1) = plcL b a k ∧ gotL b a (k + 1) = gotL b a k) := Lib.hid fun h => HNa.out k (by rw [hz, ← Hyes.out, hbb, h])
      have HY' : Hid (bb = true → plcL b a (k + 1) = plcL b a k ++ [(k : Int)] ∧ gotL b a (k + 1) = gotL b a k ++ [z]) := Lib.hid fun h => by rw [← hz]; exact HYa.out k (by rw [hz, ← Hyes.out, hbb, h])
      clear hz hbb
      go_wp2_with fail
      refine (refhas_any _ b z _ (HBv.out.up Hbr.out) hlb1).mono ?_
      rintro e w8 ⟨rfl, hb8⟩
      rw [Hbb.out]
      have Hb8 := Lib.hid (below_next Hbr.out (Nat.le_refl _) hb8)
      have F2 := Lib.hid (F1.out.bel hb8)
      clear hb8 g1 F1 Hbr
      cases bb
      · obtain ⟨n1, n2⟩ := HN'.out rfl
        rw [← n1, ← n2] at F2
        clear n1 n2
        go_wp2
        go_roundw
        case rel => exact ⟨k + 1, by go_num, by omega, F2.out, Hb8.out⟩
        case measure => simp [intOf]; omega
      · obtain ⟨n1, n2⟩ := HY'.out rfl
        have N1 := Lib.hid n1
        have N2 := Lib.hid n2
        clear n1 n2
        have F_a := Lib.hid (F2.out.bel ((Below.refl w8.heap.size w8).alloc (Nat.le_refl _) (.cells #[.int .i64 (k : Int)] 3)))
        have O_a := Lib.hid (F_a.out.own 0 rfl rfl)
        have C_a : Hid ((w8.alloc (.cells #[.int .i64 (k : Int)] 3)).cell? ⟨w8.heap.size, 0, none⟩ = some (.int .i64 (k : Int))) := (Blk.new w8 3 #[.int .i64 (k : Int)]).cell 0
        have Hb_a := Lib.hid (Hb8.out.alloc Hb8.out.size (.cells #[.int .i64 (k : Int)] 3))
        go_wp2_with (at_builtin; refine wpList_append_cell rfl _ _ 26 3 (.int .i64 0) 8 rfl Tryz.underlying26 info3 rfl w7.heap.size _ (.int .i64 (k : Int)) (ints (plcL b a k)) rfl O_a.out w8.heap.size rfl C_a.out rfl (by rw [ints_length]; have := Hpl.out a k; omega) (by omega) Hb_a.out.size ?_)
        intro v8' w9 hown hgr hloc
        have F3 := Lib.hid (F_a.out.grow (at_ := 0) (u' := v8') (q := plcL b a k ++ [(k : Int)]) rfl hgr (by rw [← ints_length, ints_append]; rw [List.length_append]; exact hown) (by rw [size_more]; exact hloc))
        have Hb9 := Lib.hid (Hb_a.out.grown hgr Hb_a.out.size (fun k hk => (O_a.out.lt k hk).1))
        clear hown hgr hloc F_a O_a C_a Hb_a
        have g2 := Hcl.out w9 Hb9.out
        rw [Hz.out] at g2
        have F_a := Lib.hid (F3.out.bel ((Below.refl w9.heap.size w9).alloc (Nat.le_refl _) (.cells #[.int .i64 z] 3)))
        have O_a := Lib.hid (F_a.out.own 2 rfl rfl)
        have C_a : Hid ((w9.alloc (.cells #[.int .i64 z] 3)).cell? ⟨w9.heap.size, 0, none⟩ = some (.int .i64 z)) := (Blk.new w9 3 #[.int .i64 z]).cell 0
        have Hb_a := Lib.hid (Hb9.out.alloc Hb9.out.size (.cells #[.int .i64 z] 3))
        go_wp2_with (at_builtin; refine wpList_append_cell rfl _ _ 26 3 (.int .i64 0) 8 rfl Tryz.underlying26 info3 rfl w7.heap.size _ (.int .i64 z) (ints (gotL b a k)) rfl O_a.out w9.heap.size rfl C_a.out rfl (by rw [ints_length, Hgl.out]; have := Hpl.out a k; omega) (by omega) Hb_a.out.size ?_)
        intro v10' w10 hown hgr hloc
        have F4 := Lib.hid (F_a.out.grow (at_ := 2) (u' := v10') (q := gotL b a k ++ [z]) rfl hgr (by rw [← ints_length, ints_append]; rw [List.length_append]; exact hown) (by rw [size_more]; exact hloc))
        have Hb10 := Lib.hid (Hb_a.out.grown hgr Hb_a.out.size (fun k hk => (O_a.out.lt k hk).1))
        clear hown hgr hloc F_a O_a C_a Hb_a
        have F5 : Hid (Fam w10 w7.heap.size [v8', .slice (some ⟨w7.heap.size + 1, 0, none⟩) 0 0, v10', .slice (some ⟨w7.heap.size + 1 + 1 + 1, 0, none⟩) 0 0] [plcL b a (k + 1), [], gotL b a (k + 1), []]) := Lib.hid (by rw [N1.out, N2.out]; exact F4.out)
        clear g2
        go_wp2
        go_roundw
        case rel => exact ⟨k + 1, by go_num, by omega, F5.out, Hb10.out⟩
        case measure => simp [intOf]; omega
    · have hke : k = a.length := by omega
      subst hke
      clear HNa HYa
      go_wp2
      go_loopw [9, 11, 13] (fun v9 v11 vk wr => ∃ k : Nat, vk = .int .i64 k ∧ k ≤ r.length ∧ Fam wr w7.heap.size [u8, v9, u10, v11] [plcL b a a.length, plcL b r k, gotL b a a.length, gotL b r k] ∧ Below w7.heap.size w7 wr) (fun _ _ vk _ => r.length - (intOf vk).toNat)
      case atStart => exact ⟨0, rfl, Nat.zero_le _, F1.out, Hbr.out⟩
      case round =>
        clear F1 Hbr
        obtain ⟨k, rfl, hk, hfam, hbr⟩ := hrel
        have Hbr := Lib.hid hbr
        have F1 := Lib.hid hfam
        clear hfam hbr
        by_cases hlt : k < r.length
        · have hltI : (k : Int) < (r.length : Int) := by omega
          obtain ⟨ad, hAr, hcl⟩ := Row.nth HR.out hlt
          subst hAr
          have Hcl := Lib.hid hcl
          clear hcl
          obtain ⟨z, hz⟩ : ∃ z, r.getD k 0 = z := ⟨_, rfl⟩
          have Hz := Lib.hid hz
          have g1 := Hcl.out wr Hbr.out
          rw [hz] at g1
          obtain ⟨bb, hbb⟩ : ∃ bb, hasB b z = bb := ⟨_, rfl⟩
          have Hbb := Lib.hid hbb
          have HN' : Hid (bb = false → plcL b r (k + 1) = plcL b r k ∧ gotL b r (k + 1) = gotL b r k) := Lib.hid fun h => HNr.out k (by rw [hz, ← Hyes.out, hbb, h])
          have HY' : Hid (bb = true → plcL b r (k + 1) = plcL b r k ++ [(k : Int)] ∧ gotL b r (k + 1) = gotL b r k ++ [z]) := Lib.hid fun h => by rw [← hz]; exact HYr.out k (by rw [hz, ← Hyes.out, hbb, h])
          clear hz hbb
          go_wp2_with fail
          refine (refhas_any _ b z _ (HBv.out.up Hbr.out) hlb1).mono ?_
          rintro e w8 ⟨rfl, hb8⟩
          rw [Hbb.out]
          have Hb8 := Lib.hid (below_next Hbr.out (Nat.le_refl _) hb8)
          have F2 := Lib.hid (F1.out.bel hb8)
          clear hb8 g1 F1 Hbr
          cases bb
          · obtain ⟨n1, n2⟩ := HN'.out rfl
            rw [← n1, ← n2] at F2
            clear n1 n2
            go_wp2
            go_roundw
            case rel => exact ⟨k + 1, by go_num, by omega, F2.out, Hb8.out⟩
            case measure => simp [intOf]; omega
          · obtain ⟨n1, n2⟩ := HY'.out rfl
            have N1 := Lib.hid n1
            have N2 := Lib.hid n2
            clear n1 n2
            have F_a := Lib.hid (F2.out.bel ((Below.refl w8.heap.size w8).alloc (Nat.le_refl _) (.cells #[.int .i64 (k : Int)] 3)))
            have O_a := Lib.hid (F_a.out.own 1 rfl rfl)
            have C_a : Hid ((w8.alloc (.cells #[.int .i64 (k : Int)] 3)).cell? ⟨w8.heap.size, 0, none⟩ = some (.int .i64 (k : Int))) := (Blk.new w8 3 #[.int .i64 (k : Int)]).cell 0
            have Hb_a := Lib.hid (Hb8.out.alloc Hb8.out.size (.cells #[.int .i64 (k : Int)] 3))
            go_wp2_with (at_builtin; refine wpList_append_cell rfl _ _ 26 3 (.int .i64 0) 8 rfl Tryz.underlying26 info3 rfl w7.heap.size _ (.int .i64 (k : Int)) (ints (plcL b r k)) rfl O_a.out w8.heap.size rfl C_a.out rfl (by rw [ints_length]; have := Hpl.out r k; omega) (by omega) Hb_a.out.size ?_)
            intro v9' w9 hown hgr hloc
            have F3 := Lib.hid (F_a.out.grow (at_ := 1) (u' := v9') (q := plcL b r k ++ [(k : Int)]) rfl hgr (by rw [← ints_length, ints_append]; rw [List.length_append]; exact hown) (by rw [size_more]; exact hloc))
            have Hb9 := Lib.hid (Hb_a.out.grown hgr Hb_a.out.size (fun k hk => (O_a.out.lt k hk).1))
            clear hown hgr hloc F_a O_a C_a Hb_a
            have g2 := Hcl.out w9 Hb9.out
            rw [Hz.out] at g2
            have F_a := Lib.hid (F3.out.bel ((Below.refl w9.heap.size w9).alloc (Nat.le_refl _) (.cells #[.int .i64 z] 3)))
            have O_a := Lib.hid (F_a.out.own 3 rfl rfl)
            have C_a : Hid ((w9.alloc (.cells #[.int .i64 z] 3)).cell? ⟨w9.heap.size, 0, none⟩ = some (.int .i64 z)) := (Blk.new w9 3 #[.int .i64 z]).cell 0
            have Hb_a := Lib.hid (Hb9.out.alloc Hb9.out.size (.cells #[.int .i64 z] 3))
            go_wp2_with (at_builtin; refine wpList_append_cell rfl _ _ 26 3 (.int .i64 0) 8 rfl Tryz.underlying26 info3 rfl w7.heap.size _ (.int .i64 z) (ints (gotL b r k)) rfl O_a.out w9.heap.size rfl C_a.out rfl (by rw [ints_length, Hgl.out]; have := Hpl.out r k; omega) (by omega) Hb_a.out.size ?_)
            intro v11' w10 hown hgr hloc
            have F4 := Lib.hid (F_a.out.grow (at_ := 3) (u' := v11') (q := gotL b r k ++ [z]) rfl hgr (by rw [← ints_length, ints_append]; rw [List.length_append]; exact hown) (by rw [size_more]; exact hloc))
            have Hb10 := Lib.hid (Hb_a.out.grown hgr Hb_a.out.size (fun k hk => (O_a.out.lt k hk).1))
            clear hown hgr hloc F_a O_a C_a Hb_a
            have F5 : Hid (Fam w10 w7.heap.size [u8, v9', u10, v11'] [plcL b a a.length, plcL b r (k + 1), gotL b a a.length, gotL b r (k + 1)]) := Lib.hid (by rw [N1.out, N2.out]; exact F4.out)
            clear g2
            go_wp2
            go_roundw
            case rel => exact ⟨k + 1, by go_num, by omega, F5.out, Hb10.out⟩
            case measure => simp [intOf]; omega
        · have hke : k = r.length := by omega
          subst hke
          clear HNr HYr Hpl Hgl Hyes
          have R8 := Lib.hid (F1.out.row 0 rfl rfl)
          have R9 := Lib.hid (F1.out.row 1 rfl rfl)
          have R10 := Lib.hid (F1.out.row 2 rfl rfl)
          have R11 := Lib.hid (F1.out.row 3 rfl rfl)
          replace HE := Lib.hid (HE.out.up Hbr.out)
          replace HV := Lib.hid (HV.out.up Hbr.out)
          replace HA := Lib.hid (HA.out.up Hbr.out)
          replace Hblk := Lib.hid (Hblk.out.below Hbr.out Hblk.out.lt)
          replace Hb0 := Lib.hid (below_next Hb0.out (Nat.le_refl _) Hbr.out)
          clear F1 Hbr HR HBv hlt hk
          have hwlt : w.heap.size < wr.heap.size := Hblk.out.lt
          have k0 := Hblk.out.cell 0
          have k1 := Hblk.out.cell 1
          have k2 := Hblk.out.cell 2
          have k3 := Hblk.out.cell 3
          have k4 := Hblk.out.cell 4
          have k5 := Hblk.out.cell 5
          have hwlt1 : w.heap.size < wr.heap.size + 1 := by omega
          have hwle1 : w.heap.size ≤ wr.heap.size + 1 := by omega
          have hwne1 : ¬ w.heap.size = wr.heap.size + 1 := by omega
          have hwlt2 : w.heap.size < wr.heap.size + 1 + 1 := by omega
          have hwle2 : w.heap.size ≤ wr.heap.size + 1 + 1 := by omega
          have hwne2 : ¬ w.heap.size = wr.heap.size + 1 + 1 := by omega
          have hwlt3 : w.heap.size < wr.heap.size + 1 + 1 + 1 := by omega
          have hwle3 : w.heap.size ≤ wr.heap.size + 1 + 1 + 1 := by omega
          have hwne3 : ¬ w.heap.size = wr.heap.size + 1 + 1 + 1 := by omega
          have hwlt4 : w.heap.size < wr.heap.size + 1 + 1 + 1 + 1 := by omega
          have hwle4 : w.heap.size ≤ wr.heap.size + 1 + 1 + 1 + 1 := by omega
          have hwne4 : ¬ w.heap.size = wr.heap.size + 1 + 1 + 1 + 1 := by omega
          have hwlt5 : w.heap.size < wr.heap.size + 1 + 1 + 1 + 1 + 1 := by omega
          have hwle5 : w.heap.size ≤ wr.heap.size + 1 + 1 + 1 + 1 + 1 := by omega
          have hwne5 : ¬ w.heap.size = wr.heap.size + 1 + 1 + 1 + 1 + 1 := by omega
          obtain ⟨X6, hX6⟩ : ∃ X6, X6 = ((((((wr.alloc (.cells #[.slice Aa a.length ca] 26)).alloc (.cells #[.int .i64 m.t, .int .i64 m.n, .int .i64 m.a, .int .i64 m.b, .slice Al m.l.length cl, .slice Ai m.i.length ci] 25)).alloc (.cells #[.int .i64 5, .int .i64 (a.length : Int), .int .i64 0, .int .i64 0, .slice (some ⟨wr.heap.size, 0, none⟩) 1 1, .slice (some ⟨wr.heap.size + 1, 0, none⟩) 1 1] 25)).alloc (.cells #[.slice Aa a.length ca] 26)).alloc (.cells #[.int .i64 m.t, .int .i64 m.n, .int .i64 m.a, .int .i64 m.b, .slice Al m.l.length cl, .slice Ai m.i.length ci] 25)).alloc (.cells #[.int .i64 6, .int .i64 (r.length : Int), .int .i64 0, .int .i64 0, .slice (some ⟨wr.heap.size + 1 + 1 + 1, 0, none⟩) 1 1, .slice (some ⟨wr.heap.size + 1 + 1 + 1 + 1, 0, none⟩) 1 1] 25)) := ⟨_, rfl⟩
          have HX6 := Lib.hid hX6
          have Hsz : Hid (X6.heap.size = wr.heap.size + 1 + 1 + 1 + 1 + 1 + 1) := Lib.hid (by rw [hX6]; simp only [size_more])
          have Hbx : Hid (Below wr.heap.size wr X6) := Lib.hid (by
            rw [hX6]
            exact ((((((Below.refl wr.heap.size wr).alloc (Nat.le_refl _) _).alloc (by simp only [size_more]; omega) _).alloc (by simp only [size_more]; omega) _).alloc (by simp only [size_more]; omega) _).alloc (by simp only [size_more]; omega) _).alloc (by simp only [size_more]; omega) _)
          have HMa : Hid (MatV X6 X6.heap.size (.agg #[.int .i64 5, .int .i64 (a.length : Int), .int .i64 0, .int .i64 0, .slice (some ⟨wr.heap.size, 0, none⟩) 1 1, .slice (some ⟨wr.heap.size + 1, 0, none⟩) 1 1]) (restOf (a.length : Int) a m)) := Lib.hid (by
            have h := part_lit HA.out HV.out 5 (a.length : Int)
            rw [Hsz.out, hX6]
            exact (h.bel (((((Below.refl (wr.heap.size + 1 + 1) ((wr.alloc (.cells #[.slice Aa a.length ca] 26)).alloc (.cells #[.int .i64 m.t, .int .i64 m.n, .int .i64 m.a, .int .i64 m.b, .slice Al m.l.length cl, .slice Ai m.i.length ci] 25))).alloc (by simp only [size_more]; omega) _).alloc (by simp only [size_more]; omega) _).alloc (by simp only [size_more]; omega) _).alloc (by simp only [size_more]; omega) _)).mono (by omega))
          have HMb : Hid (MatV X6 X6.heap.size (.agg #[.int .i64 6, .int .i64 (r.length : Int), .int .i64 0, .int .i64 0, .slice (some ⟨wr.heap.size + 1 + 1 + 1, 0, none⟩) 1 1, .slice (some ⟨wr.heap.size + 1 + 1 + 1 + 1, 0, none⟩) 1 1]) (contOf (r.length : Int) a m)) := Lib.hid (by
            have h := part_lit (((HA.out.upA (.cells #[.slice Aa a.length ca] 26)).upA (.cells #[.int .i64 m.t, .int .i64 m.n, .int .i64 m.a, .int .i64 m.b, .slice Al m.l.length cl, .slice Ai m.i.length ci] 25)).upA (.cells #[.int .i64 5, .int .i64 (a.length : Int), .int .i64 0, .int .i64 0, .slice (some ⟨wr.heap.size, 0, none⟩) 1 1, .slice (some ⟨wr.heap.size + 1, 0, none⟩) 1 1] 25)) (((HV.out.upA (.cells #[.slice Aa a.length ca] 26)).upA (.cells #[.int .i64 m.t, .int .i64 m.n, .int .i64 m.a, .int .i64 m.b, .slice Al m.l.length cl, .slice Ai m.i.length ci] 25)).upA (.cells #[.int .i64 5, .int .i64 (a.length : Int), .int .i64 0, .int .i64 0, .slice (some ⟨wr.heap.size, 0, none⟩) 1 1, .slice (some ⟨wr.heap.size + 1, 0, none⟩) 1 1] 25)) 6 (r.length : Int)
            simp only [size_more] at h
            rw [Hsz.out, hX6]
            exact (h.bel ((Below.refl _ (((((wr.alloc (.cells #[.slice Aa a.length ca] 26)).alloc (.cells #[.int .i64 m.t, .int .i64 m.n, .int .i64 m.a, .int .i64 m.b, .slice Al m.l.length cl, .slice Ai m.i.length ci] 25)).alloc (.cells #[.int .i64 5, .int .i64 (a.length : Int), .int .i64 0, .int .i64 0, .slice (some ⟨wr.heap.size, 0, none⟩) 1 1, .slice (some ⟨wr.heap.size + 1, 0, none⟩) 1 1] 25)).alloc (.cells #[.slice Aa a.length ca] 26)).alloc (.cells #[.int .i64 m.t, .int .i64 m.n, .int .i64 m.a, .int .i64 m.b, .slice Al m.l.length cl, .slice Ai m.i.length ci] 25))).alloc (by simp only [size_more]; omega) _)).mono (by omega))
          have HKa : Hid (Blk X6 (wr.heap.size + 1 + 1) 25 #[.int .i64 5, .int .i64 (a.length : Int), .int .i64 0, .int .i64 0, .slice (some ⟨wr.heap.size, 0, none⟩) 1 1, .slice (some ⟨wr.heap.size + 1, 0, none⟩) 1 1]) := Lib.hid (by
            have h := (((Blk.new ((wr.alloc (.cells #[.slice Aa a.length ca] 26)).alloc (.cells #[.int .i64 m.t, .int .i64 m.n, .int .i64 m.a, .int .i64 m.b, .slice Al m.l.length cl, .slice Ai m.i.length ci] 25)) 25 #[.int .i64 5, .int .i64 (a.length : Int), .int .i64 0, .int .i64 0, .slice (some ⟨wr.heap.size, 0, none⟩) 1 1, .slice (some ⟨wr.heap.size + 1, 0, none⟩) 1 1]).alloc (.cells #[.slice Aa a.length ca] 26)).alloc (.cells #[.int .i64 m.t, .int .i64 m.n, .int .i64 m.a, .int .i64 m.b, .slice Al m.l.length cl, .slice Ai m.i.length ci] 25)).alloc (.cells #[.int .i64 6, .int .i64 (r.length : Int), .int .i64 0, .int .i64 0, .slice (some ⟨wr.heap.size + 1 + 1 + 1, 0, none⟩) 1 1, .slice (some ⟨wr.heap.size + 1 + 1 + 1 + 1, 0, none⟩) 1 1] 25)
            simp only [size_more] at h
            rw [hX6]
            exact h)
          have HKb : Hid (Blk X6 (wr.heap.size + 1 + 1 + 1 + 1 + 1) 25 #[.int .i64 6, .int .i64 (r.length : Int), .int .i64 0, .int .i64 0, .slice (some ⟨wr.heap.size + 1 + 1 + 1, 0, none⟩) 1 1, .slice (some ⟨wr.heap.size + 1 + 1 + 1 + 1, 0, none⟩) 1 1]) := Lib.hid (by
            have h := Blk.new (((((wr.alloc (.cells #[.slice Aa a.length ca] 26)).alloc (.cells #[.int .i64 m.t, .int .i64 m.n, .int .i64 m.a, .int .i64 m.b, .slice Al m.l.length cl, .slice Ai m.i.length ci] 25)).alloc (.cells #[.int .i64 5, .int .i64 (a.length : Int), .int .i64 0, .int .i64 0, .slice (some ⟨wr.heap.size, 0, none⟩) 1 1, .slice (some ⟨wr.heap.size + 1, 0, none⟩) 1 1] 25)).alloc (.cells #[.slice Aa a.length ca] 26)).alloc (.cells #[.int .i64 m.t, .int .i64 m.n, .int .i64 m.a, .int .i64 m.b, .slice Al m.l.length cl, .slice Ai m.i.length ci] 25)) 25 #[.int .i64 6, .int .i64 (r.length : Int), .int .i64 0, .int .i64 0, .slice (some ⟨wr.heap.size + 1 + 1 + 1, 0, none⟩) 1 1, .slice (some ⟨wr.heap.size + 1 + 1 + 1 + 1, 0, none⟩) 1 1]
            simp only [size_more] at h
            rw [hX6]
            exact h)
          have HKm := Lib.hid (Hblk.out.below Hbx.out Hblk.out.lt)
          clear hX6
          go_wp2
          rw [← HX6.out]
          have hbd := (Below.refl X6.heap.size X6).drew
          have HMA := Lib.hid (HMa.out.up hbd)
          have HMB := Lib.hid (HMb.out.up hbd)
          have HMM := Lib.hid ((HV.out.up Hbx.out).up hbd)
          have HEE := Lib.hid ((HE.out.up Hbx.out).up hbd)
          have HLL := Lib.hid ((HA.out.up Hbx.out).up hbd)
          have Q8 := Lib.hid ((R8.out.up Hbx.out).up hbd)
          have Q9 := Lib.hid ((R9.out.up Hbx.out).up hbd)
          have Q10 := Lib.hid ((R10.out.up Hbx.out).up hbd)
          have Q11 := Lib.hid ((R11.out.up Hbx.out).up hbd)
          have K1 : Hid (∀ W, Below X6.drew.heap.size X6.drew W → W.cell? ⟨w.heap.size, 0, none⟩ = some (.int .i64 m.t) ∧ W.cell? ⟨w.heap.size, 1, none⟩ = some (.int .i64 m.n) ∧ W.cell? ⟨w.heap.size, 2, none⟩ = some (.int .i64 m.a) ∧ W.cell? ⟨w.heap.size, 3, none⟩ = some (.int .i64 m.b) ∧ W.cell? ⟨w.heap.size, 4, none⟩ = some (.slice Al m.l.length cl) ∧ W.cell? ⟨w.heap.size, 5, none⟩ = some (.slice Ai m.i.length ci) ∧ W.cell? ⟨wr.heap.size + 1 + 1, 0, none⟩ = some (.int .i64 5) ∧ W.cell? ⟨wr.heap.size + 1 + 1, 1, none⟩ = some (.int .i64 (a.length : Int)) ∧ W.cell? ⟨wr.heap.size + 1 + 1, 2, none⟩ = some (.int .i64 0) ∧ W.cell? ⟨wr.heap.size + 1 + 1, 3, none⟩ = some (.int .i64 0) ∧ W.cell? ⟨wr.heap.size + 1 + 1, 4, none⟩ = some (.slice (some ⟨wr.heap.size, 0, none⟩) 1 1) ∧ W.cell? ⟨wr.heap.size + 1 + 1, 5, none⟩ = some (.slice (some ⟨wr.heap.size + 1, 0, none⟩) 1 1) ∧ W.cell? ⟨wr.heap.size + 1 + 1 + 1 + 1 + 1, 0, none⟩ = some (.int .i64 6) ∧ W.cell? ⟨wr.heap.size + 1 + 1 + 1 + 1 + 1, 1, none⟩ = some (.int .i64 (r.length : Int)) ∧ W.cell? ⟨wr.heap.size + 1 + 1 + 1 + 1 + 1, 2, none⟩ = some (.int .i64 0) ∧ W.cell? ⟨wr.heap.size + 1 + 1 + 1 + 1 + 1, 3, none⟩ = some (.int .i64 0) ∧ W.cell? ⟨wr.heap.size + 1 + 1 + 1 + 1 + 1, 4, none⟩ = some (.slice (some ⟨wr.heap.size + 1 + 1 + 1, 0, none⟩) 1 1) ∧ W.cell? ⟨wr.heap.size + 1 + 1 + 1 + 1 + 1, 5, none⟩ = some (.slice (some ⟨wr.heap.size + 1 + 1 + 1 + 1, 0, none⟩) 1 1)) := Lib.hid fun W hW => ⟨(HKm.out.drew.below hW HKm.out.lt).cell 0, (HKm.out.drew.below hW HKm.out.lt).cell 1, (HKm.out.drew.below hW HKm.out.lt).cell 2, (HKm.out.drew.below hW HKm.out.lt).cell 3, (HKm.out.drew.below hW HKm.out.lt).cell 4, (HKm.out.drew.below hW HKm.out.lt).cell 5, (HKa.out.drew.below hW HKa.out.lt).cell 0, (HKa.out.drew.below hW HKa.out.lt).cell 1, (HKa.out.drew.below hW HKa.out.lt).cell 2, (HKa.out.drew.below hW HKa.out.lt).cell 3, (HKa.out.drew.below hW HKa.out.lt).cell 4, (HKa.out.drew.below hW HKa.out.lt).cell 5, (HKb.out.drew.below hW HKb.out.lt).cell 0, (HKb.out.drew.below hW HKb.out.lt).cell 1, (HKb.out.drew.below hW HKb.out.lt).cell 2, (HKb.out.drew.below hW HKb.out.lt).cell 3, (HKb.out.drew.below hW HKb.out.lt).cell 4, (HKb.out.drew.below hW HKb.out.lt).cell 5⟩
          have HB : Hid (Below X6.drew.heap.size X6.drew X6.drew) := Lib.hid (Below.refl _ _)
          replace Hb0 := Lib.hid (below_next Hb0.out (Nat.le_refl _) Hbx.out)
          clear hbd HMa HMb HKa HKb HKm HV HE HA R8 R9 R10 R11 Hblk Hbx k0 k1 k2 k3 k4 k5 HX6 Hsz
          go_region_held3 (fun W => W.cell? ⟨w.heap.size, 0, none⟩ = some (.int .i64 m.t) ∧ W.cell? ⟨w.heap.size, 1, none⟩ = some (.int .i64 m.n) ∧ W.cell? ⟨w.heap.size, 2, none⟩ = some (.int .i64 m.a) ∧ W.cell? ⟨w.heap.size, 3, none⟩ = some (.int .i64 m.b) ∧ W.cell? ⟨w.heap.size, 4, none⟩ = some (.slice Al m.l.length cl) ∧ W.cell? ⟨w.heap.size, 5, none⟩ = some (.slice Ai m.i.length ci) ∧ W.cell? ⟨wr.heap.size + 1 + 1, 0, none⟩ = some (.int .i64 5) ∧ W.cell? ⟨wr.heap.size + 1 + 1, 1, none⟩ = some (.int .i64 (a.length : Int)) ∧ W.cell? ⟨wr.heap.size + 1 + 1, 2, none⟩ = some (.int .i64 0) ∧ W.cell? ⟨wr.heap.size + 1 + 1, 3, none⟩ = some (.int .i64 0) ∧ W.cell? ⟨wr.heap.size + 1 + 1, 4, none⟩ = some (.slice (some ⟨wr.heap.size, 0, none⟩) 1 1) ∧ W.cell? ⟨wr.heap.size + 1 + 1, 5, none⟩ = some (.slice (some ⟨wr.heap.size + 1, 0, none⟩) 1 1) ∧ W.cell? ⟨wr.heap.size + 1 + 1 + 1 + 1 + 1, 0, none⟩ = some (.int .i64 6) ∧ W.cell? ⟨wr.heap.size + 1 + 1 + 1 + 1 + 1, 1, none⟩ = some (.int .i64 (r.length : Int)) ∧ W.cell? ⟨wr.heap.size + 1 + 1 + 1 + 1 + 1, 2, none⟩ = some (.int .i64 0) ∧ W.cell? ⟨wr.heap.size + 1 + 1 + 1 + 1 + 1, 3, none⟩ = some (.int .i64 0) ∧ W.cell? ⟨wr.heap.size + 1 + 1 + 1 + 1 + 1, 4, none⟩ = some (.slice (some ⟨wr.heap.size + 1 + 1 + 1, 0, none⟩) 1 1) ∧ W.cell? ⟨wr.heap.size + 1 + 1 + 1 + 1 + 1, 5, none⟩ = some (.slice (some ⟨wr.heap.size + 1 + 1 + 1 + 1, 0, none⟩) 1 1))
            (exact K1.out _ HB.out)
            (first
            | (go_at_call_of 17 u8; refine (HR1.out _ _ _ (HMA.out.up HB.out) (Q8.out.up HB.out) (HEE.out.up HB.out)).mono ?_; rintro e w11 ⟨rfl, hb⟩; replace HB := Lib.hid (below_next HB.out (Nat.le_refl _) hb); clear hb)
            | (go_at_call_of 17 u10; refine (HR2.out _ _ _ (HMM.out.up HB.out) (Q10.out.up HB.out) (HEE.out.up HB.out)).mono ?_; rintro e w12 ⟨rfl, hb⟩; replace HB := Lib.hid (below_next HB.out (Nat.le_refl _) hb); clear hb)
            | (go_at_call_of 17 u9; refine (HR3.out _ _ _ (HMB.out.up HB.out) (Q9.out.up HB.out) (HEE.out.up HB.out)).mono ?_; rintro e w13 ⟨rfl, hb⟩; replace HB := Lib.hid (below_next HB.out (Nat.le_refl _) hb); clear hb)
            | (go_at_call 14; refine (HRU.out _ _ _ (HLL.out.up HB.out) (Q11.out.up HB.out)).mono ?_; rintro e w14 ⟨v14, rfl, hr14, hb⟩; replace HB := Lib.hid (below_next HB.out (Nat.le_refl _) hb); have HB14 := Lib.hid (Below.refl w14.heap.size w14); have HU := Lib.hid hr14; clear hr14 hb)
            | (go_at_call_of 17 v14; refine (HR4.out _ _ _ (HMM.out.up HB.out) HU.out (HEE.out.up HB.out)).mono ?_; rintro e w15 ⟨rfl, hb⟩; replace HB := Lib.hid (below_next HB.out (Nat.le_refl _) hb); clear hb)
            | (go_at_call_of 17 (Value.slice Aa a.length ca); refine (HR5.out _ _ _ (HMM.out.up HB.out) (HLL.out.up HB.out) (HEE.out.up HB.out)).mono ?_; rintro e w16 ⟨rfl, hb⟩; replace HB := Lib.hid (below_next HB.out (Nat.le_refl _) hb); clear hb))
          all_goals
            go_simp
            go_wp2
            go_ret
            exact ⟨by first | rfl | simp, below_next Hb0.out.drew (Nat.le_refl _) HB.out⟩

theorem minors_any (E : Nat → Addr) (m : Mat) (v sa : Value) (a : List Int) (sb : Value) (b : List Int) (w : World) (hv : MatV w w.heap.size v m) (hl : Lim m) (hra : Row w w.heap.size sa a) (hrb : Row w w.heap.size sb b) (hE : Env E w) : Calls Tryz.prog 6 #[v, sa, sb] w (Truly w) := by
  rcases hf : fewB 9 m 10 with _ | _
  · exact minors_1 E m v sa sb a b w hv hl hra hrb hE hf
  · rcases hma : mayI m a with _ | _
    · exact minors_2 E m v sa sb a b w hv hl hra hrb hE hf hma
    · rcases hmb : mayI m b with _ | _
      · exact minors_3 E m v sa sb a b w hv hl hra hrb hE hf hma hmb
      · by_cases h3 : dp 4 m ≤ 3
        · exact minors_main E m v sa sb a b w hv hl hra hrb hE hf hma hmb h3
        · exact minors_4 E m v sa sb a b w hv hl hra hrb hE hf hma hmb (by omega)

end Wp
end Go.Proofs.YtbjngggcpojefaaGreatDoor
