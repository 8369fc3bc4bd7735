/- IndepExchanges, walked: it answers true. -/
import Derived.Test.YtbjngggcpojefaaGreatDoorZF
import Derived.Test.YtbjngggcpojefaaGreatDoorZS
import Derived.Test.YtbjngggcpojefaaGreatDoorZA
import Derived.Test.YtbjngggcpojefaaGreatDoorIExchP
import Derived.Test.YtbjngggcpojefaaGreatDoorZT
import Derived.Deep.RegionHeld3
namespace Go.Proofs.YtbjngggcpojefaaGreatDoor
open Go.RowKit
namespace Wp

theorem Row.one {w : World} {B : Nat} {A : Option Addr} {n c : Nat} {l : List Int} (h : Row w B (.slice A n c) l) {i : Nat} (hi : i < l.length) : ∃ ad, A = some ad ∧ n = l.length ∧ i < c ∧ Row w B (.slice (some (ad.add i)) 1 (c - i)) [l.getD i 0] := by
  obtain ⟨A', c', he, ⟨h1, h2, h3⟩, hk⟩ := h
  injection he with e1 e2 e3
  subst e1 e2 e3
  obtain ⟨ad, rfl, hab, hc⟩ := hk i hi
  refine ⟨ad, rfl, rfl, by omega, _, _, rfl, ⟨by simp; omega, by omega, fun e => by cases e⟩, fun k hk' => ?_⟩
  have : k = 0 := by simpa using hk'
  subst this
  exact ⟨_, rfl, by rw [add_block]; exact hab, by rw [add_zero]; exact hc⟩

set_option maxHeartbeats 16000000 in
set_option maxRecDepth 100000 in
theorem exch_1 (E : Nat → Addr) (m : Mat) (v sa sb : Value) (a b : List Int) (w : World) (hv : MatV w w.heap.size v m) (hl : Lim m) (hra : Row w w.heap.size sa a) (hrb : Row w w.heap.size sb b) (hE : Env E w) (hf : fewB 9 m 10 = false) : Calls Tryz.prog 3 #[v, sa, sb] w (Truly w) := by
  have Hf := Lib.hid hf
  clear hf
  have Hl := Lib.hid hl
  obtain ⟨lv, iv, hve, hl2, hi2⟩ := hv.open
  have Hb0 := Lib.hid (boxed_below w m lv iv)
  have HV := Lib.hid (hv.up Hb0.out)
  have HE := Lib.hid (hE.up Hb0.out)
  have HA := Lib.hid (hra.up Hb0.out)
  have HBv := Lib.hid (hrb.up Hb0.out)
  have Hblk := Lib.hid (boxed_blk w m lv iv)
  obtain ⟨Al, cl, rfl, _⟩ := hl2
  obtain ⟨Ai, ci, rfl, _⟩ := hi2
  obtain ⟨Aa, ca, hsa, hcapa, _⟩ := id hra
  obtain ⟨Ab, cb, hsb, hcapb, _⟩ := id hrb
  have haI : (a.length : Int) ≤ 9223372036854775807 := by have h1 := hcapa.1; have h2 := hcapa.2.1; unfold maxLen at h2; omega
  have hbI : (b.length : Int) ≤ 9223372036854775807 := by have h1 := hcapb.1; have h2 := hcapb.2.1; unfold maxLen at h2; omega
  subst hve hsa hsb
  unfold boxed at *
  clear hv hl hE hra hrb hcapa hcapb
  go_enter Tryz.func3, Tryz.ntmps3
  have hw0 := Hb0
  clear hw0
  go_wp2_with fail
  refine (fixed_any E _ HE.out).mono ?_
  rintro e w1 ⟨rfl, hb1⟩
  replace HE := Lib.hid (HE.out.up hb1)
  replace HV := Lib.hid (HV.out.up hb1)
  replace HA := Lib.hid (HA.out.up hb1)
  replace HBv := Lib.hid (HBv.out.up hb1)
  replace Hblk := Lib.hid (Hblk.out.below hb1 Hblk.out.lt)
  replace Hb0 := Lib.hid (below_next Hb0.out (Nat.le_refl _) hb1)
  clear hb1
  have k0 := Hblk.out.cell 0
  have k1 := Hblk.out.cell 1
  have k2 := Hblk.out.cell 2
  have k3 := Hblk.out.cell 3
  have k4 := Hblk.out.cell 4
  have k5 := Hblk.out.cell 5
  go_wp2_with fail
  refine (few_any m _ 10 _ HV.out Hl.out).mono ?_
  rintro e w2 ⟨rfl, hb2⟩
  rw [Hf.out]
  clear k0 k1 k2 k3 k4 k5
  replace HE := Lib.hid (HE.out.up hb2)
  replace HV := Lib.hid (HV.out.up hb2)
  replace HA := Lib.hid (HA.out.up hb2)
  replace HBv := Lib.hid (HBv.out.up hb2)
  replace Hblk := Lib.hid (Hblk.out.below hb2 Hblk.out.lt)
  replace Hb0 := Lib.hid (below_next Hb0.out (Nat.le_refl _) hb2)
  clear hb2
  go_wp2_with fail
  refine (fixed_any E _ HE.out).mono ?_
  rintro e w9 ⟨rfl, hb9⟩
  replace HE := Lib.hid (HE.out.up hb9)
  replace HV := Lib.hid (HV.out.up hb9)
  replace HA := Lib.hid (HA.out.up hb9)
  replace HBv := Lib.hid (HBv.out.up hb9)
  replace Hblk := Lib.hid (Hblk.out.below hb9 Hblk.out.lt)
  replace Hb0 := Lib.hid (below_next Hb0.out (Nat.le_refl _) hb9)
  clear hb9
  go_wp2
  go_ret
  exact ⟨rfl, Hb0.out⟩

set_option maxHeartbeats 16000000 in
set_option maxRecDepth 100000 in
theorem exch_2 (E : Nat → Addr) (m : Mat) (v sa sb : Value) (a b : List Int) (w : World) (hv : MatV w w.heap.size v m) (hl : Lim m) (hra : Row w w.heap.size sa a) (hrb : Row w w.heap.size sb b) (hE : Env E w) (hf : fewB 9 m 10 = true) (hma : mayI m a = false) : Calls Tryz.prog 3 #[v, sa, sb] w (Truly w) := by
  have Hf := Lib.hid hf
  have Hma := Lib.hid hma
  clear hf hma
  have Hl := Lib.hid hl
  obtain ⟨lv, iv, hve, hl2, hi2⟩ := hv.open
  have Hb0 := Lib.hid (boxed_below w m lv iv)
  have HV := Lib.hid (hv.up Hb0.out)
  have HE := Lib.hid (hE.up Hb0.out)
  have HA := Lib.hid (hra.up Hb0.out)
  have HBv := Lib.hid (hrb.up Hb0.out)
  have Hblk := Lib.hid (boxed_blk w m lv iv)
  obtain ⟨Al, cl, rfl, _⟩ := hl2
  obtain ⟨Ai, ci, rfl, _⟩ := hi2
  obtain ⟨Aa, ca, hsa, hcapa, _⟩ := id hra
  obtain ⟨Ab, cb, hsb, hcapb, _⟩ := id hrb
  have haI : (a.length : Int) ≤ 9223372036854775807 := by have h1 := hcapa.1; have h2 := hcapa.2.1; unfold maxLen at h2; omega
  have hbI : (b.length : Int) ≤ 9223372036854775807 := by have h1 := hcapb.1; have h2 := hcapb.2.1; unfold maxLen at h2; omega
  subst hve hsa hsb
  unfold boxed at *
  clear hv hl hE hra hrb hcapa hcapb
  go_enter Tryz.func3, Tryz.ntmps3
  have hw0 := Hb0
  clear hw0
  go_wp2_with fail
  refine (fixed_any E _ HE.out).mono ?_
  rintro e w1 ⟨rfl, hb1⟩
  replace HE := Lib.hid (HE.out.up hb1)
  replace HV := Lib.hid (HV.out.up hb1)
  replace HA := Lib.hid (HA.out.up hb1)
  replace HBv := Lib.hid (HBv.out.up hb1)
  replace Hblk := Lib.hid (Hblk.out.below hb1 Hblk.out.lt)
  replace Hb0 := Lib.hid (below_next Hb0.out (Nat.le_refl _) hb1)
  clear hb1
  have k0 := Hblk.out.cell 0
  have k1 := Hblk.out.cell 1
  have k2 := Hblk.out.cell 2
  have k3 := Hblk.out.cell 3
  have k4 := Hblk.out.cell 4
  have k5 := Hblk.out.cell 5
  go_wp2_with fail
  refine (few_any m _ 10 _ HV.out Hl.out).mono ?_
  rintro e w2 ⟨rfl, hb2⟩
  rw [Hf.out]
  clear k0 k1 k2 k3 k4 k5
  replace HE := Lib.hid (HE.out.up hb2)
  replace HV := Lib.hid (HV.out.up hb2)
  replace HA := Lib.hid (HA.out.up hb2)
  replace HBv := Lib.hid (HBv.out.up hb2)
  replace Hblk := Lib.hid (Hblk.out.below hb2 Hblk.out.lt)
  replace Hb0 := Lib.hid (below_next Hb0.out (Nat.le_refl _) hb2)
  clear hb2
  have k0 := Hblk.out.cell 0
  have k1 := Hblk.out.cell 1
  have k2 := Hblk.out.cell 2
  have k3 := Hblk.out.cell 3
  have k4 := Hblk.out.cell 4
  have k5 := Hblk.out.cell 5
  go_wp2_with fail
  refine (rmay10_any m _ _ a _ HV.out (few_sml Hf.out) HA.out).mono ?_
  rintro e w3 ⟨rfl, hb3⟩
  rw [Hma.out]
  clear k0 k1 k2 k3 k4 k5
  replace HE := Lib.hid (HE.out.up hb3)
  replace HV := Lib.hid (HV.out.up hb3)
  replace HA := Lib.hid (HA.out.up hb3)
  replace HBv := Lib.hid (HBv.out.up hb3)
  replace Hblk := Lib.hid (Hblk.out.below hb3 Hblk.out.lt)
  replace Hb0 := Lib.hid (below_next Hb0.out (Nat.le_refl _) hb3)
  clear hb3
  go_wp2_with fail
  refine (fixed_any E _ HE.out).mono ?_
  rintro e w9 ⟨rfl, hb9⟩
  replace HE := Lib.hid (HE.out.up hb9)
  replace HV := Lib.hid (HV.out.up hb9)
  replace HA := Lib.hid (HA.out.up hb9)
  replace HBv := Lib.hid (HBv.out.up hb9)
  replace Hblk := Lib.hid (Hblk.out.below hb9 Hblk.out.lt)
  replace Hb0 := Lib.hid (below_next Hb0.out (Nat.le_refl _) hb9)
  clear hb9
  go_wp2
  go_ret
  exact ⟨rfl, Hb0.out⟩

set_option maxHeartbeats 16000000 in
set_option maxRecDepth 100000 in
theorem exch_3 (E : Nat → Addr) (m : Mat) (v sa sb : Value) (a b : List Int) (w : World) (hv : MatV w w.heap.size v m) (hl : Lim m) (hra : Row w w.heap.size sa a) (hrb : Row w w.heap.size sb b) (hE : Env E w) (hf : fewB 9 m 10 = true) (hma : mayI m a = true) (hmb : mayI m b = false) : Calls Tryz.prog 3 #[v, sa, sb] w (Truly w) := by
  have Hf := Lib.hid hf
  have Hma := Lib.hid hma
  have Hmb := Lib.hid hmb
  clear hf hma hmb
  have Hl := Lib.hid hl
  obtain ⟨lv, iv, hve, hl2, hi2⟩ := hv.open
  have Hb0 := Lib.hid (boxed_below w m lv iv)
  have HV := Lib.hid (hv.up Hb0.out)
  have HE := Lib.hid (hE.up Hb0.out)
  have HA := Lib.hid (hra.up Hb0.out)
  have HBv := Lib.hid (hrb.up Hb0.out)
  have Hblk := Lib.hid (boxed_blk w m lv iv)
  obtain ⟨Al, cl, rfl, _⟩ := hl2
  obtain ⟨Ai, ci, rfl, _⟩ := hi2
  obtain ⟨Aa, ca, hsa, hcapa, _⟩ := id hra
  obtain ⟨Ab, cb, hsb, hcapb, _⟩ := id hrb
  have haI : (a.length : Int) ≤ 9223372036854775807 := by have h1 := hcapa.1; have h2 := hcapa.2.1; unfold maxLen at h2; omega
  have hbI : (b.length : Int) ≤ 9223372036854775807 := by have h1 := hcapb.1; have h2 := hcapb.2.1; unfold maxLen at h2; omega
  subst hve hsa hsb
  unfold boxed at *
  clear hv hl hE hra hrb hcapa hcapb
  go_enter Tryz.func3, Tryz.ntmps3
  have hw0 := Hb0
  clear hw0
  go_wp2_with fail
  refine (fixed_any E _ HE.out).mono ?_
  rintro e w1 ⟨rfl, hb1⟩
  replace HE := Lib.hid (HE.out.up hb1)
  replace HV := Lib.hid (HV.out.up hb1)
  replace HA := Lib.hid (HA.out.up hb1)
  replace HBv := Lib.hid (HBv.out.up hb1)
  replace Hblk := Lib.hid (Hblk.out.below hb1 Hblk.out.lt)
  replace Hb0 := Lib.hid (below_next Hb0.out (Nat.le_refl _) hb1)
  clear hb1
  have k0 := Hblk.out.cell 0
  have k1 := Hblk.out.cell 1
  have k2 := Hblk.out.cell 2
  have k3 := Hblk.out.cell 3
  have k4 := Hblk.out.cell 4
  have k5 := Hblk.out.cell 5
  go_wp2_with fail
  refine (few_any m _ 10 _ HV.out Hl.out).mono ?_
  rintro e w2 ⟨rfl, hb2⟩
  rw [Hf.out]
  clear k0 k1 k2 k3 k4 k5
  replace HE := Lib.hid (HE.out.up hb2)
  replace HV := Lib.hid (HV.out.up hb2)
  replace HA := Lib.hid (HA.out.up hb2)
  replace HBv := Lib.hid (HBv.out.up hb2)
  replace Hblk := Lib.hid (Hblk.out.below hb2 Hblk.out.lt)
  replace Hb0 := Lib.hid (below_next Hb0.out (Nat.le_refl _) hb2)
  clear hb2
  have k0 := Hblk.out.cell 0
  have k1 := Hblk.out.cell 1
  have k2 := Hblk.out.cell 2
  have k3 := Hblk.out.cell 3
  have k4 := Hblk.out.cell 4
  have k5 := Hblk.out.cell 5
  go_wp2_with fail
  refine (rmay10_any m _ _ a _ HV.out (few_sml Hf.out) HA.out).mono ?_
  rintro e w3 ⟨rfl, hb3⟩
  rw [Hma.out]
  clear k0 k1 k2 k3 k4 k5
  replace HE := Lib.hid (HE.out.up hb3)
  replace HV := Lib.hid (HV.out.up hb3)
  replace HA := Lib.hid (HA.out.up hb3)
  replace HBv := Lib.hid (HBv.out.up hb3)
  replace Hblk := Lib.hid (Hblk.out.below hb3 Hblk.out.lt)
  replace Hb0 := Lib.hid (below_next Hb0.out (Nat.le_refl _) hb3)
  clear hb3
  have k0 := Hblk.out.cell 0
  have k1 := Hblk.out.cell 1
  have k2 := Hblk.out.cell 2
  have k3 := Hblk.out.cell 3
  have k4 := Hblk.out.cell 4
  have k5 := Hblk.out.cell 5
  go_wp2_with fail
  refine (rmay10_any m _ _ b _ HV.out (few_sml Hf.out) HBv.out).mono ?_
  rintro e w4 ⟨rfl, hb4⟩
  rw [Hmb.out]
  clear k0 k1 k2 k3 k4 k5
  replace HE := Lib.hid (HE.out.up hb4)
  replace HV := Lib.hid (HV.out.up hb4)
  replace HA := Lib.hid (HA.out.up hb4)
  replace HBv := Lib.hid (HBv.out.up hb4)
  replace Hblk := Lib.hid (Hblk.out.below hb4 Hblk.out.lt)
  replace Hb0 := Lib.hid (below_next Hb0.out (Nat.le_refl _) hb4)
  clear hb4
  go_wp2_with fail
  refine (fixed_any E _ HE.out).mono ?_
  rintro e w9 ⟨rfl, hb9⟩
  replace HE := Lib.hid (HE.out.up hb9)
  replace HV := Lib.hid (HV.out.up hb9)
  replace HA := Lib.hid (HA.out.up hb9)
  replace HBv := Lib.hid (HBv.out.up hb9)
  replace Hblk := Lib.hid (Hblk.out.below hb9 Hblk.out.lt)
  replace Hb0 := Lib.hid (below_next Hb0.out (Nat.le_refl _) hb9)
  clear hb9
  go_wp2
  go_ret
  exact ⟨rfl, Hb0.out⟩

set_option maxHeartbeats 16000000 in
set_option maxRecDepth 100000 in
theorem exch_A (E : Nat → Addr) (m : Mat) (v sa sb : Value) (a b : List Int) (w : World) (hv : MatV w w.heap.size v m) (hl : Lim m) (hra : Row w w.heap.size sa a) (hrb : Row w w.heap.size sb b) (hE : Env E w) (hf : fewB 9 m 10 = true) (hma : mayI m a = true) (hmb : mayI m b = true) (hx : indT m a = false) : Calls Tryz.prog 3 #[v, sa, sb] w (Truly w) := by
  have Hf := Lib.hid hf
  have Hma := Lib.hid hma
  have Hmb := Lib.hid hmb
  have hla := inN_len (mayI_iff.1 hma).2
  have hlb := inN_len (mayI_iff.1 hmb).2
  have hn64 := (nN_cast (mayI_iff.1 hma).1).2
  have hla1 : a.length ≤ 1048576 := by omega
  have hlb1 : b.length ≤ 1048576 := by omega
  have hnil := ind_nil (mayI_iff.1 hma).1
  have hlm : (meetL a b).length ≤ 1048576 := by have := inN_len (inN_meet (mayI_iff.1 hma).2 (mayI_iff.1 hmb).2); omega
  obtain ⟨y0, hy⟩ : ∃ y0, indT m b = y0 := ⟨_, rfl⟩
  have Hl := Lib.hid hl
  obtain ⟨lv, iv, hve, hl2, hi2⟩ := hv.open
  have Hb0 := Lib.hid (boxed_below w m lv iv)
  have HV := Lib.hid (hv.up Hb0.out)
  have HE := Lib.hid (hE.up Hb0.out)
  have HA := Lib.hid (hra.up Hb0.out)
  have HBv := Lib.hid (hrb.up Hb0.out)
  have Hblk := Lib.hid (boxed_blk w m lv iv)
  obtain ⟨Al, cl, rfl, _⟩ := hl2
  obtain ⟨Ai, ci, rfl, _⟩ := hi2
  obtain ⟨Aa, ca, hsa, hcapa, _⟩ := id hra
  obtain ⟨Ab, cb, hsb, hcapb, _⟩ := id hrb
  have haI : (a.length : Int) ≤ 9223372036854775807 := by have h1 := hcapa.1; have h2 := hcapa.2.1; unfold maxLen at h2; omega
  have hbI : (b.length : Int) ≤ 9223372036854775807 := by have h1 := hcapb.1; have h2 := hcapb.2.1; unfold maxLen at h2; omega
  subst hve hsa hsb
  unfold boxed at *
  clear hv hl hE hra hrb hcapa hcapb
  go_enter Tryz.func3, Tryz.ntmps3
  have hw0 := Hb0
  clear hw0
  go_wp2_with fail
  refine (fixed_any E _ HE.out).mono ?_
  rintro e w1 ⟨rfl, hb1⟩
  replace HE := Lib.hid (HE.out.up hb1)
  replace HV := Lib.hid (HV.out.up hb1)
  replace HA := Lib.hid (HA.out.up hb1)
  replace HBv := Lib.hid (HBv.out.up hb1)
  replace Hblk := Lib.hid (Hblk.out.below hb1 Hblk.out.lt)
  replace Hb0 := Lib.hid (below_next Hb0.out (Nat.le_refl _) hb1)
  clear hb1
  have k0 := Hblk.out.cell 0
  have k1 := Hblk.out.cell 1
  have k2 := Hblk.out.cell 2
  have k3 := Hblk.out.cell 3
  have k4 := Hblk.out.cell 4
  have k5 := Hblk.out.cell 5
  go_wp2_with fail
  refine (few_any m _ 10 _ HV.out Hl.out).mono ?_
  rintro e w2 ⟨rfl, hb2⟩
  rw [Hf.out]
  clear k0 k1 k2 k3 k4 k5
  replace HE := Lib.hid (HE.out.up hb2)
  replace HV := Lib.hid (HV.out.up hb2)
  replace HA := Lib.hid (HA.out.up hb2)
  replace HBv := Lib.hid (HBv.out.up hb2)
  replace Hblk := Lib.hid (Hblk.out.below hb2 Hblk.out.lt)
  replace Hb0 := Lib.hid (below_next Hb0.out (Nat.le_refl _) hb2)
  clear hb2
  have k0 := Hblk.out.cell 0
  have k1 := Hblk.out.cell 1
  have k2 := Hblk.out.cell 2
  have k3 := Hblk.out.cell 3
  have k4 := Hblk.out.cell 4
  have k5 := Hblk.out.cell 5
  go_wp2_with fail
  refine (rmay10_any m _ _ a _ HV.out (few_sml Hf.out) HA.out).mono ?_
  rintro e w3 ⟨rfl, hb3⟩
  rw [Hma.out]
  clear k0 k1 k2 k3 k4 k5
  replace HE := Lib.hid (HE.out.up hb3)
  replace HV := Lib.hid (HV.out.up hb3)
  replace HA := Lib.hid (HA.out.up hb3)
  replace HBv := Lib.hid (HBv.out.up hb3)
  replace Hblk := Lib.hid (Hblk.out.below hb3 Hblk.out.lt)
  replace Hb0 := Lib.hid (below_next Hb0.out (Nat.le_refl _) hb3)
  clear hb3
  have k0 := Hblk.out.cell 0
  have k1 := Hblk.out.cell 1
  have k2 := Hblk.out.cell 2
  have k3 := Hblk.out.cell 3
  have k4 := Hblk.out.cell 4
  have k5 := Hblk.out.cell 5
  go_wp2_with fail
  refine (rmay10_any m _ _ b _ HV.out (few_sml Hf.out) HBv.out).mono ?_
  rintro e w4 ⟨rfl, hb4⟩
  rw [Hmb.out]
  clear k0 k1 k2 k3 k4 k5
  replace HE := Lib.hid (HE.out.up hb4)
  replace HV := Lib.hid (HV.out.up hb4)
  replace HA := Lib.hid (HA.out.up hb4)
  replace HBv := Lib.hid (HBv.out.up hb4)
  replace Hblk := Lib.hid (Hblk.out.below hb4 Hblk.out.lt)
  replace Hb0 := Lib.hid (below_next Hb0.out (Nat.le_refl _) hb4)
  clear hb4
  have Hs := Lib.hid (few_sml Hf.out)
  have hbd := (Below.refl w4.heap.size w4).drew
  replace HE := Lib.hid (HE.out.up hbd)
  replace HV := Lib.hid (HV.out.up hbd)
  replace HA := Lib.hid (HA.out.up hbd)
  replace HBv := Lib.hid (HBv.out.up hbd)
  have K1 : Hid (∀ W, Below w4.drew.heap.size w4.drew W → W.cell? ⟨w.heap.size, 0, none⟩ = some (.int .i64 m.t) ∧ W.cell? ⟨w.heap.size, 1, none⟩ = some (.int .i64 m.n) ∧ W.cell? ⟨w.heap.size, 2, none⟩ = some (.int .i64 m.a) ∧ W.cell? ⟨w.heap.size, 3, none⟩ = some (.int .i64 m.b) ∧ W.cell? ⟨w.heap.size, 4, none⟩ = some (.slice Al m.l.length cl) ∧ W.cell? ⟨w.heap.size, 5, none⟩ = some (.slice Ai m.i.length ci)) := Lib.hid fun W hW => ⟨(Hblk.out.drew.below hW Hblk.out.lt).cell 0, (Hblk.out.drew.below hW Hblk.out.lt).cell 1, (Hblk.out.drew.below hW Hblk.out.lt).cell 2, (Hblk.out.drew.below hW Hblk.out.lt).cell 3, (Hblk.out.drew.below hW Hblk.out.lt).cell 4, (Hblk.out.drew.below hW Hblk.out.lt).cell 5⟩
  have HB : Hid (Below w4.drew.heap.size w4.drew w4.drew) := Lib.hid (Below.refl _ _)
  clear hbd Hblk
  have HX : Hid (∀ (sv : Value) (W : World), MatV W W.heap.size (.agg #[.int .i64 m.t, .int .i64 m.n, .int .i64 m.a, .int .i64 m.b, .slice Al m.l.length cl, .slice Ai m.i.length ci]) m → Row W W.heap.size sv a → Env E W → Calls Tryz.prog 11 #[(.agg #[.int .i64 m.t, .int .i64 m.n, .int .i64 m.a, .int .i64 m.b, .slice Al m.l.length cl, .slice Ai m.i.length ci]), sv] W (Says W false)) := Lib.hid fun sv W h1 h2 h3 => by rw [← hx]; exact indep_any E m _ sv _ W h1 Hs.out h2 hla1 h3
  have HY : Hid (∀ (sv : Value) (W : World), MatV W W.heap.size (.agg #[.int .i64 m.t, .int .i64 m.n, .int .i64 m.a, .int .i64 m.b, .slice Al m.l.length cl, .slice Ai m.i.length ci]) m → Row W W.heap.size sv b → Env E W → Calls Tryz.prog 11 #[(.agg #[.int .i64 m.t, .int .i64 m.n, .int .i64 m.a, .int .i64 m.b, .slice Al m.l.length cl, .slice Ai m.i.length ci]), sv] W (Says W y0)) := Lib.hid fun sv W h1 h2 h3 => by rw [← hy]; exact indep_any E m _ sv _ W h1 Hs.out h2 hlb1 h3
  have HN : Hid (∀ (sv : Value) (W : World), MatV W W.heap.size (.agg #[.int .i64 m.t, .int .i64 m.n, .int .i64 m.a, .int .i64 m.b, .slice Al m.l.length cl, .slice Ai m.i.length ci]) m → Row W W.heap.size sv [] → Env E W → Calls Tryz.prog 11 #[(.agg #[.int .i64 m.t, .int .i64 m.n, .int .i64 m.a, .int .i64 m.b, .slice Al m.l.length cl, .slice Ai m.i.length ci]), sv] W (Says W true)) := Lib.hid fun sv W h1 h2 h3 => by rw [← hnil]; exact indep_any E m _ sv _ W h1 Hs.out h2 (by simp) h3
  clear hx hy hnil hma hmb hf hla hlb hlm
  go_wp2
  go_region_held3 (fun W => W.cell? ⟨w.heap.size, 0, none⟩ = some (.int .i64 m.t) ∧ W.cell? ⟨w.heap.size, 1, none⟩ = some (.int .i64 m.n) ∧ W.cell? ⟨w.heap.size, 2, none⟩ = some (.int .i64 m.a) ∧ W.cell? ⟨w.heap.size, 3, none⟩ = some (.int .i64 m.b) ∧ W.cell? ⟨w.heap.size, 4, none⟩ = some (.slice Al m.l.length cl) ∧ W.cell? ⟨w.heap.size, 5, none⟩ = some (.slice Ai m.i.length ci))
    (exact K1.out _ HB.out)
    (first
    | (go_at_call_of 11 (Value.slice Aa a.length ca); refine (HX.out _ _ HV.out HA.out HE.out).mono ?_; rintro e w5 ⟨rfl, hb5⟩; replace HB := Lib.hid (below_next HB.out (Nat.le_refl _) hb5); replace HE := Lib.hid (HE.out.up hb5); replace HV := Lib.hid (HV.out.up hb5); replace HA := Lib.hid (HA.out.up hb5); replace HBv := Lib.hid (HBv.out.up hb5); clear hb5)
    | (go_at_call_of 11 (Value.slice Ab b.length cb); refine (HY.out _ _ HV.out HBv.out HE.out).mono ?_; rintro e w6 ⟨rfl, hb6⟩; replace HB := Lib.hid (below_next HB.out (Nat.le_refl _) hb6); replace HE := Lib.hid (HE.out.up hb6); replace HV := Lib.hid (HV.out.up hb6); replace HA := Lib.hid (HA.out.up hb6); replace HBv := Lib.hid (HBv.out.up hb6); clear hb6))
  replace Hb0 := Lib.hid (below_next Hb0.out.drew (Nat.le_refl _) HB.out)
  have K2 := Lib.hid (fun W hW => K1.out W (below_next HB.out (Nat.le_refl _) hW))
  have Hn : Hid (∀ W, Below w6.heap.size w6 W → Calls Tryz.prog 11 #[(.agg #[.int .i64 m.t, .int .i64 m.n, .int .i64 m.a, .int .i64 m.b, .slice Al m.l.length cl, .slice Ai m.i.length ci]), .slice none 0 0] W fun e w' => e = .returned (.bool true) ∧ Below w6.heap.size w6 w') := Lib.hid fun W hW => (HN.out _ _ (HV.out.up hW) (Row.nil_ _ _) (HE.out.up hW)).mono fun _ _ ⟨h2, h3⟩ => ⟨h2, below_next hW (Nat.le_refl _) h3⟩
  clear HX HY HN K1 HB HA HBv HV HE
  go_simp
  go_wp2
  refine wp_region_below w6.heap.size w6 (by kernel_rfl) (by kernel_rfl) (Below.refl _ _) ?_
  iterate 14 (first
    | go_big_quiet_skip
    | go_big_quiet_step (with_reducible exact Hn.out _)
    | (go_big_quiet_want; apply Exists.intro; refine ⟨fun W hW => ?_, ?_⟩; (· obtain ⟨k0, k1, k2, k3, k4, k5⟩ := K2.out W hW; go_simp; first | exact rfl | exact ⟨rfl, rfl⟩); go_simp; go_big_quiet_on))
  refine wpQuiet_nil ?_
  intro w7 hB7
  go_wp2
  go_ret
  exact ⟨rfl, below_next Hb0.out (Nat.le_refl _) hB7⟩

set_option maxHeartbeats 16000000 in
set_option maxRecDepth 100000 in
theorem exch_B (E : Nat → Addr) (m : Mat) (v sa sb : Value) (a b : List Int) (w : World) (hv : MatV w w.heap.size v m) (hl : Lim m) (hra : Row w w.heap.size sa a) (hrb : Row w w.heap.size sb b) (hE : Env E w) (hf : fewB 9 m 10 = true) (hma : mayI m a = true) (hmb : mayI m b = true) (hx : indT m a = true) (hy : indT m b = false) : Calls Tryz.prog 3 #[v, sa, sb] w (Truly w) := by
  have Hf := Lib.hid hf
  have Hma := Lib.hid hma
  have Hmb := Lib.hid hmb
  have hla := inN_len (mayI_iff.1 hma).2
  have hlb := inN_len (mayI_iff.1 hmb).2
  have hn64 := (nN_cast (mayI_iff.1 hma).1).2
  have hla1 : a.length ≤ 1048576 := by omega
  have hlb1 : b.length ≤ 1048576 := by omega
  have hnil := ind_nil (mayI_iff.1 hma).1
  have hlm : (meetL a b).length ≤ 1048576 := by have := inN_len (inN_meet (mayI_iff.1 hma).2 (mayI_iff.1 hmb).2); omega
  have hme : indT m (meetL a b) = true := ind_part hma (mayI_iff.2 ⟨(mayI_iff.1 hma).1, inN_meet (mayI_iff.1 hma).2 (mayI_iff.1 hmb).2⟩) (fun z hz => ((mem_meet (mayI_iff.1 hma).2.1 (mayI_iff.1 hmb).2.1 z).1 hz).1) hx
  have Hl := Lib.hid hl
  obtain ⟨lv, iv, hve, hl2, hi2⟩ := hv.open
  have Hb0 := Lib.hid (boxed_below w m lv iv)
  have HV := Lib.hid (hv.up Hb0.out)
  have HE := Lib.hid (hE.up Hb0.out)
  have HA := Lib.hid (hra.up Hb0.out)
  have HBv := Lib.hid (hrb.up Hb0.out)
  have Hblk := Lib.hid (boxed_blk w m lv iv)
  obtain ⟨Al, cl, rfl, _⟩ := hl2
  obtain ⟨Ai, ci, rfl, _⟩ := hi2
  obtain ⟨Aa, ca, hsa, hcapa, _⟩ := id hra
  obtain ⟨Ab, cb, hsb, hcapb, _⟩ := id hrb
  have haI : (a.length : Int) ≤ 9223372036854775807 := by have h1 := hcapa.1; have h2 := hcapa.2.1; unfold maxLen at h2; omega
  have hbI : (b.length : Int) ≤ 9223372036854775807 := by have h1 := hcapb.1; have h2 := hcapb.2.1; unfold maxLen at h2; omega
  subst hve hsa hsb
  unfold boxed at *
  clear hv hl hE hra hrb hcapa hcapb
  go_enter Tryz.func3, Tryz.ntmps3
  have hw0 := Hb0
  clear hw0
  go_wp2_with fail
  refine (fixed_any E _ HE.out).mono ?_
  rintro e w1 ⟨rfl, hb1⟩
  replace HE := Lib.hid (HE.out.up hb1)
  replace HV := Lib.hid (HV.out.up hb1)
  replace HA := Lib.hid (HA.out.up hb1)
  replace HBv := Lib.hid (HBv.out.up hb1)
  replace Hblk := Lib.hid (Hblk.out.below hb1 Hblk.out.lt)
  replace Hb0 := Lib.hid (below_next Hb0.out (Nat.le_refl _) hb1)
  clear hb1
  have k0 := Hblk.out.cell 0
  have k1 := Hblk.out.cell 1
  have k2 := Hblk.out.cell 2
  have k3 := Hblk.out.cell 3
  have k4 := Hblk.out.cell 4
  have k5 := Hblk.out.cell 5
  go_wp2_with fail
  refine (few_any m _ 10 _ HV.out Hl.out).mono ?_
  rintro e w2 ⟨rfl, hb2⟩
  rw [Hf.out]
  clear k0 k1 k2 k3 k4 k5
  replace HE := Lib.hid (HE.out.up hb2)
  replace HV := Lib.hid (HV.out.up hb2)
  replace HA := Lib.hid (HA.out.up hb2)
  replace HBv := Lib.hid (HBv.out.up hb2)
  replace Hblk := Lib.hid (Hblk.out.below hb2 Hblk.out.lt)
  replace Hb0 := Lib.hid (below_next Hb0.out (Nat.le_refl _) hb2)
  clear hb2
  have k0 := Hblk.out.cell 0
  have k1 := Hblk.out.cell 1
  have k2 := Hblk.out.cell 2
  have k3 := Hblk.out.cell 3
  have k4 := Hblk.out.cell 4
  have k5 := Hblk.out.cell 5
  go_wp2_with fail
  refine (rmay10_any m _ _ a _ HV.out (few_sml Hf.out) HA.out).mono ?_
  rintro e w3 ⟨rfl, hb3⟩
  rw [Hma.out]
  clear k0 k1 k2 k3 k4 k5
  replace HE := Lib.hid (HE.out.up hb3)
  replace HV := Lib.hid (HV.out.up hb3)
  replace HA := Lib.hid (HA.out.up hb3)
  replace HBv := Lib.hid (HBv.out.up hb3)
  replace Hblk := Lib.hid (Hblk.out.below hb3 Hblk.out.lt)
  replace Hb0 := Lib.hid (below_next Hb0.out (Nat.le_refl _) hb3)
  clear hb3
  have k0 := Hblk.out.cell 0
  have k1 := Hblk.out.cell 1
  have k2 := Hblk.out.cell 2
  have k3 := Hblk.out.cell 3
  have k4 := Hblk.out.cell 4
  have k5 := Hblk.out.cell 5
  go_wp2_with fail
  refine (rmay10_any m _ _ b _ HV.out (few_sml Hf.out) HBv.out).mono ?_
  rintro e w4 ⟨rfl, hb4⟩
  rw [Hmb.out]
  clear k0 k1 k2 k3 k4 k5
  replace HE := Lib.hid (HE.out.up hb4)
  replace HV := Lib.hid (HV.out.up hb4)
  replace HA := Lib.hid (HA.out.up hb4)
  replace HBv := Lib.hid (HBv.out.up hb4)
  replace Hblk := Lib.hid (Hblk.out.below hb4 Hblk.out.lt)
  replace Hb0 := Lib.hid (below_next Hb0.out (Nat.le_refl _) hb4)
  clear hb4
  have Hs := Lib.hid (few_sml Hf.out)
  have hbd := (Below.refl w4.heap.size w4).drew
  replace HE := Lib.hid (HE.out.up hbd)
  replace HV := Lib.hid (HV.out.up hbd)
  replace HA := Lib.hid (HA.out.up hbd)
  replace HBv := Lib.hid (HBv.out.up hbd)
  have K1 : Hid (∀ W, Below w4.drew.heap.size w4.drew W → W.cell? ⟨w.heap.size, 0, none⟩ = some (.int .i64 m.t) ∧ W.cell? ⟨w.heap.size, 1, none⟩ = some (.int .i64 m.n) ∧ W.cell? ⟨w.heap.size, 2, none⟩ = some (.int .i64 m.a) ∧ W.cell? ⟨w.heap.size, 3, none⟩ = some (.int .i64 m.b) ∧ W.cell? ⟨w.heap.size, 4, none⟩ = some (.slice Al m.l.length cl) ∧ W.cell? ⟨w.heap.size, 5, none⟩ = some (.slice Ai m.i.length ci)) := Lib.hid fun W hW => ⟨(Hblk.out.drew.below hW Hblk.out.lt).cell 0, (Hblk.out.drew.below hW Hblk.out.lt).cell 1, (Hblk.out.drew.below hW Hblk.out.lt).cell 2, (Hblk.out.drew.below hW Hblk.out.lt).cell 3, (Hblk.out.drew.below hW Hblk.out.lt).cell 4, (Hblk.out.drew.below hW Hblk.out.lt).cell 5⟩
  have HB : Hid (Below w4.drew.heap.size w4.drew w4.drew) := Lib.hid (Below.refl _ _)
  clear hbd Hblk
  have HX : Hid (∀ (sv : Value) (W : World), MatV W W.heap.size (.agg #[.int .i64 m.t, .int .i64 m.n, .int .i64 m.a, .int .i64 m.b, .slice Al m.l.length cl, .slice Ai m.i.length ci]) m → Row W W.heap.size sv a → Env E W → Calls Tryz.prog 11 #[(.agg #[.int .i64 m.t, .int .i64 m.n, .int .i64 m.a, .int .i64 m.b, .slice Al m.l.length cl, .slice Ai m.i.length ci]), sv] W (Says W true)) := Lib.hid fun sv W h1 h2 h3 => by rw [← hx]; exact indep_any E m _ sv _ W h1 Hs.out h2 hla1 h3
  have HY : Hid (∀ (sv : Value) (W : World), MatV W W.heap.size (.agg #[.int .i64 m.t, .int .i64 m.n, .int .i64 m.a, .int .i64 m.b, .slice Al m.l.length cl, .slice Ai m.i.length ci]) m → Row W W.heap.size sv b → Env E W → Calls Tryz.prog 11 #[(.agg #[.int .i64 m.t, .int .i64 m.n, .int .i64 m.a, .int .i64 m.b, .slice Al m.l.length cl, .slice Ai m.i.length ci]), sv] W (Says W false)) := Lib.hid fun sv W h1 h2 h3 => by rw [← hy]; exact indep_any E m _ sv _ W h1 Hs.out h2 hlb1 h3
  have HN : Hid (∀ (sv : Value) (W : World), MatV W W.heap.size (.agg #[.int .i64 m.t, .int .i64 m.n, .int .i64 m.a, .int .i64 m.b, .slice Al m.l.length cl, .slice Ai m.i.length ci]) m → Row W W.heap.size sv [] → Env E W → Calls Tryz.prog 11 #[(.agg #[.int .i64 m.t, .int .i64 m.n, .int .i64 m.a, .int .i64 m.b, .slice Al m.l.length cl, .slice Ai m.i.length ci]), sv] W (Says W true)) := Lib.hid fun sv W h1 h2 h3 => by rw [← hnil]; exact indep_any E m _ sv _ W h1 Hs.out h2 (by simp) h3
  have HMt : Hid (∀ (sv : Value) (W : World), MatV W W.heap.size (.agg #[.int .i64 m.t, .int .i64 m.n, .int .i64 m.a, .int .i64 m.b, .slice Al m.l.length cl, .slice Ai m.i.length ci]) m → Row W W.heap.size sv (meetL a b) → Env E W → Calls Tryz.prog 11 #[(.agg #[.int .i64 m.t, .int .i64 m.n, .int .i64 m.a, .int .i64 m.b, .slice Al m.l.length cl, .slice Ai m.i.length ci]), sv] W (Says W true)) := Lib.hid fun sv W h1 h2 h3 => by rw [← hme]; exact indep_any E m _ sv _ W h1 Hs.out h2 hlm h3
  clear hx hy hnil hma hmb hf hla hlb hlm hme
  go_wp2
  go_region_held3 (fun W => W.cell? ⟨w.heap.size, 0, none⟩ = some (.int .i64 m.t) ∧ W.cell? ⟨w.heap.size, 1, none⟩ = some (.int .i64 m.n) ∧ W.cell? ⟨w.heap.size, 2, none⟩ = some (.int .i64 m.a) ∧ W.cell? ⟨w.heap.size, 3, none⟩ = some (.int .i64 m.b) ∧ W.cell? ⟨w.heap.size, 4, none⟩ = some (.slice Al m.l.length cl) ∧ W.cell? ⟨w.heap.size, 5, none⟩ = some (.slice Ai m.i.length ci))
    (exact K1.out _ HB.out)
    (first
    | (go_at_call_of 11 (Value.slice Aa a.length ca); refine (HX.out _ _ HV.out HA.out HE.out).mono ?_; rintro e w5 ⟨rfl, hb5⟩; replace HB := Lib.hid (below_next HB.out (Nat.le_refl _) hb5); replace HE := Lib.hid (HE.out.up hb5); replace HV := Lib.hid (HV.out.up hb5); replace HA := Lib.hid (HA.out.up hb5); replace HBv := Lib.hid (HBv.out.up hb5); clear hb5)
    | (go_at_call_of 11 (Value.slice Ab b.length cb); refine (HY.out _ _ HV.out HBv.out HE.out).mono ?_; rintro e w6 ⟨rfl, hb6⟩; replace HB := Lib.hid (below_next HB.out (Nat.le_refl _) hb6); replace HE := Lib.hid (HE.out.up hb6); replace HV := Lib.hid (HV.out.up hb6); replace HA := Lib.hid (HA.out.up hb6); replace HBv := Lib.hid (HBv.out.up hb6); clear hb6))
  replace Hb0 := Lib.hid (below_next Hb0.out.drew (Nat.le_refl _) HB.out)
  have K2 := Lib.hid (fun W hW => K1.out W (below_next HB.out.drew (Nat.le_refl _) hW))
  have hbd := (Below.refl w6.heap.size w6).drew
  replace HE := Lib.hid (HE.out.up hbd)
  replace HV := Lib.hid (HV.out.up hbd)
  replace HA := Lib.hid (HA.out.up hbd)
  replace HBv := Lib.hid (HBv.out.up hbd)
  replace HB : Hid (Below w6.drew.heap.size w6.drew w6.drew) := Lib.hid (Below.refl _ _)
  clear hbd K1
  clear HX HY
  go_simp
  go_wp2
  go_region_held3 (fun W => W.cell? ⟨w.heap.size, 0, none⟩ = some (.int .i64 m.t) ∧ W.cell? ⟨w.heap.size, 1, none⟩ = some (.int .i64 m.n) ∧ W.cell? ⟨w.heap.size, 2, none⟩ = some (.int .i64 m.a) ∧ W.cell? ⟨w.heap.size, 3, none⟩ = some (.int .i64 m.b) ∧ W.cell? ⟨w.heap.size, 4, none⟩ = some (.slice Al m.l.length cl) ∧ W.cell? ⟨w.heap.size, 5, none⟩ = some (.slice Ai m.i.length ci))
    (exact K2.out _ HB.out)
    (first
    | (go_at_call_of 11 (Value.slice none 0 0); refine (HN.out _ _ HV.out (Row.nil_ _ _) HE.out).mono ?_; rintro e w7 ⟨rfl, hb7⟩; replace HB := Lib.hid (below_next HB.out (Nat.le_refl _) hb7); replace HE := Lib.hid (HE.out.up hb7); replace HV := Lib.hid (HV.out.up hb7); replace HA := Lib.hid (HA.out.up hb7); replace HBv := Lib.hid (HBv.out.up hb7); clear hb7)
    | (go_at_call 12; refine (refmeet_any _ _ a b _ HA.out HBv.out hla1 hlb1).mono ?_; rintro e w8 ⟨v8, rfl, hr8, hb8⟩; replace HB := Lib.hid (below_next HB.out (Nat.le_refl _) hb8); replace HE := Lib.hid (HE.out.up hb8); replace HV := Lib.hid (HV.out.up hb8); replace HA := Lib.hid (HA.out.up hb8); replace HBv := Lib.hid (HBv.out.up hb8); have HM8 := Lib.hid hr8; clear hr8 hb8)
    | (go_at_call_of 11 v8; refine (HMt.out _ _ HV.out HM8.out HE.out).mono ?_; rintro e w9 ⟨rfl, hb9⟩; replace HB := Lib.hid (below_next HB.out (Nat.le_refl _) hb9); replace HE := Lib.hid (HE.out.up hb9); replace HV := Lib.hid (HV.out.up hb9); replace HA := Lib.hid (HA.out.up hb9); replace HBv := Lib.hid (HBv.out.up hb9); clear hb9))
  replace Hb0 := Lib.hid (below_next Hb0.out.drew (Nat.le_refl _) HB.out)
  have K3 := Lib.hid (fun W hW => K2.out W (below_next HB.out.drew (Nat.le_refl _) hW))
  have hbd := (Below.refl w9.heap.size w9).drew
  replace HE := Lib.hid (HE.out.up hbd)
  replace HV := Lib.hid (HV.out.up hbd)
  replace HA := Lib.hid (HA.out.up hbd)
  replace HBv := Lib.hid (HBv.out.up hbd)
  replace HB : Hid (Below w9.drew.heap.size w9.drew w9.drew) := Lib.hid (Below.refl _ _)
  clear hbd K2
  go_simp
  go_wp2
  go_ret
  exact ⟨rfl, Hb0.out⟩

set_option maxHeartbeats 16000000 in
set_option maxRecDepth 100000 in
theorem exch_C (E : Nat → Addr) (m : Mat) (v sa sb : Value) (a b : List Int) (w : World) (hv : MatV w w.heap.size v m) (hl : Lim m) (hra : Row w w.heap.size sa a) (hrb : Row w w.heap.size sb b) (hE : Env E w) (hf : fewB 9 m 10 = true) (hma : mayI m a = true) (hmb : mayI m b = true) (hx : indT m a = true) (hy : indT m b = true) (hlen : a.length ≤ b.length) : Calls Tryz.prog 3 #[v, sa, sb] w (Truly w) := by
  have Hf := Lib.hid hf
  have Hma := Lib.hid hma
  have Hmb := Lib.hid hmb
  have hla := inN_len (mayI_iff.1 hma).2
  have hlb := inN_len (mayI_iff.1 hmb).2
  have hn64 := (nN_cast (mayI_iff.1 hma).1).2
  have hla1 : a.length ≤ 1048576 := by omega
  have hlb1 : b.length ≤ 1048576 := by omega
  have hnil := ind_nil (mayI_iff.1 hma).1
  have hlm : (meetL a b).length ≤ 1048576 := by have := inN_len (inN_meet (mayI_iff.1 hma).2 (mayI_iff.1 hmb).2); omega
  have hme : indT m (meetL a b) = true := ind_part hma (mayI_iff.2 ⟨(mayI_iff.1 hma).1, inN_meet (mayI_iff.1 hma).2 (mayI_iff.1 hmb).2⟩) (fun z hz => ((mem_meet (mayI_iff.1 hma).2.1 (mayI_iff.1 hmb).2.1 z).1 hz).1) hx
  have hlI : (a.length : Int) ≤ (b.length : Int) := by omega
  have Hl := Lib.hid hl
  obtain ⟨lv, iv, hve, hl2, hi2⟩ := hv.open
  have Hb0 := Lib.hid (boxed_below w m lv iv)
  have HV := Lib.hid (hv.up Hb0.out)
  have HE := Lib.hid (hE.up Hb0.out)
  have HA := Lib.hid (hra.up Hb0.out)
  have HBv := Lib.hid (hrb.up Hb0.out)
  have Hblk := Lib.hid (boxed_blk w m lv iv)
  obtain ⟨Al, cl, rfl, _⟩ := hl2
  obtain ⟨Ai, ci, rfl, _⟩ := hi2
  obtain ⟨Aa, ca, hsa, hcapa, _⟩ := id hra
  obtain ⟨Ab, cb, hsb, hcapb, _⟩ := id hrb
  have haI : (a.length : Int) ≤ 9223372036854775807 := by have h1 := hcapa.1; have h2 := hcapa.2.1; unfold maxLen at h2; omega
  have hbI : (b.length : Int) ≤ 9223372036854775807 := by have h1 := hcapb.1; have h2 := hcapb.2.1; unfold maxLen at h2; omega
  subst hve hsa hsb
  unfold boxed at *
  clear hv hl hE hra hrb hcapa hcapb
  go_enter Tryz.func3, Tryz.ntmps3
  have hw0 := Hb0
  clear hw0
  go_wp2_with fail
  refine (fixed_any E _ HE.out).mono ?_
  rintro e w1 ⟨rfl, hb1⟩
  replace HE := Lib.hid (HE.out.up hb1)
  replace HV := Lib.hid (HV.out.up hb1)
  replace HA := Lib.hid (HA.out.up hb1)
  replace HBv := Lib.hid (HBv.out.up hb1)
  replace Hblk := Lib.hid (Hblk.out.below hb1 Hblk.out.lt)
  replace Hb0 := Lib.hid (below_next Hb0.out (Nat.le_refl _) hb1)
  clear hb1
  have k0 := Hblk.out.cell 0
  have k1 := Hblk.out.cell 1
  have k2 := Hblk.out.cell 2
  have k3 := Hblk.out.cell 3
  have k4 := Hblk.out.cell 4
  have k5 := Hblk.out.cell 5
  go_wp2_with fail
  refine (few_any m _ 10 _ HV.out Hl.out).mono ?_
  rintro e w2 ⟨rfl, hb2⟩
  rw [Hf.out]
  clear k0 k1 k2 k3 k4 k5
  replace HE := Lib.hid (HE.out.up hb2)
  replace HV := Lib.hid (HV.out.up hb2)
  replace HA := Lib.hid (HA.out.up hb2)
  replace HBv := Lib.hid (HBv.out.up hb2)
  replace Hblk := Lib.hid (Hblk.out.below hb2 Hblk.out.lt)
  replace Hb0 := Lib.hid (below_next Hb0.out (Nat.le_refl _) hb2)
  clear hb2
  have k0 := Hblk.out.cell 0
  have k1 := Hblk.out.cell 1
  have k2 := Hblk.out.cell 2
  have k3 := Hblk.out.cell 3
  have k4 := Hblk.out.cell 4
  have k5 := Hblk.out.cell 5
  go_wp2_with fail
  refine (rmay10_any m _ _ a _ HV.out (few_sml Hf.out) HA.out).mono ?_
  rintro e w3 ⟨rfl, hb3⟩
  rw [Hma.out]
  clear k0 k1 k2 k3 k4 k5
  replace HE := Lib.hid (HE.out.up hb3)
  replace HV := Lib.hid (HV.out.up hb3)
  replace HA := Lib.hid (HA.out.up hb3)
  replace HBv := Lib.hid (HBv.out.up hb3)
  replace Hblk := Lib.hid (Hblk.out.below hb3 Hblk.out.lt)
  replace Hb0 := Lib.hid (below_next Hb0.out (Nat.le_refl _) hb3)
  clear hb3
  have k0 := Hblk.out.cell 0
  have k1 := Hblk.out.cell 1
  have k2 := Hblk.out.cell 2
  have k3 := Hblk.out.cell 3
  have k4 := Hblk.out.cell 4
  have k5 := Hblk.out.cell 5
  go_wp2_with fail
  refine (rmay10_any m _ _ b _ HV.out (few_sml Hf.out) HBv.out).mono ?_
  rintro e w4 ⟨rfl, hb4⟩
  rw [Hmb.out]
  clear k0 k1 k2 k3 k4 k5
  replace HE := Lib.hid (HE.out.up hb4)
  replace HV := Lib.hid (HV.out.up hb4)
  replace HA := Lib.hid (HA.out.up hb4)
  replace HBv := Lib.hid (HBv.out.up hb4)
  replace Hblk := Lib.hid (Hblk.out.below hb4 Hblk.out.lt)
  replace Hb0 := Lib.hid (below_next Hb0.out (Nat.le_refl _) hb4)
  clear hb4
  have Hs := Lib.hid (few_sml Hf.out)
  have hbd := (Below.refl w4.heap.size w4).drew
  replace HE := Lib.hid (HE.out.up hbd)
  replace HV := Lib.hid (HV.out.up hbd)
  replace HA := Lib.hid (HA.out.up hbd)
  replace HBv := Lib.hid (HBv.out.up hbd)
  have K1 : Hid (∀ W, Below w4.drew.heap.size w4.drew W → W.cell? ⟨w.heap.size, 0, none⟩ = some (.int .i64 m.t) ∧ W.cell? ⟨w.heap.size, 1, none⟩ = some (.int .i64 m.n) ∧ W.cell? ⟨w.heap.size, 2, none⟩ = some (.int .i64 m.a) ∧ W.cell? ⟨w.heap.size, 3, none⟩ = some (.int .i64 m.b) ∧ W.cell? ⟨w.heap.size, 4, none⟩ = some (.slice Al m.l.length cl) ∧ W.cell? ⟨w.heap.size, 5, none⟩ = some (.slice Ai m.i.length ci)) := Lib.hid fun W hW => ⟨(Hblk.out.drew.below hW Hblk.out.lt).cell 0, (Hblk.out.drew.below hW Hblk.out.lt).cell 1, (Hblk.out.drew.below hW Hblk.out.lt).cell 2, (Hblk.out.drew.below hW Hblk.out.lt).cell 3, (Hblk.out.drew.below hW Hblk.out.lt).cell 4, (Hblk.out.drew.below hW Hblk.out.lt).cell 5⟩
  have HB : Hid (Below w4.drew.heap.size w4.drew w4.drew) := Lib.hid (Below.refl _ _)
  clear hbd Hblk
  have HX : Hid (∀ (sv : Value) (W : World), MatV W W.heap.size (.agg #[.int .i64 m.t, .int .i64 m.n, .int .i64 m.a, .int .i64 m.b, .slice Al m.l.length cl, .slice Ai m.i.length ci]) m → Row W W.heap.size sv a → Env E W → Calls Tryz.prog 11 #[(.agg #[.int .i64 m.t, .int .i64 m.n, .int .i64 m.a, .int .i64 m.b, .slice Al m.l.length cl, .slice Ai m.i.length ci]), sv] W (Says W true)) := Lib.hid fun sv W h1 h2 h3 => by rw [← hx]; exact indep_any E m _ sv _ W h1 Hs.out h2 hla1 h3
  have HY : Hid (∀ (sv : Value) (W : World), MatV W W.heap.size (.agg #[.int .i64 m.t, .int .i64 m.n, .int .i64 m.a, .int .i64 m.b, .slice Al m.l.length cl, .slice Ai m.i.length ci]) m → Row W W.heap.size sv b → Env E W → Calls Tryz.prog 11 #[(.agg #[.int .i64 m.t, .int .i64 m.n, .int .i64 m.a, .int .i64 m.b, .slice Al m.l.length cl, .slice Ai m.i.length ci]), sv] W (Says W true)) := Lib.hid fun sv W h1 h2 h3 => by rw [← hy]; exact indep_any E m _ sv _ W h1 Hs.out h2 hlb1 h3
  have HN : Hid (∀ (sv : Value) (W : World), MatV W W.heap.size (.agg #[.int .i64 m.t, .int .i64 m.n, .int .i64 m.a, .int .i64 m.b, .slice Al m.l.length cl, .slice Ai m.i.length ci]) m → Row W W.heap.size sv [] → Env E W → Calls Tryz.prog 11 #[(.agg #[.int .i64 m.t, .int .i64 m.n, .int .i64 m.a, .int .i64 m.b, .slice Al m.l.length cl, .slice Ai m.i.length ci]), sv] W (Says W true)) := Lib.hid fun sv W h1 h2 h3 => by rw [← hnil]; exact indep_any E m _ sv _ W h1 Hs.out h2 (by simp) h3
  have HMt : Hid (∀ (sv : Value) (W : World), MatV W W.heap.size (.agg #[.int .i64 m.t, .int .i64 m.n, .int .i64 m.a, .int .i64 m.b, .slice Al m.l.length cl, .slice Ai m.i.length ci]) m → Row W W.heap.size sv (meetL a b) → Env E W → Calls Tryz.prog 11 #[(.agg #[.int .i64 m.t, .int .i64 m.n, .int .i64 m.a, .int .i64 m.b, .slice Al m.l.length cl, .slice Ai m.i.length ci]), sv] W (Says W true)) := Lib.hid fun sv W h1 h2 h3 => by rw [← hme]; exact indep_any E m _ sv _ W h1 Hs.out h2 hlm h3
  clear hx hy hnil hma hmb hf hla hlb hlm hme hlen
  go_wp2
  go_region_held3 (fun W => W.cell? ⟨w.heap.size, 0, none⟩ = some (.int .i64 m.t) ∧ W.cell? ⟨w.heap.size, 1, none⟩ = some (.int .i64 m.n) ∧ W.cell? ⟨w.heap.size, 2, none⟩ = some (.int .i64 m.a) ∧ W.cell? ⟨w.heap.size, 3, none⟩ = some (.int .i64 m.b) ∧ W.cell? ⟨w.heap.size, 4, none⟩ = some (.slice Al m.l.length cl) ∧ W.cell? ⟨w.heap.size, 5, none⟩ = some (.slice Ai m.i.length ci))
    (exact K1.out _ HB.out)
    (first
    | (go_at_call_of 11 (Value.slice Aa a.length ca); refine (HX.out _ _ HV.out HA.out HE.out).mono ?_; rintro e w5 ⟨rfl, hb5⟩; replace HB := Lib.hid (below_next HB.out (Nat.le_refl _) hb5); replace HE := Lib.hid (HE.out.up hb5); replace HV := Lib.hid (HV.out.up hb5); replace HA := Lib.hid (HA.out.up hb5); replace HBv := Lib.hid (HBv.out.up hb5); clear hb5)
    | (go_at_call_of 11 (Value.slice Ab b.length cb); refine (HY.out _ _ HV.out HBv.out HE.out).mono ?_; rintro e w6 ⟨rfl, hb6⟩; replace HB := Lib.hid (below_next HB.out (Nat.le_refl _) hb6); replace HE := Lib.hid (HE.out.up hb6); replace HV := Lib.hid (HV.out.up hb6); replace HA := Lib.hid (HA.out.up hb6); replace HBv := Lib.hid (HBv.out.up hb6); clear hb6))
  replace Hb0 := Lib.hid (below_next Hb0.out.drew (Nat.le_refl _) HB.out)
  have K2 := Lib.hid (fun W hW => K1.out W (below_next HB.out.drew (Nat.le_refl _) hW))
  have hbd := (Below.refl w6.heap.size w6).drew
  replace HE := Lib.hid (HE.out.up hbd)
  replace HV := Lib.hid (HV.out.up hbd)
  replace HA := Lib.hid (HA.out.up hbd)
  replace HBv := Lib.hid (HBv.out.up hbd)
  replace HB : Hid (Below w6.drew.heap.size w6.drew w6.drew) := Lib.hid (Below.refl _ _)
  clear hbd K1
  clear HX HY
  go_simp
  go_wp2
  go_region_held3 (fun W => W.cell? ⟨w.heap.size, 0, none⟩ = some (.int .i64 m.t) ∧ W.cell? ⟨w.heap.size, 1, none⟩ = some (.int .i64 m.n) ∧ W.cell? ⟨w.heap.size, 2, none⟩ = some (.int .i64 m.a) ∧ W.cell? ⟨w.heap.size, 3, none⟩ = some (.int .i64 m.b) ∧ W.cell? ⟨w.heap.size, 4, none⟩ = some (.slice Al m.l.length cl) ∧ W.cell? ⟨w.heap.size, 5, none⟩ = some (.slice Ai m.i.length ci))
    (exact K2.out _ HB.out)
    (first
    | (go_at_call_of 11 (Value.slice none 0 0); refine (HN.out _ _ HV.out (Row.nil_ _ _) HE.out).mono ?_; rintro e w7 ⟨rfl, hb7⟩; replace HB := Lib.hid (below_next HB.out (Nat.le_refl _) hb7); replace HE := Lib.hid (HE.out.up hb7); replace HV := Lib.hid (HV.out.up hb7); replace HA := Lib.hid (HA.out.up hb7); replace HBv := Lib.hid (HBv.out.up hb7); clear hb7)
    | (go_at_call 12; refine (refmeet_any _ _ a b _ HA.out HBv.out hla1 hlb1).mono ?_; rintro e w8 ⟨v8, rfl, hr8, hb8⟩; replace HB := Lib.hid (below_next HB.out (Nat.le_refl _) hb8); replace HE := Lib.hid (HE.out.up hb8); replace HV := Lib.hid (HV.out.up hb8); replace HA := Lib.hid (HA.out.up hb8); replace HBv := Lib.hid (HBv.out.up hb8); have HM8 := Lib.hid hr8; clear hr8 hb8)
    | (go_at_call_of 11 v8; refine (HMt.out _ _ HV.out HM8.out HE.out).mono ?_; rintro e w9 ⟨rfl, hb9⟩; replace HB := Lib.hid (below_next HB.out (Nat.le_refl _) hb9); replace HE := Lib.hid (HE.out.up hb9); replace HV := Lib.hid (HV.out.up hb9); replace HA := Lib.hid (HA.out.up hb9); replace HBv := Lib.hid (HBv.out.up hb9); clear hb9))
  replace Hb0 := Lib.hid (below_next Hb0.out.drew (Nat.le_refl _) HB.out)
  have K3 := Lib.hid (fun W hW => K2.out W (below_next HB.out.drew (Nat.le_refl _) hW))
  have hbd := (Below.refl w9.heap.size w9).drew
  replace HE := Lib.hid (HE.out.up hbd)
  replace HV := Lib.hid (HV.out.up hbd)
  replace HA := Lib.hid (HA.out.up hbd)
  replace HBv := Lib.hid (HBv.out.up hbd)
  replace HB : Hid (Below w9.drew.heap.size w9.drew w9.drew) := Lib.hid (Below.refl _ _)
  clear hbd K2
  go_simp
  go_wp2
  go_ret
  exact ⟨rfl, Hb0.out⟩

set_option maxHeartbeats 16000000 in
set_option maxRecDepth 100000 in
theorem exch_D (E : Nat → Addr) (m : Mat) (v sa sb : Value) (a b : List Int) (w : World) (hv : MatV w w.heap.size v m) (hl : Lim m) (hra : Row w w.heap.size sa a) (hrb : Row w w.heap.size sb b) (hE : Env E w) (hf : fewB 9 m 10 = true) (hma : mayI m a = true) (hmb : mayI m b = true) (hx : indT m a = true) (hy : indT m b = true) (hlen : b.length < a.length) : Calls Tryz.prog 3 #[v, sa, sb] w (Truly w) := by
  have Hf := Lib.hid hf
  have Hma := Lib.hid hma
  have Hmb := Lib.hid hmb
  have hla := inN_len (mayI_iff.1 hma).2
  have hlb := inN_len (mayI_iff.1 hmb).2
  have hn64 := (nN_cast (mayI_iff.1 hma).1).2
  have hla1 : a.length ≤ 1048576 := by omega
  have hlb1 : b.length ≤ 1048576 := by omega
  have hnil := ind_nil (mayI_iff.1 hma).1
  have hlm : (meetL a b).length ≤ 1048576 := by have := inN_len (inN_meet (mayI_iff.1 hma).2 (mayI_iff.1 hmb).2); omega
  have hme : indT m (meetL a b) = true := ind_part hma (mayI_iff.2 ⟨(mayI_iff.1 hma).1, inN_meet (mayI_iff.1 hma).2 (mayI_iff.1 hmb).2⟩) (fun z hz => ((mem_meet (mayI_iff.1 hma).2.1 (mayI_iff.1 hmb).2.1 z).1 hz).1) hx
  have hlI : ¬ (a.length : Int) ≤ (b.length : Int) := by omega
  have Hex := Lib.hid (exchange hma hmb hx hy hlen)
  have hlmi : (minusL a b).length ≤ 64 := by have := inN_len (inN_minus (mayI_iff.1 hma).2 (mayI_iff.1 hmb).2); omega
  have hlmI : ((minusL a b).length : Int) ≤ 64 := by omega
  have Hlu : Hid (∀ x : Int, (unionL b [x]).length ≤ 1048576) := Lib.hid fun x => by have := union_length b [x]; simp at this; omega
  have Hl := Lib.hid hl
  obtain ⟨lv, iv, hve, hl2, hi2⟩ := hv.open
  have Hb0 := Lib.hid (boxed_below w m lv iv)
  have HV := Lib.hid (hv.up Hb0.out)
  have HE := Lib.hid (hE.up Hb0.out)
  have HA := Lib.hid (hra.up Hb0.out)
  have HBv := Lib.hid (hrb.up Hb0.out)
  have Hblk := Lib.hid (boxed_blk w m lv iv)
  obtain ⟨Al, cl, rfl, _⟩ := hl2
  obtain ⟨Ai, ci, rfl, _⟩ := hi2
  obtain ⟨Aa, ca, hsa, hcapa, _⟩ := id hra
  obtain ⟨Ab, cb, hsb, hcapb, _⟩ := id hrb
  have haI : (a.length : Int) ≤ 9223372036854775807 := by have h1 := hcapa.1; have h2 := hcapa.2.1; unfold maxLen at h2; omega
  have hbI : (b.length : Int) ≤ 9223372036854775807 := by have h1 := hcapb.1; have h2 := hcapb.2.1; unfold maxLen at h2; omega
  subst hve hsa hsb
  unfold boxed at *
  clear hv hl hE hra hrb hcapa hcapb
  go_enter Tryz.func3, Tryz.ntmps3
  have hw0 := Hb0
  clear hw0
  go_wp2_with fail
  refine (fixed_any E _ HE.out).mono ?_
  rintro e w1 ⟨rfl, hb1⟩
  replace HE := Lib.hid (HE.out.up hb1)
  replace HV := Lib.hid (HV.out.up hb1)
  replace HA := Lib.hid (HA.out.up hb1)
  replace HBv := Lib.hid (HBv.out.up hb1)
  replace Hblk := Lib.hid (Hblk.out.below hb1 Hblk.out.lt)
  replace Hb0 := Lib.hid (below_next Hb0.out (Nat.le_refl _) hb1)
  clear hb1
  have k0 := Hblk.out.cell 0
  have k1 := Hblk.out.cell 1
  have k2 := Hblk.out.cell 2
  have k3 := Hblk.out.cell 3
  have k4 := Hblk.out.cell 4
  have k5 := Hblk.out.cell 5
  go_wp2_with fail
  refine (few_any m _ 10 _ HV.out Hl.out).mono ?_
  rintro e w2 ⟨rfl, hb2⟩
  rw [Hf.out]
  clear k0 k1 k2 k3 k4 k5
  replace HE := Lib.hid (HE.out.up hb2)
  replace HV := Lib.hid (HV.out.up hb2)
  replace HA := Lib.hid (HA.out.up hb2)
  replace HBv := Lib.hid (HBv.out.up hb2)
  replace Hblk := Lib.hid (Hblk.out.below hb2 Hblk.out.lt)
  replace Hb0 := Lib.hid (below_next Hb0.out (Nat.le_refl _) hb2)
  clear hb2
  have k0 := Hblk.out.cell 0
  have k1 := Hblk.out.cell 1
  have k2 := Hblk.out.cell 2
  have k3 := Hblk.out.cell 3
  have k4 := Hblk.out.cell 4
  have k5 := Hblk.out.cell 5
  go_wp2_with fail
  refine (rmay10_any m _ _ a _ HV.out (few_sml Hf.out) HA.out).mono ?_
  rintro e w3 ⟨rfl, hb3⟩
  rw [Hma.out]
  clear k0 k1 k2 k3 k4 k5
  replace HE := Lib.hid (HE.out.up hb3)
  replace HV := Lib.hid (HV.out.up hb3)
  replace HA := Lib.hid (HA.out.up hb3)
  replace HBv := Lib.hid (HBv.out.up hb3)
  replace Hblk := Lib.hid (Hblk.out.below hb3 Hblk.out.lt)
  replace Hb0 := Lib.hid (below_next Hb0.out (Nat.le_refl _) hb3)
  clear hb3
  have k0 := Hblk.out.cell 0
  have k1 := Hblk.out.cell 1
  have k2 := Hblk.out.cell 2
  have k3 := Hblk.out.cell 3
  have k4 := Hblk.out.cell 4
  have k5 := Hblk.out.cell 5
  go_wp2_with fail
  refine (rmay10_any m _ _ b _ HV.out (few_sml Hf.out) HBv.out).mono ?_
  rintro e w4 ⟨rfl, hb4⟩
  rw [Hmb.out]
  clear k0 k1 k2 k3 k4 k5
  replace HE := Lib.hid (HE.out.up hb4)
  replace HV := Lib.hid (HV.out.up hb4)
  replace HA := Lib.hid (HA.out.up hb4)
  replace HBv := Lib.hid (HBv.out.up hb4)
  replace Hblk := Lib.hid (Hblk.out.below hb4 Hblk.out.lt)
  replace Hb0 := Lib.hid (below_next Hb0.out (Nat.le_refl _) hb4)
  clear hb4
  have Hs := Lib.hid (few_sml Hf.out)
  have hbd := (Below.refl w4.heap.size w4).drew
  replace HE := Lib.hid (HE.out.up hbd)
  replace HV := Lib.hid (HV.out.up hbd)
  replace HA := Lib.hid (HA.out.up hbd)
  replace HBv := Lib.hid (HBv.out.up hbd)
  have K1 : Hid (∀ W, Below w4.drew.heap.size w4.drew W → W.cell? ⟨w.heap.size, 0, none⟩ = some (.int .i64 m.t) ∧ W.cell? ⟨w.heap.size, 1, none⟩ = some (.int .i64 m.n) ∧ W.cell? ⟨w.heap.size, 2, none⟩ = some (.int .i64 m.a) ∧ W.cell? ⟨w.heap.size, 3, none⟩ = some (.int .i64 m.b) ∧ W.cell? ⟨w.heap.size, 4, none⟩ = some (.slice Al m.l.length cl) ∧ W.cell? ⟨w.heap.size, 5, none⟩ = some (.slice Ai m.i.length ci)) := Lib.hid fun W hW => ⟨(Hblk.out.drew.below hW Hblk.out.lt).cell 0, (Hblk.out.drew.below hW Hblk.out.lt).cell 1, (Hblk.out.drew.below hW Hblk.out.lt).cell 2, (Hblk.out.drew.below hW Hblk.out.lt).cell 3, (Hblk.out.drew.below hW Hblk.out.lt).cell 4, (Hblk.out.drew.below hW Hblk.out.lt).cell 5⟩
  have HB : Hid (Below w4.drew.heap.size w4.drew w4.drew) := Lib.hid (Below.refl _ _)
  clear hbd Hblk
  have HX : Hid (∀ (sv : Value) (W : World), MatV W W.heap.size (.agg #[.int .i64 m.t, .int .i64 m.n, .int .i64 m.a, .int .i64 m.b, .slice Al m.l.length cl, .slice Ai m.i.length ci]) m → Row W W.heap.size sv a → Env E W → Calls Tryz.prog 11 #[(.agg #[.int .i64 m.t, .int .i64 m.n, .int .i64 m.a, .int .i64 m.b, .slice Al m.l.length cl, .slice Ai m.i.length ci]), sv] W (Says W true)) := Lib.hid fun sv W h1 h2 h3 => by rw [← hx]; exact indep_any E m _ sv _ W h1 Hs.out h2 hla1 h3
  have HY : Hid (∀ (sv : Value) (W : World), MatV W W.heap.size (.agg #[.int .i64 m.t, .int .i64 m.n, .int .i64 m.a, .int .i64 m.b, .slice Al m.l.length cl, .slice Ai m.i.length ci]) m → Row W W.heap.size sv b → Env E W → Calls Tryz.prog 11 #[(.agg #[.int .i64 m.t, .int .i64 m.n, .int .i64 m.a, .int .i64 m.b, .slice Al m.l.length cl, .slice Ai m.i.length ci]), sv] W (Says W true)) := Lib.hid fun sv W h1 h2 h3 => by rw [← hy]; exact indep_any E m _ sv _ W h1 Hs.out h2 hlb1 h3
  have HN : Hid (∀ (sv : Value) (W : World), MatV W W.heap.size (.agg #[.int .i64 m.t, .int .i64 m.n, .int .i64 m.a, .int .i64 m.b, .slice Al m.l.length cl, .slice Ai m.i.length ci]) m → Row W W.heap.size sv [] → Env E W → Calls Tryz.prog 11 #[(.agg #[.int .i64 m.t, .int .i64 m.n, .int .i64 m.a, .int .i64 m.b, .slice Al m.l.length cl, .slice Ai m.i.length ci]), sv] W (Says W true)) := Lib.hid fun sv W h1 h2 h3 => by rw [← hnil]; exact indep_any E m _ sv _ W h1 Hs.out h2 (by simp) h3
  have HMt : Hid (∀ (sv : Value) (W : World), MatV W W.heap.size (.agg #[.int .i64 m.t, .int .i64 m.n, .int .i64 m.a, .int .i64 m.b, .slice Al m.l.length cl, .slice Ai m.i.length ci]) m → Row W W.heap.size sv (meetL a b) → Env E W → Calls Tryz.prog 11 #[(.agg #[.int .i64 m.t, .int .i64 m.n, .int .i64 m.a, .int .i64 m.b, .slice Al m.l.length cl, .slice Ai m.i.length ci]), sv] W (Says W true)) := Lib.hid fun sv W h1 h2 h3 => by rw [← hme]; exact indep_any E m _ sv _ W h1 Hs.out h2 hlm h3
  clear hx hy hnil hma hmb hf hla hlb hlm hme hlen
  go_wp2
  go_region_held3 (fun W => W.cell? ⟨w.heap.size, 0, none⟩ = some (.int .i64 m.t) ∧ W.cell? ⟨w.heap.size, 1, none⟩ = some (.int .i64 m.n) ∧ W.cell? ⟨w.heap.size, 2, none⟩ = some (.int .i64 m.a) ∧ W.cell? ⟨w.heap.size, 3, none⟩ = some (.int .i64 m.b) ∧ W.cell? ⟨w.heap.size, 4, none⟩ = some (.slice Al m.l.length cl) ∧ W.cell? ⟨w.heap.size, 5, none⟩ = some (.slice Ai m.i.length ci))
    (exact K1.out _ HB.out)
    (first
    | (go_at_call_of 11 (Value.slice Aa a.length ca); refine (HX.out _ _ HV.out HA.out HE.out).mono ?_; rintro e w5 ⟨rfl, hb5⟩; replace HB := Lib.hid (below_next HB.out (Nat.le_refl _) hb5); replace HE := Lib.hid (HE.out.up hb5); replace HV := Lib.hid (HV.out.up hb5); replace HA := Lib.hid (HA.out.up hb5); replace HBv := Lib.hid (HBv.out.up hb5); clear hb5)
    | (go_at_call_of 11 (Value.slice Ab b.length cb); refine (HY.out _ _ HV.out HBv.out HE.out).mono ?_; rintro e w6 ⟨rfl, hb6⟩; replace HB := Lib.hid (below_next HB.out (Nat.le_refl _) hb6); replace HE := Lib.hid (HE.out.up hb6); replace HV := Lib.hid (HV.out.up hb6); replace HA := Lib.hid (HA.out.up hb6); replace HBv := Lib.hid (HBv.out.up hb6); clear hb6))
  replace Hb0 := Lib.hid (below_next Hb0.out.drew (Nat.le_refl _) HB.out)
  have K2 := Lib.hid (fun W hW => K1.out W (below_next HB.out.drew (Nat.le_refl _) hW))
  have hbd := (Below.refl w6.heap.size w6).drew
  replace HE := Lib.hid (HE.out.up hbd)
  replace HV := Lib.hid (HV.out.up hbd)
  replace HA := Lib.hid (HA.out.up hbd)
  replace HBv := Lib.hid (HBv.out.up hbd)
  replace HB : Hid (Below w6.drew.heap.size w6.drew w6.drew) := Lib.hid (Below.refl _ _)
  clear hbd K1
  clear HX HY
  go_simp
  go_wp2
  go_region_held3 (fun W => W.cell? ⟨w.heap.size, 0, none⟩ = some (.int .i64 m.t) ∧ W.cell? ⟨w.heap.size, 1, none⟩ = some (.int .i64 m.n) ∧ W.cell? ⟨w.heap.size, 2, none⟩ = some (.int .i64 m.a) ∧ W.cell? ⟨w.heap.size, 3, none⟩ = some (.int .i64 m.b) ∧ W.cell? ⟨w.heap.size, 4, none⟩ = some (.slice Al m.l.length cl) ∧ W.cell? ⟨w.heap.size, 5, none⟩ = some (.slice Ai m.i.length ci))
    (exact K2.out _ HB.out)
    (first
    | (go_at_call_of 11 (Value.slice none 0 0); refine (HN.out _ _ HV.out (Row.nil_ _ _) HE.out).mono ?_; rintro e w7 ⟨rfl, hb7⟩; replace HB := Lib.hid (below_next HB.out (Nat.le_refl _) hb7); replace HE := Lib.hid (HE.out.up hb7); replace HV := Lib.hid (HV.out.up hb7); replace HA := Lib.hid (HA.out.up hb7); replace HBv := Lib.hid (HBv.out.up hb7); clear hb7)
    | (go_at_call 12; refine (refmeet_any _ _ a b _ HA.out HBv.out hla1 hlb1).mono ?_; rintro e w8 ⟨v8, rfl, hr8, hb8⟩; replace HB := Lib.hid (below_next HB.out (Nat.le_refl _) hb8); replace HE := Lib.hid (HE.out.up hb8); replace HV := Lib.hid (HV.out.up hb8); replace HA := Lib.hid (HA.out.up hb8); replace HBv := Lib.hid (HBv.out.up hb8); have HM8 := Lib.hid hr8; clear hr8 hb8)
    | (go_at_call_of 11 v8; refine (HMt.out _ _ HV.out HM8.out HE.out).mono ?_; rintro e w9 ⟨rfl, hb9⟩; replace HB := Lib.hid (below_next HB.out (Nat.le_refl _) hb9); replace HE := Lib.hid (HE.out.up hb9); replace HV := Lib.hid (HV.out.up hb9); replace HA := Lib.hid (HA.out.up hb9); replace HBv := Lib.hid (HBv.out.up hb9); clear hb9))
  replace Hb0 := Lib.hid (below_next Hb0.out.drew (Nat.le_refl _) HB.out)
  have K3 := Lib.hid (fun W hW => K2.out W (below_next HB.out (Nat.le_refl _) hW))
  clear HB K2 HN HMt HM8
  go_simp
  go_wp2_with fail
  refine (refminus_any _ _ a b _ HA.out HBv.out hla1 hlb1).mono ?_
  rintro e w10 ⟨v10, rfl, hr10, hb10⟩
  replace HE := Lib.hid (HE.out.up hb10)
  replace HV := Lib.hid (HV.out.up hb10)
  replace HA := Lib.hid (HA.out.up hb10)
  replace HBv := Lib.hid (HBv.out.up hb10)
  have K4 := Lib.hid (fun W hW => K3.out W (below_next hb10 (Nat.le_refl _) hW))
  replace Hb0 := Lib.hid (below_next Hb0.out (Nat.le_refl _) hb10)
  have HMo := Lib.hid hr10
  obtain ⟨Am, cm, rfl, _⟩ := hr10
  clear hb10 K3
  go_wp2
  go_loopw [10] (fun vi wr => ∃ i : Nat, vi = .int .i64 i ∧ i ≤ (minusL a b).length ∧ (∀ j, j < i → indT m (unionL b [(minusL a b).getD j 0]) = false) ∧ Below w10.heap.size w10 wr) (fun vi _ => (minusL a b).length - (intOf vi).toNat)
  case atStart => exact ⟨0, rfl, Nat.zero_le _, fun j hj => absurd hj (Nat.not_lt_zero _), Below.refl _ _⟩
  case round =>
    obtain ⟨i, rfl, hi, hno, hbr⟩ := hrel
    have Hno := Lib.hid hno
    have Hbr := Lib.hid hbr
    clear hno
    by_cases hlt : i < (minusL a b).length
    · have hltI : (i : Int) < ((minusL a b).length : Int) := by omega
      have hw1 : IntKind.i64.wrap ((i : Int) + 1) = (i : Int) + 1 := by rw [IntKind.wrap_i64]; omega
      have hbd := (Below.refl wr.heap.size wr).drew
      have HEr := Lib.hid ((HE.out.up Hbr.out).up hbd)
      have HVr := Lib.hid ((HV.out.up Hbr.out).up hbd)
      have HAr := Lib.hid ((HA.out.up Hbr.out).up hbd)
      have HBvr := Lib.hid ((HBv.out.up Hbr.out).up hbd)
      obtain ⟨ad, hAm, _, hic, hone⟩ := Row.one (HMo.out.up hbr) hlt
      subst hAm
      have hone1 := hone.up hbd
      have hicI : (i : Int) + 1 ≤ (cm : Int) := by omega
      have K5 : Hid (∀ W, Below wr.drew.heap.size wr.drew W → W.cell? ⟨w.heap.size, 0, none⟩ = some (.int .i64 m.t) ∧ W.cell? ⟨w.heap.size, 1, none⟩ = some (.int .i64 m.n) ∧ W.cell? ⟨w.heap.size, 2, none⟩ = some (.int .i64 m.a) ∧ W.cell? ⟨w.heap.size, 3, none⟩ = some (.int .i64 m.b) ∧ W.cell? ⟨w.heap.size, 4, none⟩ = some (.slice Al m.l.length cl) ∧ W.cell? ⟨w.heap.size, 5, none⟩ = some (.slice Ai m.i.length ci)) := Lib.hid fun W hW => K4.out W (below_next hbr.drew (Nat.le_refl _) hW)
      have HB : Hid (Below wr.drew.heap.size wr.drew wr.drew) := Lib.hid (Below.refl _ _)
      obtain ⟨x, hx⟩ : ∃ x, (minusL a b).getD i 0 = x := ⟨_, rfl⟩
      rw [hx] at hone1
      have Hone : Hid (∀ (A : Option Addr) (n c : Nat), A = some (ad.add i) → n = 1 → c = cm - i → Row wr.drew wr.drew.heap.size (.slice A n c) [x]) := Lib.hid fun A n c h1 h2 h3 => by subst h1 h2 h3; exact hone1
      clear hone1
      obtain ⟨z, hz⟩ : ∃ z, indT m (unionL b [x]) = z := ⟨_, rfl⟩
      have Hind : Hid (∀ (sv : Value) (W : World), MatV W W.heap.size (.agg #[.int .i64 m.t, .int .i64 m.n, .int .i64 m.a, .int .i64 m.b, .slice Al m.l.length cl, .slice Ai m.i.length ci]) m → Row W W.heap.size sv (unionL b [x]) → Env E W → Calls Tryz.prog 11 #[.agg #[.int .i64 m.t, .int .i64 m.n, .int .i64 m.a, .int .i64 m.b, .slice Al m.l.length cl, .slice Ai m.i.length ci], sv] W (Says W z)) := Lib.hid fun sv W h1 h2 h3 => by rw [← hz]; exact indep_any E m _ sv _ W h1 Hs.out h2 (Hlu.out x) h3
      have Hnext : Hid (z = false → ∀ j, j < i + 1 → indT m (unionL b [(minusL a b).getD j 0]) = false) := Lib.hid fun h j hj => by
        by_cases e : j = i
        · rw [e, hx, hz]; exact h
        · exact Hno.out j (by omega)
      have hlt2 : i + 1 ≤ (minusL a b).length := by omega
      have hltI2 : (i : Int) + 1 ≤ ((minusL a b).length : Int) := by omega
      have hii : (i : Int) ≤ (i : Int) + 1 := by omega
      clear hbd hone hbr hx hz
      go_wp2
      go_region_held3 (fun W => W.cell? ⟨w.heap.size, 0, none⟩ = some (.int .i64 m.t) ∧ W.cell? ⟨w.heap.size, 1, none⟩ = some (.int .i64 m.n) ∧ W.cell? ⟨w.heap.size, 2, none⟩ = some (.int .i64 m.a) ∧ W.cell? ⟨w.heap.size, 3, none⟩ = some (.int .i64 m.b) ∧ W.cell? ⟨w.heap.size, 4, none⟩ = some (.slice Al m.l.length cl) ∧ W.cell? ⟨w.heap.size, 5, none⟩ = some (.slice Ai m.i.length ci))
        (exact K5.out _ HB.out)
        (first
        | (go_at_call 14; refine (refunion_any _ _ b [x] _ HBvr.out (Hone.out _ _ _ (by simp; intro h; omega) (by first | rfl | (simp; try omega)) (by first | rfl | (simp; try omega))) hlb1 (by simp)).mono ?_; rintro e w11 ⟨v11, rfl, hr11, hb11⟩; replace HB := Lib.hid (below_next HB.out (Nat.le_refl _) hb11); replace HEr := Lib.hid (HEr.out.up hb11); replace HVr := Lib.hid (HVr.out.up hb11); replace HAr := Lib.hid (HAr.out.up hb11); replace HBvr := Lib.hid (HBvr.out.up hb11); have HU := Lib.hid hr11; clear hr11 hb11)
        | (go_at_call_of 11 v11; refine (Hind.out _ _ HVr.out HU.out HEr.out).mono ?_; rintro e w12 ⟨rfl, hb12⟩; replace HB := Lib.hid (below_next HB.out (Nat.le_refl _) hb12); clear hb12))
      go_simp
      cases z
      · go_wp2
        refine ⟨⟨i + 1, by first | rfl | simp, hlt2, Hnext.out rfl, below_next Hbr.out.drew (Nat.le_refl _) HB.out⟩, ?_⟩
        show (minusL a b).length - ((i : Int) + 1).toNat < (minusL a b).length - ((i : Int)).toNat
        omega
      · go_wp2
        go_ret
        exact ⟨rfl, below_next Hb0.out (Nat.le_refl _) (below_next Hbr.out.drew (Nat.le_refl _) HB.out)⟩
    · exfalso
      obtain ⟨j, hj, hje⟩ := Hex.out
      have := Hno.out j (by omega)
      rw [this] at hje
      cases hje

theorem exch_main (E : Nat → Addr) (m : Mat) (v sa sb : Value) (a b : List Int) (w : World) (hv : MatV w w.heap.size v m) (hl : Lim m) (hra : Row w w.heap.size sa a) (hrb : Row w w.heap.size sb b) (hE : Env E w) (hf : fewB 9 m 10 = true) (hma : mayI m a = true) (hmb : mayI m b = true) : Calls Tryz.prog 3 #[v, sa, sb] w (Truly w) := by
  rcases hx : indT m a with _ | _
  · exact exch_A E m v sa sb a b w hv hl hra hrb hE hf hma hmb hx
  · rcases hy : indT m b with _ | _
    · exact exch_B E m v sa sb a b w hv hl hra hrb hE hf hma hmb hx hy
    · by_cases hlen : a.length ≤ b.length
      · exact exch_C E m v sa sb a b w hv hl hra hrb hE hf hma hmb hx hy hlen
      · exact exch_D E m v sa sb a b w hv hl hra hrb hE hf hma hmb hx hy (by omega)

theorem exch_all (E : Nat → Addr) (m : Mat) (v sa sb : Value) (a b : List Int) (w : World) (hv : MatV w w.heap.size v m) (hl : Lim m) (hra : Row w w.heap.size sa a) (hrb : Row w w.heap.size sb b) (hE : Env E w) : Calls Tryz.prog 3 #[v, sa, sb] w (Truly w) := by
  rcases hf : fewB 9 m 10 with _ | _
  · exact exch_1 E m v sa sb a b w hv hl hra hrb hE hf
  · rcases hma : mayI m a with _ | _
    · exact exch_2 E m v sa sb a b w hv hl hra hrb hE hf hma
    · rcases hmb : mayI m b with _ | _
      · exact exch_3 E m v sa sb a b w hv hl hra hrb hE hf hma hmb
      · exact exch_main E m v sa sb a b w hv hl hra hrb hE hf hma hmb
theorem exch_any (E : Nat → Addr) (m : Mat) (v sa : Value) (a : List Int) (sb : Value) (b : List Int) (w : World) (hv : MatV w w.heap.size v m) (hl : Lim m) (hra : Row w w.heap.size sa a) (hrb : Row w w.heap.size sb b) (hE : Env E w) : Calls Tryz.prog 3 #[v, sa, sb] w (Truly w) := exch_all E m v sa sb a b w hv hl hra hrb hE

end Wp
end Go.Proofs.YtbjngggcpojefaaGreatDoor
