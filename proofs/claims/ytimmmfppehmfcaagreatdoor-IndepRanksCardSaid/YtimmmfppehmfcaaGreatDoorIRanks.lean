/- IndepRanks, walked: it answers true. -/
import Derived.Test.YtimmmfppehmfcaaGreatDoorZF
import Derived.Test.YtimmmfppehmfcaaGreatDoorZS
import Derived.Deep.RegionHeld3
namespace Go.Proofs.YtimmmfppehmfcaaGreatDoor
open Go.RowKit
namespace Wp

/-- What the ranks of two sets have to do with one another. -/
theorem ranks_fact {m : Mat} {a b : List Int} (ha : mayI m a = true) (hb : mayI m b = true) : ∃ p q u v : Nat, rankT m a = (p : Int) ∧ rankT m b = (q : Int) ∧ rankT m (unionL a b) = (u : Int) ∧ rankT m (meetL a b) = (v : Int) ∧ p ≤ a.length ∧ u + v ≤ p + q ∧ v ≤ p ∧ p ≤ u ∧ p ≤ 64 ∧ q ≤ 64 ∧ u ≤ 64 ∧ v ≤ 64 := by
  obtain ⟨hc, hA⟩ := mayI_iff.1 ha
  obtain ⟨_, hB⟩ := mayI_iff.1 hb
  have hU := inN_union hA hB
  have hM := inN_meet hA hB
  have hk := rk_ok 4 m hc (chk_ok.1 hc).1
  have h64 := (nN_cast hc).2
  have b64 : ∀ P, rkP 4 m P ≤ 64 := fun P => Nat.le_trans (hk.le_cnt P) (Nat.le_trans (cnt_le P _) h64)
  refine ⟨_, _, _, _, rank_of ha, rank_of hb, rank_of (mayI_iff.2 ⟨hc, hU⟩), rank_of (mayI_iff.2 ⟨hc, hM⟩), ?_, ?_, ?_, ?_, b64 _, b64 _, b64 _, b64 _⟩
  · rw [len_cnt hA]; exact hk.le_cnt _
  · rw [memP_union hA.1 hB.1, memP_meet hA.1 hB.1]; exact hk.submod _ _
  · rw [memP_meet hA.1 hB.1]
    exact hk.mono fun i _ h => by unfold andP at h; rw [Bool.and_eq_true] at h; exact h.1
  · rw [memP_union hA.1 hB.1]
    exact hk.mono fun i _ h => by unfold orP; rw [h]; rfl

set_option maxHeartbeats 16000000 in
set_option maxRecDepth 100000 in
theorem ranks_1 (E : Nat → Addr) (m : Mat) (v sa sb : Value) (a b : List Int) (w : World) (hv : MatV w w.heap.size v m) (hl : Lim m) (hra : Row w w.heap.size sa a) (hrb : Row w w.heap.size sb b) (hE : Env E w) (hf : fewB 9 m 10 = false) : Calls Tryz.prog 4 #[v, sa, sb] w (Truly w) := by
  have Hf := Lib.hid hf
  clear hf
  have Hl := Lib.hid hl
  obtain ⟨lv, iv, hve, hl2, hi2⟩ := hv.open
  have Hb0 := Lib.hid (boxed_below w m lv iv)
  have HV := Lib.hid (hv.up Hb0.out)
  have HE := Lib.hid (hE.up Hb0.out)
  have HA := Lib.hid (hra.up Hb0.out)
  have HBv := Lib.hid (hrb.up Hb0.out)
  have Hblk := Lib.hid (boxed_blk w m lv iv)
  obtain ⟨Al, cl, rfl, _⟩ := hl2
  obtain ⟨Ai, ci, rfl, _⟩ := hi2
  obtain ⟨Aa, ca, hsa, hcapa, _⟩ := id hra
  obtain ⟨Ab, cb, hsb, hcapb, _⟩ := id hrb
  have haI : (a.length : Int) ≤ 9223372036854775807 := by have h1 := hcapa.1; have h2 := hcapa.2.1; unfold maxLen at h2; omega
  have hbI : (b.length : Int) ≤ 9223372036854775807 := by have h1 := hcapb.1; have h2 := hcapb.2.1; unfold maxLen at h2; omega
  subst hve hsa hsb
  unfold boxed at *
  clear hv hl hE hra hrb hcapa hcapb
  go_enter Tryz.func4, Tryz.ntmps4
  have hw0 := Hb0
  clear hw0
  go_wp2_with fail
  refine (fixed_any E _ HE.out).mono ?_
  rintro e w1 ⟨rfl, hb1⟩
  replace HE := Lib.hid (HE.out.up hb1)
  replace HV := Lib.hid (HV.out.up hb1)
  replace HA := Lib.hid (HA.out.up hb1)
  replace HBv := Lib.hid (HBv.out.up hb1)
  replace Hblk := Lib.hid (Hblk.out.below hb1 Hblk.out.lt)
  replace Hb0 := Lib.hid (below_next Hb0.out (Nat.le_refl _) hb1)
  clear hb1
  have k0 := Hblk.out.cell 0
  have k1 := Hblk.out.cell 1
  have k2 := Hblk.out.cell 2
  have k3 := Hblk.out.cell 3
  have k4 := Hblk.out.cell 4
  have k5 := Hblk.out.cell 5
  go_wp2_with fail
  refine (few_any m _ 10 _ HV.out Hl.out).mono ?_
  rintro e w2 ⟨rfl, hb2⟩
  rw [Hf.out]
  clear k0 k1 k2 k3 k4 k5
  replace HE := Lib.hid (HE.out.up hb2)
  replace HV := Lib.hid (HV.out.up hb2)
  replace HA := Lib.hid (HA.out.up hb2)
  replace HBv := Lib.hid (HBv.out.up hb2)
  replace Hblk := Lib.hid (Hblk.out.below hb2 Hblk.out.lt)
  replace Hb0 := Lib.hid (below_next Hb0.out (Nat.le_refl _) hb2)
  clear hb2
  go_wp2_with fail
  refine (fixed_any E _ HE.out).mono ?_
  rintro e w9 ⟨rfl, hb9⟩
  replace HE := Lib.hid (HE.out.up hb9)
  replace HV := Lib.hid (HV.out.up hb9)
  replace HA := Lib.hid (HA.out.up hb9)
  replace HBv := Lib.hid (HBv.out.up hb9)
  replace Hblk := Lib.hid (Hblk.out.below hb9 Hblk.out.lt)
  replace Hb0 := Lib.hid (below_next Hb0.out (Nat.le_refl _) hb9)
  clear hb9
  go_wp2
  go_ret
  exact ⟨rfl, Hb0.out⟩

set_option maxHeartbeats 16000000 in
set_option maxRecDepth 100000 in
theorem ranks_2 (E : Nat → Addr) (m : Mat) (v sa sb : Value) (a b : List Int) (w : World) (hv : MatV w w.heap.size v m) (hl : Lim m) (hra : Row w w.heap.size sa a) (hrb : Row w w.heap.size sb b) (hE : Env E w) (hf : fewB 9 m 10 = true) (hma : mayI m a = false) : Calls Tryz.prog 4 #[v, sa, sb] w (Truly w) := by
  have Hf := Lib.hid hf
  have Hma := Lib.hid hma
  clear hf hma
  have Hl := Lib.hid hl
  obtain ⟨lv, iv, hve, hl2, hi2⟩ := hv.open
  have Hb0 := Lib.hid (boxed_below w m lv iv)
  have HV := Lib.hid (hv.up Hb0.out)
  have HE := Lib.hid (hE.up Hb0.out)
  have HA := Lib.hid (hra.up Hb0.out)
  have HBv := Lib.hid (hrb.up Hb0.out)
  have Hblk := Lib.hid (boxed_blk w m lv iv)
  obtain ⟨Al, cl, rfl, _⟩ := hl2
  obtain ⟨Ai, ci, rfl, _⟩ := hi2
  obtain ⟨Aa, ca, hsa, hcapa, _⟩ := id hra
  obtain ⟨Ab, cb, hsb, hcapb, _⟩ := id hrb
  have haI : (a.length : Int) ≤ 9223372036854775807 := by have h1 := hcapa.1; have h2 := hcapa.2.1; unfold maxLen at h2; omega
  have hbI : (b.length : Int) ≤ 9223372036854775807 := by have h1 := hcapb.1; have h2 := hcapb.2.1; unfold maxLen at h2; omega
  subst hve hsa hsb
  unfold boxed at *
  clear hv hl hE hra hrb hcapa hcapb
  go_enter Tryz.func4, Tryz.ntmps4
  have hw0 := Hb0
  clear hw0
  go_wp2_with fail
  refine (fixed_any E _ HE.out).mono ?_
  rintro e w1 ⟨rfl, hb1⟩
  replace HE := Lib.hid (HE.out.up hb1)
  replace HV := Lib.hid (HV.out.up hb1)
  replace HA := Lib.hid (HA.out.up hb1)
  replace HBv := Lib.hid (HBv.out.up hb1)
  replace Hblk := Lib.hid (Hblk.out.below hb1 Hblk.out.lt)
  replace Hb0 := Lib.hid (below_next Hb0.out (Nat.le_refl _) hb1)
  clear hb1
  have k0 := Hblk.out.cell 0
  have k1 := Hblk.out.cell 1
  have k2 := Hblk.out.cell 2
  have k3 := Hblk.out.cell 3
  have k4 := Hblk.out.cell 4
  have k5 := Hblk.out.cell 5
  go_wp2_with fail
  refine (few_any m _ 10 _ HV.out Hl.out).mono ?_
  rintro e w2 ⟨rfl, hb2⟩
  rw [Hf.out]
  clear k0 k1 k2 k3 k4 k5
  replace HE := Lib.hid (HE.out.up hb2)
  replace HV := Lib.hid (HV.out.up hb2)
  replace HA := Lib.hid (HA.out.up hb2)
  replace HBv := Lib.hid (HBv.out.up hb2)
  replace Hblk := Lib.hid (Hblk.out.below hb2 Hblk.out.lt)
  replace Hb0 := Lib.hid (below_next Hb0.out (Nat.le_refl _) hb2)
  clear hb2
  have k0 := Hblk.out.cell 0
  have k1 := Hblk.out.cell 1
  have k2 := Hblk.out.cell 2
  have k3 := Hblk.out.cell 3
  have k4 := Hblk.out.cell 4
  have k5 := Hblk.out.cell 5
  go_wp2_with fail
  refine (rmay10_any m _ _ a _ HV.out (few_sml Hf.out) HA.out).mono ?_
  rintro e w3 ⟨rfl, hb3⟩
  rw [Hma.out]
  clear k0 k1 k2 k3 k4 k5
  replace HE := Lib.hid (HE.out.up hb3)
  replace HV := Lib.hid (HV.out.up hb3)
  replace HA := Lib.hid (HA.out.up hb3)
  replace HBv := Lib.hid (HBv.out.up hb3)
  replace Hblk := Lib.hid (Hblk.out.below hb3 Hblk.out.lt)
  replace Hb0 := Lib.hid (below_next Hb0.out (Nat.le_refl _) hb3)
  clear hb3
  go_wp2_with fail
  refine (fixed_any E _ HE.out).mono ?_
  rintro e w9 ⟨rfl, hb9⟩
  replace HE := Lib.hid (HE.out.up hb9)
  replace HV := Lib.hid (HV.out.up hb9)
  replace HA := Lib.hid (HA.out.up hb9)
  replace HBv := Lib.hid (HBv.out.up hb9)
  replace Hblk := Lib.hid (Hblk.out.below hb9 Hblk.out.lt)
  replace Hb0 := Lib.hid (below_next Hb0.out (Nat.le_refl _) hb9)
  clear hb9
  go_wp2
  go_ret
  exact ⟨rfl, Hb0.out⟩

set_option maxHeartbeats 16000000 in
set_option maxRecDepth 100000 in
theorem ranks_3 (E : Nat → Addr) (m : Mat) (v sa sb : Value) (a b : List Int) (w : World) (hv : MatV w w.heap.size v m) (hl : Lim m) (hra : Row w w.heap.size sa a) (hrb : Row w w.heap.size sb b) (hE : Env E w) (hf : fewB 9 m 10 = true) (hma : mayI m a = true) (hmb : mayI m b = false) : Calls Tryz.prog 4 #[v, sa, sb] w (Truly w) := by
  have Hf := Lib.hid hf
  have Hma := Lib.hid hma
  have Hmb := Lib.hid hmb
  clear hf hma hmb
  have Hl := Lib.hid hl
  obtain ⟨lv, iv, hve, hl2, hi2⟩ := hv.open
  have Hb0 := Lib.hid (boxed_below w m lv iv)
  have HV := Lib.hid (hv.up Hb0.out)
  have HE := Lib.hid (hE.up Hb0.out)
  have HA := Lib.hid (hra.up Hb0.out)
  have HBv := Lib.hid (hrb.up Hb0.out)
  have Hblk := Lib.hid (boxed_blk w m lv iv)
  obtain ⟨Al, cl, rfl, _⟩ := hl2
  obtain ⟨Ai, ci, rfl, _⟩ := hi2
  obtain ⟨Aa, ca, hsa, hcapa, _⟩ := id hra
  obtain ⟨Ab, cb, hsb, hcapb, _⟩ := id hrb
  have haI : (a.length : Int) ≤ 9223372036854775807 := by have h1 := hcapa.1; have h2 := hcapa.2.1; unfold maxLen at h2; omega
  have hbI : (b.length : Int) ≤ 9223372036854775807 := by have h1 := hcapb.1; have h2 := hcapb.2.1; unfold maxLen at h2; omega
  subst hve hsa hsb
  unfold boxed at *
  clear hv hl hE hra hrb hcapa hcapb
  go_enter Tryz.func4, Tryz.ntmps4
  have hw0 := Hb0
  clear hw0
  go_wp2_with fail
  refine (fixed_any E _ HE.out).mono ?_
  rintro e w1 ⟨rfl, hb1⟩
  replace HE := Lib.hid (HE.out.up hb1)
  replace HV := Lib.hid (HV.out.up hb1)
  replace HA := Lib.hid (HA.out.up hb1)
  replace HBv := Lib.hid (HBv.out.up hb1)
  replace Hblk := Lib.hid (Hblk.out.below hb1 Hblk.out.lt)
  replace Hb0 := Lib.hid (below_next Hb0.out (Nat.le_refl _) hb1)
  clear hb1
  have k0 := Hblk.out.cell 0
  have k1 := Hblk.out.cell 1
  have k2 := Hblk.out.cell 2
  have k3 := Hblk.out.cell 3
  have k4 := Hblk.out.cell 4
  have k5 := Hblk.out.cell 5
  go_wp2_with fail
  refine (few_any m _ 10 _ HV.out Hl.out).mono ?_
  rintro e w2 ⟨rfl, hb2⟩
  rw [Hf.out]
  clear k0 k1 k2 k3 k4 k5
  replace HE := Lib.hid (HE.out.up hb2)
  replace HV := Lib.hid (HV.out.up hb2)
  replace HA := Lib.hid (HA.out.up hb2)
  replace HBv := Lib.hid (HBv.out.up hb2)
  replace Hblk := Lib.hid (Hblk.out.below hb2 Hblk.out.lt)
  replace Hb0 := Lib.hid (below_next Hb0.out (Nat.le_refl _) hb2)
  clear hb2
  have k0 := Hblk.out.cell 0
  have k1 := Hblk.out.cell 1
  have k2 := Hblk.out.cell 2
  have k3 := Hblk.out.cell 3
  have k4 := Hblk.out.cell 4
  have k5 := Hblk.out.cell 5
  go_wp2_with fail
  refine (rmay10_any m _ _ a _ HV.out (few_sml Hf.out) HA.out).mono ?_
  rintro e w3 ⟨rfl, hb3⟩
  rw [Hma.out]
  clear k0 k1 k2 k3 k4 k5
  replace HE := Lib.hid (HE.out.up hb3)
  replace HV := Lib.hid (HV.out.up hb3)
  replace HA := Lib.hid (HA.out.up hb3)
  replace HBv := Lib.hid (HBv.out.up hb3)
  replace Hblk := Lib.hid (Hblk.out.below hb3 Hblk.out.lt)
  replace Hb0 := Lib.hid (below_next Hb0.out (Nat.le_refl _) hb3)
  clear hb3
  have k0 := Hblk.out.cell 0
  have k1 := Hblk.out.cell 1
  have k2 := Hblk.out.cell 2
  have k3 := Hblk.out.cell 3
  have k4 := Hblk.out.cell 4
  have k5 := Hblk.out.cell 5
  go_wp2_with fail
  refine (rmay10_any m _ _ b _ HV.out (few_sml Hf.out) HBv.out).mono ?_
  rintro e w4 ⟨rfl, hb4⟩
  rw [Hmb.out]
  clear k0 k1 k2 k3 k4 k5
  replace HE := Lib.hid (HE.out.up hb4)
  replace HV := Lib.hid (HV.out.up hb4)
  replace HA := Lib.hid (HA.out.up hb4)
  replace HBv := Lib.hid (HBv.out.up hb4)
  replace Hblk := Lib.hid (Hblk.out.below hb4 Hblk.out.lt)
  replace Hb0 := Lib.hid (below_next Hb0.out (Nat.le_refl _) hb4)
  clear hb4
  go_wp2_with fail
  refine (fixed_any E _ HE.out).mono ?_
  rintro e w9 ⟨rfl, hb9⟩
  replace HE := Lib.hid (HE.out.up hb9)
  replace HV := Lib.hid (HV.out.up hb9)
  replace HA := Lib.hid (HA.out.up hb9)
  replace HBv := Lib.hid (HBv.out.up hb9)
  replace Hblk := Lib.hid (Hblk.out.below hb9 Hblk.out.lt)
  replace Hb0 := Lib.hid (below_next Hb0.out (Nat.le_refl _) hb9)
  clear hb9
  go_wp2
  go_ret
  exact ⟨rfl, Hb0.out⟩

set_option maxHeartbeats 16000000 in
set_option maxRecDepth 100000 in
theorem ranks_main (E : Nat → Addr) (m : Mat) (v sa sb : Value) (a b : List Int) (w : World) (hv : MatV w w.heap.size v m) (hl : Lim m) (hra : Row w w.heap.size sa a) (hrb : Row w w.heap.size sb b) (hE : Env E w) (hf : fewB 9 m 10 = true) (hma : mayI m a = true) (hmb : mayI m b = true) : Calls Tryz.prog 4 #[v, sa, sb] w (Truly w) := by
  have Hf := Lib.hid hf
  have Hma := Lib.hid hma
  have Hmb := Lib.hid hmb
  obtain ⟨p, q, u, v', e1, e2, e3, e4, f1, f2, f3, f4, f5, f6, f7, f8⟩ := ranks_fact hma hmb
  have hla := inN_len (mayI_iff.1 hma).2
  have hlb := inN_len (mayI_iff.1 hmb).2
  have hn64 := (nN_cast (mayI_iff.1 hma).1).2
  have hla1 : a.length ≤ 1048576 := by omega
  have hlb1 : b.length ≤ 1048576 := by omega
  have hlu : (unionL a b).length ≤ 1048576 := by have := inN_len (inN_union (mayI_iff.1 hma).2 (mayI_iff.1 hmb).2); omega
  have hlm : (meetL a b).length ≤ 1048576 := by have := inN_len (inN_meet (mayI_iff.1 hma).2 (mayI_iff.1 hmb).2); omega
  obtain ⟨b0, hb0⟩ : ∃ b0, ((p : Int) == (a.length : Int)) = b0 := ⟨_, rfl⟩
  have HInd : Hid (indT m a = b0) := Lib.hid (by unfold indT; rw [e1, ← hb0, Bool.eq_iff_iff, decide_eq_true_iff, beq_iff_eq])
  have Hl := Lib.hid hl
  obtain ⟨lv, iv, hve, hl2, hi2⟩ := hv.open
  have Hb0 := Lib.hid (boxed_below w m lv iv)
  have HV := Lib.hid (hv.up Hb0.out)
  have HE := Lib.hid (hE.up Hb0.out)
  have HA := Lib.hid (hra.up Hb0.out)
  have HBv := Lib.hid (hrb.up Hb0.out)
  have Hblk := Lib.hid (boxed_blk w m lv iv)
  obtain ⟨Al, cl, rfl, _⟩ := hl2
  obtain ⟨Ai, ci, rfl, _⟩ := hi2
  obtain ⟨Aa, ca, hsa, hcapa, _⟩ := id hra
  obtain ⟨Ab, cb, hsb, hcapb, _⟩ := id hrb
  have haI : (a.length : Int) ≤ 9223372036854775807 := by have h1 := hcapa.1; have h2 := hcapa.2.1; unfold maxLen at h2; omega
  have hbI : (b.length : Int) ≤ 9223372036854775807 := by have h1 := hcapb.1; have h2 := hcapb.2.1; unfold maxLen at h2; omega
  subst hve hsa hsb
  unfold boxed at *
  clear hv hl hE hra hrb hcapa hcapb
  go_enter Tryz.func4, Tryz.ntmps4
  have hw0 := Hb0
  clear hw0
  go_wp2_with fail
  refine (fixed_any E _ HE.out).mono ?_
  rintro e w1 ⟨rfl, hb1⟩
  replace HE := Lib.hid (HE.out.up hb1)
  replace HV := Lib.hid (HV.out.up hb1)
  replace HA := Lib.hid (HA.out.up hb1)
  replace HBv := Lib.hid (HBv.out.up hb1)
  replace Hblk := Lib.hid (Hblk.out.below hb1 Hblk.out.lt)
  replace Hb0 := Lib.hid (below_next Hb0.out (Nat.le_refl _) hb1)
  clear hb1
  have k0 := Hblk.out.cell 0
  have k1 := Hblk.out.cell 1
  have k2 := Hblk.out.cell 2
  have k3 := Hblk.out.cell 3
  have k4 := Hblk.out.cell 4
  have k5 := Hblk.out.cell 5
  go_wp2_with fail
  refine (few_any m _ 10 _ HV.out Hl.out).mono ?_
  rintro e w2 ⟨rfl, hb2⟩
  rw [Hf.out]
  clear k0 k1 k2 k3 k4 k5
  replace HE := Lib.hid (HE.out.up hb2)
  replace HV := Lib.hid (HV.out.up hb2)
  replace HA := Lib.hid (HA.out.up hb2)
  replace HBv := Lib.hid (HBv.out.up hb2)
  replace Hblk := Lib.hid (Hblk.out.below hb2 Hblk.out.lt)
  replace Hb0 := Lib.hid (below_next Hb0.out (Nat.le_refl _) hb2)
  clear hb2
  have k0 := Hblk.out.cell 0
  have k1 := Hblk.out.cell 1
  have k2 := Hblk.out.cell 2
  have k3 := Hblk.out.cell 3
  have k4 := Hblk.out.cell 4
  have k5 := Hblk.out.cell 5
  go_wp2_with fail
  refine (rmay10_any m _ _ a _ HV.out (few_sml Hf.out) HA.out).mono ?_
  rintro e w3 ⟨rfl, hb3⟩
  rw [Hma.out]
  clear k0 k1 k2 k3 k4 k5
  replace HE := Lib.hid (HE.out.up hb3)
  replace HV := Lib.hid (HV.out.up hb3)
  replace HA := Lib.hid (HA.out.up hb3)
  replace HBv := Lib.hid (HBv.out.up hb3)
  replace Hblk := Lib.hid (Hblk.out.below hb3 Hblk.out.lt)
  replace Hb0 := Lib.hid (below_next Hb0.out (Nat.le_refl _) hb3)
  clear hb3
  have k0 := Hblk.out.cell 0
  have k1 := Hblk.out.cell 1
  have k2 := Hblk.out.cell 2
  have k3 := Hblk.out.cell 3
  have k4 := Hblk.out.cell 4
  have k5 := Hblk.out.cell 5
  go_wp2_with fail
  refine (rmay10_any m _ _ b _ HV.out (few_sml Hf.out) HBv.out).mono ?_
  rintro e w4 ⟨rfl, hb4⟩
  rw [Hmb.out]
  clear k0 k1 k2 k3 k4 k5
  replace HE := Lib.hid (HE.out.up hb4)
  replace HV := Lib.hid (HV.out.up hb4)
  replace HA := Lib.hid (HA.out.up hb4)
  replace HBv := Lib.hid (HBv.out.up hb4)
  replace Hblk := Lib.hid (Hblk.out.below hb4 Hblk.out.lt)
  replace Hb0 := Lib.hid (below_next Hb0.out (Nat.le_refl _) hb4)
  clear hb4
  have hs := few_sml Hf.out
  have Hs := Lib.hid hs
  have hbd := (Below.refl w4.heap.size w4).drew
  replace HE := Lib.hid (HE.out.up hbd)
  replace HV := Lib.hid (HV.out.up hbd)
  replace HA := Lib.hid (HA.out.up hbd)
  replace HBv := Lib.hid (HBv.out.up hbd)
  have K1 : Hid (∀ W, Below w4.drew.heap.size w4.drew W → W.cell? ⟨w.heap.size, 0, none⟩ = some (.int .i64 m.t) ∧ W.cell? ⟨w.heap.size, 1, none⟩ = some (.int .i64 m.n) ∧ W.cell? ⟨w.heap.size, 2, none⟩ = some (.int .i64 m.a) ∧ W.cell? ⟨w.heap.size, 3, none⟩ = some (.int .i64 m.b) ∧ W.cell? ⟨w.heap.size, 4, none⟩ = some (.slice Al m.l.length cl) ∧ W.cell? ⟨w.heap.size, 5, none⟩ = some (.slice Ai m.i.length ci)) := Lib.hid fun W hW => ⟨(Hblk.out.drew.below hW Hblk.out.lt).cell 0, (Hblk.out.drew.below hW Hblk.out.lt).cell 1, (Hblk.out.drew.below hW Hblk.out.lt).cell 2, (Hblk.out.drew.below hW Hblk.out.lt).cell 3, (Hblk.out.drew.below hW Hblk.out.lt).cell 4, (Hblk.out.drew.below hW Hblk.out.lt).cell 5⟩
  have HB : Hid (Below w4.drew.heap.size w4.drew w4.drew) := Lib.hid (Below.refl _ _)
  clear hbd Hblk
  have HU : Hid (∀ (sv : Value) (W : World), MatV W W.heap.size (.agg #[.int .i64 m.t, .int .i64 m.n, .int .i64 m.a, .int .i64 m.b, .slice Al m.l.length cl, .slice Ai m.i.length ci]) m → Row W W.heap.size sv (unionL a b) → Env E W → Calls Tryz.prog 15 #[(.agg #[.int .i64 m.t, .int .i64 m.n, .int .i64 m.a, .int .i64 m.b, .slice Al m.l.length cl, .slice Ai m.i.length ci]), sv] W (Tells W (u : Int))) := Lib.hid fun sv W h1 h2 h3 => by rw [← e3]; exact irank_any E m _ sv _ W h1 Hs.out h2 hlu h3
  have HMt : Hid (∀ (sv : Value) (W : World), MatV W W.heap.size (.agg #[.int .i64 m.t, .int .i64 m.n, .int .i64 m.a, .int .i64 m.b, .slice Al m.l.length cl, .slice Ai m.i.length ci]) m → Row W W.heap.size sv (meetL a b) → Env E W → Calls Tryz.prog 15 #[(.agg #[.int .i64 m.t, .int .i64 m.n, .int .i64 m.a, .int .i64 m.b, .slice Al m.l.length cl, .slice Ai m.i.length ci]), sv] W (Tells W (v' : Int))) := Lib.hid fun sv W h1 h2 h3 => by rw [← e4]; exact irank_any E m _ sv _ W h1 Hs.out h2 hlm h3
  have HP : Hid (∀ (sv : Value) (W : World), MatV W W.heap.size (.agg #[.int .i64 m.t, .int .i64 m.n, .int .i64 m.a, .int .i64 m.b, .slice Al m.l.length cl, .slice Ai m.i.length ci]) m → Row W W.heap.size sv a → Env E W → Calls Tryz.prog 15 #[(.agg #[.int .i64 m.t, .int .i64 m.n, .int .i64 m.a, .int .i64 m.b, .slice Al m.l.length cl, .slice Ai m.i.length ci]), sv] W (Tells W (p : Int))) := Lib.hid fun sv W h1 h2 h3 => by rw [← e1]; exact irank_any E m _ sv _ W h1 Hs.out h2 hla1 h3
  have HQ : Hid (∀ (sv : Value) (W : World), MatV W W.heap.size (.agg #[.int .i64 m.t, .int .i64 m.n, .int .i64 m.a, .int .i64 m.b, .slice Al m.l.length cl, .slice Ai m.i.length ci]) m → Row W W.heap.size sv b → Env E W → Calls Tryz.prog 15 #[(.agg #[.int .i64 m.t, .int .i64 m.n, .int .i64 m.a, .int .i64 m.b, .slice Al m.l.length cl, .slice Ai m.i.length ci]), sv] W (Tells W (q : Int))) := Lib.hid fun sv W h1 h2 h3 => by rw [← e2]; exact irank_any E m _ sv _ W h1 Hs.out h2 hlb1 h3
  have g1 : (0 : Int) ≤ (p : Int) := by omega
  have g2 : (p : Int) ≤ (a.length : Int) := by omega
  have g3 : IntKind.i64.wrap ((u : Int) + (v' : Int)) = (u : Int) + (v' : Int) := by rw [IntKind.wrap_i64]; omega
  have g4 : IntKind.i64.wrap ((p : Int) + (q : Int)) = (p : Int) + (q : Int) := by rw [IntKind.wrap_i64]; omega
  have g5 : (u : Int) + (v' : Int) ≤ (p : Int) + (q : Int) := by omega
  have g6 : (v' : Int) ≤ (p : Int) := by omega
  have g7 : (p : Int) ≤ (u : Int) := by omega
  clear e1 e2 e3 e4 f1 f2 f3 f4 f5 f6 f7 f8 hma hmb hf hla hlb hn64 hs hlu hlm
  go_wp2
  go_region_held3 (fun W => W.cell? ⟨w.heap.size, 0, none⟩ = some (.int .i64 m.t) ∧ W.cell? ⟨w.heap.size, 1, none⟩ = some (.int .i64 m.n) ∧ W.cell? ⟨w.heap.size, 2, none⟩ = some (.int .i64 m.a) ∧ W.cell? ⟨w.heap.size, 3, none⟩ = some (.int .i64 m.b) ∧ W.cell? ⟨w.heap.size, 4, none⟩ = some (.slice Al m.l.length cl) ∧ W.cell? ⟨w.heap.size, 5, none⟩ = some (.slice Ai m.i.length ci))
    (exact K1.out _ HB.out)
    (first
    | (go_at_call 14; refine (refunion_any _ _ a b _ HA.out HBv.out hla1 hlb1).mono ?_; rintro e w5 ⟨v5, rfl, hr5, hb5⟩; replace HB := Lib.hid (below_next HB.out (Nat.le_refl _) hb5); replace HE := Lib.hid (HE.out.up hb5); replace HV := Lib.hid (HV.out.up hb5); replace HA := Lib.hid (HA.out.up hb5); replace HBv := Lib.hid (HBv.out.up hb5); (try replace HM5 := Lib.hid (HM5.out.up hb5)); have HU5 := Lib.hid hr5; clear hr5 hb5)
    | (go_at_call 12; refine (refmeet_any _ _ a b _ HA.out HBv.out hla1 hlb1).mono ?_; rintro e w6 ⟨v6, rfl, hr6, hb6⟩; replace HB := Lib.hid (below_next HB.out (Nat.le_refl _) hb6); replace HE := Lib.hid (HE.out.up hb6); replace HV := Lib.hid (HV.out.up hb6); replace HA := Lib.hid (HA.out.up hb6); replace HBv := Lib.hid (HBv.out.up hb6); (try replace HU5 := Lib.hid (HU5.out.up hb6)); have HM5 := Lib.hid hr6; clear hr6 hb6)
    | (go_at_call_of 15 v5; refine (HU.out _ _ HV.out HU5.out HE.out).mono ?_; rintro e w7 ⟨rfl, hb7⟩; replace HB := Lib.hid (below_next HB.out (Nat.le_refl _) hb7); replace HE := Lib.hid (HE.out.up hb7); replace HV := Lib.hid (HV.out.up hb7); replace HA := Lib.hid (HA.out.up hb7); replace HBv := Lib.hid (HBv.out.up hb7); (try replace HU5 := Lib.hid (HU5.out.up hb7)); (try replace HM5 := Lib.hid (HM5.out.up hb7)); clear hb7)
    | (go_at_call_of 15 v6; refine (HMt.out _ _ HV.out HM5.out HE.out).mono ?_; rintro e w8 ⟨rfl, hb8⟩; replace HB := Lib.hid (below_next HB.out (Nat.le_refl _) hb8); replace HE := Lib.hid (HE.out.up hb8); replace HV := Lib.hid (HV.out.up hb8); replace HA := Lib.hid (HA.out.up hb8); replace HBv := Lib.hid (HBv.out.up hb8); (try replace HU5 := Lib.hid (HU5.out.up hb8)); (try replace HM5 := Lib.hid (HM5.out.up hb8)); clear hb8))
  all_goals
    have Hb9 := Lib.hid (below_next Hb0.out.drew (Nat.le_refl _) HB.out)
    have K2 := Lib.hid (fun W hW => K1.out W (below_next HB.out.drew (Nat.le_refl _) hW))
    have hbd := (Below.refl w8.heap.size w8).drew
    replace HE := Lib.hid (HE.out.up hbd)
    replace HV := Lib.hid (HV.out.up hbd)
    replace HA := Lib.hid (HA.out.up hbd)
    replace HBv := Lib.hid (HBv.out.up hbd)
    replace HB : Hid (Below w8.drew.heap.size w8.drew w8.drew) := Lib.hid (Below.refl _ _)
    clear hbd K1 HU5 HM5 HU HMt
    go_simp
    go_wp2
    go_region_held3 (fun W => W.cell? ⟨w.heap.size, 0, none⟩ = some (.int .i64 m.t) ∧ W.cell? ⟨w.heap.size, 1, none⟩ = some (.int .i64 m.n) ∧ W.cell? ⟨w.heap.size, 2, none⟩ = some (.int .i64 m.a) ∧ W.cell? ⟨w.heap.size, 3, none⟩ = some (.int .i64 m.b) ∧ W.cell? ⟨w.heap.size, 4, none⟩ = some (.slice Al m.l.length cl) ∧ W.cell? ⟨w.heap.size, 5, none⟩ = some (.slice Ai m.i.length ci))
      (exact K2.out _ HB.out)
      (first
      | (go_at_call_of 15 (Value.slice Aa a.length ca); refine (HP.out _ _ HV.out HA.out HE.out).mono ?_; rintro e w9 ⟨rfl, hb9⟩; replace HB := Lib.hid (below_next HB.out (Nat.le_refl _) hb9); replace HE := Lib.hid (HE.out.up hb9); replace HV := Lib.hid (HV.out.up hb9); replace HA := Lib.hid (HA.out.up hb9); replace HBv := Lib.hid (HBv.out.up hb9); clear hb9)
      | (go_at_call_of 15 (Value.slice Ab b.length cb); refine (HQ.out _ _ HV.out HBv.out HE.out).mono ?_; rintro e w10 ⟨rfl, hb10⟩; replace HB := Lib.hid (below_next HB.out (Nat.le_refl _) hb10); replace HE := Lib.hid (HE.out.up hb10); replace HV := Lib.hid (HV.out.up hb10); replace HA := Lib.hid (HA.out.up hb10); replace HBv := Lib.hid (HBv.out.up hb10); clear hb10))
    all_goals
      have Hc9 := Lib.hid (below_next Hb9.out.drew (Nat.le_refl _) HB.out)
      obtain ⟨k0, k1, k2, k3, k4, k5⟩ := K2.out _ HB.out
      clear HP HQ HBv
      go_simp
      go_wp2_with fail
      refine (indep_any E m _ _ a _ HV.out Hs.out HA.out hla1 HE.out).mono ?_
      rintro e w11 ⟨rfl, hb11⟩
      rw [HInd.out]
      have Hd9 := Lib.hid (below_next Hc9.out (Nat.le_refl _) hb11)
      clear hb11 k0 k1 k2 k3 k4 k5
      go_wp2
      go_ret
      exact ⟨by first | rfl | simp, Hd9.out⟩

theorem ranks_all (E : Nat → Addr) (m : Mat) (v sa sb : Value) (a b : List Int) (w : World) (hv : MatV w w.heap.size v m) (hl : Lim m) (hra : Row w w.heap.size sa a) (hrb : Row w w.heap.size sb b) (hE : Env E w) : Calls Tryz.prog 4 #[v, sa, sb] w (Truly w) := by
  rcases hf : fewB 9 m 10 with _ | _
  · exact ranks_1 E m v sa sb a b w hv hl hra hrb hE hf
  · rcases hma : mayI m a with _ | _
    · exact ranks_2 E m v sa sb a b w hv hl hra hrb hE hf hma
    · rcases hmb : mayI m b with _ | _
      · exact ranks_3 E m v sa sb a b w hv hl hra hrb hE hf hma hmb
      · exact ranks_main E m v sa sb a b w hv hl hra hrb hE hf hma hmb
theorem ranks_any (E : Nat → Addr) (m : Mat) (v sa : Value) (a : List Int) (sb : Value) (b : List Int) (w : World) (hv : MatV w w.heap.size v m) (hl : Lim m) (hra : Row w w.heap.size sa a) (hrb : Row w w.heap.size sb b) (hE : Env E w) : Calls Tryz.prog 4 #[v, sa, sb] w (Truly w) := ranks_all E m v sa sb a b w hv hl hra hrb hE

end Wp
end Go.Proofs.YtimmmfppehmfcaaGreatDoor
