/- GreedyDual, walked: it answers true. -/
import Derived.Test.YtolnkgghejhaeaaGreatDoorGFact
import Derived.Test.YtolnkgghejhaeaaGreatDoorGFixed
import Derived.Test.YtolnkgghejhaeaaGreatDoorZS
import Derived.Deep.RegionHeld3
namespace Go.Proofs.YtolnkgghejhaeaaGreatDoor
open Go.RowKit
namespace Wp

set_option maxHeartbeats 16000000 in
set_option maxRecDepth 100000 in
theorem gd_1 (E : Nat → Addr) (m : Mat) (v sw : Value) (ws : List Int) (w : World) (hv : MatV w w.heap.size v m) (hl : Lim m) (hrw : Row w w.heap.size sw ws) (hE : Env E w) (hf : fewB 9 m 10 = false) : Calls Tryz.prog 4 #[v, sw] w (Truly w) := by
  have Hf := Lib.hid hf
  clear hf
  have Hl := Lib.hid hl
  obtain ⟨lv, iv, hve, hl2, hi2⟩ := hv.open
  have Hb0 := Lib.hid (boxed_below w m lv iv)
  have HV := Lib.hid (hv.up Hb0.out)
  have HE := Lib.hid (hE.up Hb0.out)
  have HW := Lib.hid (hrw.up Hb0.out)
  have Hblk := Lib.hid (boxed_blk w m lv iv)
  obtain ⟨Al, cl, rfl, _⟩ := hl2
  obtain ⟨Ai, ci, rfl, _⟩ := hi2
  obtain ⟨Aw, cw, hsw, hcapw, _⟩ := id hrw
  have hwI : (ws.length : Int) ≤ 9223372036854775807 := by have h1 := hcapw.1; have h2 := hcapw.2.1; unfold maxLen at h2; omega
  subst hve hsw
  unfold boxed at *
  clear hv hl hE hrw hcapw
  go_enter Tryz.func4, Tryz.ntmps4
  go_wp2_with fail
  refine (fixed12_any E _ HE.out).mono ?_
  rintro e w1 ⟨rfl, hb1⟩
  replace HE := Lib.hid (HE.out.up hb1)
  replace HV := Lib.hid (HV.out.up hb1)
  replace HW := Lib.hid (HW.out.up hb1)
  replace Hblk := Lib.hid (Hblk.out.below hb1 Hblk.out.lt)
  replace Hb0 := Lib.hid (below_next Hb0.out (Nat.le_refl _) hb1)
  clear hb1
  have k0 := Hblk.out.cell 0
  have k1 := Hblk.out.cell 1
  have k2 := Hblk.out.cell 2
  have k3 := Hblk.out.cell 3
  have k4 := Hblk.out.cell 4
  have k5 := Hblk.out.cell 5
  go_wp2_with fail
  refine (few_any m _ 10 _ HV.out Hl.out).mono ?_
  rintro e w2 ⟨rfl, hb2⟩
  rw [Hf.out]
  clear k0 k1 k2 k3 k4 k5
  replace HE := Lib.hid (HE.out.up hb2)
  replace HV := Lib.hid (HV.out.up hb2)
  replace HW := Lib.hid (HW.out.up hb2)
  replace Hblk := Lib.hid (Hblk.out.below hb2 Hblk.out.lt)
  replace Hb0 := Lib.hid (below_next Hb0.out (Nat.le_refl _) hb2)
  clear hb2
  go_wp2_with fail
  refine (fixed12_any E _ HE.out).mono ?_
  rintro e w3 ⟨rfl, hb3⟩
  replace HE := Lib.hid (HE.out.up hb3)
  replace HV := Lib.hid (HV.out.up hb3)
  replace HW := Lib.hid (HW.out.up hb3)
  replace Hblk := Lib.hid (Hblk.out.below hb3 Hblk.out.lt)
  replace Hb0 := Lib.hid (below_next Hb0.out (Nat.le_refl _) hb3)
  clear hb3
  go_wp2
  go_ret
  exact ⟨rfl, Hb0.out⟩

set_option maxHeartbeats 16000000 in
set_option maxRecDepth 100000 in
theorem gd_2 (E : Nat → Addr) (m : Mat) (v sw : Value) (ws : List Int) (w : World) (hv : MatV w w.heap.size v m) (hl : Lim m) (hrw : Row w w.heap.size sw ws) (hE : Env E w) (hf : fewB 9 m 10 = true) (hma : mayW m ws = false) : Calls Tryz.prog 4 #[v, sw] w (Truly w) := by
  have Hf := Lib.hid hf
  have Hma := Lib.hid hma
  clear hf hma
  have Hl := Lib.hid hl
  obtain ⟨lv, iv, hve, hl2, hi2⟩ := hv.open
  have Hb0 := Lib.hid (boxed_below w m lv iv)
  have HV := Lib.hid (hv.up Hb0.out)
  have HE := Lib.hid (hE.up Hb0.out)
  have HW := Lib.hid (hrw.up Hb0.out)
  have Hblk := Lib.hid (boxed_blk w m lv iv)
  obtain ⟨Al, cl, rfl, _⟩ := hl2
  obtain ⟨Ai, ci, rfl, _⟩ := hi2
  obtain ⟨Aw, cw, hsw, hcapw, _⟩ := id hrw
  have hwI : (ws.length : Int) ≤ 9223372036854775807 := by have h1 := hcapw.1; have h2 := hcapw.2.1; unfold maxLen at h2; omega
  subst hve hsw
  unfold boxed at *
  clear hv hl hE hrw hcapw
  go_enter Tryz.func4, Tryz.ntmps4
  go_wp2_with fail
  refine (fixed12_any E _ HE.out).mono ?_
  rintro e w1 ⟨rfl, hb1⟩
  replace HE := Lib.hid (HE.out.up hb1)
  replace HV := Lib.hid (HV.out.up hb1)
  replace HW := Lib.hid (HW.out.up hb1)
  replace Hblk := Lib.hid (Hblk.out.below hb1 Hblk.out.lt)
  replace Hb0 := Lib.hid (below_next Hb0.out (Nat.le_refl _) hb1)
  clear hb1
  have k0 := Hblk.out.cell 0
  have k1 := Hblk.out.cell 1
  have k2 := Hblk.out.cell 2
  have k3 := Hblk.out.cell 3
  have k4 := Hblk.out.cell 4
  have k5 := Hblk.out.cell 5
  go_wp2_with fail
  refine (few_any m _ 10 _ HV.out Hl.out).mono ?_
  rintro e w2 ⟨rfl, hb2⟩
  rw [Hf.out]
  clear k0 k1 k2 k3 k4 k5
  replace HE := Lib.hid (HE.out.up hb2)
  replace HV := Lib.hid (HV.out.up hb2)
  replace HW := Lib.hid (HW.out.up hb2)
  replace Hblk := Lib.hid (Hblk.out.below hb2 Hblk.out.lt)
  replace Hb0 := Lib.hid (below_next Hb0.out (Nat.le_refl _) hb2)
  clear hb2
  have k0 := Hblk.out.cell 0
  have k1 := Hblk.out.cell 1
  have k2 := Hblk.out.cell 2
  have k3 := Hblk.out.cell 3
  have k4 := Hblk.out.cell 4
  have k5 := Hblk.out.cell 5
  go_wp2_with fail
  refine (rmay12_any m _ _ ws _ HV.out (few_sml Hf.out) HW.out).mono ?_
  rintro e w3 ⟨rfl, hb3⟩
  rw [Hma.out]
  clear k0 k1 k2 k3 k4 k5
  replace HE := Lib.hid (HE.out.up hb3)
  replace HV := Lib.hid (HV.out.up hb3)
  replace HW := Lib.hid (HW.out.up hb3)
  replace Hblk := Lib.hid (Hblk.out.below hb3 Hblk.out.lt)
  replace Hb0 := Lib.hid (below_next Hb0.out (Nat.le_refl _) hb3)
  clear hb3
  go_wp2_with fail
  refine (fixed12_any E _ HE.out).mono ?_
  rintro e w4 ⟨rfl, hb4⟩
  replace HE := Lib.hid (HE.out.up hb4)
  replace HV := Lib.hid (HV.out.up hb4)
  replace HW := Lib.hid (HW.out.up hb4)
  replace Hblk := Lib.hid (Hblk.out.below hb4 Hblk.out.lt)
  replace Hb0 := Lib.hid (below_next Hb0.out (Nat.le_refl _) hb4)
  clear hb4
  go_wp2
  go_ret
  exact ⟨rfl, Hb0.out⟩

set_option maxHeartbeats 16000000 in
set_option maxRecDepth 100000 in
theorem gd_3 (E : Nat → Addr) (m : Mat) (v sw : Value) (ws : List Int) (w : World) (hv : MatV w w.heap.size v m) (hl : Lim m) (hrw : Row w w.heap.size sw ws) (hE : Env E w) (hf : fewB 9 m 10 = true) (hma : mayW m ws = true) (h3 : 3 < dp 4 m) : Calls Tryz.prog 4 #[v, sw] w (Truly w) := by
  have Hf := Lib.hid hf
  have Hma := Lib.hid hma
  obtain ⟨P, hP⟩ : ∃ P : Nat, dp 4 m = P := ⟨_, rfl⟩
  have HP : Hid (deepI m = (P : Int)) := Lib.hid (by rw [← hP]; rfl)
  rw [hP] at h3
  have h3I : (3 : Int) < (P : Int) := by omega
  clear hf hma hP h3
  have Hl := Lib.hid hl
  obtain ⟨lv, iv, hve, hl2, hi2⟩ := hv.open
  have Hb0 := Lib.hid (boxed_below w m lv iv)
  have HV := Lib.hid (hv.up Hb0.out)
  have HE := Lib.hid (hE.up Hb0.out)
  have HW := Lib.hid (hrw.up Hb0.out)
  have Hblk := Lib.hid (boxed_blk w m lv iv)
  obtain ⟨Al, cl, rfl, _⟩ := hl2
  obtain ⟨Ai, ci, rfl, _⟩ := hi2
  obtain ⟨Aw, cw, hsw, hcapw, _⟩ := id hrw
  have hwI : (ws.length : Int) ≤ 9223372036854775807 := by have h1 := hcapw.1; have h2 := hcapw.2.1; unfold maxLen at h2; omega
  subst hve hsw
  unfold boxed at *
  clear hv hl hE hrw hcapw
  go_enter Tryz.func4, Tryz.ntmps4
  go_wp2_with fail
  refine (fixed12_any E _ HE.out).mono ?_
  rintro e w1 ⟨rfl, hb1⟩
  replace HE := Lib.hid (HE.out.up hb1)
  replace HV := Lib.hid (HV.out.up hb1)
  replace HW := Lib.hid (HW.out.up hb1)
  replace Hblk := Lib.hid (Hblk.out.below hb1 Hblk.out.lt)
  replace Hb0 := Lib.hid (below_next Hb0.out (Nat.le_refl _) hb1)
  clear hb1
  have k0 := Hblk.out.cell 0
  have k1 := Hblk.out.cell 1
  have k2 := Hblk.out.cell 2
  have k3 := Hblk.out.cell 3
  have k4 := Hblk.out.cell 4
  have k5 := Hblk.out.cell 5
  go_wp2_with fail
  refine (few_any m _ 10 _ HV.out Hl.out).mono ?_
  rintro e w2 ⟨rfl, hb2⟩
  rw [Hf.out]
  clear k0 k1 k2 k3 k4 k5
  replace HE := Lib.hid (HE.out.up hb2)
  replace HV := Lib.hid (HV.out.up hb2)
  replace HW := Lib.hid (HW.out.up hb2)
  replace Hblk := Lib.hid (Hblk.out.below hb2 Hblk.out.lt)
  replace Hb0 := Lib.hid (below_next Hb0.out (Nat.le_refl _) hb2)
  clear hb2
  have k0 := Hblk.out.cell 0
  have k1 := Hblk.out.cell 1
  have k2 := Hblk.out.cell 2
  have k3 := Hblk.out.cell 3
  have k4 := Hblk.out.cell 4
  have k5 := Hblk.out.cell 5
  go_wp2_with fail
  refine (rmay12_any m _ _ ws _ HV.out (few_sml Hf.out) HW.out).mono ?_
  rintro e w3 ⟨rfl, hb3⟩
  rw [Hma.out]
  clear k0 k1 k2 k3 k4 k5
  replace HE := Lib.hid (HE.out.up hb3)
  replace HV := Lib.hid (HV.out.up hb3)
  replace HW := Lib.hid (HW.out.up hb3)
  replace Hblk := Lib.hid (Hblk.out.below hb3 Hblk.out.lt)
  replace Hb0 := Lib.hid (below_next Hb0.out (Nat.le_refl _) hb3)
  clear hb3
  have k0 := Hblk.out.cell 0
  have k1 := Hblk.out.cell 1
  have k2 := Hblk.out.cell 2
  have k3 := Hblk.out.cell 3
  have k4 := Hblk.out.cell 4
  have k5 := Hblk.out.cell 5
  go_wp2_with fail
  refine (rDeepl_any m _ _ HV.out Hl.out).mono ?_
  rintro e w4 ⟨rfl, hb4⟩
  rw [HP.out]
  clear k0 k1 k2 k3 k4 k5
  replace HE := Lib.hid (HE.out.up hb4)
  replace HV := Lib.hid (HV.out.up hb4)
  replace HW := Lib.hid (HW.out.up hb4)
  replace Hblk := Lib.hid (Hblk.out.below hb4 Hblk.out.lt)
  replace Hb0 := Lib.hid (below_next Hb0.out (Nat.le_refl _) hb4)
  clear hb4
  go_wp2_with fail
  refine (fixed12_any E _ HE.out).mono ?_
  rintro e w5 ⟨rfl, hb5⟩
  replace HE := Lib.hid (HE.out.up hb5)
  replace HV := Lib.hid (HV.out.up hb5)
  replace HW := Lib.hid (HW.out.up hb5)
  replace Hblk := Lib.hid (Hblk.out.below hb5 Hblk.out.lt)
  replace Hb0 := Lib.hid (below_next Hb0.out (Nat.le_refl _) hb5)
  clear hb5
  go_wp2
  go_ret
  exact ⟨rfl, Hb0.out⟩

set_option maxHeartbeats 16000000 in
set_option maxRecDepth 100000 in
theorem gd_main (E : Nat → Addr) (m : Mat) (v sw : Value) (ws : List Int) (w : World) (hv : MatV w w.heap.size v m) (hl : Lim m) (hrw : Row w w.heap.size sw ws) (hE : Env E w) (hf : fewB 9 m 10 = true) (hma : mayW m ws = true) (h3 : dp 4 m ≤ 3) : Calls Tryz.prog 4 #[v, sw] w (Truly w) := by
  have Hf := Lib.hid hf
  have Hma := Lib.hid hma
  obtain ⟨a, b, x, y, ea, eb, hia, hib, hlen, hwa, hwb, hxy, hx1, hx2⟩ := dual_fact hma h3
  obtain ⟨hc, hwl, hwb2⟩ := mayW_iff.1 hma
  have hn := nN_cast hc
  have hla := inN_len hia
  have hlb := inN_len hib
  have hlaI : (a.length : Int) ≤ 64 := by omega
  have hlbI : (b.length : Int) ≤ 64 := by omega
  have hw64 : ws.length ≤ 64 := by omega
  have hw64I : (ws.length : Int) ≤ 64 := by omega
  have Hbnd := Lib.hid (at_bound (c := 1099511627776) (by omega) hwb2)
  have Hup := Lib.hid (sumUp_bound hwb2)
  have Hsuc := Lib.hid (sumUp_succ ws)
  have Hs := Lib.hid (few_sml Hf.out)
  have Hsd : Hid (Sml (dualOf m)) := Lib.hid (sml_one Hs.out)
  have HT1 : Hid (∀ (v sv : Value) (W : World), MatV W W.heap.size v m → Row W W.heap.size sv ws → Env E W → Calls Tryz.prog 9 #[v, sv, .int .i64 m.n] W (Gives W a)) := Lib.hid fun v sv W h1 h2 h3 => by rw [← ea]; exact Take_any E _ _ sv _ _ W h1 Hs.out h2 (by omega) h3
  have HT2 : Hid (∀ (v sv : Value) (W : World), MatV W W.heap.size v (dualOf m) → Row W W.heap.size sv (negL ws) → Env E W → Calls Tryz.prog 9 #[v, sv, .int .i64 m.n] W (Gives W b)) := Lib.hid fun v sv W h1 h2 h3 => by rw [← eb]; exact Take_any E _ _ sv _ _ W h1 Hsd.out h2 (by rw [negL_len]; omega) h3
  have HW1 : Hid (∀ (u sv : Value) (W : World), Row W W.heap.size u ws → Row W W.heap.size sv a → Calls Tryz.prog 12 #[u, sv] W (Tells W x)) := Lib.hid fun u sv W h1 h2 => by rw [← hwa]; exact weight_any _ _ _ _ W h1 h2
  have HW2 : Hid (∀ (u sv : Value) (W : World), Row W W.heap.size u (negL ws) → Row W W.heap.size sv b → Calls Tryz.prog 12 #[u, sv] W (Tells W y)) := Lib.hid fun u sv W h1 h2 => by rw [← hwb]; exact weight_any _ _ _ _ W h1 h2
  have hup := Hup.out ws.length
  have Hnl := Lib.hid (negL_len ws)
  have Hxy : Hid (IntKind.i64.wrap (x - sumUp ws ws.length) = y) := Lib.hid (by rw [hxy]; exact wrap_le (by omega) (by omega))
  have Hsum : Hid (IntKind.i64.wrap ((a.length : Int) + (b.length : Int)) = m.n) := Lib.hid (by rw [hlen]; exact wrap_le (by omega) (by omega))
  obtain ⟨P, hP⟩ : ∃ P : Nat, dp 4 m = P := ⟨_, rfl⟩
  have HP : Hid (deepI m = (P : Int)) := Lib.hid (by rw [← hP]; rfl)
  rw [hP] at h3
  have h3I : (P : Int) ≤ 3 := by omega
  clear hf hma ea eb hwa hwb hlen hxy hx1 hx2 hc hwl hwb2 hn hia hib hla hlb hup hP h3
  have Hl := Lib.hid hl
  obtain ⟨lv, iv, hve, hl2, hi2⟩ := hv.open
  have Hb0 := Lib.hid (boxed_below w m lv iv)
  have HV := Lib.hid (hv.up Hb0.out)
  have HE := Lib.hid (hE.up Hb0.out)
  have HW := Lib.hid (hrw.up Hb0.out)
  have Hblk := Lib.hid (boxed_blk w m lv iv)
  obtain ⟨Al, cl, rfl, _⟩ := hl2
  obtain ⟨Ai, ci, rfl, _⟩ := hi2
  obtain ⟨Aw, cw, hsw, hcapw, _⟩ := id hrw
  have hwI : (ws.length : Int) ≤ 9223372036854775807 := by have h1 := hcapw.1; have h2 := hcapw.2.1; unfold maxLen at h2; omega
  subst hve hsw
  unfold boxed at *
  clear hv hl hE hrw hcapw
  go_enter Tryz.func4, Tryz.ntmps4
  go_wp2_with fail
  refine (fixed12_any E _ HE.out).mono ?_
  rintro e w1 ⟨rfl, hb1⟩
  replace HE := Lib.hid (HE.out.up hb1)
  replace HV := Lib.hid (HV.out.up hb1)
  replace HW := Lib.hid (HW.out.up hb1)
  replace Hblk := Lib.hid (Hblk.out.below hb1 Hblk.out.lt)
  replace Hb0 := Lib.hid (below_next Hb0.out (Nat.le_refl _) hb1)
  clear hb1
  have k0 := Hblk.out.cell 0
  have k1 := Hblk.out.cell 1
  have k2 := Hblk.out.cell 2
  have k3 := Hblk.out.cell 3
  have k4 := Hblk.out.cell 4
  have k5 := Hblk.out.cell 5
  go_wp2_with fail
  refine (few_any m _ 10 _ HV.out Hl.out).mono ?_
  rintro e w2 ⟨rfl, hb2⟩
  rw [Hf.out]
  clear k0 k1 k2 k3 k4 k5
  replace HE := Lib.hid (HE.out.up hb2)
  replace HV := Lib.hid (HV.out.up hb2)
  replace HW := Lib.hid (HW.out.up hb2)
  replace Hblk := Lib.hid (Hblk.out.below hb2 Hblk.out.lt)
  replace Hb0 := Lib.hid (below_next Hb0.out (Nat.le_refl _) hb2)
  clear hb2
  have k0 := Hblk.out.cell 0
  have k1 := Hblk.out.cell 1
  have k2 := Hblk.out.cell 2
  have k3 := Hblk.out.cell 3
  have k4 := Hblk.out.cell 4
  have k5 := Hblk.out.cell 5
  go_wp2_with fail
  refine (rmay12_any m _ _ ws _ HV.out (few_sml Hf.out) HW.out).mono ?_
  rintro e w3 ⟨rfl, hb3⟩
  rw [Hma.out]
  clear k0 k1 k2 k3 k4 k5
  replace HE := Lib.hid (HE.out.up hb3)
  replace HV := Lib.hid (HV.out.up hb3)
  replace HW := Lib.hid (HW.out.up hb3)
  replace Hblk := Lib.hid (Hblk.out.below hb3 Hblk.out.lt)
  replace Hb0 := Lib.hid (below_next Hb0.out (Nat.le_refl _) hb3)
  clear hb3
  have k0 := Hblk.out.cell 0
  have k1 := Hblk.out.cell 1
  have k2 := Hblk.out.cell 2
  have k3 := Hblk.out.cell 3
  have k4 := Hblk.out.cell 4
  have k5 := Hblk.out.cell 5
  go_wp2_with fail
  refine (rDeepl_any m _ _ HV.out Hl.out).mono ?_
  rintro e w4 ⟨rfl, hb4⟩
  rw [HP.out]
  clear k0 k1 k2 k3 k4 k5
  replace HE := Lib.hid (HE.out.up hb4)
  replace HV := Lib.hid (HV.out.up hb4)
  replace HW := Lib.hid (HW.out.up hb4)
  replace Hblk := Lib.hid (Hblk.out.below hb4 Hblk.out.lt)
  replace Hb0 := Lib.hid (below_next Hb0.out (Nat.le_refl _) hb4)
  clear hb4
  have hown0 : (w4.alloc (.cells #[] 3)).ownsRow w4.heap.size 3 1 (.slice (some ⟨w4.heap.size, 0, none⟩) 0 0) 0 [] :=
    World.ownsRow_made w4 #[] 0 (Nat.le_refl _) (by unfold maxLen; omega) rfl
  have hB0 : Below w4.heap.size w4 (w4.alloc (.cells #[] 3)) := (Below.refl _ w4).alloc (Nat.le_refl _) _
  go_wp2
  go_loopw [5, 6, 7] (fun vd vs vk wr => ∃ k : Nat, vk = .int .i64 k ∧ k ≤ ws.length ∧ vs = .int .i64 (sumUp ws k) ∧ wr.ownsRow w4.heap.size 3 1 vd (negL (ws.take k)).length (ints (negL (ws.take k))) ∧ Below w4.heap.size w4 wr) (fun _ _ vk _ => ws.length - (intOf vk).toNat)
  case atStart => exact ⟨0, rfl, Nat.zero_le _, rfl, hown0, hB0⟩
  case round =>
    obtain ⟨k, rfl, hk, rfl, hown, hbr⟩ := hrel
    have Hbr := Lib.hid hbr
    by_cases hlt : k < ws.length
    · have hltI : (k : Int) < (ws.length : Int) := by omega
      obtain ⟨ad, hA, hcl⟩ := Row.nth HW.out hlt
      subst hA
      have g1 := hcl wr hbr
      have hx := Hbnd.out k
      have hu := Hup.out k
      have hu1 := Hup.out (k + 1)
      have Hs1 := Lib.hid (Hsuc.out k)
      rw [Hs1.out] at hu1
      have Hl1 : Hid (negL (ws.take (k + 1)) = negL (ws.take k) ++ [-ws.getD k 0]) := Lib.hid (by unfold negL; rw [List.take_succ_eq_append_getElem hlt, List.map_append]; simp [List.getD, hlt])
      have Hll : Hid ((negL (ws.take k)).length = k) := Lib.hid (by rw [negL_len, List.length_take]; omega)
      clear hcl
      generalize ws.getD k 0 = z at *
      generalize sumUp ws k = t at *
      generalize negL (ws.take k) = L at *
      have hneg : IntKind.i64.wrap (-z) = -z := wrap_le (by omega) (by omega)
      have hneg2 : wrap64 (-z) = -z := by rw [← wrap_w]; exact hneg
      have hadd : IntKind.i64.wrap (t + z) = t + z := wrap_le (by omega) (by omega)
      have hadd2 : wrap64 (t + z) = t + z := by rw [← wrap_w]; exact hadd
      have g2 : (wr.alloc (.cells #[.int .i64 (-z)] 3)).cell? (ad.add k) = some (.int .i64 z) := Lib.cell?_alloc_some _ g1
      have hwsz := hbr.size
      clear hbr hx hu hu1
      go_wp2_with (at_builtin; refine wpList_append_row rfl _ _ rfl w4.heap.size _ _ _ L [-z] rfl rfl (hown.alloc _) (Row.lit1 _ (-z)) (by have := Hll.out; omega) (by simp) (by simp; omega) ?_)
      intro v' w5 hown' hgrow
      have hb5 : Below w4.heap.size wr w5 := ((Below.refl _ wr).alloc hwsz _).grown hgrow (by simp; omega) (fun i hi => (hown.lt i hi).1)
      have g3 := (Hbr.out.trans hb5)
      have g4 : w5.cell? (ad.add k) = some (.int .i64 z) := by
        obtain ⟨ad', hA', hcl'⟩ := Row.nth HW.out hlt
        injection hA' with hA'
        subst hA'
        have := hcl' w5 g3
        rw [this]
        congr 2
        have h9 := hcl' wr Hbr.out
        rw [g1] at h9
        injection h9 with h9
        injection h9 with _ h9
        exact h9.symm
      clear g1 g2
      go_wp2
      go_roundw
      case rel => exact ⟨k + 1, by go_num, by omega, by rw [Hs1.out], by rw [Hl1.out, List.length_append]; exact hown', g3⟩
      case measure => simp [intOf]; omega
    · have hke : k = ws.length := by omega
      subst hke
      have HD : Hid (Row wr wr.heap.size u5 (negL ws)) := Lib.hid (by
        have h := Row.of_own hown rfl
        rwa [List.take_length] at h)
      obtain ⟨Ad, cd, hu5, _⟩ := id HD.out
      subst hu5
      clear hown Hbnd Hup Hsuc
      replace HE := Lib.hid (HE.out.up hbr)
      replace HV := Lib.hid (HV.out.up hbr)
      replace HW := Lib.hid (HW.out.up hbr)
      replace Hblk := Lib.hid (Hblk.out.below hbr Hblk.out.lt)
      replace Hb0 := Lib.hid (below_next Hb0.out (Nat.le_refl _) hbr)
      clear hbr
      clear Hbr
      have hwlt : w.heap.size < wr.heap.size := Hblk.out.lt
      have k0 := Hblk.out.cell 0
      have k1 := Hblk.out.cell 1
      have k2 := Hblk.out.cell 2
      have k3 := Hblk.out.cell 3
      have k4 := Hblk.out.cell 4
      have k5 := Hblk.out.cell 5
      have hwlt1 : w.heap.size < wr.heap.size + 1 := by omega
      have hwle1 : w.heap.size ≤ wr.heap.size + 1 := by omega
      have hwne1 : ¬ w.heap.size = wr.heap.size + 1 := by omega
      obtain ⟨X, hX⟩ : ∃ X, X = (wr.alloc (.cells #[.int .i64 m.t, .int .i64 m.n, .int .i64 m.a, .int .i64 m.b, .slice Al m.l.length cl, .slice Ai m.i.length ci] 25)).alloc (.cells #[.int .i64 8, .int .i64 m.n, .int .i64 0, .int .i64 0, .slice none 0 0, .slice (some ⟨wr.heap.size, 0, none⟩) 1 1] 25) := ⟨_, rfl⟩
      have HX := Lib.hid hX
      have Hbx : Hid (Below wr.heap.size wr X) := Lib.hid (by
        rw [hX]
        exact ((Below.refl wr.heap.size wr).alloc (Nat.le_refl _) _).alloc (by simp only [size_more]; omega) _)
      have HMd0 : Hid (MatV X X.heap.size (.agg #[.int .i64 8, .int .i64 m.n, .int .i64 0, .int .i64 0, .slice none 0 0, .slice (some ⟨wr.heap.size, 0, none⟩) 1 1]) (dualOf m)) := Lib.hid (by
        have h : MatV (wr.alloc (.cells #[.int .i64 m.t, .int .i64 m.n, .int .i64 m.a, .int .i64 m.b, .slice Al m.l.length cl, .slice Ai m.i.length ci] 25)) (wr.alloc (.cells #[.int .i64 m.t, .int .i64 m.n, .int .i64 m.a, .int .i64 m.b, .slice Al m.l.length cl, .slice Ai m.i.length ci] 25)).heap.size (.agg #[.int .i64 8, .int .i64 m.n, .int .i64 0, .int .i64 0, .slice none 0 0, .slice (some ⟨wr.heap.size, 0, none⟩) 1 1]) (dualOf m) := by rw [size_more]; exact dual_lit HV.out
        rw [hX]
        exact h.upA _)
      have HKd0 : Hid (Blk X (wr.heap.size + 1) 25 #[.int .i64 8, .int .i64 m.n, .int .i64 0, .int .i64 0, .slice none 0 0, .slice (some ⟨wr.heap.size, 0, none⟩) 1 1]) := Lib.hid (by
        have h := Blk.new (wr.alloc (.cells #[.int .i64 m.t, .int .i64 m.n, .int .i64 m.a, .int .i64 m.b, .slice Al m.l.length cl, .slice Ai m.i.length ci] 25)) 25 #[.int .i64 8, .int .i64 m.n, .int .i64 0, .int .i64 0, .slice none 0 0, .slice (some ⟨wr.heap.size, 0, none⟩) 1 1]
        simp only [size_more] at h
        rw [hX]
        exact h)
      have hdr : Below X.heap.size X X.drew := (Below.refl _ X).drew
      have hbd := below_next Hbx.out (Nat.le_refl _) hdr
      have HKm := Lib.hid (Hblk.out.below hbd Hblk.out.lt)
      have HKd := Lib.hid (HKd0.out.below hdr HKd0.out.lt)
      have HMd := Lib.hid (HMd0.out.up hdr)
      have HV1 := Lib.hid (HV.out.up hbd)
      have HE1 := Lib.hid (HE.out.up hbd)
      have HW1r := Lib.hid (HW.out.up hbd)
      have HD1 := Lib.hid (HD.out.up hbd)
      have Hb1 := Lib.hid (below_next Hb0.out (Nat.le_refl _) hbd)
      have K1 : Hid (∀ W, Below X.drew.heap.size X.drew W → (W.cell? ⟨w.heap.size, 0, none⟩ = some (.int .i64 m.t) ∧ W.cell? ⟨w.heap.size, 1, none⟩ = some (.int .i64 m.n) ∧ W.cell? ⟨w.heap.size, 2, none⟩ = some (.int .i64 m.a) ∧ W.cell? ⟨w.heap.size, 3, none⟩ = some (.int .i64 m.b) ∧ W.cell? ⟨w.heap.size, 4, none⟩ = some (.slice Al m.l.length cl) ∧ W.cell? ⟨w.heap.size, 5, none⟩ = some (.slice Ai m.i.length ci)) ∧ (W.cell? ⟨wr.heap.size + 1, 0, none⟩ = some (.int .i64 8) ∧ W.cell? ⟨wr.heap.size + 1, 1, none⟩ = some (.int .i64 m.n) ∧ W.cell? ⟨wr.heap.size + 1, 2, none⟩ = some (.int .i64 0) ∧ W.cell? ⟨wr.heap.size + 1, 3, none⟩ = some (.int .i64 0) ∧ W.cell? ⟨wr.heap.size + 1, 4, none⟩ = some (.slice none 0 0) ∧ W.cell? ⟨wr.heap.size + 1, 5, none⟩ = some (.slice (some ⟨wr.heap.size, 0, none⟩) 1 1))) := Lib.hid fun W hW => ⟨⟨(HKm.out.below hW HKm.out.lt).cell 0, (HKm.out.below hW HKm.out.lt).cell 1, (HKm.out.below hW HKm.out.lt).cell 2, (HKm.out.below hW HKm.out.lt).cell 3, (HKm.out.below hW HKm.out.lt).cell 4, (HKm.out.below hW HKm.out.lt).cell 5⟩, ⟨(HKd.out.below hW HKd.out.lt).cell 0, (HKd.out.below hW HKd.out.lt).cell 1, (HKd.out.below hW HKd.out.lt).cell 2, (HKd.out.below hW HKd.out.lt).cell 3, (HKd.out.below hW HKd.out.lt).cell 4, (HKd.out.below hW HKd.out.lt).cell 5⟩⟩
      have HB : Hid (Below X.drew.heap.size X.drew X.drew) := Lib.hid (Below.refl _ _)
      clear hX hdr hbd HKm HKd HKd0 HMd0 HV HE HW HD Hblk Hb0
      go_wp2
      rw [← HX.out]
      go_region_held3 (fun W => (W.cell? ⟨w.heap.size, 0, none⟩ = some (.int .i64 m.t) ∧ W.cell? ⟨w.heap.size, 1, none⟩ = some (.int .i64 m.n) ∧ W.cell? ⟨w.heap.size, 2, none⟩ = some (.int .i64 m.a) ∧ W.cell? ⟨w.heap.size, 3, none⟩ = some (.int .i64 m.b) ∧ W.cell? ⟨w.heap.size, 4, none⟩ = some (.slice Al m.l.length cl) ∧ W.cell? ⟨w.heap.size, 5, none⟩ = some (.slice Ai m.i.length ci)) ∧ (W.cell? ⟨wr.heap.size + 1, 0, none⟩ = some (.int .i64 8) ∧ W.cell? ⟨wr.heap.size + 1, 1, none⟩ = some (.int .i64 m.n) ∧ W.cell? ⟨wr.heap.size + 1, 2, none⟩ = some (.int .i64 0) ∧ W.cell? ⟨wr.heap.size + 1, 3, none⟩ = some (.int .i64 0) ∧ W.cell? ⟨wr.heap.size + 1, 4, none⟩ = some (.slice none 0 0) ∧ W.cell? ⟨wr.heap.size + 1, 5, none⟩ = some (.slice (some ⟨wr.heap.size, 0, none⟩) 1 1)))
        (exact K1.out _ HB.out)
        (first
        | (go_at_call_of 9 (Value.slice Aw ws.length cw); refine (HT1.out _ _ _ (HV1.out.up HB.out) (HW1r.out.up HB.out) (HE1.out.up HB.out)).mono ?_; rintro e w7 ⟨va, rfl, hra, hb⟩; obtain ⟨Aa, ca, rfl, _⟩ := id hra; replace HB := Lib.hid (below_next HB.out (Nat.le_refl _) hb); have HRA := Lib.hid hra; clear hra hb)
        | (go_at_call_of 9 (Value.slice Ad (negL ws).length cd); refine (HT2.out _ _ _ (HMd.out.up HB.out) (HD1.out.up HB.out) (HE1.out.up HB.out)).mono ?_; rintro e w8 ⟨vb, rfl, hrb, hb⟩; obtain ⟨Ab, cb, rfl, _⟩ := id hrb; replace HB := Lib.hid (below_next HB.out (Nat.le_refl _) hb); replace HRA := Lib.hid (HRA.out.up hb); have HRB := Lib.hid hrb; clear hrb hb))
      all_goals
        go_simp
        have g1 := (K1.out _ HB.out).1.2.1
        have hs1 := Hsum.out
        have hs2 : wrap64 ((a.length : Int) + (b.length : Int)) = m.n := by rw [← wrap_w]; exact hs1
        have hx1 := Hxy.out
        have hx2 : wrap64 (x - sumUp ws ws.length) = y := by rw [← wrap_w]; exact hx1
        go_wp2_with fail
        refine (HW2.out _ _ _ (HD1.out.up HB.out) HRB.out).mono ?_
        rintro e w9 ⟨rfl, hb9⟩
        have HRA2 := Lib.hid (HRA.out.up hb9)
        have HB9 := Lib.hid (below_next HB.out (Nat.le_refl _) hb9)
        clear hb9 g1
        go_wp2_with fail
        refine (HW1.out _ _ _ (HW1r.out.up HB9.out) HRA2.out).mono ?_
        rintro e w10 ⟨rfl, hb10⟩
        have HB10 := Lib.hid (below_next HB9.out (Nat.le_refl _) hb10)
        clear hb10
        go_wp2
        go_ret
        exact ⟨by simp, below_next Hb1.out (Nat.le_refl _) HB10.out⟩

theorem gdual_any (E : Nat → Addr) (m : Mat) (v sw : Value) (ws : List Int) (w : World) (hv : MatV w w.heap.size v m) (hl : Lim m) (hrw : Row w w.heap.size sw ws) (hE : Env E w) : Calls Tryz.prog 4 #[v, sw] w (Truly w) := by
  rcases hf : fewB 9 m 10 with _ | _
  · exact gd_1 E m v sw ws w hv hl hrw hE hf
  · rcases hma : mayW m ws with _ | _
    · exact gd_2 E m v sw ws w hv hl hrw hE hf hma
    · by_cases h3 : dp 4 m ≤ 3
      · exact gd_main E m v sw ws w hv hl hrw hE hf hma h3
      · exact gd_3 E m v sw ws w hv hl hrw hE hf hma (by omega)

end Wp
end Go.Proofs.YtolnkgghejhaeaaGreatDoor
