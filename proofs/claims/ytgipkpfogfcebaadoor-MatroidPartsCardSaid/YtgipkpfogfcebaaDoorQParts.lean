/- MatroidParts, walked: it answers true. -/
import Derived.Test.YtgipkpfogfcebaaDoorQFixed
import Derived.Test.YtgipkpfogfcebaaDoorQSml
import Derived.Test.YtgipkpfogfcebaaDoorQPartsP
import Derived.Test.YtgipkpfogfcebaaDoorQSet9
namespace Go.Proofs.YtgipkpfogfcebaaDoor
open Go.RowKit
namespace Wp

set_option maxHeartbeats 16000000 in
set_option maxRecDepth 100000 in
theorem parts_1 (E : Nat → Addr) (m : Mat) (v sv : Value) (l : List Int) (w : World) (hv : MatV w w.heap.size v m) (hl : Lim m) (hr : Row w w.heap.size sv l) (hE : Env E w) (hsm : smlB m = false) : Calls Tryd.prog 6 #[v, sv] w (Truly w) := by
  have Hsm := Lib.hid hsm
  have Hl := Lib.hid hl
  obtain ⟨lv, iv, hve, hl2, hi2⟩ := hv.open
  have Hb0 := Lib.hid (boxed_below w m lv iv)
  have Hv0 := Lib.hid (hv.up Hb0.out)
  have HE0 := Lib.hid (hE.up Hb0.out)
  have HR0 := Lib.hid (hr.up Hb0.out)
  have Hblk0 := Lib.hid (boxed_blk w m lv iv)
  obtain ⟨Al, cl, rfl, _⟩ := hl2
  obtain ⟨Ai, ci, rfl, _⟩ := hi2
  obtain ⟨As, cs, hvs, hcap, _⟩ := id hr
  have hsI : (l.length : Int) ≤ 9223372036854775807 := by
    have h1 := hcap.1
    have h2 := hcap.2.1
    unfold maxLen at h2
    omega
  subst hve hvs
  unfold boxed at *
  clear hcap
  clear hv hE hr hsm hl
  go_enter Tryd.func6, Tryd.ntmps6
  go_wp2_with fail
  refine (fixed_any E _ HE0.out).mono ?_
  rintro e w1 ⟨rfl, hb1⟩
  have HE1 := Lib.hid (HE0.out.up hb1)
  have Hv1 := Lib.hid (Hv0.out.up hb1)
  have HR1 := Lib.hid (HR0.out.up hb1)
  have Hblk1 := Lib.hid (Hblk0.out.below hb1 Hblk0.out.lt)
  have Hb1 := Lib.hid (below_next Hb0.out (Nat.le_refl _) hb1)
  clear hb1 HE0 Hv0 HR0 Hblk0 Hb0
  have K := Hblk1.out
  have k0 := K.cell 0
  have k1 := K.cell 1
  have k2 := K.cell 2
  have k3 := K.cell 3
  have k4 := K.cell 4
  have k5 := K.cell 5
  clear K
  go_wp2_with fail
  refine (small_any m _ _ Hv1.out Hl.out).mono ?_
  rintro e w2 ⟨rfl, hb2⟩
  rw [Hsm.out]
  clear k0 k1 k2 k3 k4 k5
  have HE2 := Lib.hid (HE1.out.up hb2)
  have Hv2 := Lib.hid (Hv1.out.up hb2)
  have HR2 := Lib.hid (HR1.out.up hb2)
  have Hblk2 := Lib.hid (Hblk1.out.below hb2 Hblk1.out.lt)
  have Hb2 := Lib.hid (below_next Hb1.out (Nat.le_refl _) hb2)
  clear hb2 HE1 Hv1 HR1 Hblk1 Hb1
  go_wp2_with fail
  refine (fixed_any E _ HE2.out).mono ?_
  rintro e w9 ⟨rfl, hb9⟩
  have Hb9 := Lib.hid (below_next Hb2.out (Nat.le_refl _) hb9)
  clear hb9
  go_wp2
  go_ret
  exact ⟨rfl, Hb9.out⟩

set_option maxHeartbeats 16000000 in
set_option maxRecDepth 100000 in
theorem parts_2 (E : Nat → Addr) (m : Mat) (v sv : Value) (l : List Int) (w : World) (hv : MatV w w.heap.size v m) (hl : Lim m) (hr : Row w w.heap.size sv l) (hE : Env E w) (hsm : smlB m = true) (hD : chk m ≠ 0) : Calls Tryd.prog 6 #[v, sv] w (Truly w) := by
  have Hsm := Lib.hid hsm
  have Hs := Lib.hid (sml_of hsm)
  have Hl := Lib.hid hl
  obtain ⟨lv, iv, hve, hl2, hi2⟩ := hv.open
  have Hb0 := Lib.hid (boxed_below w m lv iv)
  have Hv0 := Lib.hid (hv.up Hb0.out)
  have HE0 := Lib.hid (hE.up Hb0.out)
  have HR0 := Lib.hid (hr.up Hb0.out)
  have Hblk0 := Lib.hid (boxed_blk w m lv iv)
  obtain ⟨Al, cl, rfl, _⟩ := hl2
  obtain ⟨Ai, ci, rfl, _⟩ := hi2
  obtain ⟨As, cs, hvs, hcap, _⟩ := id hr
  have hsI : (l.length : Int) ≤ 9223372036854775807 := by
    have h1 := hcap.1
    have h2 := hcap.2.1
    unfold maxLen at h2
    omega
  subst hve hvs
  unfold boxed at *
  clear hcap
  obtain ⟨D, hDD⟩ : ∃ D, chk m = D := ⟨_, rfl⟩
  have HD := Lib.hid hDD
  rw [hDD] at hD
  have hne : (D != 0) = true := by simpa using hD
  clear hD hDD
  clear hv hE hr hsm hl
  go_enter Tryd.func6, Tryd.ntmps6
  go_wp2_with fail
  refine (fixed_any E _ HE0.out).mono ?_
  rintro e w1 ⟨rfl, hb1⟩
  have HE1 := Lib.hid (HE0.out.up hb1)
  have Hv1 := Lib.hid (Hv0.out.up hb1)
  have HR1 := Lib.hid (HR0.out.up hb1)
  have Hblk1 := Lib.hid (Hblk0.out.below hb1 Hblk0.out.lt)
  have Hb1 := Lib.hid (below_next Hb0.out (Nat.le_refl _) hb1)
  clear hb1 HE0 Hv0 HR0 Hblk0 Hb0
  have K := Hblk1.out
  have k0 := K.cell 0
  have k1 := K.cell 1
  have k2 := K.cell 2
  have k3 := K.cell 3
  have k4 := K.cell 4
  have k5 := K.cell 5
  clear K
  go_wp2_with fail
  refine (small_any m _ _ Hv1.out Hl.out).mono ?_
  rintro e w2 ⟨rfl, hb2⟩
  rw [Hsm.out]
  clear k0 k1 k2 k3 k4 k5
  have HE2 := Lib.hid (HE1.out.up hb2)
  have Hv2 := Lib.hid (Hv1.out.up hb2)
  have HR2 := Lib.hid (HR1.out.up hb2)
  have Hblk2 := Lib.hid (Hblk1.out.below hb2 Hblk1.out.lt)
  have Hb2 := Lib.hid (below_next Hb1.out (Nat.le_refl _) hb2)
  clear hb2 HE1 Hv1 HR1 Hblk1 Hb1
  have K := Hblk2.out
  have k0 := K.cell 0
  have k1 := K.cell 1
  have k2 := K.cell 2
  have k3 := K.cell 3
  have k4 := K.cell 4
  have k5 := K.cell 5
  clear K
  go_wp2_with fail
  refine (check_any E m _ _ Hv2.out Hs.out HE2.out).mono ?_
  rintro e w3 ⟨rfl, hb3⟩
  rw [HD.out]
  clear k0 k1 k2 k3 k4 k5
  have HE3 := Lib.hid (HE2.out.up hb3)
  have Hv3 := Lib.hid (Hv2.out.up hb3)
  have HR3 := Lib.hid (HR2.out.up hb3)
  have Hblk3 := Lib.hid (Hblk2.out.below hb3 Hblk2.out.lt)
  have Hb3 := Lib.hid (below_next Hb2.out (Nat.le_refl _) hb3)
  clear hb3 HE2 Hv2 HR2 Hblk2 Hb2
  go_wp2_with fail
  refine (fixed_any E _ HE3.out).mono ?_
  rintro e w9 ⟨rfl, hb9⟩
  have Hb9 := Lib.hid (below_next Hb3.out (Nat.le_refl _) hb9)
  clear hb9
  go_wp2
  go_ret
  exact ⟨rfl, Hb9.out⟩

set_option maxHeartbeats 16000000 in
set_option maxRecDepth 100000 in
theorem parts_3 (E : Nat → Addr) (m : Mat) (v sv : Value) (l : List Int) (w : World) (hv : MatV w w.heap.size v m) (hl : Lim m) (hr : Row w w.heap.size sv l) (hE : Env E w) (hsm : smlB m = true) (hD : chk m = 0) (h3 : 3 < dp 4 m) : Calls Tryd.prog 6 #[v, sv] w (Truly w) := by
  have Hsm := Lib.hid hsm
  have Hs := Lib.hid (sml_of hsm)
  have Hl := Lib.hid hl
  obtain ⟨lv, iv, hve, hl2, hi2⟩ := hv.open
  have Hb0 := Lib.hid (boxed_below w m lv iv)
  have Hv0 := Lib.hid (hv.up Hb0.out)
  have HE0 := Lib.hid (hE.up Hb0.out)
  have HR0 := Lib.hid (hr.up Hb0.out)
  have Hblk0 := Lib.hid (boxed_blk w m lv iv)
  obtain ⟨Al, cl, rfl, _⟩ := hl2
  obtain ⟨Ai, ci, rfl, _⟩ := hi2
  obtain ⟨As, cs, hvs, hcap, _⟩ := id hr
  have hsI : (l.length : Int) ≤ 9223372036854775807 := by
    have h1 := hcap.1
    have h2 := hcap.2.1
    unfold maxLen at h2
    omega
  subst hve hvs
  unfold boxed at *
  clear hcap
  have HD := Lib.hid hD
  obtain ⟨P, hP⟩ : ∃ P : Nat, dp 4 m = P := ⟨_, rfl⟩
  have HP : Hid (deepI m = (P : Int)) := by show _ = _; rw [← hP]; rfl
  rw [hP] at h3
  have h3I : (3 : Int) < (P : Int) := by omega
  clear hD hP h3
  clear hv hE hr hsm hl
  go_enter Tryd.func6, Tryd.ntmps6
  go_wp2_with fail
  refine (fixed_any E _ HE0.out).mono ?_
  rintro e w1 ⟨rfl, hb1⟩
  have HE1 := Lib.hid (HE0.out.up hb1)
  have Hv1 := Lib.hid (Hv0.out.up hb1)
  have HR1 := Lib.hid (HR0.out.up hb1)
  have Hblk1 := Lib.hid (Hblk0.out.below hb1 Hblk0.out.lt)
  have Hb1 := Lib.hid (below_next Hb0.out (Nat.le_refl _) hb1)
  clear hb1 HE0 Hv0 HR0 Hblk0 Hb0
  have K := Hblk1.out
  have k0 := K.cell 0
  have k1 := K.cell 1
  have k2 := K.cell 2
  have k3 := K.cell 3
  have k4 := K.cell 4
  have k5 := K.cell 5
  clear K
  go_wp2_with fail
  refine (small_any m _ _ Hv1.out Hl.out).mono ?_
  rintro e w2 ⟨rfl, hb2⟩
  rw [Hsm.out]
  clear k0 k1 k2 k3 k4 k5
  have HE2 := Lib.hid (HE1.out.up hb2)
  have Hv2 := Lib.hid (Hv1.out.up hb2)
  have HR2 := Lib.hid (HR1.out.up hb2)
  have Hblk2 := Lib.hid (Hblk1.out.below hb2 Hblk1.out.lt)
  have Hb2 := Lib.hid (below_next Hb1.out (Nat.le_refl _) hb2)
  clear hb2 HE1 Hv1 HR1 Hblk1 Hb1
  have K := Hblk2.out
  have k0 := K.cell 0
  have k1 := K.cell 1
  have k2 := K.cell 2
  have k3 := K.cell 3
  have k4 := K.cell 4
  have k5 := K.cell 5
  clear K
  go_wp2_with fail
  refine (check_any E m _ _ Hv2.out Hs.out HE2.out).mono ?_
  rintro e w3 ⟨rfl, hb3⟩
  rw [HD.out]
  clear k0 k1 k2 k3 k4 k5
  have HE3 := Lib.hid (HE2.out.up hb3)
  have Hv3 := Lib.hid (Hv2.out.up hb3)
  have HR3 := Lib.hid (HR2.out.up hb3)
  have Hblk3 := Lib.hid (Hblk2.out.below hb3 Hblk2.out.lt)
  have Hb3 := Lib.hid (below_next Hb2.out (Nat.le_refl _) hb3)
  clear hb3 HE2 Hv2 HR2 Hblk2 Hb2
  have K := Hblk3.out
  have k0 := K.cell 0
  have k1 := K.cell 1
  have k2 := K.cell 2
  have k3 := K.cell 3
  have k4 := K.cell 4
  have k5 := K.cell 5
  clear K
  go_wp2_with fail
  refine (deepf_any m _ _ Hv3.out Hs.out).mono ?_
  rintro e w4 ⟨rfl, hb4⟩
  rw [HP.out]
  clear k0 k1 k2 k3 k4 k5
  have HE4 := Lib.hid (HE3.out.up hb4)
  have Hv4 := Lib.hid (Hv3.out.up hb4)
  have HR4 := Lib.hid (HR3.out.up hb4)
  have Hblk4 := Lib.hid (Hblk3.out.below hb4 Hblk3.out.lt)
  have Hb4 := Lib.hid (below_next Hb3.out (Nat.le_refl _) hb4)
  clear hb4 HE3 Hv3 HR3 Hblk3 Hb3
  go_wp2_with fail
  refine (fixed_any E _ HE4.out).mono ?_
  rintro e w9 ⟨rfl, hb9⟩
  have Hb9 := Lib.hid (below_next Hb4.out (Nat.le_refl _) hb9)
  clear hb9
  go_wp2
  go_ret
  exact ⟨rfl, Hb9.out⟩

set_option maxHeartbeats 16000000 in
set_option maxRecDepth 100000 in
theorem parts_4 (E : Nat → Addr) (m : Mat) (v sv : Value) (l : List Int) (w : World) (hv : MatV w w.heap.size v m) (hl : Lim m) (hr : Row w w.heap.size sv l) (hE : Env E w) (hsm : smlB m = true) (hD : chk m = 0) (h3 : dp 4 m ≤ 3) (hok : okA m.n l = false) : Calls Tryd.prog 6 #[v, sv] w (Truly w) := by
  have Hsm := Lib.hid hsm
  have Hs := Lib.hid (sml_of hsm)
  have Hl := Lib.hid hl
  obtain ⟨lv, iv, hve, hl2, hi2⟩ := hv.open
  have Hb0 := Lib.hid (boxed_below w m lv iv)
  have Hv0 := Lib.hid (hv.up Hb0.out)
  have HE0 := Lib.hid (hE.up Hb0.out)
  have HR0 := Lib.hid (hr.up Hb0.out)
  have Hblk0 := Lib.hid (boxed_blk w m lv iv)
  obtain ⟨Al, cl, rfl, _⟩ := hl2
  obtain ⟨Ai, ci, rfl, _⟩ := hi2
  obtain ⟨As, cs, hvs, hcap, _⟩ := id hr
  have hsI : (l.length : Int) ≤ 9223372036854775807 := by
    have h1 := hcap.1
    have h2 := hcap.2.1
    unfold maxLen at h2
    omega
  subst hve hvs
  unfold boxed at *
  clear hcap
  have HD := Lib.hid hD
  have Hok := Lib.hid hok
  obtain ⟨P, hP⟩ : ∃ P : Nat, dp 4 m = P := ⟨_, rfl⟩
  have HP : Hid (deepI m = (P : Int)) := by show _ = _; rw [← hP]; rfl
  rw [hP] at h3
  have h3I : (P : Int) ≤ 3 := by omega
  clear hD hP h3 hok
  clear hv hE hr hsm hl
  go_enter Tryd.func6, Tryd.ntmps6
  go_wp2_with fail
  refine (fixed_any E _ HE0.out).mono ?_
  rintro e w1 ⟨rfl, hb1⟩
  have HE1 := Lib.hid (HE0.out.up hb1)
  have Hv1 := Lib.hid (Hv0.out.up hb1)
  have HR1 := Lib.hid (HR0.out.up hb1)
  have Hblk1 := Lib.hid (Hblk0.out.below hb1 Hblk0.out.lt)
  have Hb1 := Lib.hid (below_next Hb0.out (Nat.le_refl _) hb1)
  clear hb1 HE0 Hv0 HR0 Hblk0 Hb0
  have K := Hblk1.out
  have k0 := K.cell 0
  have k1 := K.cell 1
  have k2 := K.cell 2
  have k3 := K.cell 3
  have k4 := K.cell 4
  have k5 := K.cell 5
  clear K
  go_wp2_with fail
  refine (small_any m _ _ Hv1.out Hl.out).mono ?_
  rintro e w2 ⟨rfl, hb2⟩
  rw [Hsm.out]
  clear k0 k1 k2 k3 k4 k5
  have HE2 := Lib.hid (HE1.out.up hb2)
  have Hv2 := Lib.hid (Hv1.out.up hb2)
  have HR2 := Lib.hid (HR1.out.up hb2)
  have Hblk2 := Lib.hid (Hblk1.out.below hb2 Hblk1.out.lt)
  have Hb2 := Lib.hid (below_next Hb1.out (Nat.le_refl _) hb2)
  clear hb2 HE1 Hv1 HR1 Hblk1 Hb1
  have K := Hblk2.out
  have k0 := K.cell 0
  have k1 := K.cell 1
  have k2 := K.cell 2
  have k3 := K.cell 3
  have k4 := K.cell 4
  have k5 := K.cell 5
  clear K
  go_wp2_with fail
  refine (check_any E m _ _ Hv2.out Hs.out HE2.out).mono ?_
  rintro e w3 ⟨rfl, hb3⟩
  rw [HD.out]
  clear k0 k1 k2 k3 k4 k5
  have HE3 := Lib.hid (HE2.out.up hb3)
  have Hv3 := Lib.hid (Hv2.out.up hb3)
  have HR3 := Lib.hid (HR2.out.up hb3)
  have Hblk3 := Lib.hid (Hblk2.out.below hb3 Hblk2.out.lt)
  have Hb3 := Lib.hid (below_next Hb2.out (Nat.le_refl _) hb3)
  clear hb3 HE2 Hv2 HR2 Hblk2 Hb2
  have K := Hblk3.out
  have k0 := K.cell 0
  have k1 := K.cell 1
  have k2 := K.cell 2
  have k3 := K.cell 3
  have k4 := K.cell 4
  have k5 := K.cell 5
  clear K
  go_wp2_with fail
  refine (deepf_any m _ _ Hv3.out Hs.out).mono ?_
  rintro e w4 ⟨rfl, hb4⟩
  rw [HP.out]
  clear k0 k1 k2 k3 k4 k5
  have HE4 := Lib.hid (HE3.out.up hb4)
  have Hv4 := Lib.hid (Hv3.out.up hb4)
  have HR4 := Lib.hid (HR3.out.up hb4)
  have Hblk4 := Lib.hid (Hblk3.out.below hb4 Hblk3.out.lt)
  have Hb4 := Lib.hid (below_next Hb3.out (Nat.le_refl _) hb4)
  clear hb4 HE3 Hv3 HR3 Hblk3 Hb3
  have K := Hblk4.out
  have k0 := K.cell 0
  have k1 := K.cell 1
  have k2 := K.cell 2
  have k3 := K.cell 3
  have k4 := K.cell 4
  have k5 := K.cell 5
  clear K
  go_wp2_with fail
  refine (set9_any _ l m.n _ HR4.out).mono ?_
  rintro e w5 ⟨rfl, hb5⟩
  rw [Hok.out]
  clear k0 k1 k2 k3 k4 k5
  have HE5 := Lib.hid (HE4.out.up hb5)
  have Hv5 := Lib.hid (Hv4.out.up hb5)
  have HR5 := Lib.hid (HR4.out.up hb5)
  have Hblk5 := Lib.hid (Hblk4.out.below hb5 Hblk4.out.lt)
  have Hb5 := Lib.hid (below_next Hb4.out (Nat.le_refl _) hb5)
  clear hb5 HE4 Hv4 HR4 Hblk4 Hb4
  go_wp2_with fail
  refine (fixed_any E _ HE5.out).mono ?_
  rintro e w9 ⟨rfl, hb9⟩
  have Hb9 := Lib.hid (below_next Hb5.out (Nat.le_refl _) hb9)
  clear hb9
  go_wp2
  go_ret
  exact ⟨rfl, Hb9.out⟩

/-- What is restricted, or contracted, written out. -/
theorem part_lit {W : World} {sl c0 c1 c2 c3 c4 c5 : Value} {r : List Int} {m : Mat} (hr : Row W W.heap.size sl r) (hm : MatV W W.heap.size (.agg #[c0, c1, c2, c3, c4, c5]) m) (t n : Int) :
    MatV ((W.alloc (.cells #[sl] 26)).alloc (.cells #[c0, c1, c2, c3, c4, c5] 25)) (W.heap.size + 1 + 1)
      (.agg #[.int .i64 t, .int .i64 n, .int .i64 0, .int .i64 0, .slice (some ⟨W.heap.size, 0, none⟩) 1 1, .slice (some ⟨W.heap.size + 1, 0, none⟩) 1 1]) (.mk t n 0 0 [r] [m]) := by
  have h1 := (lit_rows1 hr).below ((Below.refl (W.heap.size + 1) _).alloc (by rw [size_more]; omega) (.cells #[c0, c1, c2, c3, c4, c5] 25))
  have h2 := lit_mats (hm.upA (.cells #[sl] 26))
  rw [size_more] at h2
  exact MatV.shut (h1.mono (by omega)) h2
theorem fam_three (w : World) : Fam (((w.alloc (.cells #[] 3)).alloc (.cells #[] 3)).alloc (.cells #[] 3)) w.heap.size [.slice (some ⟨w.heap.size, 0, none⟩) 0 0, .slice (some ⟨w.heap.size + 1, 0, none⟩) 0 0, .slice (some ⟨w.heap.size + 1 + 1, 0, none⟩) 0 0] [[], [], []] := by
  have h1 := ((World.ownsRow_lit (base := w.heap.size) (e := 3) (size := 1) w #[] 0 (Nat.le_refl _) (by unfold maxLen; omega) rfl).alloc (.cells #[] 3)).alloc (.cells #[] 3)
  have h2 := (World.ownsRow_lit (base := w.heap.size) (e := 3) (size := 1) (w.alloc (.cells #[] 3)) #[] 0 (by rw [size_more]; omega) (by unfold maxLen; omega) rfl).alloc (.cells #[] 3)
  have h3 := World.ownsRow_lit (base := w.heap.size) (e := 3) (size := 1) ((w.alloc (.cells #[] 3)).alloc (.cells #[] 3)) #[] 0 (by rw [size_more, size_more]; omega) (by unfold maxLen; omega) rfl
  simp only [size_more] at h2 h3
  refine ⟨rfl, fun i v p hv hp => ?_, fun i j v u hv hu hij => ?_⟩
  · match i, hv, hp with
    | 0, hv, hp => simp at hv hp; subst hv hp; exact h1
    | 1, hv, hp => simp at hv hp; subst hv hp; exact h2
    | 2, hv, hp => simp at hv hp; subst hv hp; exact h3
  · match i, j, hv, hu, hij with
    | 0, 1, hv, hu, _ => simp at hv hu; subst hv hu; right; intro e; simp [Value.ownBlock] at e <;> omega
    | 0, 2, hv, hu, _ => simp at hv hu; subst hv hu; right; intro e; simp [Value.ownBlock] at e <;> omega
    | 1, 0, hv, hu, _ => simp at hv hu; subst hv hu; right; intro e; simp [Value.ownBlock] at e <;> omega
    | 1, 2, hv, hu, _ => simp at hv hu; subst hv hu; right; intro e; simp [Value.ownBlock] at e <;> omega
    | 2, 0, hv, hu, _ => simp at hv hu; subst hv hu; right; intro e; simp [Value.ownBlock] at e <;> omega
    | 2, 1, hv, hu, _ => simp at hv hu; subst hv hu; right; intro e; simp [Value.ownBlock] at e <;> omega
    | 0, 0, _, _, hij => exact absurd rfl hij
    | 1, 1, _, _, hij => exact absurd rfl hij
    | 2, 2, _, _, hij => exact absurd rfl hij
theorem fam_at {w : World} {B : Nat} {v1 v2 v3 : Value} {a b c : List Int} (h : Fam w B [v1, v2, v3] [a, b, c]) :
    w.ownsRow B 3 1 v1 (ints a).length (ints a) ∧ w.ownsRow B 3 1 v2 (ints b).length (ints b) ∧ w.ownsRow B 3 1 v3 (ints c).length (ints c) := by
  rw [ints_length, ints_length, ints_length]
  exact ⟨h.2.1 0 v1 a rfl rfl, h.2.1 1 v2 b rfl rfl, h.2.1 2 v3 c rfl rfl⟩
theorem fam_rows {w : World} {B : Nat} {v1 v2 v3 : Value} {a b c : List Int} (h : Fam w B [v1, v2, v3] [a, b, c]) : Row w w.heap.size v1 a ∧ Row w w.heap.size v2 b ∧ Row w w.heap.size v3 c :=
  ⟨Row.of_own (h.2.1 0 v1 a rfl rfl) rfl, Row.of_own (h.2.1 1 v2 b rfl rfl) rfl, Row.of_own (h.2.1 2 v3 c rfl rfl) rfl⟩
theorem Fam.bel {w w' : World} {B : Nat} {vs : List Value} {pp : List (List Int)} (h : Fam w B vs pp) (hb : Below w.heap.size w w') : Fam w' B vs pp := h.new (only_of_below hb none)
theorem Row.far {w : World} {B : Nat} {v : Value} {zs : List Int} (h : Row w B v zs) {g : Nat} (hg : ∀ (A : Addr) (n c : Nat), v = .slice (some A) n c → g < A.block) (i : Nat) (u : Value) : Row (w.setCell ⟨g, i, none⟩ u) B v zs := by
  obtain ⟨A, c, hv, hn, hk⟩ := h
  refine ⟨A, c, hv, hn, fun k hlt => ?_⟩
  obtain ⟨ad, hA, hB, hc⟩ := hk k hlt
  refine ⟨ad, hA, hB, ?_⟩
  have := hg ad _ _ (by rw [hv, hA])
  rw [World.cell?_setCell_other _ _ _ _ (by intro e; have := congrArg Addr.block e; rw [add_block] at this; simp at this; omega)]
  exact hc

set_option maxHeartbeats 16000000 in
set_option maxRecDepth 100000 in
theorem parts_main (E : Nat → Addr) (m : Mat) (v sv : Value) (l : List Int) (w : World) (hv : MatV w w.heap.size v m) (hl : Lim m) (hr : Row w w.heap.size sv l) (hE : Env E w) (hsm : smlB m = true) (hD : chk m = 0) (h3 : dp 4 m ≤ 3) (hok : okA m.n l = true) : Calls Tryd.prog 6 #[v, sv] w (Truly w) := by
  have Hsm := Lib.hid hsm
  have Hs := Lib.hid (sml_of hsm)
  have Hl := Lib.hid hl
  obtain ⟨lv, iv, hve, hl2, hi2⟩ := hv.open
  have Hb0 := Lib.hid (boxed_below w m lv iv)
  have Hv0 := Lib.hid (hv.up Hb0.out)
  have HE0 := Lib.hid (hE.up Hb0.out)
  have HR0 := Lib.hid (hr.up Hb0.out)
  have Hblk0 := Lib.hid (boxed_blk w m lv iv)
  obtain ⟨Al, cl, rfl, _⟩ := hl2
  obtain ⟨Ai, ci, rfl, _⟩ := hi2
  obtain ⟨As, cs, hvs, hcap, _⟩ := id hr
  have hsI : (l.length : Int) ≤ 9223372036854775807 := by
    have h1 := hcap.1
    have h2 := hcap.2.1
    unfold maxLen at h2
    omega
  subst hve hvs
  unfold boxed at *
  clear hcap
  have HD := Lib.hid hD
  have Hok := Lib.hid hok
  obtain ⟨hset, hrange⟩ := okA_set hok
  have hn := chk_n hD
  have Hrest := Lib.hid (parts_rest hD h3 hset hrange)
  have Hcont := Lib.hid (parts_cont hD h3 hset hrange)
  have Hone := Lib.hid (parts_one (l := l) hD h3)
  have Him1 := Lib.hid (parts_img1 hD h3 hset hrange)
  have Him2 := Lib.hid (parts_img2 hD h3 hset hrange)
  have hlen := len_all hn.1 hn.2 hset hrange
  obtain ⟨N, hN⟩ : ∃ N : Nat, m.n = (N : Int) := ⟨m.n.toNat, by omega⟩
  have HNm := Lib.hid hN
  have hri := rest_is hset (show N ≤ 100000 by omega)
  rw [hN, ← hri] at Hcont Hone Him2 hlen
  have Hrl : Hid (∀ k, (restK l k).length ≤ k) := restK_len l
  have hN64 : (N : Int) ≤ 64 := by omega
  have hl64 : l.length ≤ 64 := by omega
  have hl64I : (l.length : Int) ≤ 64 := by omega
  have hr64 : (restK l N).length ≤ 64 := by omega
  obtain ⟨P, hP⟩ : ∃ P : Nat, dp 4 m = P := ⟨_, rfl⟩
  have HP : Hid (deepI m = (P : Int)) := by show _ = _; rw [← hP]; rfl
  rw [hP] at h3
  have h3I : (P : Int) ≤ 3 := by omega
  have Hyes := Lib.hid (fun k h => restK_yes (l := l) (k := k) h)
  have Hno := Lib.hid (fun k h => restK_no (l := l) (k := k) h)
  clear hv hE hr hsm hl hD hok hset hrange hn hN hri hP h3 hlen
  go_enter Tryd.func6, Tryd.ntmps6
  go_wp2_with fail
  refine (fixed_any E _ HE0.out).mono ?_
  rintro e w1 ⟨rfl, hb1⟩
  have HE1 := Lib.hid (HE0.out.up hb1)
  have Hv1 := Lib.hid (Hv0.out.up hb1)
  have HR1 := Lib.hid (HR0.out.up hb1)
  have Hblk1 := Lib.hid (Hblk0.out.below hb1 Hblk0.out.lt)
  have Hb1 := Lib.hid (below_next Hb0.out (Nat.le_refl _) hb1)
  clear hb1 HE0 Hv0 HR0 Hblk0 Hb0
  have K := Hblk1.out
  have k0 := K.cell 0
  have k1 := K.cell 1
  have k2 := K.cell 2
  have k3 := K.cell 3
  have k4 := K.cell 4
  have k5 := K.cell 5
  clear K
  go_wp2_with fail
  refine (small_any m _ _ Hv1.out Hl.out).mono ?_
  rintro e w2 ⟨rfl, hb2⟩
  rw [Hsm.out]
  clear k0 k1 k2 k3 k4 k5
  have HE2 := Lib.hid (HE1.out.up hb2)
  have Hv2 := Lib.hid (Hv1.out.up hb2)
  have HR2 := Lib.hid (HR1.out.up hb2)
  have Hblk2 := Lib.hid (Hblk1.out.below hb2 Hblk1.out.lt)
  have Hb2 := Lib.hid (below_next Hb1.out (Nat.le_refl _) hb2)
  clear hb2 HE1 Hv1 HR1 Hblk1 Hb1
  have K := Hblk2.out
  have k0 := K.cell 0
  have k1 := K.cell 1
  have k2 := K.cell 2
  have k3 := K.cell 3
  have k4 := K.cell 4
  have k5 := K.cell 5
  clear K
  go_wp2_with fail
  refine (check_any E m _ _ Hv2.out Hs.out HE2.out).mono ?_
  rintro e w3 ⟨rfl, hb3⟩
  rw [HD.out]
  clear k0 k1 k2 k3 k4 k5
  have HE3 := Lib.hid (HE2.out.up hb3)
  have Hv3 := Lib.hid (Hv2.out.up hb3)
  have HR3 := Lib.hid (HR2.out.up hb3)
  have Hblk3 := Lib.hid (Hblk2.out.below hb3 Hblk2.out.lt)
  have Hb3 := Lib.hid (below_next Hb2.out (Nat.le_refl _) hb3)
  clear hb3 HE2 Hv2 HR2 Hblk2 Hb2
  have K := Hblk3.out
  have k0 := K.cell 0
  have k1 := K.cell 1
  have k2 := K.cell 2
  have k3 := K.cell 3
  have k4 := K.cell 4
  have k5 := K.cell 5
  clear K
  go_wp2_with fail
  refine (deepf_any m _ _ Hv3.out Hs.out).mono ?_
  rintro e w4 ⟨rfl, hb4⟩
  rw [HP.out]
  clear k0 k1 k2 k3 k4 k5
  have HE4 := Lib.hid (HE3.out.up hb4)
  have Hv4 := Lib.hid (Hv3.out.up hb4)
  have HR4 := Lib.hid (HR3.out.up hb4)
  have Hblk4 := Lib.hid (Hblk3.out.below hb4 Hblk3.out.lt)
  have Hb4 := Lib.hid (below_next Hb3.out (Nat.le_refl _) hb4)
  clear hb4 HE3 Hv3 HR3 Hblk3 Hb3
  have K := Hblk4.out
  have k0 := K.cell 0
  have k1 := K.cell 1
  have k2 := K.cell 2
  have k3 := K.cell 3
  have k4 := K.cell 4
  have k5 := K.cell 5
  clear K
  go_wp2_with fail
  refine (set9_any _ l m.n _ HR4.out).mono ?_
  rintro e w5 ⟨rfl, hb5⟩
  rw [Hok.out]
  clear k0 k1 k2 k3 k4 k5
  have HE5 := Lib.hid (HE4.out.up hb5)
  have Hv5 := Lib.hid (Hv4.out.up hb5)
  have HR5 := Lib.hid (HR4.out.up hb5)
  have Hblk5 := Lib.hid (Hblk4.out.below hb5 Hblk4.out.lt)
  have Hb5 := Lib.hid (below_next Hb4.out (Nat.le_refl _) hb5)
  clear hb5 HE4 Hv4 HR4 Hblk4 Hb4
  have F0 := Lib.hid (fam_three w5)
  have Hb6 : Hid (Below w5.heap.size w5 (((w5.alloc (.cells #[] 3)).alloc (.cells #[] 3)).alloc (.cells #[] 3))) := (((Below.refl _ _).alloc (Nat.le_refl _) _).alloc (by rw [size_more]; omega) _).alloc (by rw [size_more, size_more]; omega) _
  go_wp2
  go_loopw [5, 6, 8] (fun v5 v6 vk wr => ∃ k : Nat, vk = .int .i64 k ∧ k ≤ N ∧ Fam wr w5.heap.size [v5, v6, .slice (some ⟨w5.heap.size + 1 + 1, 0, none⟩) 0 0] [restK l k, upTo (restK l k).length, []] ∧ Below w5.heap.size w5 wr) (fun _ _ vk _ => N - (intOf vk).toNat)
  case atStart => exact ⟨0, rfl, Nat.zero_le _, F0.out, Hb6.out⟩
  case round =>
    clear F0 Hb6
    obtain ⟨k, rfl, hk, hfam, hbr⟩ := hrel
    have Hbr := Lib.hid hbr
    obtain ⟨R, hR⟩ : ∃ R, (restK l k).length = R := ⟨_, rfl⟩
    have HR_ := Lib.hid hR
    rw [hR] at hfam
    have hkl : R ≤ k := by rw [← hR]; exact Hrl.out k
    have O6 : wr.ownsRow w5.heap.size 3 1 u6 R (ints (upTo R)) := by
      have h := hfam.2.1 1 u6 (upTo R) rfl rfl
      rwa [upTo_length] at h
    obtain ⟨A6, c6, rfl⟩ := own_slice O6
    clear O6 hR
    have F1 := Lib.hid hfam
    have HRr := Lib.hid (HR5.out.up hbr)
    have K := Hblk5.out.below hbr Hblk5.out.lt
    have k1 := K.cell 1
    rw [HNm.out] at k1
    clear hfam hbr K
    by_cases hlt : k < N
    · have hltI : (k : Int) < (N : Int) := by omega
      rcases hc : l.contains (k : Int) with _ | _
      · have Hc := Lib.hid hc
        clear hc
        have Hnx := Lib.hid (Hno.out k Hc.out)
        go_wp2_with fail
        refine (in9_any _ l k _ HRr.out).mono ?_
        rintro e w6 ⟨rfl, hb6⟩
        rw [Hc.out]
        have Hb6 := Lib.hid (below_next Hbr.out (Nat.le_refl _) hb6)
        have F2 := Lib.hid (F1.out.bel hb6)
        clear hb6 k1
        have F3 := Lib.hid (F2.out.bel ((Below.refl w6.heap.size w6).alloc (Nat.le_refl _) (.cells #[.int .i64 (k : Int)] 3)))
        have O1 := Lib.hid (fam_at F3.out).1
        have C1 : Hid ((w6.alloc (.cells #[.int .i64 (k : Int)] 3)).cell? ⟨w6.heap.size, 0, none⟩ = some (.int .i64 (k : Int))) := (Blk.new w6 3 #[.int .i64 (k : Int)]).cell 0
        have Hb7 := Lib.hid (Hb6.out.alloc Hb6.out.size (.cells #[.int .i64 (k : Int)] 3))
        go_wp2_with (at_builtin; refine wpList_append_cell rfl _ _ 26 3 (.int .i64 0) 8 rfl Tryd.underlying26 info3 rfl w5.heap.size _ (.int .i64 (k : Int)) (ints (restK l k)) rfl O1.out w6.heap.size rfl C1.out rfl (by rw [ints_length, HR_.out]; omega) (by omega) Hb7.out.size ?_)
        intro v5' w7 hown hgr hloc
        have F4 := Lib.hid (F3.out.grow (at_ := 0) (u' := v5') (q := restK l k ++ [(k : Int)]) rfl hgr (by rw [← ints_length, ints_append]; rw [List.length_append]; exact hown) (by rw [size_more]; exact hloc))
        have Hb8 := Lib.hid (Hb7.out.grown hgr Hb7.out.size (fun k hk => (O1.out.lt k hk).1))
        clear hown hgr hloc
        have F4' : Hid (Fam w7 w5.heap.size [v5', .slice A6 R c6, .slice (some ⟨w5.heap.size + 1 + 1, 0, none⟩) 0 0] [restK l k ++ [(k : Int)], upTo R, []]) := F4.out
        have F5 := Lib.hid (F4'.out.bel ((Below.refl w7.heap.size w7).alloc (Nat.le_refl _) (.cells #[.int .i64 (R : Int)] 3)))
        have O2 := Lib.hid (fam_at F5.out).2.1
        have C2 : Hid ((w7.alloc (.cells #[.int .i64 (R : Int)] 3)).cell? ⟨w7.heap.size, 0, none⟩ = some (.int .i64 (R : Int))) := (Blk.new w7 3 #[.int .i64 (R : Int)]).cell 0
        have Hb9 := Lib.hid (Hb8.out.alloc Hb8.out.size (.cells #[.int .i64 (R : Int)] 3))
        go_wp2_with (at_builtin; refine wpList_append_cell rfl _ _ 26 3 (.int .i64 0) 8 rfl Tryd.underlying26 info3 rfl w5.heap.size _ (.int .i64 (R : Int)) (ints (upTo R)) rfl O2.out w7.heap.size rfl C2.out rfl (by rw [ints_length, upTo_length]; omega) (by omega) Hb9.out.size ?_)
        intro v6' w8 hown hgr hloc
        have F6 := Lib.hid (F5.out.grow (at_ := 1) (u' := v6') (q := upTo R ++ [(R : Int)]) rfl hgr (by rw [← ints_length, ints_append]; rw [List.length_append]; exact hown) (by rw [size_more]; exact hloc))
        have Hb10 := Lib.hid (Hb9.out.grown hgr Hb9.out.size (fun k hk => (O2.out.lt k hk).1))
        clear hown hgr hloc
        have F7 : Hid (Fam w8 w5.heap.size [v5', v6', .slice (some ⟨w5.heap.size + 1 + 1, 0, none⟩) 0 0] [restK l (k + 1), upTo (restK l (k + 1)).length, []]) := by
          show Fam _ _ _ _
          rw [Hnx.out, List.length_append, List.length_singleton, HR_.out, upTo_succ]
          exact F6.out
        go_wp2
        go_roundw
        case rel => exact ⟨k + 1, by go_num, by omega, F7.out, Hb10.out⟩
        case measure => simp [intOf]; omega
      · have Hc := Lib.hid hc
        clear hc
        have Hnx := Lib.hid (Hyes.out k Hc.out)
        go_wp2_with fail
        refine (in9_any _ l k _ HRr.out).mono ?_
        rintro e w6 ⟨rfl, hb6⟩
        rw [Hc.out]
        have Hb6 := Lib.hid (below_next Hbr.out (Nat.le_refl _) hb6)
        have F2 : Hid (Fam w6 w5.heap.size [u5, .slice A6 R c6, .slice (some ⟨w5.heap.size + 1 + 1, 0, none⟩) 0 0] [restK l (k + 1), upTo (restK l (k + 1)).length, []]) := by
          show Fam _ _ _ _
          rw [Hnx.out, HR_.out]
          exact F1.out.bel hb6
        clear hb6 k1
        go_wp2
        go_roundw
        case rel => exact ⟨k + 1, by go_num, by omega, F2.out, Hb6.out⟩
        case measure => simp [intOf]; omega
    · have hkN : k = N := by omega
      subst hkN
      go_wp2
      clear k1
      go_loopw [7, 9] (fun v7 vj wr => ∃ j : Nat, vj = .int .i64 j ∧ j ≤ l.length ∧ Fam wr w5.heap.size [u5, .slice A6 R c6, v7] [restK l k, upTo R, upTo j] ∧ Below w5.heap.size w5 wr) (fun _ vj _ => l.length - (intOf vj).toNat)
      case atStart => exact ⟨0, rfl, Nat.zero_le _, F1.out, Hbr.out⟩
      case round =>
        clear F1 Hbr HRr
        obtain ⟨j, rfl, hj, hfam, hbr⟩ := hrel
        have Hbq := Lib.hid hbr
        have G1 := Lib.hid hfam
        clear hfam hbr
        by_cases hlt2 : j < l.length
        · have hltJ : (j : Int) < (l.length : Int) := by omega
          have G2 := Lib.hid (G1.out.bel ((Below.refl wr.heap.size wr).alloc (Nat.le_refl _) (.cells #[.int .i64 (j : Int)] 3)))
          have O3 := Lib.hid (fam_at G2.out).2.2
          have C3 : Hid ((wr.alloc (.cells #[.int .i64 (j : Int)] 3)).cell? ⟨wr.heap.size, 0, none⟩ = some (.int .i64 (j : Int))) := (Blk.new wr 3 #[.int .i64 (j : Int)]).cell 0
          have Hb9 := Lib.hid (Hbq.out.alloc Hbq.out.size (.cells #[.int .i64 (j : Int)] 3))
          go_wp2_with (at_builtin; refine wpList_append_cell rfl _ _ 26 3 (.int .i64 0) 8 rfl Tryd.underlying26 info3 rfl w5.heap.size _ (.int .i64 (j : Int)) (ints (upTo j)) rfl O3.out wr.heap.size rfl C3.out rfl (by rw [ints_length, upTo_length]; omega) (by omega) Hb9.out.size ?_)
          intro v7' w8 hown hgr hloc
          have G3 := Lib.hid (G2.out.grow (at_ := 2) (u' := v7') (q := upTo j ++ [(j : Int)]) rfl hgr (by rw [← ints_length, ints_append]; rw [List.length_append]; exact hown) (by rw [size_more]; exact hloc))
          have Hb10 := Lib.hid (Hb9.out.grown hgr Hb9.out.size (fun k hk => (O3.out.lt k hk).1))
          clear hown hgr hloc
          have G4 : Hid (Fam w8 w5.heap.size [u5, .slice A6 R c6, v7'] [restK l k, upTo R, upTo (j + 1)]) := by
            show Fam _ _ _ _
            rw [upTo_succ]
            exact G3.out
          go_wp2
          go_roundw
          case rel => exact ⟨j + 1, by go_num, by omega, G4.out, Hb10.out⟩
          case measure => simp [intOf]; omega
        · have hjl : j = l.length := by omega
          subst hjl
          obtain ⟨hrow5, hrow6, hrow7⟩ := fam_rows G1.out
          have O5 : wr.ownsRow w5.heap.size 3 1 u5 R (ints (restK l k)) := by
            have h := G1.out.2.1 0 u5 (restK l k) rfl rfl
            rwa [HR_.out] at h
          obtain ⟨A5, c5, rfl⟩ := own_slice O5
          have O7 : wr.ownsRow w5.heap.size 3 1 u7 l.length (ints (upTo l.length)) := by
            have h := G1.out.2.1 2 u7 (upTo l.length) rfl rfl
            rwa [upTo_length] at h
          obtain ⟨A7, c7, rfl⟩ := own_slice O7
          have Hrow5 := Lib.hid hrow5
          have Hrow6 := Lib.hid hrow6
          have Hrow7 := Lib.hid hrow7
          have HEz := Lib.hid (HE5.out.up Hbq.out)
          have Hvz := Lib.hid (Hv5.out.up Hbq.out)
          have HRz := Lib.hid (HR5.out.up Hbq.out)
          have K := Hblk5.out.below Hbq.out Hblk5.out.lt
          have Hbz := Lib.hid (below_next Hb5.out (Nat.le_refl _) Hbq.out)
          have k0 := K.cell 0
          have k1 := K.cell 1
          have k2 := K.cell 2
          have k3 := K.cell 3
          have k4 := K.cell 4
          have k5 := K.cell 5
          have hwlt : w.heap.size < wr.heap.size := K.lt
          have hwle : w.heap.size ≤ wr.heap.size := Nat.le_of_lt hwlt
          have hwlt1 : w.heap.size < wr.heap.size + 1 := by omega
          have hwle1 : w.heap.size ≤ wr.heap.size + 1 := by omega
          have hwne1 : ¬ w.heap.size = wr.heap.size + 1 := by omega
          have hwlt2 : w.heap.size < wr.heap.size + 1 + 1 := by omega
          have hwle2 : w.heap.size ≤ wr.heap.size + 1 + 1 := by omega
          have hwne2 : ¬ w.heap.size = wr.heap.size + 1 + 1 := by omega
          have hwlt3 : w.heap.size < wr.heap.size + 1 + 1 + 1 := by omega
          have hwle3 : w.heap.size ≤ wr.heap.size + 1 + 1 + 1 := by omega
          have hwne3 : ¬ w.heap.size = wr.heap.size + 1 + 1 + 1 := by omega
          have hwlt4 : w.heap.size < wr.heap.size + 1 + 1 + 1 + 1 := by omega
          have hwle4 : w.heap.size ≤ wr.heap.size + 1 + 1 + 1 + 1 := by omega
          have hwne4 : ¬ w.heap.size = wr.heap.size + 1 + 1 + 1 + 1 := by omega
          have hwlt5 : w.heap.size < wr.heap.size + 1 + 1 + 1 + 1 + 1 := by omega
          have hwle5 : w.heap.size ≤ wr.heap.size + 1 + 1 + 1 + 1 + 1 := by omega
          have hwne5 : ¬ w.heap.size = wr.heap.size + 1 + 1 + 1 + 1 + 1 := by omega
          clear K hrow5 hrow6 hrow7 O5 O7 G1 Hbq HE5 Hv5 HR5 Hblk5 Hb5
          obtain ⟨X6, hX6⟩ : ∃ X6, X6 = ((((((wr.alloc (.cells #[.slice As l.length cs] 26)).alloc (.cells #[.int .i64 m.t, .int .i64 m.n, .int .i64 m.a, .int .i64 m.b, .slice Al m.l.length cl, .slice Ai m.i.length ci] 25)).alloc (.cells #[.int .i64 5, .int .i64 (l.length : Int), .int .i64 0, .int .i64 0, .slice (some ⟨wr.heap.size, 0, none⟩) 1 1, .slice (some ⟨wr.heap.size + 1, 0, none⟩) 1 1] 25)).alloc (.cells #[.slice As l.length cs] 26)).alloc (.cells #[.int .i64 m.t, .int .i64 m.n, .int .i64 m.a, .int .i64 m.b, .slice Al m.l.length cl, .slice Ai m.i.length ci] 25)).alloc (.cells #[.int .i64 6, .int .i64 (R : Int), .int .i64 0, .int .i64 0, .slice (some ⟨wr.heap.size + 1 + 1 + 1, 0, none⟩) 1 1, .slice (some ⟨wr.heap.size + 1 + 1 + 1 + 1, 0, none⟩) 1 1] 25)) := ⟨_, rfl⟩
          have HX6 := Lib.hid hX6
          have Hsz : Hid (X6.heap.size = wr.heap.size + 1 + 1 + 1 + 1 + 1 + 1) := by
            show _ = _
            rw [hX6]
            simp only [size_more]
          have Hbx : Hid (Below wr.heap.size wr X6) := by
            show Below _ _ _
            rw [hX6]
            exact ((((((Below.refl wr.heap.size wr).alloc (Nat.le_refl _) _).alloc (by simp only [size_more]; omega) _).alloc (by simp only [size_more]; omega) _).alloc (by simp only [size_more]; omega) _).alloc (by simp only [size_more]; omega) _).alloc (by simp only [size_more]; omega) _
          have HA : Hid (MatV X6 (wr.heap.size + 1 + 1 + 1 + 1 + 1) (.agg #[.int .i64 5, .int .i64 (l.length : Int), .int .i64 0, .int .i64 0, .slice (some ⟨wr.heap.size, 0, none⟩) 1 1, .slice (some ⟨wr.heap.size + 1, 0, none⟩) 1 1]) (restOf (l.length : Int) l m)) := by
            have h := part_lit HRz.out Hvz.out 5 (l.length : Int)
            show MatV _ _ _ _
            rw [hX6]
            exact (h.bel (((((Below.refl (wr.heap.size + 1 + 1) ((wr.alloc (.cells #[.slice As l.length cs] 26)).alloc (.cells #[.int .i64 m.t, .int .i64 m.n, .int .i64 m.a, .int .i64 m.b, .slice Al m.l.length cl, .slice Ai m.i.length ci] 25))).alloc (by simp only [size_more]; omega) _).alloc (by simp only [size_more]; omega) _).alloc (by simp only [size_more]; omega) _).alloc (by simp only [size_more]; omega) _)).mono (by omega)
          have HB : Hid (∀ n : Int, MatV X6 (wr.heap.size + 1 + 1 + 1 + 1 + 1) (.agg #[.int .i64 6, .int .i64 n, .int .i64 0, .int .i64 0, .slice (some ⟨wr.heap.size + 1 + 1 + 1, 0, none⟩) 1 1, .slice (some ⟨wr.heap.size + 1 + 1 + 1 + 1, 0, none⟩) 1 1]) (contOf n l m)) := fun n => by
            have h := part_lit (((HRz.out.upA (.cells #[.slice As l.length cs] 26)).upA (.cells #[.int .i64 m.t, .int .i64 m.n, .int .i64 m.a, .int .i64 m.b, .slice Al m.l.length cl, .slice Ai m.i.length ci] 25)).upA (.cells #[.int .i64 5, .int .i64 (l.length : Int), .int .i64 0, .int .i64 0, .slice (some ⟨wr.heap.size, 0, none⟩) 1 1, .slice (some ⟨wr.heap.size + 1, 0, none⟩) 1 1] 25)) (((Hvz.out.upA (.cells #[.slice As l.length cs] 26)).upA (.cells #[.int .i64 m.t, .int .i64 m.n, .int .i64 m.a, .int .i64 m.b, .slice Al m.l.length cl, .slice Ai m.i.length ci] 25)).upA (.cells #[.int .i64 5, .int .i64 (l.length : Int), .int .i64 0, .int .i64 0, .slice (some ⟨wr.heap.size, 0, none⟩) 1 1, .slice (some ⟨wr.heap.size + 1, 0, none⟩) 1 1] 25)) 6 n
            simp only [size_more] at h
            rw [hX6]
            exact h.bel ((Below.refl _ (((((wr.alloc (.cells #[.slice As l.length cs] 26)).alloc (.cells #[.int .i64 m.t, .int .i64 m.n, .int .i64 m.a, .int .i64 m.b, .slice Al m.l.length cl, .slice Ai m.i.length ci] 25)).alloc (.cells #[.int .i64 5, .int .i64 (l.length : Int), .int .i64 0, .int .i64 0, .slice (some ⟨wr.heap.size, 0, none⟩) 1 1, .slice (some ⟨wr.heap.size + 1, 0, none⟩) 1 1] 25)).alloc (.cells #[.slice As l.length cs] 26)).alloc (.cells #[.int .i64 m.t, .int .i64 m.n, .int .i64 m.a, .int .i64 m.b, .slice Al m.l.length cl, .slice Ai m.i.length ci] 25))).alloc (by simp only [size_more]; omega) _)
          have HKa : Hid (Blk X6 (wr.heap.size + 1 + 1) 25 #[.int .i64 5, .int .i64 (l.length : Int), .int .i64 0, .int .i64 0, .slice (some ⟨wr.heap.size, 0, none⟩) 1 1, .slice (some ⟨wr.heap.size + 1, 0, none⟩) 1 1]) := by
            have h := (((Blk.new ((wr.alloc (.cells #[.slice As l.length cs] 26)).alloc (.cells #[.int .i64 m.t, .int .i64 m.n, .int .i64 m.a, .int .i64 m.b, .slice Al m.l.length cl, .slice Ai m.i.length ci] 25)) 25 #[.int .i64 5, .int .i64 (l.length : Int), .int .i64 0, .int .i64 0, .slice (some ⟨wr.heap.size, 0, none⟩) 1 1, .slice (some ⟨wr.heap.size + 1, 0, none⟩) 1 1]).alloc (.cells #[.slice As l.length cs] 26)).alloc (.cells #[.int .i64 m.t, .int .i64 m.n, .int .i64 m.a, .int .i64 m.b, .slice Al m.l.length cl, .slice Ai m.i.length ci] 25)).alloc (.cells #[.int .i64 6, .int .i64 (R : Int), .int .i64 0, .int .i64 0, .slice (some ⟨wr.heap.size + 1 + 1 + 1, 0, none⟩) 1 1, .slice (some ⟨wr.heap.size + 1 + 1 + 1 + 1, 0, none⟩) 1 1] 25)
            simp only [size_more] at h
            show Blk _ _ _ _
            rw [hX6]
            exact h
          have HKb : Hid (Blk X6 (wr.heap.size + 1 + 1 + 1 + 1 + 1) 25 #[.int .i64 6, .int .i64 (R : Int), .int .i64 0, .int .i64 0, .slice (some ⟨wr.heap.size + 1 + 1 + 1, 0, none⟩) 1 1, .slice (some ⟨wr.heap.size + 1 + 1 + 1 + 1, 0, none⟩) 1 1]) := by
            have h := Blk.new (((((wr.alloc (.cells #[.slice As l.length cs] 26)).alloc (.cells #[.int .i64 m.t, .int .i64 m.n, .int .i64 m.a, .int .i64 m.b, .slice Al m.l.length cl, .slice Ai m.i.length ci] 25)).alloc (.cells #[.int .i64 5, .int .i64 (l.length : Int), .int .i64 0, .int .i64 0, .slice (some ⟨wr.heap.size, 0, none⟩) 1 1, .slice (some ⟨wr.heap.size + 1, 0, none⟩) 1 1] 25)).alloc (.cells #[.slice As l.length cs] 26)).alloc (.cells #[.int .i64 m.t, .int .i64 m.n, .int .i64 m.a, .int .i64 m.b, .slice Al m.l.length cl, .slice Ai m.i.length ci] 25)) 25 #[.int .i64 6, .int .i64 (R : Int), .int .i64 0, .int .i64 0, .slice (some ⟨wr.heap.size + 1 + 1 + 1, 0, none⟩) 1 1, .slice (some ⟨wr.heap.size + 1 + 1 + 1 + 1, 0, none⟩) 1 1]
            simp only [size_more] at h
            show Blk _ _ _ _
            rw [hX6]
            exact h
          have Hs1 : Hid (Sml (restOf (l.length : Int) l m)) := sml_row (by omega) Hs.out
          have Hs2 : Hid (∀ n : Int, Sml (contOf n l m)) := fun n => sml_row (by omega) Hs.out
          clear hX6
          go_wp2_with fail
          rw [← HX6.out]
          have hwl : wr.heap.size ≤ wr.heap.size + 1 + 1 + 1 + 1 + 1 := by omega
          have HE6 := Lib.hid (HEz.out.up Hbx.out)
          have Hr5 := Lib.hid (Hrow5.out.up Hbx.out)
          have Hr6 := Lib.hid (Hrow6.out.up Hbx.out)
          have Hr7 := Lib.hid (Hrow7.out.up Hbx.out)
          have Hrl6 := Lib.hid (HRz.out.up Hbx.out)
          have Hb6 := Lib.hid (below_next Hbz.out (Nat.le_refl _) Hbx.out)
          have hnb : wr.heap.size + 1 + 1 + 1 + 1 + 1 ≤ X6.heap.size := by rw [Hsz.out]; omega
          have hnb1 : wr.heap.size + 1 + 1 + 1 + 1 + 1 < X6.heap.size := by rw [Hsz.out]; omega
          clear HX6 k0 k1 k2 k3 k4 k5 Hrow6 Hrow7 Hvz
          refine (image_any E (restOf (l.length : Int) l m) _ _ (upTo l.length) _ (HA.out.mono hnb) Hs1.out HE6.out Hr7.out (by rw [upTo_length]; omega)).mono ?_
          rintro e w7 ⟨x, rfl, hx, hb7, hfx⟩
          rw [Him1.out.1]
          rw [Him1.out.2] at hx
          have hn7 : Below (wr.heap.size + 1 + 1 + 1 + 1 + 1) X6 w7 := hb7.mono hnb
          have HE7 := Lib.hid (HE6.out.up hb7)
          have Hr5b := Lib.hid (Hr5.out.up hb7)
          have Hr6b := Lib.hid (Hr6.out.up hb7)
          have Hrl7 := Lib.hid (Hrl6.out.up hb7)
          have HKa7 := Lib.hid (HKa.out.below hb7 HKa.out.lt)
          have HKb7 := Lib.hid (HKb.out.below hb7 HKb.out.lt)
          have HB7 := Lib.hid (fun n => (HB.out n).bel hn7)
          have HA7 := Lib.hid (HA.out.bel hn7)
          have Hb7 := Lib.hid (below_next Hb6.out (Nat.le_refl _) hb7)
          have Hx := Lib.hid hx
          have Hfx := Lib.hid (fun A n c h => Nat.lt_of_lt_of_le hnb1 (hfx A n c h))
          have hs7 : wr.heap.size + 1 + 1 + 1 + 1 + 1 ≤ w7.heap.size := Nat.le_trans hnb hb7.size
          have hs7' : wr.heap.size + 1 + 1 + 1 + 1 + 1 < w7.heap.size := Nat.lt_of_lt_of_le hnb1 hb7.size
          have Hbx7 := Lib.hid (Hbx.out.trans (hb7.mono Hbx.out.size))
          clear hx hb7 hfx HE6 Hr5 Hr6 Hrl6 HKa HKb HB HA Hb6 Hbx hn7
          have K := HKb7.out
          have k0 := K.cell 0
          have k1 := K.cell 1
          have k2 := K.cell 2
          have k3 := K.cell 3
          have k4 := K.cell 4
          have k5 := K.cell 5
          clear K
          go_wp2_with fail
          refine (image_any E (contOf (R : Int) l m) _ _ (upTo R) _ ((HB7.out R).mono hs7) (Hs2.out R) HE7.out Hr6b.out (by rw [upTo_length]; omega)).mono ?_
          rintro e w8 ⟨y, rfl, hy, hb8, hfy⟩
          have Him2' := Him2.out
          rw [HR_.out] at Him2'
          rw [Him2'.1]
          rw [Him2'.2] at hy
          have hn8 : Below (wr.heap.size + 1 + 1 + 1 + 1 + 1) w7 w8 := hb8.mono hs7
          have HE8 := Lib.hid (HE7.out.up hb8)
          have Hr5c := Lib.hid (Hr5b.out.up hb8)
          have Hrl8 := Lib.hid (Hrl7.out.up hb8)
          have HKa8 := Lib.hid (HKa7.out.below hb8 HKa7.out.lt)
          have HKb8 := Lib.hid (HKb7.out.below hb8 HKb7.out.lt)
          have HB8 := Lib.hid (fun n => (HB7.out n).bel hn8)
          have HA8 := Lib.hid (HA7.out.bel hn8)
          have Hb8 := Lib.hid (below_next Hb7.out (Nat.le_refl _) hb8)
          have Hx8 := Lib.hid (Hx.out.up hb8)
          have Hy := Lib.hid hy
          have Hfy := Lib.hid (fun A n c h => Nat.lt_of_lt_of_le hs7' (hfy A n c h))
          have hs8 : wr.heap.size + 1 + 1 + 1 + 1 + 1 ≤ w8.heap.size := Nat.le_trans hs7 hb8.size
          have Hbx8 := Lib.hid (Hbx7.out.trans (hb8.mono Hbx7.out.size))
          clear hy hb8 hfy HE7 Hr5b Hr6b Hrl7 HKa7 HKb7 HB7 HA7 Hb7 Hbx7 hn8 Him2' k0 k1 k2 k3 k4 k5 Hx
          have K := HKb8.out
          have f1 := K.frozen 1
          have k0 := K.cell 0
          have k1 := K.cell 1
          have k2 := K.cell 2
          have k3 := K.cell 3
          have k4 := K.cell 4
          have k5 := K.cell 5
          clear K
          have Hset := Lib.hid (HKb8.out.set_ 1 (.int .i64 ((R : Int) + 1)))
          obtain ⟨w9, hw9⟩ : ∃ w9, w9 = w8.setCell ⟨wr.heap.size + 1 + 1 + 1 + 1 + 1, 1, none⟩ (.int .i64 ((R : Int) + 1)) := ⟨_, rfl⟩
          have Hw9 := Lib.hid hw9
          rw [← hw9] at Hset
          have hb9 : Below (wr.heap.size + 1 + 1 + 1 + 1 + 1) w8 w9 := by rw [hw9]; exact (Below.refl (wr.heap.size + 1 + 1 + 1 + 1 + 1) w8).setCell (p := ⟨wr.heap.size + 1 + 1 + 1 + 1 + 1, 1, none⟩) (Nat.le_refl _) _
          have hs9 : w9.heap.size = w8.heap.size := by rw [hw9]; simp [World.setCell]
          have Hb9 := Lib.hid (Hb8.out.trans (hb9.mono (Nat.le_trans (Nat.le_trans Hbz.out.size hwl) (Nat.le_refl _))))
          have Hbx9 := Lib.hid (Hbx8.out.trans (hb9.mono hwl))
          have HE9 := Lib.hid (HEz.out.up Hbx9.out)
          have HA9 := Lib.hid (HA8.out.bel hb9)
          have HB9 := Lib.hid (fun n => (HB8.out n).bel hb9)
          have HKa9 := Lib.hid (HKa8.out.below hb9 (by omega))
          have Hx9 : Hid (Row w9 w9.heap.size x l) := by
            show Row _ _ _ _
            rw [hs9, hw9]
            exact Hx8.out.far (fun A n c h => Hfx.out A n c h) 1 _
          have Hy9 : Hid (Row w9 w9.heap.size y (restK l k)) := by
            show Row _ _ _ _
            rw [hs9, hw9]
            exact Hy.out.far (fun A n c h => Hfy.out A n c h) 1 _
          have Hrl9 := Lib.hid (HRz.out.up Hbx9.out)
          have Hr59 := Lib.hid (Hrow5.out.up Hbx9.out)
          have Hset9 : Hid (Blk w9 (wr.heap.size + 1 + 1 + 1 + 1 + 1) 25 #[.int .i64 6, .int .i64 ((R : Int) + 1), .int .i64 0, .int .i64 0, .slice (some ⟨wr.heap.size + 1 + 1 + 1, 0, none⟩) 1 1, .slice (some ⟨wr.heap.size + 1 + 1 + 1 + 1, 0, none⟩) 1 1]) := by
            show Blk _ _ _ _
            simpa using Hset.out
          have hRI : (R : Int) ≤ 64 := by omega
          have hRI0 : (0 : Int) ≤ (R : Int) := by omega
          have hs9' : wr.heap.size + 1 + 1 + 1 + 1 + 1 ≤ w9.heap.size := by rw [hs9]; exact hs8
          have hone := Hone.out
          rw [HR_.out] at hone
          have Hone' := Lib.hid hone
          clear hw9 hb9 hs9 Hset HE8 Hr5c Hrl8 HKa8 HKb8 HB8 HA8 Hb8 Hx8 Hy Hfx Hfy Hbx8 hone
          have K := HKa9.out
          have a0 := K.cell 0
          have a1 := K.cell 1
          have a2 := K.cell 2
          have a3 := K.cell 3
          have a4 := K.cell 4
          have a5 := K.cell 5
          rw [Hw9.out] at a0 a1 a2 a3 a4 a5
          clear K
          go_wp2_with fail
          rw [← Hw9.out]
          clear a0 a1 a2 a3 a4 a5 f1 k0 k1 k2 k3 k4 k5
          refine (check_any E (restOf (l.length : Int) l m) _ _ (HA9.out.mono hs9') Hs1.out HE9.out).mono ?_
          rintro e w10 ⟨rfl, hb10⟩
          rw [Hrest.out]
          have hn10 : Below (wr.heap.size + 1 + 1 + 1 + 1 + 1) w9 w10 := hb10.mono hs9'
          have HE10 := Lib.hid (HE9.out.up hb10)
          have HB10 := Lib.hid (fun n => (HB9.out n).bel hn10)
          have Hx10 := Lib.hid (Hx9.out.up hb10)
          have Hy10 := Lib.hid (Hy9.out.up hb10)
          have Hrl10 := Lib.hid (Hrl9.out.up hb10)
          have Hr510 := Lib.hid (Hr59.out.up hb10)
          have Hset10 := Lib.hid (Hset9.out.below hb10 Hset9.out.lt)
          have Hb10 := Lib.hid (below_next Hb9.out (Nat.le_refl _) hb10)
          have hs10 : wr.heap.size + 1 + 1 + 1 + 1 + 1 ≤ w10.heap.size := Nat.le_trans hs9' hb10.size
          clear hb10 hn10 HE9 HB9 Hx9 Hy9 Hrl9 Hr59 Hset9 Hb9 HA9 HKa9 Hbx9
          go_wp2_with fail
          refine (same_is _ _ l l _ Hx10.out Hrl10.out (by omega) (by omega) (same_true rfl)).mono ?_
          rintro e w11 ⟨rfl, hb11⟩
          have hn11 : Below (wr.heap.size + 1 + 1 + 1 + 1 + 1) w10 w11 := hb11.mono hs10
          have HE11 := Lib.hid (HE10.out.up hb11)
          have HB11 := Lib.hid (fun n => (HB10.out n).bel hn11)
          have Hy11 := Lib.hid (Hy10.out.up hb11)
          have Hr511 := Lib.hid (Hr510.out.up hb11)
          have Hset11 := Lib.hid (Hset10.out.below hb11 Hset10.out.lt)
          have Hb11 := Lib.hid (below_next Hb10.out (Nat.le_refl _) hb11)
          have hs11 : wr.heap.size + 1 + 1 + 1 + 1 + 1 ≤ w11.heap.size := Nat.le_trans hs10 hb11.size
          clear hb11 hn11 HE10 HB10 Hx10 Hy10 Hrl10 Hr510 Hset10 Hb10
          go_wp2_with fail
          refine (same_is _ _ (restK l k) (restK l k) _ Hy11.out Hr511.out (by omega) (by omega) (same_true rfl)).mono ?_
          rintro e w12 ⟨rfl, hb12⟩
          have hn12 : Below (wr.heap.size + 1 + 1 + 1 + 1 + 1) w11 w12 := hb12.mono hs11
          have HE12 := Lib.hid (HE11.out.up hb12)
          have HB12 := Lib.hid (fun n => (HB11.out n).bel hn12)
          have Hset12 := Lib.hid (Hset11.out.below hb12 Hset11.out.lt)
          have Hb12 := Lib.hid (below_next Hb11.out (Nat.le_refl _) hb12)
          have hs12 : wr.heap.size + 1 + 1 + 1 + 1 + 1 ≤ w12.heap.size := Nat.le_trans hs11 hb12.size
          clear hb12 hn12 HE11 HB11 Hy11 Hr511 Hset11 Hb11
          have K := Hset12.out
          have k0 := K.cell 0
          have k1 := K.cell 1
          have k2 := K.cell 2
          have k3 := K.cell 3
          have k4 := K.cell 4
          have k5 := K.cell 5
          clear K
          go_wp2_with fail
          refine (check_any E (contOf ((R : Int) + 1) l m) _ _ ((HB12.out _).mono hs12) (Hs2.out _) HE12.out).mono ?_
          rintro e w13 ⟨rfl, hb13⟩
          rw [Hone'.out]
          have Hb13 := Lib.hid (below_next Hb12.out (Nat.le_refl _) hb13)
          clear hb13 k0 k1 k2 k3 k4 k5
          go_wp2
          go_ret
          exact ⟨rfl, Hb13.out⟩

theorem parts_any (E : Nat → Addr) (m : Mat) (v sv : Value) (l : List Int) (w : World) (hv : MatV w w.heap.size v m) (hl : Lim m) (hr : Row w w.heap.size sv l) (hE : Env E w) : Calls Tryd.prog 6 #[v, sv] w (Truly w) := by
  rcases hsm : smlB m with _ | _
  · exact parts_1 E m v sv l w hv hl hr hE hsm
  · by_cases hD : chk m = 0
    · by_cases h3 : dp 4 m ≤ 3
      · rcases hok : okA m.n l with _ | _
        · exact parts_4 E m v sv l w hv hl hr hE hsm hD h3 hok
        · exact parts_main E m v sv l w hv hl hr hE hsm hD h3 hok
      · exact parts_3 E m v sv l w hv hl hr hE hsm hD (by omega)
    · exact parts_2 E m v sv l w hv hl hr hE hsm hD

end Wp
end Go.Proofs.YtgipkpfogfcebaaDoor
