/- MatroidTells, walked: it answers true. -/
import Derived.Test.YtimmmfppehmfcaaDoorQFixed
import Derived.Test.YtimmmfppehmfcaaDoorQSml
import Derived.Test.YtimmmfppehmfcaaDoorQTD
namespace Go.Proofs.YtimmmfppehmfcaaDoor
open Go.RowKit
namespace Wp

set_option maxHeartbeats 16000000 in
set_option maxRecDepth 100000 in
theorem tells9_no (E : Nat → Addr) (m : Mat) (v sv : Value) (s : List Int) (w : World) (hv : MatV w w.heap.size v m) (hl : Lim m) (hr : Row w w.heap.size sv s) (hE : Env E w) (hsm : smlB m = false) : Calls Tryd.prog 3 #[v, sv] w (Truly w) := by
  have Hsm := Lib.hid hsm
  have Hl := Lib.hid hl
  obtain ⟨lv, iv, hve, hl2, hi2⟩ := hv.open
  have Hb0 := Lib.hid (boxed_below w m lv iv)
  have Hv0 := Lib.hid (hv.up Hb0.out)
  have HE0 := Lib.hid (hE.up Hb0.out)
  have HR0 := Lib.hid (hr.up Hb0.out)
  have Hblk0 := Lib.hid (boxed_blk w m lv iv)
  obtain ⟨Al, cl, rfl, _⟩ := hl2
  obtain ⟨Ai, ci, rfl, _⟩ := hi2
  obtain ⟨As, cs, hvs, hcap, _⟩ := id hr
  have hsI : (s.length : Int) ≤ 9223372036854775807 := by
    have h1 := hcap.1
    have h2 := hcap.2.1
    unfold maxLen at h2
    omega
  subst hve hvs
  unfold boxed at *
  clear hcap
  clear hv hE hr hsm hl
  go_enter Tryd.func3, Tryd.ntmps3
  have K := Hblk0.out
  have k0 := K.cell 0
  have k1 := K.cell 1
  have k2 := K.cell 2
  have k3 := K.cell 3
  have k4 := K.cell 4
  have k5 := K.cell 5
  clear K
  go_wp2_with fail
  refine (small_any m _ _ Hv0.out Hl.out).mono ?_
  rintro e w1 ⟨rfl, hb1⟩
  rw [Hsm.out]
  clear k0 k1 k2 k3 k4 k5
  have HE1 := Lib.hid (HE0.out.up hb1)
  have Hv1 := Lib.hid (Hv0.out.up hb1)
  have HR1 := Lib.hid (HR0.out.up hb1)
  have Hblk1 := Lib.hid (Hblk0.out.below hb1 Hblk0.out.lt)
  have Hb1 := Lib.hid (below_next Hb0.out (Nat.le_refl _) hb1)
  clear hb1 HE0 Hv0 HR0 Hblk0 Hb0
  go_wp2_with fail
  refine (fixed_any E _ HE1.out).mono ?_
  rintro e w9 ⟨rfl, hb9⟩
  have Hb9 := Lib.hid (below_next Hb1.out (Nat.le_refl _) hb9)
  clear hb9
  go_wp2
  go_ret
  exact ⟨rfl, Hb9.out⟩

set_option maxHeartbeats 16000000 in
set_option maxRecDepth 100000 in
theorem tells9_long (E : Nat → Addr) (m : Mat) (v sv : Value) (s : List Int) (w : World) (hv : MatV w w.heap.size v m) (hl : Lim m) (hr : Row w w.heap.size sv s) (hE : Env E w) (hsm : smlB m = true) (hlong : 100 < s.length) : Calls Tryd.prog 3 #[v, sv] w (Truly w) := by
  have Hsm := Lib.hid hsm
  have Hl := Lib.hid hl
  obtain ⟨lv, iv, hve, hl2, hi2⟩ := hv.open
  have Hb0 := Lib.hid (boxed_below w m lv iv)
  have Hv0 := Lib.hid (hv.up Hb0.out)
  have HE0 := Lib.hid (hE.up Hb0.out)
  have HR0 := Lib.hid (hr.up Hb0.out)
  have Hblk0 := Lib.hid (boxed_blk w m lv iv)
  obtain ⟨Al, cl, rfl, _⟩ := hl2
  obtain ⟨Ai, ci, rfl, _⟩ := hi2
  obtain ⟨As, cs, hvs, hcap, _⟩ := id hr
  have hsI : (s.length : Int) ≤ 9223372036854775807 := by
    have h1 := hcap.1
    have h2 := hcap.2.1
    unfold maxLen at h2
    omega
  subst hve hvs
  unfold boxed at *
  clear hcap
  have hlI : (100 : Int) < (s.length : Int) := by omega
  clear hv hE hr hsm hl hlong
  go_enter Tryd.func3, Tryd.ntmps3
  have K := Hblk0.out
  have k0 := K.cell 0
  have k1 := K.cell 1
  have k2 := K.cell 2
  have k3 := K.cell 3
  have k4 := K.cell 4
  have k5 := K.cell 5
  clear K
  go_wp2_with fail
  refine (small_any m _ _ Hv0.out Hl.out).mono ?_
  rintro e w1 ⟨rfl, hb1⟩
  rw [Hsm.out]
  clear k0 k1 k2 k3 k4 k5
  have HE1 := Lib.hid (HE0.out.up hb1)
  have Hv1 := Lib.hid (Hv0.out.up hb1)
  have HR1 := Lib.hid (HR0.out.up hb1)
  have Hblk1 := Lib.hid (Hblk0.out.below hb1 Hblk0.out.lt)
  have Hb1 := Lib.hid (below_next Hb0.out (Nat.le_refl _) hb1)
  clear hb1 HE0 Hv0 HR0 Hblk0 Hb0
  go_wp2_with fail
  refine (fixed_any E _ HE1.out).mono ?_
  rintro e w9 ⟨rfl, hb9⟩
  have Hb9 := Lib.hid (below_next Hb1.out (Nat.le_refl _) hb9)
  clear hb9
  go_wp2
  go_ret
  exact ⟨rfl, Hb9.out⟩

set_option maxHeartbeats 16000000 in
set_option maxRecDepth 100000 in
theorem tells9_main (E : Nat → Addr) (m : Mat) (v sv : Value) (s : List Int) (w : World) (hv : MatV w w.heap.size v m) (hl : Lim m) (hr : Row w w.heap.size sv s) (hE : Env E w) (hsm : smlB m = true) (hlong : s.length ≤ 100) : Calls Tryd.prog 3 #[v, sv] w (Truly w) := by
  have Hsm := Lib.hid hsm
  have Hs := Lib.hid (sml_of hsm)
  have Hl := Lib.hid hl
  obtain ⟨lv, iv, hve, hl2, hi2⟩ := hv.open
  have Hb0 := Lib.hid (boxed_below w m lv iv)
  have Hv0 := Lib.hid (hv.up Hb0.out)
  have HE0 := Lib.hid (hE.up Hb0.out)
  have HR0 := Lib.hid (hr.up Hb0.out)
  have Hblk0 := Lib.hid (boxed_blk w m lv iv)
  obtain ⟨Al, cl, rfl, _⟩ := hl2
  obtain ⟨Ai, ci, rfl, _⟩ := hi2
  obtain ⟨As, cs, hvs, hcap, _⟩ := id hr
  have hsI : (s.length : Int) ≤ 9223372036854775807 := by
    have h1 := hcap.1
    have h2 := hcap.2.1
    unfold maxLen at h2
    omega
  subst hve hvs
  unfold boxed at *
  clear hcap
  have hlI : ¬ (100 : Int) < (s.length : Int) := by omega
  have hl1 : s.length ≤ 1048576 := by omega
  clear hv hE hr hsm hl hlong
  go_enter Tryd.func3, Tryd.ntmps3
  have K := Hblk0.out
  have k0 := K.cell 0
  have k1 := K.cell 1
  have k2 := K.cell 2
  have k3 := K.cell 3
  have k4 := K.cell 4
  have k5 := K.cell 5
  clear K
  go_wp2_with fail
  refine (small_any m _ _ Hv0.out Hl.out).mono ?_
  rintro e w1 ⟨rfl, hb1⟩
  rw [Hsm.out]
  clear k0 k1 k2 k3 k4 k5
  have HE1 := Lib.hid (HE0.out.up hb1)
  have Hv1 := Lib.hid (Hv0.out.up hb1)
  have HR1 := Lib.hid (HR0.out.up hb1)
  have Hblk1 := Lib.hid (Hblk0.out.below hb1 Hblk0.out.lt)
  have Hb1 := Lib.hid (below_next Hb0.out (Nat.le_refl _) hb1)
  clear hb1 HE0 Hv0 HR0 Hblk0 Hb0
  have hxl : (imgL m s).length ≤ 1048576 := by
    unfold imgL
    split
    · rw [img_len]; exact hl1
    · simp
  have k0 := Hblk1.out.cell 0
  have k1 := Hblk1.out.cell 1
  have k2 := Hblk1.out.cell 2
  have k3 := Hblk1.out.cell 3
  have k4 := Hblk1.out.cell 4
  have k5 := Hblk1.out.cell 5
  go_wp2_with fail
  refine (image_any E m _ _ s _ Hv1.out Hs.out HE1.out HR1.out hl1).mono ?_
  rintro e w2 ⟨xv, rfl, hx, hb2, _⟩
  have HX2 := Lib.hid hx
  clear hx k0 k1 k2 k3 k4 k5
  have HE2 := Lib.hid (HE1.out.up hb2)
  have Hv2 := Lib.hid (Hv1.out.up hb2)
  have HR2 := Lib.hid (HR1.out.up hb2)
  have Hblk2 := Lib.hid (Hblk1.out.below hb2 Hblk1.out.lt)
  have Hb2 := Lib.hid (below_next Hb1.out (Nat.le_refl _) hb2)
  clear hb2 HE1 Hv1 HR1 Hblk1 Hb1
  have k0 := Hblk2.out.cell 0
  have k1 := Hblk2.out.cell 1
  have k2 := Hblk2.out.cell 2
  have k3 := Hblk2.out.cell 3
  have k4 := Hblk2.out.cell 4
  have k5 := Hblk2.out.cell 5
  go_wp2_with fail
  refine (rimage_any m _ _ s _ Hv2.out Hs.out HR2.out hl1).mono ?_
  rintro e w3 ⟨yv, rfl, hy, hb3, _⟩
  have HY3 := Lib.hid hy
  have HX3 := Lib.hid (HX2.out.up hb3)
  clear hy k0 k1 k2 k3 k4 k5 HX2
  have HE3 := Lib.hid (HE2.out.up hb3)
  have Hv3 := Lib.hid (Hv2.out.up hb3)
  have HR3 := Lib.hid (HR2.out.up hb3)
  have Hblk3 := Lib.hid (Hblk2.out.below hb3 Hblk2.out.lt)
  have Hb3 := Lib.hid (below_next Hb2.out (Nat.le_refl _) hb3)
  clear hb3 HE2 Hv2 HR2 Hblk2 Hb2
  obtain ⟨X, hX⟩ : ∃ X, imgL m s = X := ⟨_, rfl⟩
  rw [hX] at HX3 HY3 hxl
  generalize imgB m s = b at *
  have Hfix : Hid (∀ W, Below w3.heap.size w3 W → Calls Tryd.prog 9 #[] W fun e w' => e = .returned (.bool true) ∧ Below w3.heap.size w3 w') := Lib.hid fun W hW => (fixed_any E W (HE3.out.up hW)).mono fun _ _ ⟨h2, h3⟩ => ⟨h2, below_next hW (Nat.le_refl _) h3⟩
  have Hc1 : Hid (∀ W, Below w3.heap.size w3 W → Calls Tryd.prog 12 #[.agg #[.int .i64 m.t, .int .i64 m.n, .int .i64 m.a, .int .i64 m.b, .slice Al m.l.length cl, .slice Ai m.i.length ci]] W fun e w' => e = .returned (.int .i64 (chk m)) ∧ Below w3.heap.size w3 w') := Lib.hid fun W hW => (check_any E m _ W (Hv3.out.up hW) Hs.out (HE3.out.up hW)).mono fun _ _ ⟨h2, h3⟩ => ⟨h2, below_next hW (Nat.le_refl _) h3⟩
  have Hc2 : Hid (∀ W, Below w3.heap.size w3 W → Calls Tryd.prog 13 #[.agg #[.int .i64 m.t, .int .i64 m.n, .int .i64 m.a, .int .i64 m.b, .slice Al m.l.length cl, .slice Ai m.i.length ci]] W fun e w' => e = .returned (.int .i64 (chk m)) ∧ Below w3.heap.size w3 w') := Lib.hid fun W hW => (rcheck_any m _ W (Hv3.out.up hW) Hs.out).mono fun _ _ ⟨h2, h3⟩ => ⟨h2, below_next hW (Nat.le_refl _) h3⟩
  have Hd1 : Hid (∀ W, Below w3.heap.size w3 W → Calls Tryd.prog 14 #[.agg #[.int .i64 m.t, .int .i64 m.n, .int .i64 m.a, .int .i64 m.b, .slice Al m.l.length cl, .slice Ai m.i.length ci]] W fun e w' => e = .returned (.int .i64 (deepI m)) ∧ Below w3.heap.size w3 w') := Lib.hid fun W hW => (deepf_any m _ W (Hv3.out.up hW) Hs.out).mono fun _ _ ⟨h2, h3⟩ => ⟨h2, below_next hW (Nat.le_refl _) h3⟩
  have Hd2 : Hid (∀ W, Below w3.heap.size w3 W → Calls Tryd.prog 15 #[.agg #[.int .i64 m.t, .int .i64 m.n, .int .i64 m.a, .int .i64 m.b, .slice Al m.l.length cl, .slice Ai m.i.length ci]] W fun e w' => e = .returned (.int .i64 (deepI m)) ∧ Below w3.heap.size w3 w') := Lib.hid fun W hW => (rDeep_any m _ W (Hv3.out.up hW) Hs.out).mono fun _ _ ⟨h2, h3⟩ => ⟨h2, below_next hW (Nat.le_refl _) h3⟩
  have Hsame : Hid (∀ W, Below w3.heap.size w3 W → Calls Tryd.prog 16 #[xv, yv] W fun e w' => e = .returned (.bool true) ∧ Below w3.heap.size w3 w') := Lib.hid fun W hW => (same_is xv yv X X W (HX3.out.up hW) (HY3.out.up hW) hxl hxl (same_true rfl)).mono fun _ _ ⟨h2, h3⟩ => ⟨h2, below_next hW (Nat.le_refl _) h3⟩
  have Hbox : Hid (∀ W, Below w3.heap.size w3 W → ∀ i, W.cell? ⟨w.heap.size, i, none⟩ = #[.int .i64 m.t, .int .i64 m.n, .int .i64 m.a, .int .i64 m.b, .slice Al m.l.length cl, .slice Ai m.i.length ci][i]?) := Lib.hid fun W hW i => (Hblk3.out.below hW Hblk3.out.lt).cell i
  generalize chk m = D at *
  generalize deepI m = P at *
  clear hX
  go_wp2
  refine wp_region_below w3.heap.size w3 (by kernel_rfl) (by kernel_rfl) (Below.refl _ _) ?_
  iterate 26 (first
    | go_big_quiet_skip
    | go_big_quiet_step (with_reducible exact Hfix.out _)
    | go_big_quiet_step (with_reducible exact Hc1.out _)
    | go_big_quiet_step (with_reducible exact Hc2.out _)
    | go_big_quiet_step (with_reducible exact Hd1.out _)
    | go_big_quiet_step (with_reducible exact Hd2.out _)
    | go_big_quiet_step (with_reducible exact Hsame.out _)
    | (go_big_quiet_want; apply Exists.intro; refine ⟨fun W hW => ?_, ?_⟩; (· have q := Hbox.out W hW; have q0 := q 0; have q1 := q 1; have q2 := q 2; have q3 := q 3; have q4 := q 4; have q5 := q 5; clear q; go_simp; first | exact rfl | exact ⟨rfl, rfl⟩); go_simp; go_big_quiet_on))
  refine wpQuiet_nil ?_
  intro w5 hB5
  have Hb5 := Lib.hid (below_next Hb3.out (Nat.le_refl _) hB5)
  clear hB5
  go_wp2
  go_ret
  exact ⟨rfl, Hb5.out⟩

theorem tells9_any (E : Nat → Addr) (m : Mat) (v sv : Value) (s : List Int) (w : World) (hv : MatV w w.heap.size v m) (hl : Lim m) (hr : Row w w.heap.size sv s) (hE : Env E w) : Calls Tryd.prog 3 #[v, sv] w (Truly w) := by
  rcases hsm : smlB m with _ | _
  · exact tells9_no E m v sv s w hv hl hr hE hsm
  · by_cases h : s.length ≤ 100
    · exact tells9_main E m v sv s w hv hl hr hE hsm h
    · exact tells9_long E m v sv s w hv hl hr hE hsm (by omega)

end Wp
end Go.Proofs.YtimmmfppehmfcaaDoor
