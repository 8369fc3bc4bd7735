/- SpanCocircuits, walked: it answers true. -/
import Derived.Test.YtbjngggcpojefaaGreatDoorNFixed
import Derived.Deep.RegionHeld3
namespace Go.Proofs.YtbjngggcpojefaaGreatDoor
open Go.RowKit
namespace Wp

theorem circT_len (m : Mat) (s : List Int) (x : Int) : (circT m s x).length ≤ 64 := by
  cases h : circB m s x
  · rw [circT_no h]; simp
  · have h1 := inN_len (circ_fact h).1
    have h2 := h
    unfold circB at h2
    rw [Bool.and_eq_true] at h2
    have h3 := (nN_cast (mayI_iff.1 (ind_may h2.1)).1).2
    omega

set_option maxHeartbeats 16000000 in
set_option maxRecDepth 100000 in
theorem coc_1 (E : Nat → Addr) (m : Mat) (v sa : Value) (a : List Int) (x0 x1 : Int) (w : World) (hv : MatV w w.heap.size v m) (hl : Lim m) (hra : Row w w.heap.size sa a) (hE : Env E w) (hf : fewB 9 m 10 = false) : Calls Tryz.prog 7 #[v, sa, .agg #[.int .i64 x0, .int .i64 x1]] w (Truly w) := by
  have Hf := Lib.hid hf
  clear hf
  have Hl := Lib.hid hl
  obtain ⟨lv, iv, hve, hl2, hi2⟩ := hv.open
  have hbs := boxed_below w m lv iv
  have hsw : (boxed w m lv iv).heap.size = w.heap.size + 1 := by unfold boxed; simp
  have Hb0 := Lib.hid (hbs.alloc hbs.size (.cells #[.int .i64 x0, .int .i64 x1] 38))
  have HV := Lib.hid (hv.up Hb0.out)
  have HE := Lib.hid (hE.up Hb0.out)
  have HA := Lib.hid (hra.up Hb0.out)
  have Hblk := Lib.hid ((boxed_blk w m lv iv).alloc (.cells #[.int .i64 x0, .int .i64 x1] 38))
  have hxb := Blk.new (boxed w m lv iv) 38 #[.int .i64 x0, .int .i64 x1]
  rw [hsw] at hxb
  have Hxb := Lib.hid hxb
  obtain ⟨Al, cl, rfl, _⟩ := hl2
  obtain ⟨Ai, ci, rfl, _⟩ := hi2
  obtain ⟨Aa, ca, hsa, hcapa, _⟩ := id hra
  subst hve hsa
  unfold boxed at *
  clear hv hl hE hra hcapa hbs hsw hxb
  go_enter Tryz.func7, Tryz.ntmps7
  go_wp2_with fail
  refine (fixed11_any E _ HE.out).mono ?_
  rintro e w1 ⟨rfl, hb1⟩
  replace HE := Lib.hid (HE.out.up hb1)
  replace HV := Lib.hid (HV.out.up hb1)
  replace HA := Lib.hid (HA.out.up hb1)
  replace Hblk := Lib.hid (Hblk.out.below hb1 Hblk.out.lt)
  replace Hxb := Lib.hid (Hxb.out.below hb1 Hxb.out.lt)
  replace Hb0 := Lib.hid (below_next Hb0.out (Nat.le_refl _) hb1)
  clear hb1
  have k0 := Hblk.out.cell 0
  have k1 := Hblk.out.cell 1
  have k2 := Hblk.out.cell 2
  have k3 := Hblk.out.cell 3
  have k4 := Hblk.out.cell 4
  have k5 := Hblk.out.cell 5
  go_wp2_with fail
  refine (few_any m _ 10 _ HV.out Hl.out).mono ?_
  rintro e w2 ⟨rfl, hb2⟩
  rw [Hf.out]
  clear k0 k1 k2 k3 k4 k5
  replace HE := Lib.hid (HE.out.up hb2)
  replace HV := Lib.hid (HV.out.up hb2)
  replace HA := Lib.hid (HA.out.up hb2)
  replace Hblk := Lib.hid (Hblk.out.below hb2 Hblk.out.lt)
  replace Hxb := Lib.hid (Hxb.out.below hb2 Hxb.out.lt)
  replace Hb0 := Lib.hid (below_next Hb0.out (Nat.le_refl _) hb2)
  clear hb2
  go_wp2_with fail
  refine (fixed11_any E _ HE.out).mono ?_
  rintro e w9 ⟨rfl, hb9⟩
  replace HE := Lib.hid (HE.out.up hb9)
  replace HV := Lib.hid (HV.out.up hb9)
  replace HA := Lib.hid (HA.out.up hb9)
  replace Hblk := Lib.hid (Hblk.out.below hb9 Hblk.out.lt)
  replace Hxb := Lib.hid (Hxb.out.below hb9 Hxb.out.lt)
  replace Hb0 := Lib.hid (below_next Hb0.out (Nat.le_refl _) hb9)
  clear hb9
  go_wp2
  go_ret
  exact ⟨rfl, Hb0.out⟩

set_option maxHeartbeats 16000000 in
set_option maxRecDepth 100000 in
theorem coc_2 (E : Nat → Addr) (m : Mat) (v sa : Value) (a : List Int) (x0 x1 : Int) (w : World) (hv : MatV w w.heap.size v m) (hl : Lim m) (hra : Row w w.heap.size sa a) (hE : Env E w) (hf : fewB 9 m 10 = true) (hma : mayI m a = false) : Calls Tryz.prog 7 #[v, sa, .agg #[.int .i64 x0, .int .i64 x1]] w (Truly w) := by
  have Hf := Lib.hid hf
  have Hma := Lib.hid hma
  clear hf hma
  have Hl := Lib.hid hl
  obtain ⟨lv, iv, hve, hl2, hi2⟩ := hv.open
  have hbs := boxed_below w m lv iv
  have hsw : (boxed w m lv iv).heap.size = w.heap.size + 1 := by unfold boxed; simp
  have Hb0 := Lib.hid (hbs.alloc hbs.size (.cells #[.int .i64 x0, .int .i64 x1] 38))
  have HV := Lib.hid (hv.up Hb0.out)
  have HE := Lib.hid (hE.up Hb0.out)
  have HA := Lib.hid (hra.up Hb0.out)
  have Hblk := Lib.hid ((boxed_blk w m lv iv).alloc (.cells #[.int .i64 x0, .int .i64 x1] 38))
  have hxb := Blk.new (boxed w m lv iv) 38 #[.int .i64 x0, .int .i64 x1]
  rw [hsw] at hxb
  have Hxb := Lib.hid hxb
  obtain ⟨Al, cl, rfl, _⟩ := hl2
  obtain ⟨Ai, ci, rfl, _⟩ := hi2
  obtain ⟨Aa, ca, hsa, hcapa, _⟩ := id hra
  subst hve hsa
  unfold boxed at *
  clear hv hl hE hra hcapa hbs hsw hxb
  go_enter Tryz.func7, Tryz.ntmps7
  go_wp2_with fail
  refine (fixed11_any E _ HE.out).mono ?_
  rintro e w1 ⟨rfl, hb1⟩
  replace HE := Lib.hid (HE.out.up hb1)
  replace HV := Lib.hid (HV.out.up hb1)
  replace HA := Lib.hid (HA.out.up hb1)
  replace Hblk := Lib.hid (Hblk.out.below hb1 Hblk.out.lt)
  replace Hxb := Lib.hid (Hxb.out.below hb1 Hxb.out.lt)
  replace Hb0 := Lib.hid (below_next Hb0.out (Nat.le_refl _) hb1)
  clear hb1
  have k0 := Hblk.out.cell 0
  have k1 := Hblk.out.cell 1
  have k2 := Hblk.out.cell 2
  have k3 := Hblk.out.cell 3
  have k4 := Hblk.out.cell 4
  have k5 := Hblk.out.cell 5
  go_wp2_with fail
  refine (few_any m _ 10 _ HV.out Hl.out).mono ?_
  rintro e w2 ⟨rfl, hb2⟩
  rw [Hf.out]
  clear k0 k1 k2 k3 k4 k5
  replace HE := Lib.hid (HE.out.up hb2)
  replace HV := Lib.hid (HV.out.up hb2)
  replace HA := Lib.hid (HA.out.up hb2)
  replace Hblk := Lib.hid (Hblk.out.below hb2 Hblk.out.lt)
  replace Hxb := Lib.hid (Hxb.out.below hb2 Hxb.out.lt)
  replace Hb0 := Lib.hid (below_next Hb0.out (Nat.le_refl _) hb2)
  clear hb2
  have k0 := Hblk.out.cell 0
  have k1 := Hblk.out.cell 1
  have k2 := Hblk.out.cell 2
  have k3 := Hblk.out.cell 3
  have k4 := Hblk.out.cell 4
  have k5 := Hblk.out.cell 5
  go_wp2_with fail
  refine (rmay10_any m _ _ a _ HV.out (few_sml Hf.out) HA.out).mono ?_
  rintro e w3 ⟨rfl, hb3⟩
  rw [Hma.out]
  clear k0 k1 k2 k3 k4 k5
  replace HE := Lib.hid (HE.out.up hb3)
  replace HV := Lib.hid (HV.out.up hb3)
  replace HA := Lib.hid (HA.out.up hb3)
  replace Hblk := Lib.hid (Hblk.out.below hb3 Hblk.out.lt)
  replace Hxb := Lib.hid (Hxb.out.below hb3 Hxb.out.lt)
  replace Hb0 := Lib.hid (below_next Hb0.out (Nat.le_refl _) hb3)
  clear hb3
  go_wp2_with fail
  refine (fixed11_any E _ HE.out).mono ?_
  rintro e w9 ⟨rfl, hb9⟩
  replace HE := Lib.hid (HE.out.up hb9)
  replace HV := Lib.hid (HV.out.up hb9)
  replace HA := Lib.hid (HA.out.up hb9)
  replace Hblk := Lib.hid (Hblk.out.below hb9 Hblk.out.lt)
  replace Hxb := Lib.hid (Hxb.out.below hb9 Hxb.out.lt)
  replace Hb0 := Lib.hid (below_next Hb0.out (Nat.le_refl _) hb9)
  clear hb9
  go_wp2
  go_ret
  exact ⟨rfl, Hb0.out⟩

set_option maxHeartbeats 16000000 in
set_option maxRecDepth 100000 in
theorem coc_3 (E : Nat → Addr) (m : Mat) (v sa : Value) (a : List Int) (x0 x1 : Int) (w : World) (hv : MatV w w.heap.size v m) (hl : Lim m) (hra : Row w w.heap.size sa a) (hE : Env E w) (hf : fewB 9 m 10 = true) (hma : mayI m a = true) (h3 : 3 < dp 4 m) : Calls Tryz.prog 7 #[v, sa, .agg #[.int .i64 x0, .int .i64 x1]] w (Truly w) := by
  have Hf := Lib.hid hf
  have Hma := Lib.hid hma
  obtain ⟨P, hP⟩ : ∃ P : Nat, dp 4 m = P := ⟨_, rfl⟩
  have HP : Hid (deepI m = (P : Int)) := Lib.hid (by rw [← hP]; rfl)
  rw [hP] at h3
  have h3I : (3 : Int) < (P : Int) := by omega
  clear hf hma hP h3
  have Hl := Lib.hid hl
  obtain ⟨lv, iv, hve, hl2, hi2⟩ := hv.open
  have hbs := boxed_below w m lv iv
  have hsw : (boxed w m lv iv).heap.size = w.heap.size + 1 := by unfold boxed; simp
  have Hb0 := Lib.hid (hbs.alloc hbs.size (.cells #[.int .i64 x0, .int .i64 x1] 38))
  have HV := Lib.hid (hv.up Hb0.out)
  have HE := Lib.hid (hE.up Hb0.out)
  have HA := Lib.hid (hra.up Hb0.out)
  have Hblk := Lib.hid ((boxed_blk w m lv iv).alloc (.cells #[.int .i64 x0, .int .i64 x1] 38))
  have hxb := Blk.new (boxed w m lv iv) 38 #[.int .i64 x0, .int .i64 x1]
  rw [hsw] at hxb
  have Hxb := Lib.hid hxb
  obtain ⟨Al, cl, rfl, _⟩ := hl2
  obtain ⟨Ai, ci, rfl, _⟩ := hi2
  obtain ⟨Aa, ca, hsa, hcapa, _⟩ := id hra
  subst hve hsa
  unfold boxed at *
  clear hv hl hE hra hcapa hbs hsw hxb
  go_enter Tryz.func7, Tryz.ntmps7
  go_wp2_with fail
  refine (fixed11_any E _ HE.out).mono ?_
  rintro e w1 ⟨rfl, hb1⟩
  replace HE := Lib.hid (HE.out.up hb1)
  replace HV := Lib.hid (HV.out.up hb1)
  replace HA := Lib.hid (HA.out.up hb1)
  replace Hblk := Lib.hid (Hblk.out.below hb1 Hblk.out.lt)
  replace Hxb := Lib.hid (Hxb.out.below hb1 Hxb.out.lt)
  replace Hb0 := Lib.hid (below_next Hb0.out (Nat.le_refl _) hb1)
  clear hb1
  have k0 := Hblk.out.cell 0
  have k1 := Hblk.out.cell 1
  have k2 := Hblk.out.cell 2
  have k3 := Hblk.out.cell 3
  have k4 := Hblk.out.cell 4
  have k5 := Hblk.out.cell 5
  go_wp2_with fail
  refine (few_any m _ 10 _ HV.out Hl.out).mono ?_
  rintro e w2 ⟨rfl, hb2⟩
  rw [Hf.out]
  clear k0 k1 k2 k3 k4 k5
  replace HE := Lib.hid (HE.out.up hb2)
  replace HV := Lib.hid (HV.out.up hb2)
  replace HA := Lib.hid (HA.out.up hb2)
  replace Hblk := Lib.hid (Hblk.out.below hb2 Hblk.out.lt)
  replace Hxb := Lib.hid (Hxb.out.below hb2 Hxb.out.lt)
  replace Hb0 := Lib.hid (below_next Hb0.out (Nat.le_refl _) hb2)
  clear hb2
  have k0 := Hblk.out.cell 0
  have k1 := Hblk.out.cell 1
  have k2 := Hblk.out.cell 2
  have k3 := Hblk.out.cell 3
  have k4 := Hblk.out.cell 4
  have k5 := Hblk.out.cell 5
  go_wp2_with fail
  refine (rmay10_any m _ _ a _ HV.out (few_sml Hf.out) HA.out).mono ?_
  rintro e w3 ⟨rfl, hb3⟩
  rw [Hma.out]
  clear k0 k1 k2 k3 k4 k5
  replace HE := Lib.hid (HE.out.up hb3)
  replace HV := Lib.hid (HV.out.up hb3)
  replace HA := Lib.hid (HA.out.up hb3)
  replace Hblk := Lib.hid (Hblk.out.below hb3 Hblk.out.lt)
  replace Hxb := Lib.hid (Hxb.out.below hb3 Hxb.out.lt)
  replace Hb0 := Lib.hid (below_next Hb0.out (Nat.le_refl _) hb3)
  clear hb3
  have k0 := Hblk.out.cell 0
  have k1 := Hblk.out.cell 1
  have k2 := Hblk.out.cell 2
  have k3 := Hblk.out.cell 3
  have k4 := Hblk.out.cell 4
  have k5 := Hblk.out.cell 5
  go_wp2_with fail
  refine (rDeepl_any m _ _ HV.out Hl.out).mono ?_
  rintro e w4 ⟨rfl, hb4⟩
  rw [HP.out]
  clear k0 k1 k2 k3 k4 k5
  replace HE := Lib.hid (HE.out.up hb4)
  replace HV := Lib.hid (HV.out.up hb4)
  replace HA := Lib.hid (HA.out.up hb4)
  replace Hblk := Lib.hid (Hblk.out.below hb4 Hblk.out.lt)
  replace Hxb := Lib.hid (Hxb.out.below hb4 Hxb.out.lt)
  replace Hb0 := Lib.hid (below_next Hb0.out (Nat.le_refl _) hb4)
  clear hb4
  go_wp2_with fail
  refine (fixed11_any E _ HE.out).mono ?_
  rintro e w9 ⟨rfl, hb9⟩
  replace HE := Lib.hid (HE.out.up hb9)
  replace HV := Lib.hid (HV.out.up hb9)
  replace HA := Lib.hid (HA.out.up hb9)
  replace Hblk := Lib.hid (Hblk.out.below hb9 Hblk.out.lt)
  replace Hxb := Lib.hid (Hxb.out.below hb9 Hxb.out.lt)
  replace Hb0 := Lib.hid (below_next Hb0.out (Nat.le_refl _) hb9)
  clear hb9
  go_wp2
  go_ret
  exact ⟨rfl, Hb0.out⟩
theorem meet_length (a b : List Int) : (meetL a b).length ≤ a.length := by
  unfold meetL partL
  split
  · exact List.length_filter_le _ _
  · simp

set_option maxHeartbeats 16000000 in
set_option maxRecDepth 100000 in
theorem coc_main (E : Nat → Addr) (m : Mat) (v sa : Value) (a : List Int) (x0 x1 : Int) (w : World) (hv : MatV w w.heap.size v m) (hl : Lim m) (hra : Row w w.heap.size sa a) (hE : Env E w) (hf : fewB 9 m 10 = true) (hma : mayI m a = true) (h3 : dp 4 m ≤ 3) : Calls Tryz.prog 7 #[v, sa, .agg #[.int .i64 x0, .int .i64 x1]] w (Truly w) := by
  have Hf := Lib.hid hf
  have Hma := Lib.hid hma
  have hc := (mayI_iff.1 hma).1
  have hn := chk_n hc
  have h64 := (nN_cast hc).2
  have hla := inN_len (mayI_iff.1 hma).2
  have hla1 : a.length ≤ 1048576 := by omega
  have hall := all_len m.n
  have hlr : (minusL (allL m.n) a).length ≤ 1048576 := by have := minus_length (allL m.n) a; omega
  have Hs := Lib.hid (few_sml Hf.out)
  have Hsd : Hid (Sml (dualOf m)) := Lib.hid (sml_one Hs.out)
  obtain ⟨b1, hb1⟩ : ∃ b1, baseT m a = b1 := ⟨_, rfl⟩
  obtain ⟨b2, hb2⟩ : ∃ b2, baseT (dualOf m) (minusL (allL m.n) a) = b2 := ⟨_, rfl⟩
  have hl1 : b1.length ≤ 64 := by rw [← hb1]; exact baseT_len _
  have hl2 : b2.length ≤ 64 := by rw [← hb2]; exact baseT_len _
  have HB1 : Hid (∀ (v sv : Value) (W : World), MatV W W.heap.size v m → Row W W.heap.size sv a → Env E W → Calls Tryz.prog 25 #[v, sv] W (Gives W b1)) := Lib.hid fun v sv W p q r => by rw [← hb1]; exact base_any E m v sv a W p Hs.out q hla1 r
  have HB2 : Hid (∀ (v sv : Value) (W : World), MatV W W.heap.size v (dualOf m) → Row W W.heap.size sv (minusL (allL m.n) a) → Env E W → Calls Tryz.prog 25 #[v, sv] W (Gives W b2)) := Lib.hid fun v sv W p q r => by rw [← hb2]; exact base_any E (dualOf m) v sv _ W p Hsd.out q hlr r
  obtain ⟨cb, hcb⟩ : ∃ cb, circB m b1 x0 = cb := ⟨_, rfl⟩
  obtain ⟨eb, heb⟩ : ∃ eb, circB (dualOf m) b2 x1 = eb := ⟨_, rfl⟩
  obtain ⟨cL, hcL⟩ : ∃ cL, circT m b1 x0 = cL := ⟨_, rfl⟩
  obtain ⟨eL, heL⟩ : ∃ eL, circT (dualOf m) b2 x1 = eL := ⟨_, rfl⟩
  have HC1 : Hid (∀ (v sv : Value) (W : World), MatV W W.heap.size v m → Row W W.heap.size sv b1 → Env E W → Calls Tryz.prog 24 #[v, sv, .int .i64 x0] W (GivesC W cL cb)) := Lib.hid fun v sv W p q r => by rw [← hcL, ← hcb]; exact circ_any E m v sv b1 x0 W p Hs.out q (by omega) r
  have HC2 : Hid (∀ (v sv : Value) (W : World), MatV W W.heap.size v (dualOf m) → Row W W.heap.size sv b2 → Env E W → Calls Tryz.prog 24 #[v, sv, .int .i64 x1] W (GivesC W eL eb)) := Lib.hid fun v sv W p q r => by rw [← heL, ← heb]; exact circ_any E (dualOf m) v sv b2 x1 W p Hsd.out q (by omega) r
  have Hc0 : Hid (cb = false → cL = []) := Lib.hid fun h => by rw [← hcL]; exact circT_no (by rw [hcb, h])
  have He0 : Hid (eb = false → eL = []) := Lib.hid fun h => by rw [← heL]; exact circT_no (by rw [heb, h])
  have hcl64 : cL.length ≤ 64 := by rw [← hcL]; exact circT_len _ _ _
  have hel64 : eL.length ≤ 64 := by rw [← heL]; exact circT_len _ _ _
  have Hce : Hid (cb = true → eb = true → (meetL cL eL).length ≠ 1 ∧ mayB cL = true ∧ mayB eL = true) := Lib.hid fun p q => by
    have h := cocirc_fact (m := m) (s := b1) (t := b2) (x := x0) (z := x1) h3 (by rw [hcb, p]) (by rw [heb, q])
    rw [hcL, heL] at h
    exact ⟨h.1, h.2.1, h.2.2.1⟩
  obtain ⟨P, hP⟩ : ∃ P : Nat, dp 4 m = P := ⟨_, rfl⟩
  have HP : Hid (deepI m = (P : Int)) := Lib.hid (by rw [← hP]; rfl)
  rw [hP] at h3
  have h3I : (P : Int) ≤ 3 := by omega
  clear hf hma hP h3 hc hn h64 hla hb1 hb2 hcb heb hcL heL hlr hl1 hl2
  have Hl := Lib.hid hl
  obtain ⟨lv, iv, hve, hl2, hi2⟩ := hv.open
  have hbs := boxed_below w m lv iv
  have hsw : (boxed w m lv iv).heap.size = w.heap.size + 1 := by unfold boxed; simp
  have Hb0 := Lib.hid (hbs.alloc hbs.size (.cells #[.int .i64 x0, .int .i64 x1] 38))
  have HV := Lib.hid (hv.up Hb0.out)
  have HE := Lib.hid (hE.up Hb0.out)
  have HA := Lib.hid (hra.up Hb0.out)
  have Hblk := Lib.hid ((boxed_blk w m lv iv).alloc (.cells #[.int .i64 x0, .int .i64 x1] 38))
  have hxb := Blk.new (boxed w m lv iv) 38 #[.int .i64 x0, .int .i64 x1]
  rw [hsw] at hxb
  have Hxb := Lib.hid hxb
  obtain ⟨Al, cl, rfl, _⟩ := hl2
  obtain ⟨Ai, ci, rfl, _⟩ := hi2
  obtain ⟨Aa, ca, hsa, hcapa, _⟩ := id hra
  subst hve hsa
  unfold boxed at *
  clear hv hl hE hra hcapa hbs hsw hxb
  go_enter Tryz.func7, Tryz.ntmps7
  go_wp2_with fail
  refine (fixed11_any E _ HE.out).mono ?_
  rintro e w1 ⟨rfl, hb1⟩
  replace HE := Lib.hid (HE.out.up hb1)
  replace HV := Lib.hid (HV.out.up hb1)
  replace HA := Lib.hid (HA.out.up hb1)
  replace Hblk := Lib.hid (Hblk.out.below hb1 Hblk.out.lt)
  replace Hxb := Lib.hid (Hxb.out.below hb1 Hxb.out.lt)
  replace Hb0 := Lib.hid (below_next Hb0.out (Nat.le_refl _) hb1)
  clear hb1
  have k0 := Hblk.out.cell 0
  have k1 := Hblk.out.cell 1
  have k2 := Hblk.out.cell 2
  have k3 := Hblk.out.cell 3
  have k4 := Hblk.out.cell 4
  have k5 := Hblk.out.cell 5
  go_wp2_with fail
  refine (few_any m _ 10 _ HV.out Hl.out).mono ?_
  rintro e w2 ⟨rfl, hb2⟩
  rw [Hf.out]
  clear k0 k1 k2 k3 k4 k5
  replace HE := Lib.hid (HE.out.up hb2)
  replace HV := Lib.hid (HV.out.up hb2)
  replace HA := Lib.hid (HA.out.up hb2)
  replace Hblk := Lib.hid (Hblk.out.below hb2 Hblk.out.lt)
  replace Hxb := Lib.hid (Hxb.out.below hb2 Hxb.out.lt)
  replace Hb0 := Lib.hid (below_next Hb0.out (Nat.le_refl _) hb2)
  clear hb2
  have k0 := Hblk.out.cell 0
  have k1 := Hblk.out.cell 1
  have k2 := Hblk.out.cell 2
  have k3 := Hblk.out.cell 3
  have k4 := Hblk.out.cell 4
  have k5 := Hblk.out.cell 5
  go_wp2_with fail
  refine (rmay10_any m _ _ a _ HV.out (few_sml Hf.out) HA.out).mono ?_
  rintro e w3 ⟨rfl, hb3⟩
  rw [Hma.out]
  clear k0 k1 k2 k3 k4 k5
  replace HE := Lib.hid (HE.out.up hb3)
  replace HV := Lib.hid (HV.out.up hb3)
  replace HA := Lib.hid (HA.out.up hb3)
  replace Hblk := Lib.hid (Hblk.out.below hb3 Hblk.out.lt)
  replace Hxb := Lib.hid (Hxb.out.below hb3 Hxb.out.lt)
  replace Hb0 := Lib.hid (below_next Hb0.out (Nat.le_refl _) hb3)
  clear hb3
  have k0 := Hblk.out.cell 0
  have k1 := Hblk.out.cell 1
  have k2 := Hblk.out.cell 2
  have k3 := Hblk.out.cell 3
  have k4 := Hblk.out.cell 4
  have k5 := Hblk.out.cell 5
  go_wp2_with fail
  refine (rDeepl_any m _ _ HV.out Hl.out).mono ?_
  rintro e w4 ⟨rfl, hb4⟩
  rw [HP.out]
  clear k0 k1 k2 k3 k4 k5
  replace HE := Lib.hid (HE.out.up hb4)
  replace HV := Lib.hid (HV.out.up hb4)
  replace HA := Lib.hid (HA.out.up hb4)
  replace Hblk := Lib.hid (Hblk.out.below hb4 Hblk.out.lt)
  replace Hxb := Lib.hid (Hxb.out.below hb4 Hxb.out.lt)
  replace Hb0 := Lib.hid (below_next Hb0.out (Nat.le_refl _) hb4)
  clear hb4
  have hlt : w.heap.size < w4.heap.size := Hblk.out.lt
  have hlx : w.heap.size + 1 < w4.heap.size := Hxb.out.lt
  have k0 := Hblk.out.cell 0
  have k1 := Hblk.out.cell 1
  have k2 := Hblk.out.cell 2
  have k3 := Hblk.out.cell 3
  have k4 := Hblk.out.cell 4
  have k5 := Hblk.out.cell 5
  have hlt1 : w.heap.size < w4.heap.size + 1 := by omega
  have hle1 : w.heap.size ≤ w4.heap.size + 1 := by omega
  have hne1 : ¬ w.heap.size = w4.heap.size + 1 := by omega
  have hlt2 : w.heap.size < w4.heap.size + 1 + 1 := by omega
  have hle2 : w.heap.size ≤ w4.heap.size + 1 + 1 := by omega
  have hne2 : ¬ w.heap.size = w4.heap.size + 1 + 1 := by omega
  obtain ⟨X, hX⟩ : ∃ X, X = ((w4.alloc (.cells #[.int .i64 m.t, .int .i64 m.n, .int .i64 m.a, .int .i64 m.b, .slice Al m.l.length cl, .slice Ai m.i.length ci] 25)).alloc (.cells #[.int .i64 8, .int .i64 m.n, .int .i64 0, .int .i64 0, .slice none 0 0, .slice (some ⟨w4.heap.size, 0, none⟩) 1 1] 25)) := ⟨_, rfl⟩
  have HX := Lib.hid hX
  have Hbx : Hid (Below w4.heap.size w4 X) := Lib.hid (by
    rw [hX]
    exact ((Below.refl w4.heap.size w4).alloc (Nat.le_refl _) _).alloc (by simp only [size_more]; omega) _)
  have HMd : Hid (MatV X X.heap.size (.agg #[.int .i64 8, .int .i64 m.n, .int .i64 0, .int .i64 0, .slice none 0 0, .slice (some ⟨w4.heap.size, 0, none⟩) 1 1]) (dualOf m)) := Lib.hid (by
    rw [hX]
    have h := dual_lit HV.out
    rw [← size_more w4 (.cells #[.int .i64 m.t, .int .i64 m.n, .int .i64 m.a, .int .i64 m.b, .slice Al m.l.length cl, .slice Ai m.i.length ci] 25)] at h
    exact h.upA _)
  have HKd : Hid (Blk X (w4.heap.size + 1) 25 #[.int .i64 8, .int .i64 m.n, .int .i64 0, .int .i64 0, .slice none 0 0, .slice (some ⟨w4.heap.size, 0, none⟩) 1 1]) := Lib.hid (by
    rw [hX]
    have h := Blk.new (w4.alloc (.cells #[.int .i64 m.t, .int .i64 m.n, .int .i64 m.a, .int .i64 m.b, .slice Al m.l.length cl, .slice Ai m.i.length ci] 25)) 25 #[.int .i64 8, .int .i64 m.n, .int .i64 0, .int .i64 0, .slice none 0 0, .slice (some ⟨w4.heap.size, 0, none⟩) 1 1]
    rw [size_more] at h
    exact h)
  clear hX
  go_wp2
  rw [← HX.out]
  have hbd := (Below.refl X.heap.size X).drew
  have HQV := Lib.hid ((HV.out.up Hbx.out).up hbd)
  have HQE := Lib.hid ((HE.out.up Hbx.out).up hbd)
  have HQA := Lib.hid ((HA.out.up Hbx.out).up hbd)
  have HQD := Lib.hid (HMd.out.up hbd)
  have HKm := Lib.hid (Hblk.out.below Hbx.out Hblk.out.lt)
  have HKx := Lib.hid (Hxb.out.below Hbx.out Hxb.out.lt)
  have K1 : Hid (∀ W, Below X.drew.heap.size X.drew W → W.cell? ⟨w.heap.size, 0, none⟩ = some (.int .i64 m.t) ∧ W.cell? ⟨w.heap.size, 1, none⟩ = some (.int .i64 m.n) ∧ W.cell? ⟨w.heap.size, 2, none⟩ = some (.int .i64 m.a) ∧ W.cell? ⟨w.heap.size, 3, none⟩ = some (.int .i64 m.b) ∧ W.cell? ⟨w.heap.size, 4, none⟩ = some (.slice Al m.l.length cl) ∧ W.cell? ⟨w.heap.size, 5, none⟩ = some (.slice Ai m.i.length ci) ∧ W.cell? ⟨w.heap.size + 1, 0, none⟩ = some (.int .i64 x0) ∧ W.cell? ⟨w.heap.size + 1, 1, none⟩ = some (.int .i64 x1) ∧ W.cell? ⟨w4.heap.size + 1, 0, none⟩ = some (.int .i64 8) ∧ W.cell? ⟨w4.heap.size + 1, 1, none⟩ = some (.int .i64 m.n) ∧ W.cell? ⟨w4.heap.size + 1, 2, none⟩ = some (.int .i64 0) ∧ W.cell? ⟨w4.heap.size + 1, 3, none⟩ = some (.int .i64 0) ∧ W.cell? ⟨w4.heap.size + 1, 4, none⟩ = some (.slice none 0 0) ∧ W.cell? ⟨w4.heap.size + 1, 5, none⟩ = some (.slice (some ⟨w4.heap.size, 0, none⟩) 1 1)) := Lib.hid fun W hW => ⟨(HKm.out.drew.below hW HKm.out.lt).cell 0, (HKm.out.drew.below hW HKm.out.lt).cell 1, (HKm.out.drew.below hW HKm.out.lt).cell 2, (HKm.out.drew.below hW HKm.out.lt).cell 3, (HKm.out.drew.below hW HKm.out.lt).cell 4, (HKm.out.drew.below hW HKm.out.lt).cell 5, (HKx.out.drew.below hW HKx.out.lt).cell 0, (HKx.out.drew.below hW HKx.out.lt).cell 1, (HKd.out.drew.below hW HKd.out.lt).cell 0, (HKd.out.drew.below hW HKd.out.lt).cell 1, (HKd.out.drew.below hW HKd.out.lt).cell 2, (HKd.out.drew.below hW HKd.out.lt).cell 3, (HKd.out.drew.below hW HKd.out.lt).cell 4, (HKd.out.drew.below hW HKd.out.lt).cell 5⟩
  have HB : Hid (Below X.drew.heap.size X.drew X.drew) := Lib.hid (Below.refl _ _)
  replace Hb0 := Lib.hid (below_next Hb0.out (Nat.le_refl _) Hbx.out)
  clear hbd HV HE HA HMd Hblk Hxb HKm HKx HKd Hbx HX k0 k1 k2 k3 k4 k5 hlt hlx hlt1 hle1 hne1 hlt2 hle2 hne2
  go_region_held3 (fun W => W.cell? ⟨w.heap.size, 0, none⟩ = some (.int .i64 m.t) ∧ W.cell? ⟨w.heap.size, 1, none⟩ = some (.int .i64 m.n) ∧ W.cell? ⟨w.heap.size, 2, none⟩ = some (.int .i64 m.a) ∧ W.cell? ⟨w.heap.size, 3, none⟩ = some (.int .i64 m.b) ∧ W.cell? ⟨w.heap.size, 4, none⟩ = some (.slice Al m.l.length cl) ∧ W.cell? ⟨w.heap.size, 5, none⟩ = some (.slice Ai m.i.length ci) ∧ W.cell? ⟨w.heap.size + 1, 0, none⟩ = some (.int .i64 x0) ∧ W.cell? ⟨w.heap.size + 1, 1, none⟩ = some (.int .i64 x1) ∧ W.cell? ⟨w4.heap.size + 1, 0, none⟩ = some (.int .i64 8) ∧ W.cell? ⟨w4.heap.size + 1, 1, none⟩ = some (.int .i64 m.n) ∧ W.cell? ⟨w4.heap.size + 1, 2, none⟩ = some (.int .i64 0) ∧ W.cell? ⟨w4.heap.size + 1, 3, none⟩ = some (.int .i64 0) ∧ W.cell? ⟨w4.heap.size + 1, 4, none⟩ = some (.slice none 0 0) ∧ W.cell? ⟨w4.heap.size + 1, 5, none⟩ = some (.slice (some ⟨w4.heap.size, 0, none⟩) 1 1))
    (exact K1.out _ HB.out)
    (first
    | (go_at_call 25; refine (HB1.out _ _ _ (HQV.out.up HB.out) (HQA.out.up HB.out) (HQE.out.up HB.out)).mono ?_; rintro e w11 ⟨v11, rfl, hr, hb⟩; replace HB := Lib.hid (below_next HB.out (Nat.le_refl _) hb); have HR1 := Lib.hid hr; clear hr hb)
    | (go_at_call 24; refine (HC1.out _ _ _ (HQV.out.up HB.out) HR1.out (HQE.out.up HB.out)).mono ?_; rintro e w12 ⟨v12, rfl, hr, hb⟩; replace HB := Lib.hid (below_next HB.out (Nat.le_refl _) hb); have HRC := Lib.hid hr; clear hr hb))
  all_goals
    replace Hb0 := Lib.hid (below_next Hb0.out.drew (Nat.le_refl _) HB.out)
    have K2 := Lib.hid (fun W hW => K1.out W (below_next HB.out.drew (Nat.le_refl _) hW))
    have hbd := (Below.refl w12.heap.size w12).drew
    replace HQV := Lib.hid ((HQV.out.up HB.out).up hbd)
    replace HQE := Lib.hid ((HQE.out.up HB.out).up hbd)
    replace HQA := Lib.hid ((HQA.out.up HB.out).up hbd)
    replace HQD := Lib.hid ((HQD.out.up HB.out).up hbd)
    obtain ⟨Ac, cc, rfl, _⟩ := id HRC.out
    replace HRC := Lib.hid (HRC.out.up hbd)
    replace HB : Hid (Below w12.drew.heap.size w12.drew w12.drew) := Lib.hid (Below.refl _ _)
    clear hbd K1 HR1 HB1 HC1
    go_simp
    go_wp2
    go_region_held3 (fun W => W.cell? ⟨w.heap.size, 0, none⟩ = some (.int .i64 m.t) ∧ W.cell? ⟨w.heap.size, 1, none⟩ = some (.int .i64 m.n) ∧ W.cell? ⟨w.heap.size, 2, none⟩ = some (.int .i64 m.a) ∧ W.cell? ⟨w.heap.size, 3, none⟩ = some (.int .i64 m.b) ∧ W.cell? ⟨w.heap.size, 4, none⟩ = some (.slice Al m.l.length cl) ∧ W.cell? ⟨w.heap.size, 5, none⟩ = some (.slice Ai m.i.length ci) ∧ W.cell? ⟨w.heap.size + 1, 0, none⟩ = some (.int .i64 x0) ∧ W.cell? ⟨w.heap.size + 1, 1, none⟩ = some (.int .i64 x1) ∧ W.cell? ⟨w4.heap.size + 1, 0, none⟩ = some (.int .i64 8) ∧ W.cell? ⟨w4.heap.size + 1, 1, none⟩ = some (.int .i64 m.n) ∧ W.cell? ⟨w4.heap.size + 1, 2, none⟩ = some (.int .i64 0) ∧ W.cell? ⟨w4.heap.size + 1, 3, none⟩ = some (.int .i64 0) ∧ W.cell? ⟨w4.heap.size + 1, 4, none⟩ = some (.slice none 0 0) ∧ W.cell? ⟨w4.heap.size + 1, 5, none⟩ = some (.slice (some ⟨w4.heap.size, 0, none⟩) 1 1))
      (exact K2.out _ HB.out)
      (first
      | (go_at_call 16; refine (refall_any m.n _).mono ?_; rintro e w13 ⟨v13, rfl, hr, hb⟩; replace HB := Lib.hid (below_next HB.out (Nat.le_refl _) hb); have HR3 := Lib.hid hr; clear hr hb)
      | (go_at_call 13; refine (refminus_any _ _ (allL m.n) a _ HR3.out (HQA.out.up HB.out) (by omega) hla1).mono ?_; rintro e w14 ⟨v14, rfl, hr, hb⟩; replace HB := Lib.hid (below_next HB.out (Nat.le_refl _) hb); have HR4 := Lib.hid hr; clear hr hb)
      | (go_at_call 25; refine (HB2.out _ _ _ (HQD.out.up HB.out) HR4.out (HQE.out.up HB.out)).mono ?_; rintro e w15 ⟨v15, rfl, hr, hb⟩; replace HB := Lib.hid (below_next HB.out (Nat.le_refl _) hb); have HR5 := Lib.hid hr; clear hr hb)
      | (go_at_call 24; refine (HC2.out _ _ _ (HQD.out.up HB.out) HR5.out (HQE.out.up HB.out)).mono ?_; rintro e w16 ⟨v16, rfl, hr, hb⟩; replace HB := Lib.hid (below_next HB.out (Nat.le_refl _) hb); have HRE := Lib.hid hr; clear hr hb))
    all_goals
      obtain ⟨Ae, ce, rfl, _⟩ := id HRE.out
      replace HRC := Lib.hid (HRC.out.up HB.out)
      have Hb9 := Lib.hid (below_next Hb0.out.drew (Nat.le_refl _) HB.out)
      have hclI : (cL.length : Int) ≤ 64 := by omega
      have helI : (eL.length : Int) ≤ 64 := by omega
      clear K2 HR3 HR4 HR5 HB2 HC2 HQV HQE HQA HQD Hb0 HB
      go_simp
      cases cb
      · obtain rfl := Hc0.out rfl
        go_wp2
        go_ret
        exact ⟨by first | rfl | simp, Hb9.out⟩
      · cases eb
        · obtain rfl := He0.out rfl
          by_cases hz : cL.length = 0
          · have hzI : (cL.length : Int) = 0 := by omega
            go_wp2
            go_ret
            exact ⟨by first | rfl | simp [hz] | (simp; omega), Hb9.out⟩
          · have hzI : ¬ (cL.length : Int) = 0 := by omega
            have hzB : ((cL.length : Int) == 0) = false := beq_eq_false_iff_ne.2 hzI
            go_wp2
            go_ret
            exact ⟨by first | rfl | simp | (simp; omega), Hb9.out⟩
        · obtain ⟨p1, p2, p3⟩ := Hce.out rfl rfl
          have P2 := Lib.hid p2
          have P3 := Lib.hid p3
          have hzB : ((meetL cL eL).length == 1) = false := by simpa using p1
          obtain ⟨mL, hmL⟩ : ∃ mL, meetL cL eL = mL := ⟨_, rfl⟩
          rw [hmL] at p1 hzB
          have HmL := Lib.hid hmL
          have hml : mL.length ≤ 64 := by
            rw [← hmL]
            have := meet_length cL eL
            omega
          have hzI : (((mL.length : Nat) : Int) != 1) = true := by simp; omega
          have hzJ : ¬ ((mL.length : Nat) : Int) = 1 := by omega
          clear p2 p3 hmL p1 hzB
          go_wp2_with fail
          refine (refmeet_any _ _ cL eL _ HRC.out HRE.out (by omega) (by omega)).mono ?_
          rintro e w17 ⟨v17, rfl, hr, hb⟩
          rw [HmL.out] at hr
          obtain ⟨Am, cm, rfl, _⟩ := id hr
          replace HRC := Lib.hid (HRC.out.up hb)
          replace HRE := Lib.hid (HRE.out.up hb)
          replace Hb9 := Lib.hid (below_next Hb9.out (Nat.le_refl _) hb)
          clear hr hb
          go_wp2_with fail
          refine (refmay_is _ cL _ HRC.out (by omega) P2.out).mono ?_
          rintro e w18 ⟨rfl, hb⟩
          replace HRE := Lib.hid (HRE.out.up hb)
          replace Hb9 := Lib.hid (below_next Hb9.out (Nat.le_refl _) hb)
          clear hb
          go_wp2_with fail
          refine (refmay_is _ eL _ HRE.out (by omega) P3.out).mono ?_
          rintro e w19 ⟨rfl, hb⟩
          replace Hb9 := Lib.hid (below_next Hb9.out (Nat.le_refl _) hb)
          clear hb
          go_wp2
          go_ret
          exact ⟨rfl, Hb9.out⟩

theorem coc_any (E : Nat → Addr) (m : Mat) (v sa : Value) (a : List Int) (x0 x1 : Int) (w : World) (hv : MatV w w.heap.size v m) (hl : Lim m) (hra : Row w w.heap.size sa a) (hE : Env E w) : Calls Tryz.prog 7 #[v, sa, .agg #[.int .i64 x0, .int .i64 x1]] w (Truly w) := by
  rcases hf : fewB 9 m 10 with _ | _
  · exact coc_1 E m v sa a x0 x1 w hv hl hra hE hf
  · rcases hma : mayI m a with _ | _
    · exact coc_2 E m v sa a x0 x1 w hv hl hra hE hf hma
    · by_cases h3 : dp 4 m ≤ 3
      · exact coc_main E m v sa a x0 x1 w hv hl hra hE hf hma h3
      · exact coc_3 E m v sa a x0 x1 w hv hl hra hE hf hma (by omega)

end Wp
end Go.Proofs.YtbjngggcpojefaaGreatDoor
