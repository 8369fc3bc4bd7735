/- GreedySteps, walked: it answers true. -/
import Derived.Test.YtolnkgghejhaeaaGreatDoorGFact
import Derived.Test.YtolnkgghejhaeaaGreatDoorGFixed
import Derived.Test.YtolnkgghejhaeaaGreatDoorZS
import Derived.Test.YtolnkgghejhaeaaGreatDoorGKeep
import Derived.Test.YtolnkgghejhaeaaGreatDoorZT
import Derived.Deep.RegionHeld3
import Derived.Deep.AppendLies
namespace Go.Proofs.YtolnkgghejhaeaaGreatDoor
open Go.RowKit
namespace Wp

theorem lit_one_at (w : World) (t : TypeId) (u : Value) : ∀ (j : Nat) (v : Value), [u][j]? = some v → (w.alloc (.cells #[u] t)).drew.cell? ((⟨w.heap.size, 0, none⟩ : Addr).add j) = some v := fun j v h => lit_cell w t u j v h
theorem moreL_snoc {ws : List Int} {c : Int} {k : Nat} (h : k < ws.length) : moreL (ws.take (k + 1)) c = moreL (ws.take k) c ++ [ws.getD k 0 + c] := by
  unfold moreL
  rw [List.take_succ_eq_append_getElem h, List.map_append]
  simp [List.getD, h]
theorem all_at {ws : List Int} (h : ∀ j, j < ws.length → -1073741824 ≤ ws.getD j 0 ∧ ws.getD j 0 ≤ 1073741824) : ∀ x ∈ ws, -1073741824 ≤ x ∧ x ≤ 1073741824 := fun x hx => by
  obtain ⟨j, hj, rfl⟩ := List.mem_iff_getElem.1 hx
  have := h j hj
  rwa [show ws.getD j 0 = ws[j] by simp [List.getD, hj]] at this
theorem okA_in {m : Mat} {s : List Int} (h : chk m = 0) (hs : okA m.n s = true) : InN (nN m) s := by
  rw [okA_sub (chk_n h).1 (chk_n h).2] at hs
  exact (inN_sub (chk_n h).1 (chk_n h).2).1 hs

set_option maxHeartbeats 16000000 in
set_option maxRecDepth 100000 in
theorem gs_1 (E : Nat → Addr) (m : Mat) (v sw sv : Value) (ws s : List Int) (q : Int) (w : World) (hv : MatV w w.heap.size v m) (hl : Lim m) (hrw : Row w w.heap.size sw ws) (hrs : Row w w.heap.size sv s) (hE : Env E w) (hf : fewB 9 m 10 = false) : Calls Tryz.prog 3 #[v, sw, .agg #[.int .i64 q, sv]] w (Truly w) := by
  have Hf := Lib.hid hf
  clear hf
  have Hl := Lib.hid hl
  obtain ⟨lv, iv, hve, hl2, hi2⟩ := hv.open
  obtain ⟨Al, cl, rfl, _⟩ := hl2
  obtain ⟨Ai, ci, rfl, _⟩ := hi2
  obtain ⟨Aw, cw, hsw, hcapw, _⟩ := id hrw
  obtain ⟨As, cs, hss, hcaps, _⟩ := id hrs
  have hwI : (ws.length : Int) ≤ 9223372036854775807 := by have h1 := hcapw.1; have h2 := hcapw.2.1; unfold maxLen at h2; omega
  subst hve hsw hss
  have hb0 := boxed_below w m (.slice Al m.l.length cl) (.slice Ai m.i.length ci)
  have hb1 : Below w.heap.size w ((boxed w m (.slice Al m.l.length cl) (.slice Ai m.i.length ci)).alloc (.cells #[.int .i64 q, .slice As s.length cs] 28)) := hb0.alloc (by have := hb0.size; omega) _
  have hblk := (boxed_blk w m (.slice Al m.l.length cl) (.slice Ai m.i.length ci)).below ((Below.refl _ (boxed w m (.slice Al m.l.length cl) (.slice Ai m.i.length ci))).alloc (Nat.le_refl _) (.cells #[.int .i64 q, .slice As s.length cs] 28)) (boxed_blk w m _ _).lt
  have hxb := Blk.new (boxed w m (.slice Al m.l.length cl) (.slice Ai m.i.length ci)) 28 #[.int .i64 q, .slice As s.length cs]
  rw [show (boxed w m (.slice Al m.l.length cl) (.slice Ai m.i.length ci)).heap.size = w.heap.size + 1 by simp [boxed]] at hxb
  obtain ⟨Y, hY⟩ : ∃ Y, (boxed w m (.slice Al m.l.length cl) (.slice Ai m.i.length ci)).alloc (.cells #[.int .i64 q, .slice As s.length cs] 28) = Y := ⟨_, rfl⟩
  rw [hY] at hb1 hblk hxb
  have HY := Lib.hid hY
  unfold boxed at HY
  have HE := Lib.hid (hE.up hb1)
  have HV := Lib.hid (hv.up hb1)
  have HW := Lib.hid (hrw.up hb1)
  have HS := Lib.hid (hrs.up hb1)
  have Hblk := Lib.hid hblk
  have HxB := Lib.hid hxb
  have Hb0 := Lib.hid hb1
  clear hv hl hE hrw hrs hcapw hcaps hY hb0 hb1 hblk hxb
  go_enter Tryz.func3, Tryz.ntmps3
  go_wp2_with fail
  rw [HY.out]
  refine (fixed12_any E _ HE.out).mono ?_
  rintro e w1 ⟨rfl, hb1⟩
  replace HE := Lib.hid (HE.out.up hb1)
  replace HV := Lib.hid (HV.out.up hb1)
  replace HW := Lib.hid (HW.out.up hb1)
  replace HS := Lib.hid (HS.out.up hb1)
  replace Hblk := Lib.hid (Hblk.out.below hb1 Hblk.out.lt)
  replace HxB := Lib.hid (HxB.out.below hb1 HxB.out.lt)
  replace Hb0 := Lib.hid (below_next Hb0.out (Nat.le_refl _) hb1)
  clear hb1
  have k0 := Hblk.out.cell 0
  have k1 := Hblk.out.cell 1
  have k2 := Hblk.out.cell 2
  have k3 := Hblk.out.cell 3
  have k4 := Hblk.out.cell 4
  have k5 := Hblk.out.cell 5
  go_wp2_with fail
  refine (few_any m _ 10 _ HV.out Hl.out).mono ?_
  rintro e w2 ⟨rfl, hb2⟩
  rw [Hf.out]
  clear k0 k1 k2 k3 k4 k5
  replace HE := Lib.hid (HE.out.up hb2)
  replace HV := Lib.hid (HV.out.up hb2)
  replace HW := Lib.hid (HW.out.up hb2)
  replace HS := Lib.hid (HS.out.up hb2)
  replace Hblk := Lib.hid (Hblk.out.below hb2 Hblk.out.lt)
  replace HxB := Lib.hid (HxB.out.below hb2 HxB.out.lt)
  replace Hb0 := Lib.hid (below_next Hb0.out (Nat.le_refl _) hb2)
  clear hb2
  go_wp2_with fail
  refine (fixed12_any E _ HE.out).mono ?_
  rintro e w3 ⟨rfl, hb3⟩
  replace HE := Lib.hid (HE.out.up hb3)
  replace HV := Lib.hid (HV.out.up hb3)
  replace HW := Lib.hid (HW.out.up hb3)
  replace HS := Lib.hid (HS.out.up hb3)
  replace Hblk := Lib.hid (Hblk.out.below hb3 Hblk.out.lt)
  replace HxB := Lib.hid (HxB.out.below hb3 HxB.out.lt)
  replace Hb0 := Lib.hid (below_next Hb0.out (Nat.le_refl _) hb3)
  clear hb3
  go_wp2
  go_ret
  exact ⟨rfl, Hb0.out⟩

set_option maxHeartbeats 16000000 in
set_option maxRecDepth 100000 in
theorem gs_2 (E : Nat → Addr) (m : Mat) (v sw sv : Value) (ws s : List Int) (q : Int) (w : World) (hv : MatV w w.heap.size v m) (hl : Lim m) (hrw : Row w w.heap.size sw ws) (hrs : Row w w.heap.size sv s) (hE : Env E w) (hf : fewB 9 m 10 = true) (hma : mayW m ws = false) : Calls Tryz.prog 3 #[v, sw, .agg #[.int .i64 q, sv]] w (Truly w) := by
  have Hf := Lib.hid hf
  have Hma := Lib.hid hma
  clear hf hma
  have Hl := Lib.hid hl
  obtain ⟨lv, iv, hve, hl2, hi2⟩ := hv.open
  obtain ⟨Al, cl, rfl, _⟩ := hl2
  obtain ⟨Ai, ci, rfl, _⟩ := hi2
  obtain ⟨Aw, cw, hsw, hcapw, _⟩ := id hrw
  obtain ⟨As, cs, hss, hcaps, _⟩ := id hrs
  have hwI : (ws.length : Int) ≤ 9223372036854775807 := by have h1 := hcapw.1; have h2 := hcapw.2.1; unfold maxLen at h2; omega
  subst hve hsw hss
  have hb0 := boxed_below w m (.slice Al m.l.length cl) (.slice Ai m.i.length ci)
  have hb1 : Below w.heap.size w ((boxed w m (.slice Al m.l.length cl) (.slice Ai m.i.length ci)).alloc (.cells #[.int .i64 q, .slice As s.length cs] 28)) := hb0.alloc (by have := hb0.size; omega) _
  have hblk := (boxed_blk w m (.slice Al m.l.length cl) (.slice Ai m.i.length ci)).below ((Below.refl _ (boxed w m (.slice Al m.l.length cl) (.slice Ai m.i.length ci))).alloc (Nat.le_refl _) (.cells #[.int .i64 q, .slice As s.length cs] 28)) (boxed_blk w m _ _).lt
  have hxb := Blk.new (boxed w m (.slice Al m.l.length cl) (.slice Ai m.i.length ci)) 28 #[.int .i64 q, .slice As s.length cs]
  rw [show (boxed w m (.slice Al m.l.length cl) (.slice Ai m.i.length ci)).heap.size = w.heap.size + 1 by simp [boxed]] at hxb
  obtain ⟨Y, hY⟩ : ∃ Y, (boxed w m (.slice Al m.l.length cl) (.slice Ai m.i.length ci)).alloc (.cells #[.int .i64 q, .slice As s.length cs] 28) = Y := ⟨_, rfl⟩
  rw [hY] at hb1 hblk hxb
  have HY := Lib.hid hY
  unfold boxed at HY
  have HE := Lib.hid (hE.up hb1)
  have HV := Lib.hid (hv.up hb1)
  have HW := Lib.hid (hrw.up hb1)
  have HS := Lib.hid (hrs.up hb1)
  have Hblk := Lib.hid hblk
  have HxB := Lib.hid hxb
  have Hb0 := Lib.hid hb1
  clear hv hl hE hrw hrs hcapw hcaps hY hb0 hb1 hblk hxb
  go_enter Tryz.func3, Tryz.ntmps3
  go_wp2_with fail
  rw [HY.out]
  refine (fixed12_any E _ HE.out).mono ?_
  rintro e w1 ⟨rfl, hb1⟩
  replace HE := Lib.hid (HE.out.up hb1)
  replace HV := Lib.hid (HV.out.up hb1)
  replace HW := Lib.hid (HW.out.up hb1)
  replace HS := Lib.hid (HS.out.up hb1)
  replace Hblk := Lib.hid (Hblk.out.below hb1 Hblk.out.lt)
  replace HxB := Lib.hid (HxB.out.below hb1 HxB.out.lt)
  replace Hb0 := Lib.hid (below_next Hb0.out (Nat.le_refl _) hb1)
  clear hb1
  have k0 := Hblk.out.cell 0
  have k1 := Hblk.out.cell 1
  have k2 := Hblk.out.cell 2
  have k3 := Hblk.out.cell 3
  have k4 := Hblk.out.cell 4
  have k5 := Hblk.out.cell 5
  go_wp2_with fail
  refine (few_any m _ 10 _ HV.out Hl.out).mono ?_
  rintro e w2 ⟨rfl, hb2⟩
  rw [Hf.out]
  clear k0 k1 k2 k3 k4 k5
  replace HE := Lib.hid (HE.out.up hb2)
  replace HV := Lib.hid (HV.out.up hb2)
  replace HW := Lib.hid (HW.out.up hb2)
  replace HS := Lib.hid (HS.out.up hb2)
  replace Hblk := Lib.hid (Hblk.out.below hb2 Hblk.out.lt)
  replace HxB := Lib.hid (HxB.out.below hb2 HxB.out.lt)
  replace Hb0 := Lib.hid (below_next Hb0.out (Nat.le_refl _) hb2)
  clear hb2
  have k0 := Hblk.out.cell 0
  have k1 := Hblk.out.cell 1
  have k2 := Hblk.out.cell 2
  have k3 := Hblk.out.cell 3
  have k4 := Hblk.out.cell 4
  have k5 := Hblk.out.cell 5
  go_wp2_with fail
  refine (rmay12_any m _ _ ws _ HV.out (few_sml Hf.out) HW.out).mono ?_
  rintro e w3 ⟨rfl, hb3⟩
  rw [Hma.out]
  clear k0 k1 k2 k3 k4 k5
  replace HE := Lib.hid (HE.out.up hb3)
  replace HV := Lib.hid (HV.out.up hb3)
  replace HW := Lib.hid (HW.out.up hb3)
  replace HS := Lib.hid (HS.out.up hb3)
  replace Hblk := Lib.hid (Hblk.out.below hb3 Hblk.out.lt)
  replace HxB := Lib.hid (HxB.out.below hb3 HxB.out.lt)
  replace Hb0 := Lib.hid (below_next Hb0.out (Nat.le_refl _) hb3)
  clear hb3
  go_wp2_with fail
  refine (fixed12_any E _ HE.out).mono ?_
  rintro e w4 ⟨rfl, hb4⟩
  replace HE := Lib.hid (HE.out.up hb4)
  replace HV := Lib.hid (HV.out.up hb4)
  replace HW := Lib.hid (HW.out.up hb4)
  replace HS := Lib.hid (HS.out.up hb4)
  replace Hblk := Lib.hid (Hblk.out.below hb4 Hblk.out.lt)
  replace HxB := Lib.hid (HxB.out.below hb4 HxB.out.lt)
  replace Hb0 := Lib.hid (below_next Hb0.out (Nat.le_refl _) hb4)
  clear hb4
  go_wp2
  go_ret
  exact ⟨rfl, Hb0.out⟩

set_option maxHeartbeats 16000000 in
set_option maxRecDepth 100000 in
theorem gs_3 (E : Nat → Addr) (m : Mat) (v sw sv : Value) (ws s : List Int) (q : Int) (w : World) (hv : MatV w w.heap.size v m) (hl : Lim m) (hrw : Row w w.heap.size sw ws) (hrs : Row w w.heap.size sv s) (hE : Env E w) (hf : fewB 9 m 10 = true) (hma : mayW m ws = true) (hq : q < 0) : Calls Tryz.prog 3 #[v, sw, .agg #[.int .i64 q, sv]] w (Truly w) := by
  have Hf := Lib.hid hf
  have Hma := Lib.hid hma
  clear hf hma
  have Hl := Lib.hid hl
  obtain ⟨lv, iv, hve, hl2, hi2⟩ := hv.open
  obtain ⟨Al, cl, rfl, _⟩ := hl2
  obtain ⟨Ai, ci, rfl, _⟩ := hi2
  obtain ⟨Aw, cw, hsw, hcapw, _⟩ := id hrw
  obtain ⟨As, cs, hss, hcaps, _⟩ := id hrs
  have hwI : (ws.length : Int) ≤ 9223372036854775807 := by have h1 := hcapw.1; have h2 := hcapw.2.1; unfold maxLen at h2; omega
  subst hve hsw hss
  have hb0 := boxed_below w m (.slice Al m.l.length cl) (.slice Ai m.i.length ci)
  have hb1 : Below w.heap.size w ((boxed w m (.slice Al m.l.length cl) (.slice Ai m.i.length ci)).alloc (.cells #[.int .i64 q, .slice As s.length cs] 28)) := hb0.alloc (by have := hb0.size; omega) _
  have hblk := (boxed_blk w m (.slice Al m.l.length cl) (.slice Ai m.i.length ci)).below ((Below.refl _ (boxed w m (.slice Al m.l.length cl) (.slice Ai m.i.length ci))).alloc (Nat.le_refl _) (.cells #[.int .i64 q, .slice As s.length cs] 28)) (boxed_blk w m _ _).lt
  have hxb := Blk.new (boxed w m (.slice Al m.l.length cl) (.slice Ai m.i.length ci)) 28 #[.int .i64 q, .slice As s.length cs]
  rw [show (boxed w m (.slice Al m.l.length cl) (.slice Ai m.i.length ci)).heap.size = w.heap.size + 1 by simp [boxed]] at hxb
  obtain ⟨Y, hY⟩ : ∃ Y, (boxed w m (.slice Al m.l.length cl) (.slice Ai m.i.length ci)).alloc (.cells #[.int .i64 q, .slice As s.length cs] 28) = Y := ⟨_, rfl⟩
  rw [hY] at hb1 hblk hxb
  have HY := Lib.hid hY
  unfold boxed at HY
  have HE := Lib.hid (hE.up hb1)
  have HV := Lib.hid (hv.up hb1)
  have HW := Lib.hid (hrw.up hb1)
  have HS := Lib.hid (hrs.up hb1)
  have Hblk := Lib.hid hblk
  have HxB := Lib.hid hxb
  have Hb0 := Lib.hid hb1
  clear hv hl hE hrw hrs hcapw hcaps hY hb0 hb1 hblk hxb
  go_enter Tryz.func3, Tryz.ntmps3
  go_wp2_with fail
  rw [HY.out]
  refine (fixed12_any E _ HE.out).mono ?_
  rintro e w1 ⟨rfl, hb1⟩
  replace HE := Lib.hid (HE.out.up hb1)
  replace HV := Lib.hid (HV.out.up hb1)
  replace HW := Lib.hid (HW.out.up hb1)
  replace HS := Lib.hid (HS.out.up hb1)
  replace Hblk := Lib.hid (Hblk.out.below hb1 Hblk.out.lt)
  replace HxB := Lib.hid (HxB.out.below hb1 HxB.out.lt)
  replace Hb0 := Lib.hid (below_next Hb0.out (Nat.le_refl _) hb1)
  clear hb1
  have k0 := Hblk.out.cell 0
  have k1 := Hblk.out.cell 1
  have k2 := Hblk.out.cell 2
  have k3 := Hblk.out.cell 3
  have k4 := Hblk.out.cell 4
  have k5 := Hblk.out.cell 5
  go_wp2_with fail
  refine (few_any m _ 10 _ HV.out Hl.out).mono ?_
  rintro e w2 ⟨rfl, hb2⟩
  rw [Hf.out]
  clear k0 k1 k2 k3 k4 k5
  replace HE := Lib.hid (HE.out.up hb2)
  replace HV := Lib.hid (HV.out.up hb2)
  replace HW := Lib.hid (HW.out.up hb2)
  replace HS := Lib.hid (HS.out.up hb2)
  replace Hblk := Lib.hid (Hblk.out.below hb2 Hblk.out.lt)
  replace HxB := Lib.hid (HxB.out.below hb2 HxB.out.lt)
  replace Hb0 := Lib.hid (below_next Hb0.out (Nat.le_refl _) hb2)
  clear hb2
  have k0 := Hblk.out.cell 0
  have k1 := Hblk.out.cell 1
  have k2 := Hblk.out.cell 2
  have k3 := Hblk.out.cell 3
  have k4 := Hblk.out.cell 4
  have k5 := Hblk.out.cell 5
  go_wp2_with fail
  refine (rmay12_any m _ _ ws _ HV.out (few_sml Hf.out) HW.out).mono ?_
  rintro e w3 ⟨rfl, hb3⟩
  rw [Hma.out]
  clear k0 k1 k2 k3 k4 k5
  replace HE := Lib.hid (HE.out.up hb3)
  replace HV := Lib.hid (HV.out.up hb3)
  replace HW := Lib.hid (HW.out.up hb3)
  replace HS := Lib.hid (HS.out.up hb3)
  replace Hblk := Lib.hid (Hblk.out.below hb3 Hblk.out.lt)
  replace HxB := Lib.hid (HxB.out.below hb3 HxB.out.lt)
  replace Hb0 := Lib.hid (below_next Hb0.out (Nat.le_refl _) hb3)
  clear hb3
  have x0 := HxB.out.cell 0
  have x1 := HxB.out.cell 1
  go_wp2_with fail
  clear x0 x1
  refine (fixed12_any E _ HE.out).mono ?_
  rintro e w4 ⟨rfl, hb4⟩
  replace HE := Lib.hid (HE.out.up hb4)
  replace HV := Lib.hid (HV.out.up hb4)
  replace HW := Lib.hid (HW.out.up hb4)
  replace HS := Lib.hid (HS.out.up hb4)
  replace Hblk := Lib.hid (Hblk.out.below hb4 Hblk.out.lt)
  replace HxB := Lib.hid (HxB.out.below hb4 HxB.out.lt)
  replace Hb0 := Lib.hid (below_next Hb0.out (Nat.le_refl _) hb4)
  clear hb4
  go_wp2
  go_ret
  exact ⟨rfl, Hb0.out⟩

set_option maxHeartbeats 16000000 in
set_option maxRecDepth 100000 in
theorem gs_4 (E : Nat → Addr) (m : Mat) (v sw sv : Value) (ws s : List Int) (q : Int) (w : World) (hv : MatV w w.heap.size v m) (hl : Lim m) (hrw : Row w w.heap.size sw ws) (hrs : Row w w.heap.size sv s) (hE : Env E w) (hf : fewB 9 m 10 = true) (hma : mayW m ws = true) (hq : 20 < q) : Calls Tryz.prog 3 #[v, sw, .agg #[.int .i64 q, sv]] w (Truly w) := by
  have Hf := Lib.hid hf
  have Hma := Lib.hid hma
  have hq0 : 0 ≤ q := by omega
  clear hf hma
  have Hl := Lib.hid hl
  obtain ⟨lv, iv, hve, hl2, hi2⟩ := hv.open
  obtain ⟨Al, cl, rfl, _⟩ := hl2
  obtain ⟨Ai, ci, rfl, _⟩ := hi2
  obtain ⟨Aw, cw, hsw, hcapw, _⟩ := id hrw
  obtain ⟨As, cs, hss, hcaps, _⟩ := id hrs
  have hwI : (ws.length : Int) ≤ 9223372036854775807 := by have h1 := hcapw.1; have h2 := hcapw.2.1; unfold maxLen at h2; omega
  subst hve hsw hss
  have hb0 := boxed_below w m (.slice Al m.l.length cl) (.slice Ai m.i.length ci)
  have hb1 : Below w.heap.size w ((boxed w m (.slice Al m.l.length cl) (.slice Ai m.i.length ci)).alloc (.cells #[.int .i64 q, .slice As s.length cs] 28)) := hb0.alloc (by have := hb0.size; omega) _
  have hblk := (boxed_blk w m (.slice Al m.l.length cl) (.slice Ai m.i.length ci)).below ((Below.refl _ (boxed w m (.slice Al m.l.length cl) (.slice Ai m.i.length ci))).alloc (Nat.le_refl _) (.cells #[.int .i64 q, .slice As s.length cs] 28)) (boxed_blk w m _ _).lt
  have hxb := Blk.new (boxed w m (.slice Al m.l.length cl) (.slice Ai m.i.length ci)) 28 #[.int .i64 q, .slice As s.length cs]
  rw [show (boxed w m (.slice Al m.l.length cl) (.slice Ai m.i.length ci)).heap.size = w.heap.size + 1 by simp [boxed]] at hxb
  obtain ⟨Y, hY⟩ : ∃ Y, (boxed w m (.slice Al m.l.length cl) (.slice Ai m.i.length ci)).alloc (.cells #[.int .i64 q, .slice As s.length cs] 28) = Y := ⟨_, rfl⟩
  rw [hY] at hb1 hblk hxb
  have HY := Lib.hid hY
  unfold boxed at HY
  have HE := Lib.hid (hE.up hb1)
  have HV := Lib.hid (hv.up hb1)
  have HW := Lib.hid (hrw.up hb1)
  have HS := Lib.hid (hrs.up hb1)
  have Hblk := Lib.hid hblk
  have HxB := Lib.hid hxb
  have Hb0 := Lib.hid hb1
  clear hv hl hE hrw hrs hcapw hcaps hY hb0 hb1 hblk hxb
  go_enter Tryz.func3, Tryz.ntmps3
  go_wp2_with fail
  rw [HY.out]
  refine (fixed12_any E _ HE.out).mono ?_
  rintro e w1 ⟨rfl, hb1⟩
  replace HE := Lib.hid (HE.out.up hb1)
  replace HV := Lib.hid (HV.out.up hb1)
  replace HW := Lib.hid (HW.out.up hb1)
  replace HS := Lib.hid (HS.out.up hb1)
  replace Hblk := Lib.hid (Hblk.out.below hb1 Hblk.out.lt)
  replace HxB := Lib.hid (HxB.out.below hb1 HxB.out.lt)
  replace Hb0 := Lib.hid (below_next Hb0.out (Nat.le_refl _) hb1)
  clear hb1
  have k0 := Hblk.out.cell 0
  have k1 := Hblk.out.cell 1
  have k2 := Hblk.out.cell 2
  have k3 := Hblk.out.cell 3
  have k4 := Hblk.out.cell 4
  have k5 := Hblk.out.cell 5
  go_wp2_with fail
  refine (few_any m _ 10 _ HV.out Hl.out).mono ?_
  rintro e w2 ⟨rfl, hb2⟩
  rw [Hf.out]
  clear k0 k1 k2 k3 k4 k5
  replace HE := Lib.hid (HE.out.up hb2)
  replace HV := Lib.hid (HV.out.up hb2)
  replace HW := Lib.hid (HW.out.up hb2)
  replace HS := Lib.hid (HS.out.up hb2)
  replace Hblk := Lib.hid (Hblk.out.below hb2 Hblk.out.lt)
  replace HxB := Lib.hid (HxB.out.below hb2 HxB.out.lt)
  replace Hb0 := Lib.hid (below_next Hb0.out (Nat.le_refl _) hb2)
  clear hb2
  have k0 := Hblk.out.cell 0
  have k1 := Hblk.out.cell 1
  have k2 := Hblk.out.cell 2
  have k3 := Hblk.out.cell 3
  have k4 := Hblk.out.cell 4
  have k5 := Hblk.out.cell 5
  go_wp2_with fail
  refine (rmay12_any m _ _ ws _ HV.out (few_sml Hf.out) HW.out).mono ?_
  rintro e w3 ⟨rfl, hb3⟩
  rw [Hma.out]
  clear k0 k1 k2 k3 k4 k5
  replace HE := Lib.hid (HE.out.up hb3)
  replace HV := Lib.hid (HV.out.up hb3)
  replace HW := Lib.hid (HW.out.up hb3)
  replace HS := Lib.hid (HS.out.up hb3)
  replace Hblk := Lib.hid (Hblk.out.below hb3 Hblk.out.lt)
  replace HxB := Lib.hid (HxB.out.below hb3 HxB.out.lt)
  replace Hb0 := Lib.hid (below_next Hb0.out (Nat.le_refl _) hb3)
  clear hb3
  have x0 := HxB.out.cell 0
  have x1 := HxB.out.cell 1
  go_wp2_with fail
  clear x0 x1
  refine (fixed12_any E _ HE.out).mono ?_
  rintro e w4 ⟨rfl, hb4⟩
  replace HE := Lib.hid (HE.out.up hb4)
  replace HV := Lib.hid (HV.out.up hb4)
  replace HW := Lib.hid (HW.out.up hb4)
  replace HS := Lib.hid (HS.out.up hb4)
  replace Hblk := Lib.hid (Hblk.out.below hb4 Hblk.out.lt)
  replace HxB := Lib.hid (HxB.out.below hb4 HxB.out.lt)
  replace Hb0 := Lib.hid (below_next Hb0.out (Nat.le_refl _) hb4)
  clear hb4
  go_wp2
  go_ret
  exact ⟨rfl, Hb0.out⟩

set_option maxHeartbeats 16000000 in
set_option maxRecDepth 100000 in
theorem gs_5 (E : Nat → Addr) (m : Mat) (v sw sv : Value) (ws s : List Int) (q : Int) (w : World) (hv : MatV w w.heap.size v m) (hl : Lim m) (hrw : Row w w.heap.size sw ws) (hrs : Row w w.heap.size sv s) (hE : Env E w) (hf : fewB 9 m 10 = true) (hma : mayW m ws = true) (hq0 : 0 ≤ q) (hq : q ≤ 20) (hse : okA m.n s = false) : Calls Tryz.prog 3 #[v, sw, .agg #[.int .i64 q, sv]] w (Truly w) := by
  have Hf := Lib.hid hf
  have Hma := Lib.hid hma
  have Hse := Lib.hid hse
  clear hf hma hse
  have Hl := Lib.hid hl
  obtain ⟨lv, iv, hve, hl2, hi2⟩ := hv.open
  obtain ⟨Al, cl, rfl, _⟩ := hl2
  obtain ⟨Ai, ci, rfl, _⟩ := hi2
  obtain ⟨Aw, cw, hsw, hcapw, _⟩ := id hrw
  obtain ⟨As, cs, hss, hcaps, _⟩ := id hrs
  have hwI : (ws.length : Int) ≤ 9223372036854775807 := by have h1 := hcapw.1; have h2 := hcapw.2.1; unfold maxLen at h2; omega
  subst hve hsw hss
  have hb0 := boxed_below w m (.slice Al m.l.length cl) (.slice Ai m.i.length ci)
  have hb1 : Below w.heap.size w ((boxed w m (.slice Al m.l.length cl) (.slice Ai m.i.length ci)).alloc (.cells #[.int .i64 q, .slice As s.length cs] 28)) := hb0.alloc (by have := hb0.size; omega) _
  have hblk := (boxed_blk w m (.slice Al m.l.length cl) (.slice Ai m.i.length ci)).below ((Below.refl _ (boxed w m (.slice Al m.l.length cl) (.slice Ai m.i.length ci))).alloc (Nat.le_refl _) (.cells #[.int .i64 q, .slice As s.length cs] 28)) (boxed_blk w m _ _).lt
  have hxb := Blk.new (boxed w m (.slice Al m.l.length cl) (.slice Ai m.i.length ci)) 28 #[.int .i64 q, .slice As s.length cs]
  rw [show (boxed w m (.slice Al m.l.length cl) (.slice Ai m.i.length ci)).heap.size = w.heap.size + 1 by simp [boxed]] at hxb
  obtain ⟨Y, hY⟩ : ∃ Y, (boxed w m (.slice Al m.l.length cl) (.slice Ai m.i.length ci)).alloc (.cells #[.int .i64 q, .slice As s.length cs] 28) = Y := ⟨_, rfl⟩
  rw [hY] at hb1 hblk hxb
  have HY := Lib.hid hY
  unfold boxed at HY
  have HE := Lib.hid (hE.up hb1)
  have HV := Lib.hid (hv.up hb1)
  have HW := Lib.hid (hrw.up hb1)
  have HS := Lib.hid (hrs.up hb1)
  have Hblk := Lib.hid hblk
  have HxB := Lib.hid hxb
  have Hb0 := Lib.hid hb1
  clear hv hl hE hrw hrs hcapw hcaps hY hb0 hb1 hblk hxb
  go_enter Tryz.func3, Tryz.ntmps3
  go_wp2_with fail
  rw [HY.out]
  refine (fixed12_any E _ HE.out).mono ?_
  rintro e w1 ⟨rfl, hb1⟩
  replace HE := Lib.hid (HE.out.up hb1)
  replace HV := Lib.hid (HV.out.up hb1)
  replace HW := Lib.hid (HW.out.up hb1)
  replace HS := Lib.hid (HS.out.up hb1)
  replace Hblk := Lib.hid (Hblk.out.below hb1 Hblk.out.lt)
  replace HxB := Lib.hid (HxB.out.below hb1 HxB.out.lt)
  replace Hb0 := Lib.hid (below_next Hb0.out (Nat.le_refl _) hb1)
  clear hb1
  have k0 := Hblk.out.cell 0
  have k1 := Hblk.out.cell 1
  have k2 := Hblk.out.cell 2
  have k3 := Hblk.out.cell 3
  have k4 := Hblk.out.cell 4
  have k5 := Hblk.out.cell 5
  go_wp2_with fail
  refine (few_any m _ 10 _ HV.out Hl.out).mono ?_
  rintro e w2 ⟨rfl, hb2⟩
  rw [Hf.out]
  clear k0 k1 k2 k3 k4 k5
  replace HE := Lib.hid (HE.out.up hb2)
  replace HV := Lib.hid (HV.out.up hb2)
  replace HW := Lib.hid (HW.out.up hb2)
  replace HS := Lib.hid (HS.out.up hb2)
  replace Hblk := Lib.hid (Hblk.out.below hb2 Hblk.out.lt)
  replace HxB := Lib.hid (HxB.out.below hb2 HxB.out.lt)
  replace Hb0 := Lib.hid (below_next Hb0.out (Nat.le_refl _) hb2)
  clear hb2
  have k0 := Hblk.out.cell 0
  have k1 := Hblk.out.cell 1
  have k2 := Hblk.out.cell 2
  have k3 := Hblk.out.cell 3
  have k4 := Hblk.out.cell 4
  have k5 := Hblk.out.cell 5
  go_wp2_with fail
  refine (rmay12_any m _ _ ws _ HV.out (few_sml Hf.out) HW.out).mono ?_
  rintro e w3 ⟨rfl, hb3⟩
  rw [Hma.out]
  clear k0 k1 k2 k3 k4 k5
  replace HE := Lib.hid (HE.out.up hb3)
  replace HV := Lib.hid (HV.out.up hb3)
  replace HW := Lib.hid (HW.out.up hb3)
  replace HS := Lib.hid (HS.out.up hb3)
  replace Hblk := Lib.hid (Hblk.out.below hb3 Hblk.out.lt)
  replace HxB := Lib.hid (HxB.out.below hb3 HxB.out.lt)
  replace Hb0 := Lib.hid (below_next Hb0.out (Nat.le_refl _) hb3)
  clear hb3
  have x0 := HxB.out.cell 0
  have x1 := HxB.out.cell 1
  have k1 := Hblk.out.cell 1
  go_wp2_with fail
  refine (set9_any _ s m.n _ HS.out).mono ?_
  rintro e w4 ⟨rfl, hb4⟩
  rw [Hse.out]
  clear x0 x1 k1
  replace HE := Lib.hid (HE.out.up hb4)
  replace HV := Lib.hid (HV.out.up hb4)
  replace HW := Lib.hid (HW.out.up hb4)
  replace HS := Lib.hid (HS.out.up hb4)
  replace Hblk := Lib.hid (Hblk.out.below hb4 Hblk.out.lt)
  replace HxB := Lib.hid (HxB.out.below hb4 HxB.out.lt)
  replace Hb0 := Lib.hid (below_next Hb0.out (Nat.le_refl _) hb4)
  clear hb4
  go_wp2_with fail
  refine (fixed12_any E _ HE.out).mono ?_
  rintro e w5 ⟨rfl, hb5⟩
  replace HE := Lib.hid (HE.out.up hb5)
  replace HV := Lib.hid (HV.out.up hb5)
  replace HW := Lib.hid (HW.out.up hb5)
  replace HS := Lib.hid (HS.out.up hb5)
  replace Hblk := Lib.hid (Hblk.out.below hb5 Hblk.out.lt)
  replace HxB := Lib.hid (HxB.out.below hb5 HxB.out.lt)
  replace Hb0 := Lib.hid (below_next Hb0.out (Nat.le_refl _) hb5)
  clear hb5
  go_wp2
  go_ret
  exact ⟨rfl, Hb0.out⟩

set_option maxHeartbeats 16000000 in
set_option maxRecDepth 100000 in
theorem gs_main (E : Nat → Addr) (m : Mat) (v sw sv : Value) (ws s : List Int) (q : Int) (w : World) (hv : MatV w w.heap.size v m) (hl : Lim m) (hrw : Row w w.heap.size sw ws) (hrs : Row w w.heap.size sv s) (hE : Env E w) (hf : fewB 9 m 10 = true) (hma : mayW m ws = true) (hq0 : 0 ≤ q) (hq : q ≤ 20) (hse : okA m.n s = true) : Calls Tryz.prog 3 #[v, sw, .agg #[.int .i64 q, sv]] w (Truly w) := by
  have Hf := Lib.hid hf
  have Hma := Lib.hid hma
  have Hse := Lib.hid hse
  obtain ⟨hc, hwl, _⟩ := mayW_iff.1 hma
  have Hin := Lib.hid (okA_in hc hse)
  have hn := nN_cast hc
  have hw64 : ws.length ≤ 64 := by omega
  have hw64I : (ws.length : Int) ≤ 64 := by omega
  have hls := inN_len Hin.out
  have hls64 : s.length ≤ 64 := by omega
  have Hs := Lib.hid (few_sml Hf.out)
  have HN64 := Lib.hid hn.2
  have hqm : IntKind.i64.wrap (q * 1000) = q * 1000 := wrap_le (by omega) (by omega)
  have hqm2 : wrap64 (q * 1000) = q * 1000 := by rw [← wrap_w]; exact hqm
  have hq1 : IntKind.i64.wrap (q + 1) = q + 1 := wrap_le (by omega) (by omega)
  have hq12 : wrap64 (q + 1) = q + 1 := by rw [← wrap_w]; exact hq1
  have Hmore := Lib.hid (fun k h => moreL_snoc (ws := ws) (c := q * 1000) (k := k) h)
  obtain ⟨i0, hi, hz0, hz1, hz2⟩ := info_parts info3
  clear hf hma hse hc hwl hn hls
  have Hl := Lib.hid hl
  obtain ⟨lv, iv, hve, hl2, hi2⟩ := hv.open
  obtain ⟨Al, cl, rfl, _⟩ := hl2
  obtain ⟨Ai, ci, rfl, _⟩ := hi2
  obtain ⟨Aw, cw, hsw, hcapw, _⟩ := id hrw
  obtain ⟨As, cs, hss, hcaps, _⟩ := id hrs
  have hwI : (ws.length : Int) ≤ 9223372036854775807 := by have h1 := hcapw.1; have h2 := hcapw.2.1; unfold maxLen at h2; omega
  subst hve hsw hss
  have hb0 := boxed_below w m (.slice Al m.l.length cl) (.slice Ai m.i.length ci)
  have hb1 : Below w.heap.size w ((boxed w m (.slice Al m.l.length cl) (.slice Ai m.i.length ci)).alloc (.cells #[.int .i64 q, .slice As s.length cs] 28)) := hb0.alloc (by have := hb0.size; omega) _
  have hblk := (boxed_blk w m (.slice Al m.l.length cl) (.slice Ai m.i.length ci)).below ((Below.refl _ (boxed w m (.slice Al m.l.length cl) (.slice Ai m.i.length ci))).alloc (Nat.le_refl _) (.cells #[.int .i64 q, .slice As s.length cs] 28)) (boxed_blk w m _ _).lt
  have hxb := Blk.new (boxed w m (.slice Al m.l.length cl) (.slice Ai m.i.length ci)) 28 #[.int .i64 q, .slice As s.length cs]
  rw [show (boxed w m (.slice Al m.l.length cl) (.slice Ai m.i.length ci)).heap.size = w.heap.size + 1 by simp [boxed]] at hxb
  obtain ⟨Y, hY⟩ : ∃ Y, (boxed w m (.slice Al m.l.length cl) (.slice Ai m.i.length ci)).alloc (.cells #[.int .i64 q, .slice As s.length cs] 28) = Y := ⟨_, rfl⟩
  rw [hY] at hb1 hblk hxb
  have HY := Lib.hid hY
  unfold boxed at HY
  have HE := Lib.hid (hE.up hb1)
  have HV := Lib.hid (hv.up hb1)
  have HW := Lib.hid (hrw.up hb1)
  have HS := Lib.hid (hrs.up hb1)
  have Hblk := Lib.hid hblk
  have HxB := Lib.hid hxb
  have Hb0 := Lib.hid hb1
  clear hv hl hE hrw hrs hcapw hcaps hY hb0 hb1 hblk hxb
  go_enter Tryz.func3, Tryz.ntmps3
  go_wp2_with fail
  rw [HY.out]
  refine (fixed12_any E _ HE.out).mono ?_
  rintro e w1 ⟨rfl, hb1⟩
  replace HE := Lib.hid (HE.out.up hb1)
  replace HV := Lib.hid (HV.out.up hb1)
  replace HW := Lib.hid (HW.out.up hb1)
  replace HS := Lib.hid (HS.out.up hb1)
  replace Hblk := Lib.hid (Hblk.out.below hb1 Hblk.out.lt)
  replace HxB := Lib.hid (HxB.out.below hb1 HxB.out.lt)
  replace Hb0 := Lib.hid (below_next Hb0.out (Nat.le_refl _) hb1)
  clear hb1
  have k0 := Hblk.out.cell 0
  have k1 := Hblk.out.cell 1
  have k2 := Hblk.out.cell 2
  have k3 := Hblk.out.cell 3
  have k4 := Hblk.out.cell 4
  have k5 := Hblk.out.cell 5
  go_wp2_with fail
  refine (few_any m _ 10 _ HV.out Hl.out).mono ?_
  rintro e w2 ⟨rfl, hb2⟩
  rw [Hf.out]
  clear k0 k1 k2 k3 k4 k5
  replace HE := Lib.hid (HE.out.up hb2)
  replace HV := Lib.hid (HV.out.up hb2)
  replace HW := Lib.hid (HW.out.up hb2)
  replace HS := Lib.hid (HS.out.up hb2)
  replace Hblk := Lib.hid (Hblk.out.below hb2 Hblk.out.lt)
  replace HxB := Lib.hid (HxB.out.below hb2 HxB.out.lt)
  replace Hb0 := Lib.hid (below_next Hb0.out (Nat.le_refl _) hb2)
  clear hb2
  have k0 := Hblk.out.cell 0
  have k1 := Hblk.out.cell 1
  have k2 := Hblk.out.cell 2
  have k3 := Hblk.out.cell 3
  have k4 := Hblk.out.cell 4
  have k5 := Hblk.out.cell 5
  go_wp2_with fail
  refine (rmay12_any m _ _ ws _ HV.out (few_sml Hf.out) HW.out).mono ?_
  rintro e w3 ⟨rfl, hb3⟩
  rw [Hma.out]
  clear k0 k1 k2 k3 k4 k5
  replace HE := Lib.hid (HE.out.up hb3)
  replace HV := Lib.hid (HV.out.up hb3)
  replace HW := Lib.hid (HW.out.up hb3)
  replace HS := Lib.hid (HS.out.up hb3)
  replace Hblk := Lib.hid (Hblk.out.below hb3 Hblk.out.lt)
  replace HxB := Lib.hid (HxB.out.below hb3 HxB.out.lt)
  replace Hb0 := Lib.hid (below_next Hb0.out (Nat.le_refl _) hb3)
  clear hb3
  have x0 := HxB.out.cell 0
  have x1 := HxB.out.cell 1
  have k1 := Hblk.out.cell 1
  go_wp2_with fail
  refine (set9_any _ s m.n _ HS.out).mono ?_
  rintro e w4 ⟨rfl, hb4⟩
  rw [Hse.out]
  clear x0 x1 k1
  replace HE := Lib.hid (HE.out.up hb4)
  replace HV := Lib.hid (HV.out.up hb4)
  replace HW := Lib.hid (HW.out.up hb4)
  replace HS := Lib.hid (HS.out.up hb4)
  replace Hblk := Lib.hid (Hblk.out.below hb4 Hblk.out.lt)
  replace HxB := Lib.hid (HxB.out.below hb4 HxB.out.lt)
  replace Hb0 := Lib.hid (below_next Hb0.out (Nat.le_refl _) hb4)
  clear hb4
  have hown0 : (w4.alloc (.cells #[] 3)).ownsRow w4.heap.size 3 1 (.slice (some ⟨w4.heap.size, 0, none⟩) 0 0) 0 [] :=
    World.ownsRow_made w4 #[] 0 (Nat.le_refl _) (by unfold maxLen; omega) rfl
  have hB0 : Below w4.heap.size w4 (w4.alloc (.cells #[] 3)) := (Below.refl _ w4).alloc (Nat.le_refl _) _
  go_wp2
  go_loopw [7, 8] (fun vd vk wr => ∃ k : Nat, vk = .int .i64 k ∧ k ≤ ws.length ∧ (∀ j, j < k → -1073741824 ≤ ws.getD j 0 ∧ ws.getD j 0 ≤ 1073741824) ∧ wr.ownsRow w4.heap.size 3 1 vd (moreL (ws.take k) (q * 1000)).length (ints (moreL (ws.take k) (q * 1000))) ∧ Below w4.heap.size w4 wr) (fun _ vk _ => ws.length - (intOf vk).toNat)
  case atStart => exact ⟨0, rfl, Nat.zero_le _, fun j hj => absurd hj (Nat.not_lt_zero _), hown0, hB0⟩
  case round =>
    obtain ⟨k, rfl, hk, hsm, hown, hbr⟩ := hrel
    have Hsm := Lib.hid hsm
    have Hbr := Lib.hid hbr
    clear hsm
    by_cases hlt : k < ws.length
    · have hltI : (k : Int) < (ws.length : Int) := by omega
      obtain ⟨ad, hA, hcl⟩ := Row.nth HW.out hlt
      subst hA
      have g1 := hcl wr hbr
      have Hcl := Lib.hid hcl
      have Hl1 := Lib.hid (Hmore.out k hlt)
      have Hll : Hid ((moreL (ws.take k) (q * 1000)).length = k) := Lib.hid (by rw [moreL_len, List.length_take]; omega)
      have Hsn : Hid (-1073741824 ≤ ws.getD k 0 ∧ ws.getD k 0 ≤ 1073741824 → ∀ j, j < k + 1 → -1073741824 ≤ ws.getD j 0 ∧ ws.getD j 0 ≤ 1073741824) := Lib.hid fun h j hj => if e : j = k then by rw [e]; exact h else Hsm.out j (by omega)
      clear hcl
      generalize ws.getD k 0 = z at *
      generalize moreL (ws.take k) (q * 1000) = L at *
      by_cases hz1' : z < -1073741824
      · clear hown
        go_wp2
        go_ret
        exact ⟨rfl, below_next Hb0.out (Nat.le_refl _) hbr⟩
      · by_cases hz2' : 1073741824 < z
        · have hz3 : -1073741824 ≤ z := by omega
          clear hown hz1'
          go_wp2
          go_ret
          exact ⟨rfl, below_next Hb0.out (Nat.le_refl _) hbr⟩
        · have hz3 : -1073741824 ≤ z := by omega
          have hz4 : z ≤ 1073741824 := by omega
          have Hsn2 := Lib.hid (Hsn.out ⟨hz3, hz4⟩)
          have hadd : IntKind.i64.wrap (z + q * 1000) = z + q * 1000 := wrap_le (by omega) (by omega)
          have hadd2 : wrap64 (z + q * 1000) = z + q * 1000 := by rw [← wrap_w]; exact hadd
          have hwsz := hbr.size
          have x0 := (HxB.out.below hbr HxB.out.lt).cell 0
          have x1 := (HxB.out.below hbr HxB.out.lt).cell 1
          have hL64 : L.length ≤ 64 := by have := Hll.out; omega
          clear hz1' hz2' Hsn
          go_wp2
          go_region_law (refine step_append_lies _ rfl _ _ 26 rfl w4.heap.size 3 i0 (.int .i64 0) 1 8 (by kernel_rfl) hi hz0 hz1 hz2 rfl (by decide) _ L.length (ints L) rfl (hown.alloc _).drew _ 1 1 [.int .i64 (z + q * 1000)] rfl rfl (lit_one_at _ _ _) (by intro u hu; simp at hu; subst hu; rfl) (by decide) (by unfold maxLen; omega) (by omega) (by simp; omega) _ rfl ?_; intro g cap w5 hown' hgrow _ _)
          all_goals
            have hB5 : Below w4.heap.size wr w5 := (((Below.refl _ wr).alloc hwsz (.cells #[.int .i64 (z + q * 1000)] 3)).drew).grown hgrow (by simp; omega) (fun i hi => (hown.lt i hi).1)
            have g3 := Hbr.out.trans hB5
            clear hgrow g1 x0 x1 hown
            go_wp2
            go_roundw
            case rel => exact ⟨k + 1, by go_num, by omega, Hsn2.out, by rw [Hl1.out, List.length_append]; simpa [ints] using hown', g3⟩
            case measure => simp [intOf]; omega
    · have hke : k = ws.length := by omega
      subst hke
      have HD : Hid (Row wr wr.heap.size u7 (moreL ws (q * 1000))) := Lib.hid (by
        have h := Row.of_own hown rfl
        rwa [List.take_length] at h)
      obtain ⟨Ad, cd, hu7, -⟩ := id HD.out
      subst hu7
      obtain ⟨a, b, x, y, z, t, ea, eb, em, hia, hib, hsub, hlab, hwx, hwy, hwz, hwt, hxy, hbx, hby, hbz, hbt⟩ := steps_fact Hma.out (all_at Hsm.out) ⟨hq0, hq⟩ Hin.out
      have hla := inN_len hia
      have hlb := inN_len hib
      have hla64 : a.length ≤ 64 := by have := HN64.out; omega
      have hlb64 : b.length ≤ 64 := by have := HN64.out; omega
      have hla64I : (a.length : Int) ≤ 64 := by omega
      have hlb64I : (b.length : Int) ≤ 64 := by omega
      have hla20 : a.length ≤ 1048576 := by omega
      have hlb20 : b.length ≤ 1048576 := by omega
      have hlabI : (b.length : Int) ≤ (a.length : Int) + 1 := by omega
      have hlabN : ¬ ((a.length : Int) + 1 < (b.length : Int)) := by omega
      have hlabD : decide ((a.length : Int) + 1 < (b.length : Int)) = false := decide_eq_false hlabN
      have hul : (unionL a s).length ≤ 1048576 := by have := union_length a s; omega
      have hmll := inN_len (inN_meet hia Hin.out)
      have hml : (meetL a s).length ≤ 1048576 := by have := HN64.out; omega
      obtain ⟨U, hU⟩ : ∃ U, unionL a s = U := ⟨_, rfl⟩
      obtain ⟨M, hM⟩ : ∃ M, meetL a s = M := ⟨_, rfl⟩
      have HUn : Hid (∀ (u sv : Value) (W : World), Row W W.heap.size u a → Row W W.heap.size sv s → Calls Tryz.prog 13 #[u, sv] W (Gives W U)) := Lib.hid fun u sv W h1 h2 => by rw [← hU]; exact refunion_any _ _ a s W h1 h2 (by omega) (by omega)
      have HMe : Hid (∀ (u sv : Value) (W : World), Row W W.heap.size u a → Row W W.heap.size sv s → Calls Tryz.prog 14 #[u, sv] W (Gives W M)) := Lib.hid fun u sv W h1 h2 => by rw [← hM]; exact refmeet_any _ _ a s W h1 h2 (by omega) (by omega)
      rw [hU] at hwx hul
      rw [hM] at hwy hml
      have HT1 : Hid (∀ (v sv : Value) (W : World), MatV W W.heap.size v m → Row W W.heap.size sv ws → Env E W → Calls Tryz.prog 9 #[v, sv, .int .i64 q] W (Gives W a)) := Lib.hid fun v sv W h1 h2 h3 => by rw [← ea]; exact Take_any E _ _ sv _ _ W h1 Hs.out h2 (by omega) h3
      have HT2 : Hid (∀ (v sv : Value) (W : World), MatV W W.heap.size v m → Row W W.heap.size sv ws → Env E W → Calls Tryz.prog 9 #[v, sv, .int .i64 (q + 1)] W (Gives W b)) := Lib.hid fun v sv W h1 h2 h3 => by rw [← eb]; exact Take_any E _ _ sv _ _ W h1 Hs.out h2 (by omega) h3
      have HT3 : Hid (∀ (v sv : Value) (W : World), MatV W W.heap.size v m → Row W W.heap.size sv (moreL ws (q * 1000)) → Env E W → Calls Tryz.prog 9 #[v, sv, .int .i64 q] W (Gives W a)) := Lib.hid fun v sv W h1 h2 h3 => by rw [← em]; exact Take_any E _ _ sv _ _ W h1 Hs.out h2 (by rw [moreL_len]; omega) h3
      have HWx : Hid (∀ (u sv : Value) (W : World), Row W W.heap.size u ws → Row W W.heap.size sv U → Calls Tryz.prog 12 #[u, sv] W (Tells W x)) := Lib.hid fun u sv W h1 h2 => by rw [← hwx]; exact weight_any _ _ _ _ W h1 h2
      have HWy : Hid (∀ (u sv : Value) (W : World), Row W W.heap.size u ws → Row W W.heap.size sv M → Calls Tryz.prog 12 #[u, sv] W (Tells W y)) := Lib.hid fun u sv W h1 h2 => by rw [← hwy]; exact weight_any _ _ _ _ W h1 h2
      have HWz : Hid (∀ (u sv : Value) (W : World), Row W W.heap.size u ws → Row W W.heap.size sv a → Calls Tryz.prog 12 #[u, sv] W (Tells W z)) := Lib.hid fun u sv W h1 h2 => by rw [← hwz]; exact weight_any _ _ _ _ W h1 h2
      have HWt : Hid (∀ (u sv : Value) (W : World), Row W W.heap.size u ws → Row W W.heap.size sv s → Calls Tryz.prog 12 #[u, sv] W (Tells W t)) := Lib.hid fun u sv W h1 h2 => by rw [← hwt]; exact weight_any _ _ _ _ W h1 h2
      have Hsub := Lib.hid hsub
      have hal0 : IntKind.i64.wrap ((a.length : Int) + 1) = (a.length : Int) + 1 := wrap_le (by omega) (by omega)
      have hal1 : wrap64 ((a.length : Int) + 1) = (a.length : Int) + 1 := by rw [← wrap_w]; exact hal0
      have Hx3 : Hid (IntKind.i64.wrap (x + y) = z + t) := Lib.hid (by rw [hxy]; exact wrap_le (by omega) (by omega))
      have Hx4 : Hid (IntKind.i64.wrap (z + t) = z + t) := Lib.hid (wrap_le (by omega) (by omega))
      clear hU hM hown Hsm Hmore ea eb em hia hib hsub hlab hwx hwy hwz hwt hxy hbx hby hbz hbt hla hlb hmll hi hz0 hz1 hz2
      replace HE := Lib.hid (HE.out.up hbr)
      replace HV := Lib.hid (HV.out.up hbr)
      replace HW := Lib.hid (HW.out.up hbr)
      replace HS := Lib.hid (HS.out.up hbr)
      replace Hblk := Lib.hid (Hblk.out.below hbr Hblk.out.lt)
      replace HxB := Lib.hid (HxB.out.below hbr HxB.out.lt)
      replace Hb0 := Lib.hid (below_next Hb0.out (Nat.le_refl _) hbr)
      clear hbr Hbr
      have hdr : Below wr.heap.size wr wr.drew := (Below.refl _ wr).drew
      replace HV := Lib.hid (HV.out.up hdr)
      replace HE := Lib.hid (HE.out.up hdr)
      replace HW := Lib.hid (HW.out.up hdr)
      replace HS := Lib.hid (HS.out.up hdr)
      replace HD := Lib.hid (HD.out.up hdr)
      replace Hblk := Lib.hid (Hblk.out.below hdr Hblk.out.lt)
      replace HxB := Lib.hid (HxB.out.below hdr HxB.out.lt)
      replace Hb0 := Lib.hid (below_next Hb0.out (Nat.le_refl _) hdr)
      have K1 : Hid (∀ W, Below wr.drew.heap.size wr.drew W → (W.cell? ⟨w.heap.size, 0, none⟩ = some (.int .i64 m.t) ∧ W.cell? ⟨w.heap.size, 1, none⟩ = some (.int .i64 m.n) ∧ W.cell? ⟨w.heap.size, 2, none⟩ = some (.int .i64 m.a) ∧ W.cell? ⟨w.heap.size, 3, none⟩ = some (.int .i64 m.b) ∧ W.cell? ⟨w.heap.size, 4, none⟩ = some (.slice Al m.l.length cl) ∧ W.cell? ⟨w.heap.size, 5, none⟩ = some (.slice Ai m.i.length ci)) ∧ (W.cell? ⟨w.heap.size + 1, 0, none⟩ = some (.int .i64 q) ∧ W.cell? ⟨w.heap.size + 1, 1, none⟩ = some (.slice As s.length cs))) := Lib.hid fun W hW => ⟨⟨(Hblk.out.below hW Hblk.out.lt).cell 0, (Hblk.out.below hW Hblk.out.lt).cell 1, (Hblk.out.below hW Hblk.out.lt).cell 2, (Hblk.out.below hW Hblk.out.lt).cell 3, (Hblk.out.below hW Hblk.out.lt).cell 4, (Hblk.out.below hW Hblk.out.lt).cell 5⟩, ⟨(HxB.out.below hW HxB.out.lt).cell 0, (HxB.out.below hW HxB.out.lt).cell 1⟩⟩
      have HB : Hid (Below wr.drew.heap.size wr.drew wr.drew) := Lib.hid (Below.refl _ _)
      clear hdr
      go_wp2
      go_region_held3 (fun W => (W.cell? ⟨w.heap.size, 0, none⟩ = some (.int .i64 m.t) ∧ W.cell? ⟨w.heap.size, 1, none⟩ = some (.int .i64 m.n) ∧ W.cell? ⟨w.heap.size, 2, none⟩ = some (.int .i64 m.a) ∧ W.cell? ⟨w.heap.size, 3, none⟩ = some (.int .i64 m.b) ∧ W.cell? ⟨w.heap.size, 4, none⟩ = some (.slice Al m.l.length cl) ∧ W.cell? ⟨w.heap.size, 5, none⟩ = some (.slice Ai m.i.length ci)) ∧ (W.cell? ⟨w.heap.size + 1, 0, none⟩ = some (.int .i64 q) ∧ W.cell? ⟨w.heap.size + 1, 1, none⟩ = some (.slice As s.length cs)))
        (exact K1.out _ HB.out)
        (first
        | (go_at_call_of 9 (Value.int .i64 q); refine (HT1.out _ _ _ (HV.out.up HB.out) (HW.out.up HB.out) (HE.out.up HB.out)).mono ?_; rintro e w7 ⟨va, rfl, hra, hb⟩; obtain ⟨Aa, ca, rfl, -⟩ := id hra; replace HB := Lib.hid (below_next HB.out (Nat.le_refl _) hb); have HRA := Lib.hid hra; clear hra hb)
        | (go_at_call 9; (first | rw [hq12] | rw [hq1] | skip); refine (HT2.out _ _ _ (HV.out.up HB.out) (HW.out.up HB.out) (HE.out.up HB.out)).mono ?_; rintro e w8 ⟨vb, rfl, hrb, hb⟩; obtain ⟨Ab, cb, rfl, -⟩ := id hrb; replace HB := Lib.hid (below_next HB.out (Nat.le_refl _) hb); replace HRA := Lib.hid (HRA.out.up hb); have HRB := Lib.hid hrb; clear hrb hb))
      all_goals
        go_simp
        go_wp2_with fail
        refine (refsub_any _ _ a b _ HRA.out HRB.out hla20 hlb20).mono ?_
        rintro e w9 ⟨rfl, hb9⟩
        rw [Hsub.out]
        replace HB := Lib.hid (below_next HB.out (Nat.le_refl _) hb9)
        replace HRA := Lib.hid (HRA.out.up hb9)
        clear hb9 HRB
        obtain ⟨⟨k0, k1, k2, k3, k4, k5⟩, x0, x1⟩ := K1.out _ HB.out
        go_wp2_with fail
        refine (HT3.out _ _ _ (HV.out.up HB.out) (HD.out.up HB.out) (HE.out.up HB.out)).mono ?_
        rintro e w10 ⟨vc, rfl, hrc, hb10⟩
        obtain ⟨Ac, cc, rfl, -⟩ := id hrc
        replace HB := Lib.hid (below_next HB.out (Nat.le_refl _) hb10)
        replace HRA := Lib.hid (HRA.out.up hb10)
        have HRC := Lib.hid hrc
        clear hb10 hrc k0 k1 k2 k3 k4 k5 x0 x1
        go_wp2_with fail
        refine (same_is _ _ a a _ HRC.out HRA.out hla20 hla20 (same_true rfl)).mono ?_
        rintro e w11 ⟨rfl, hb11⟩
        replace HB := Lib.hid (below_next HB.out (Nat.le_refl _) hb11)
        replace HRA := Lib.hid (HRA.out.up hb11)
        clear hb11 HRC
        have hdr : Below w11.heap.size w11 w11.drew := (Below.refl _ w11).drew
        replace HRA := Lib.hid (HRA.out.up hdr)
        have HB2 := Lib.hid (below_next HB.out (Nat.le_refl _) hdr)
        have K2 : Hid (∀ W, Below w11.drew.heap.size w11.drew W → W.cell? ⟨w.heap.size + 1, 0, none⟩ = some (.int .i64 q) ∧ W.cell? ⟨w.heap.size + 1, 1, none⟩ = some (.slice As s.length cs)) := Lib.hid fun W hW => (K1.out _ (below_next HB2.out (Nat.le_refl _) hW)).2
        have HB3 : Hid (Below w11.drew.heap.size w11.drew w11.drew) := Lib.hid (Below.refl _ _)
        have HW3 := Lib.hid (HW.out.up HB2.out)
        have HS3 := Lib.hid (HS.out.up HB2.out)
        clear hdr K1 HB HW HS HD HV HE HxB Hblk
        go_wp2
        go_region_held3 (fun W => W.cell? ⟨w.heap.size + 1, 0, none⟩ = some (.int .i64 q) ∧ W.cell? ⟨w.heap.size + 1, 1, none⟩ = some (.slice As s.length cs))
          (exact K2.out _ HB3.out)
          (first
          | (go_at_call 13; refine (HUn.out _ _ _ (HRA.out.up HB3.out) (HS3.out.up HB3.out)).mono ?_; rintro e w12 ⟨vu, rfl, hru, hb⟩; obtain ⟨Au, cu, rfl, -⟩ := id hru; replace HB3 := Lib.hid (below_next HB3.out (Nat.le_refl _) hb); have HRU := Lib.hid hru; clear hru hb)
          | (go_at_call 14; refine (HMe.out _ _ _ (HRA.out.up HB3.out) (HS3.out.up HB3.out)).mono ?_; rintro e w13 ⟨vm, rfl, hrm, hb⟩; obtain ⟨Am, cm, rfl, -⟩ := id hrm; replace HB3 := Lib.hid (below_next HB3.out (Nat.le_refl _) hb); have HRM := Lib.hid hrm; clear hrm hb)
          | (go_at_call_of 12 (Value.slice Au U.length cu); refine (HWx.out _ _ _ (HW3.out.up HB3.out) HRU.out).mono ?_; rintro e w14 ⟨rfl, hb⟩; replace HB3 := Lib.hid (below_next HB3.out (Nat.le_refl _) hb); clear hb)
          | (go_at_call_of 12 (Value.slice Am M.length cm); refine (HWy.out _ _ _ (HW3.out.up HB3.out) HRM.out).mono ?_; rintro e w15 ⟨rfl, hb⟩; replace HB3 := Lib.hid (below_next HB3.out (Nat.le_refl _) hb); clear hb)
          | (go_at_call_of 12 (Value.slice Aa a.length ca); refine (HWz.out _ _ _ (HW3.out.up HB3.out) (HRA.out.up HB3.out)).mono ?_; rintro e w16 ⟨rfl, hb⟩; replace HB3 := Lib.hid (below_next HB3.out (Nat.le_refl _) hb); clear hb)
          | (go_at_call_of 12 (Value.slice As s.length cs); refine (HWt.out _ _ _ (HW3.out.up HB3.out) (HS3.out.up HB3.out)).mono ?_; rintro e w17 ⟨rfl, hb⟩; replace HB3 := Lib.hid (below_next HB3.out (Nat.le_refl _) hb); clear hb))
        all_goals
          go_simp
          have hx3 := Hx3.out
          have hx4 := Hx4.out
          go_wp2
          go_ret
          exact ⟨by simp [hx3, hx4], below_next Hb0.out (Nat.le_refl _) (below_next HB2.out (Nat.le_refl _) HB3.out)⟩

theorem gsteps_any (E : Nat → Addr) (m : Mat) (v sw : Value) (ws : List Int) (q : Int) (sv : Value) (s : List Int) (w : World) (hv : MatV w w.heap.size v m) (hl : Lim m) (hrw : Row w w.heap.size sw ws) (hrs : Row w w.heap.size sv s) (hE : Env E w) : Calls Tryz.prog 3 #[v, sw, .agg #[.int .i64 q, sv]] w (Truly w) := by
  rcases hf : fewB 9 m 10 with _ | _
  · exact gs_1 E m v sw sv ws s q w hv hl hrw hrs hE hf
  · rcases hma : mayW m ws with _ | _
    · exact gs_2 E m v sw sv ws s q w hv hl hrw hrs hE hf hma
    · by_cases hq0 : q < 0
      · exact gs_3 E m v sw sv ws s q w hv hl hrw hrs hE hf hma hq0
      · by_cases hq : q ≤ 20
        · rcases hse : okA m.n s with _ | _
          · exact gs_5 E m v sw sv ws s q w hv hl hrw hrs hE hf hma (by omega) hq hse
          · exact gs_main E m v sw sv ws s q w hv hl hrw hrs hE hf hma (by omega) hq hse
        · exact gs_4 E m v sw sv ws s q w hv hl hrw hrs hE hf hma (by omega)

end Wp
end Go.Proofs.YtolnkgghejhaeaaGreatDoor
