/- MatroidTags, walked: it answers true. -/
import Derived.Test.YtgipkpfogfcebaaDoorQFixed
import Derived.Test.YtgipkpfogfcebaaDoorQSml
import Derived.Test.YtgipkpfogfcebaaDoorQApp
import Derived.Deep.RegionHeld3
import Derived.Deep.DeepCutAuto
namespace Go.Proofs.YtgipkpfogfcebaaDoor
open Go.RowKit
namespace Wp

theorem mat_eta' (m : Mat) : Mat.mk m.t m.n m.a m.b m.l m.i = m := by cases m; rfl
theorem below_across {B : Nat} {a b c : World} (h1 : Below B a b) (h2 : Below B a c) (hs : b.heap.size ≤ c.heap.size) : Below B b c := ⟨h2.os.trans h1.os.symm, h2.tape.trans h1.tape.symm, h2.output.trans h1.output.symm, hs, fun k hk => (h2.block k hk).trans (h1.block k hk).symm⟩
theorem sml_300 {m : Mat} (h : smlB m = true) : m.l.length ≤ 300 ∧ m.i.length ≤ 300 := by
  have h0 : sz 8 m ≤ 300 := of_decide_eq_true h
  have h1 := rs_ge m
  have h2 := sz_ge 8 m
  have h3 := addF_len (g := sz 7) (fun x => sz_pos 7 x) (l := m.i) (s := rs m) h0
  omega
theorem add_at (g k : Nat) : (⟨g, 0, none⟩ : Addr).add k = ⟨g, k, none⟩ := by unfold Addr.add; split <;> simp_all
theorem set_grown (w : World) (g i : Nat) (u : Value) : w.grownBy (w.setCell ⟨g, i, none⟩ u) (some g) := ⟨rfl, rfl, rfl, by simp [World.setCell], fun k _ hne => Below.heap_setCell w ⟨g, i, none⟩ u k (by intro e; exact hne (by rw [e]))⟩

set_option maxHeartbeats 16000000 in
set_option maxRecDepth 100000 in
theorem tags_1 (E : Nat → Addr) (m : Mat) (v : Value) (tag : Int) (w : World) (hv : MatV w w.heap.size v m) (hl : Lim m) (hE : Env E w) (hsm : smlB m = false) : Calls Tryd.prog 7 #[v, .int .i64 tag] w (Truly w) := by
  have Hsm := Lib.hid hsm
  have Hl := Lib.hid hl
  obtain ⟨lv, iv, hve, hl2, hi2⟩ := hv.open
  have Hb0 := Lib.hid (boxed_below w m lv iv)
  have Hv0 := Lib.hid (hv.up Hb0.out)
  have HE0 := Lib.hid (hE.up Hb0.out)
  have Hblk0 := Lib.hid (boxed_blk w m lv iv)
  obtain ⟨Al, cl, rfl, _⟩ := hl2
  obtain ⟨Ai, ci, rfl, _⟩ := hi2
  subst hve
  unfold boxed at *
  clear hv hE hsm hl
  go_enter Tryd.func7, Tryd.ntmps7
  go_wp2_with fail
  refine (fixed_any E _ HE0.out).mono ?_
  rintro e w1 ⟨rfl, hb1⟩
  have HE1 := Lib.hid (HE0.out.up hb1)
  have Hv1 := Lib.hid (Hv0.out.up hb1)
  have Hblk1 := Lib.hid (Hblk0.out.below hb1 Hblk0.out.lt)
  have Hb1 := Lib.hid (below_next Hb0.out (Nat.le_refl _) hb1)
  clear hb1 HE0 Hv0 Hblk0 Hb0
  have K := Hblk1.out
  have k0 := K.cell 0
  have k1 := K.cell 1
  have k2 := K.cell 2
  have k3 := K.cell 3
  have k4 := K.cell 4
  have k5 := K.cell 5
  clear K
  go_wp2_with fail
  refine (small_any m _ _ Hv1.out Hl.out).mono ?_
  rintro e w2 ⟨rfl, hb2⟩
  rw [Hsm.out]
  clear k0 k1 k2 k3 k4 k5
  have HE2 := Lib.hid (HE1.out.up hb2)
  have Hv2 := Lib.hid (Hv1.out.up hb2)
  have Hblk2 := Lib.hid (Hblk1.out.below hb2 Hblk1.out.lt)
  have Hb2 := Lib.hid (below_next Hb1.out (Nat.le_refl _) hb2)
  clear hb2 HE1 Hv1 Hblk1 Hb1
  go_wp2_with fail
  refine (fixed_any E _ HE2.out).mono ?_
  rintro e w9 ⟨rfl, hb9⟩
  have Hb9 := Lib.hid (below_next Hb2.out (Nat.le_refl _) hb9)
  clear hb9
  go_wp2
  go_ret
  exact ⟨rfl, Hb9.out⟩

set_option maxHeartbeats 16000000 in
set_option maxRecDepth 100000 in
theorem tags_2 (E : Nat → Addr) (m : Mat) (v : Value) (tag : Int) (w : World) (hv : MatV w w.heap.size v m) (hl : Lim m) (hE : Env E w) (hsm : smlB m = true) (hD : chk m ≠ 0) : Calls Tryd.prog 7 #[v, .int .i64 tag] w (Truly w) := by
  have Hsm := Lib.hid hsm
  have Hs := Lib.hid (sml_of hsm)
  have Hl := Lib.hid hl
  obtain ⟨lv, iv, hve, hl2, hi2⟩ := hv.open
  have Hb0 := Lib.hid (boxed_below w m lv iv)
  have Hv0 := Lib.hid (hv.up Hb0.out)
  have HE0 := Lib.hid (hE.up Hb0.out)
  have Hblk0 := Lib.hid (boxed_blk w m lv iv)
  obtain ⟨Al, cl, rfl, _⟩ := hl2
  obtain ⟨Ai, ci, rfl, _⟩ := hi2
  subst hve
  unfold boxed at *
  obtain ⟨D, hDD⟩ : ∃ D, chk m = D := ⟨_, rfl⟩
  have HD := Lib.hid hDD
  rw [hDD] at hD
  have hne : (D != 0) = true := by simpa using hD
  clear hD hDD
  clear hv hE hsm hl
  go_enter Tryd.func7, Tryd.ntmps7
  go_wp2_with fail
  refine (fixed_any E _ HE0.out).mono ?_
  rintro e w1 ⟨rfl, hb1⟩
  have HE1 := Lib.hid (HE0.out.up hb1)
  have Hv1 := Lib.hid (Hv0.out.up hb1)
  have Hblk1 := Lib.hid (Hblk0.out.below hb1 Hblk0.out.lt)
  have Hb1 := Lib.hid (below_next Hb0.out (Nat.le_refl _) hb1)
  clear hb1 HE0 Hv0 Hblk0 Hb0
  have K := Hblk1.out
  have k0 := K.cell 0
  have k1 := K.cell 1
  have k2 := K.cell 2
  have k3 := K.cell 3
  have k4 := K.cell 4
  have k5 := K.cell 5
  clear K
  go_wp2_with fail
  refine (small_any m _ _ Hv1.out Hl.out).mono ?_
  rintro e w2 ⟨rfl, hb2⟩
  rw [Hsm.out]
  clear k0 k1 k2 k3 k4 k5
  have HE2 := Lib.hid (HE1.out.up hb2)
  have Hv2 := Lib.hid (Hv1.out.up hb2)
  have Hblk2 := Lib.hid (Hblk1.out.below hb2 Hblk1.out.lt)
  have Hb2 := Lib.hid (below_next Hb1.out (Nat.le_refl _) hb2)
  clear hb2 HE1 Hv1 Hblk1 Hb1
  have K := Hblk2.out
  have k0 := K.cell 0
  have k1 := K.cell 1
  have k2 := K.cell 2
  have k3 := K.cell 3
  have k4 := K.cell 4
  have k5 := K.cell 5
  clear K
  go_wp2_with fail
  refine (check_any E m _ _ Hv2.out Hs.out HE2.out).mono ?_
  rintro e w3 ⟨rfl, hb3⟩
  rw [HD.out]
  clear k0 k1 k2 k3 k4 k5
  have HE3 := Lib.hid (HE2.out.up hb3)
  have Hv3 := Lib.hid (Hv2.out.up hb3)
  have Hblk3 := Lib.hid (Hblk2.out.below hb3 Hblk2.out.lt)
  have Hb3 := Lib.hid (below_next Hb2.out (Nat.le_refl _) hb3)
  clear hb3 HE2 Hv2 Hblk2 Hb2
  go_wp2_with fail
  refine (fixed_any E _ HE3.out).mono ?_
  rintro e w9 ⟨rfl, hb9⟩
  have Hb9 := Lib.hid (below_next Hb3.out (Nat.le_refl _) hb9)
  clear hb9
  go_wp2
  go_ret
  exact ⟨rfl, Hb9.out⟩

set_option maxHeartbeats 16000000 in
set_option maxRecDepth 100000 in
theorem tags_main (E : Nat → Addr) (m : Mat) (v : Value) (tag : Int) (w : World) (hv : MatV w w.heap.size v m) (hl : Lim m) (hE : Env E w) (hsm : smlB m = true) (hD : chk m = 0) : Calls Tryd.prog 7 #[v, .int .i64 tag] w (Truly w) := by
  have h300 := sml_300 hsm
  have Hsm := Lib.hid hsm
  have Hs := Lib.hid (sml_of hsm)
  have Hl := Lib.hid hl
  obtain ⟨lv, iv, hve, hl2, hi2⟩ := hv.open
  have Hb0 := Lib.hid (boxed_below w m lv iv)
  have Hv0 := Lib.hid (hv.up Hb0.out)
  have HE0 := Lib.hid (hE.up Hb0.out)
  have Hblk0 := Lib.hid (boxed_blk w m lv iv)
  obtain ⟨Al, cl, rfl, _⟩ := hl2
  obtain ⟨Ai, ci, rfl, _⟩ := hi2
  subst hve
  unfold boxed at *
  have HD := Lib.hid hD
  clear hv hE hsm hl hD
  go_enter Tryd.func7, Tryd.ntmps7
  go_wp2_with fail
  refine (fixed_any E _ HE0.out).mono ?_
  rintro e w1 ⟨rfl, hb1⟩
  have HE1 := Lib.hid (HE0.out.up hb1)
  have Hv1 := Lib.hid (Hv0.out.up hb1)
  have Hblk1 := Lib.hid (Hblk0.out.below hb1 Hblk0.out.lt)
  have Hb1 := Lib.hid (below_next Hb0.out (Nat.le_refl _) hb1)
  clear hb1 HE0 Hv0 Hblk0 Hb0
  have K := Hblk1.out
  have k0 := K.cell 0
  have k1 := K.cell 1
  have k2 := K.cell 2
  have k3 := K.cell 3
  have k4 := K.cell 4
  have k5 := K.cell 5
  clear K
  go_wp2_with fail
  refine (small_any m _ _ Hv1.out Hl.out).mono ?_
  rintro e w2 ⟨rfl, hb2⟩
  rw [Hsm.out]
  clear k0 k1 k2 k3 k4 k5
  have HE2 := Lib.hid (HE1.out.up hb2)
  have Hv2 := Lib.hid (Hv1.out.up hb2)
  have Hblk2 := Lib.hid (Hblk1.out.below hb2 Hblk1.out.lt)
  have Hb2 := Lib.hid (below_next Hb1.out (Nat.le_refl _) hb2)
  clear hb2 HE1 Hv1 Hblk1 Hb1
  have K := Hblk2.out
  have k0 := K.cell 0
  have k1 := K.cell 1
  have k2 := K.cell 2
  have k3 := K.cell 3
  have k4 := K.cell 4
  have k5 := K.cell 5
  clear K
  go_wp2_with fail
  refine (check_any E m _ _ Hv2.out Hs.out HE2.out).mono ?_
  rintro e w3 ⟨rfl, hb3⟩
  rw [HD.out]
  clear k0 k1 k2 k3 k4 k5
  have HE3 := Lib.hid (HE2.out.up hb3)
  have Hv3 := Lib.hid (Hv2.out.up hb3)
  have Hblk3 := Lib.hid (Hblk2.out.below hb3 Hblk2.out.lt)
  have Hb3 := Lib.hid (below_next Hb2.out (Nat.le_refl _) hb3)
  clear hb3 HE2 Hv2 Hblk2 Hb2
  have hwlt : w.heap.size < w3.heap.size := Hblk3.out.lt
  have K1 : Hid (∀ W, Below w3.heap.size w3 W → ∀ i, W.cell? ⟨w.heap.size, i, none⟩ = #[.int .i64 m.t, .int .i64 m.n, .int .i64 m.a, .int .i64 m.b, .slice Al m.l.length cl, .slice Ai m.i.length ci][i]?) := fun W hW i => (Hblk3.out.below hW Hblk3.out.lt).cell i
  go_upto_region 3 with fail
  go_cut [5, 6, 7] (fun s5 s6 s7 wx => ∃ ga gb gc : Nat, s5 = .pointer (some ⟨ga, 0, none⟩) ∧ s6 = .pointer (some ⟨gb, 0, none⟩) ∧ s7 = .pointer (some ⟨gc, 0, none⟩) ∧ (w3.heap.size ≤ ga ∧ w3.heap.size ≤ gb ∧ w3.heap.size ≤ gc) ∧ (ga ≠ gb ∧ ga ≠ gc ∧ gb ≠ gc) ∧ Blk wx ga 25 #[.int .i64 m.t, .int .i64 m.n, .int .i64 m.a, .int .i64 m.b, .slice Al m.l.length cl, .slice Ai m.i.length ci] ∧ Blk wx gb 25 #[.int .i64 m.t, .int .i64 m.n, .int .i64 m.a, .int .i64 m.b, .slice Al m.l.length cl, .slice Ai m.i.length ci] ∧ Blk wx gc 25 #[.int .i64 m.t, .int .i64 m.n, .int .i64 m.a, .int .i64 m.b, .slice Al m.l.length cl, .slice Ai m.i.length ci] ∧ Below w3.heap.size w3 wx)
  case first =>
    have k0 := K1.out w3 (Below.refl _ _) 0
    have k1 := K1.out w3 (Below.refl _ _) 1
    have k2 := K1.out w3 (Below.refl _ _) 2
    have k3 := K1.out w3 (Below.refl _ _) 3
    have k4 := K1.out w3 (Below.refl _ _) 4
    have k5 := K1.out w3 (Below.refl _ _) 5
    have KS : Hid (∀ W, Below w3.heap.size w3 W → W.cell? ⟨w.heap.size, 0, none⟩ = some (.int .i64 m.t) ∧ W.cell? ⟨w.heap.size, 1, none⟩ = some (.int .i64 m.n) ∧ W.cell? ⟨w.heap.size, 2, none⟩ = some (.int .i64 m.a) ∧ W.cell? ⟨w.heap.size, 3, none⟩ = some (.int .i64 m.b) ∧ W.cell? ⟨w.heap.size, 4, none⟩ = some (.slice Al m.l.length cl) ∧ W.cell? ⟨w.heap.size, 5, none⟩ = some (.slice Ai m.i.length ci)) := fun W hW => ⟨K1.out W hW 0, K1.out W hW 1, K1.out W hW 2, K1.out W hW 3, K1.out W hW 4, K1.out W hW 5⟩
    have b := three_boxes w3 #[.int .i64 m.t, .int .i64 m.n, .int .i64 m.a, .int .i64 m.b, .slice Al m.l.length cl, .slice Ai m.i.length ci] 25
    have B0 := Lib.hid b.1
    have B1 := Lib.hid b.2.1
    have B2 := Lib.hid b.2.2.1
    have B3 := Lib.hid b.2.2.2
    clear b
    go_region_held3 (fun W => W.cell? ⟨w.heap.size, 0, none⟩ = some (.int .i64 m.t) ∧ W.cell? ⟨w.heap.size, 1, none⟩ = some (.int .i64 m.n) ∧ W.cell? ⟨w.heap.size, 2, none⟩ = some (.int .i64 m.a) ∧ W.cell? ⟨w.heap.size, 3, none⟩ = some (.int .i64 m.b) ∧ W.cell? ⟨w.heap.size, 4, none⟩ = some (.slice Al m.l.length cl) ∧ W.cell? ⟨w.heap.size, 5, none⟩ = some (.slice Ai m.i.length ci)) ((refine KS.out _ ?_; repeat (first | exact Below.refl _ _ | exact (Below.refl _ _).drew | refine Below.drew ?_ | refine Below.alloc ?_ (by first | (simp; done) | (simp; omega) | omega) _ | refine Below.setCell ?_ (by first | (simp; done) | (simp; omega) | omega) _))) (fail)
    all_goals (go_wp2_with fail; go_meet; exact ⟨_, _, _, rfl, rfl, rfl, ⟨by omega, by omega, by omega⟩, ⟨by omega, by omega, by omega⟩, by first | exact B0.out | exact B1.out | exact B2.out, by first | exact B0.out | exact B1.out | exact B2.out, by first | exact B0.out | exact B1.out | exact B2.out, B3.out⟩)
  case rest =>
    obtain ⟨ga, gb, gc, rfl, rfl, rfl, ⟨hga, hgb, hgc⟩, ⟨hab, hac, hbc⟩, ha, hb, hc, hbel⟩ := hcut
    have Hb3_ := Hb3
    obtain ⟨lv0, iv0, hve0, hrows, hmats⟩ := Hv3.out.open
    cases hve0
    have Hrows := Lib.hid hrows
    have Hmats := Lib.hid hmats
    have Hbel := Lib.hid hbel
    have HE := HE3
    have hla := ha.lt
    have hlb := hb.lt
    have hlc := hc.lt
    have Ha := Lib.hid (ha.set_ 0 (.int .i64 tag))
    have a0 := ha.cell 0
    have af := ha.frozen 0
    have hga' : w.heap.size ≠ ga := by omega
    have hwc : w.heap.size < wc.heap.size := by omega
    obtain ⟨W1, hW1⟩ : ∃ W1, W1 = (wc.setCell ⟨ga, 0, none⟩ (.int .i64 tag)).alloc (.cells #[] 26) := ⟨_, rfl⟩
    have HW1 := Lib.hid hW1
    have hs1 : (wc.setCell ⟨ga, 0, none⟩ (.int .i64 tag)).heap.size = wc.heap.size := by simp [World.setCell]
    have Hb1 : Hid (Below w3.heap.size w3 W1) := by
      show Below _ _ _
      rw [hW1]
      exact (hbel.setCell (p := ⟨ga, 0, none⟩) hga _).alloc (by rw [hs1]; omega) _
    have Hsz1 : Hid (W1.heap.size = wc.heap.size + 1) := by
      show _ = _
      rw [hW1, size_more, hs1]
    have Hown1 : Hid (W1.ownsRow wc.heap.size 26 1 (.slice (some ⟨wc.heap.size, 0, none⟩) 0 0) ([] : List Value).length []) := by
      have h := World.ownsRow_lit (base := wc.heap.size) (e := 26) (size := 1) (wc.setCell ⟨ga, 0, none⟩ (.int .i64 tag)) #[] 0 (by rw [hs1]; exact Nat.le_refl _) (by unfold maxLen; omega) rfl
      rw [hs1] at h
      show World.ownsRow _ _ _ _ _ _ _
      rw [hW1]
      exact h
    have HA1 : Hid (Blk W1 ga 25 #[.int .i64 tag, .int .i64 m.n, .int .i64 m.a, .int .i64 m.b, .slice Al m.l.length cl, .slice Ai m.i.length ci]) := by
      show Blk _ _ _ _
      rw [hW1]
      exact (by simpa using Ha.out : Blk (wc.setCell ⟨ga, 0, none⟩ (.int .i64 tag)) ga 25 #[.int .i64 tag, .int .i64 m.n, .int .i64 m.a, .int .i64 m.b, .slice Al m.l.length cl, .slice Ai m.i.length ci]).alloc _
    have HB1 : Hid (Blk W1 gb 25 #[.int .i64 m.t, .int .i64 m.n, .int .i64 m.a, .int .i64 m.b, .slice Al m.l.length cl, .slice Ai m.i.length ci]) := by
      show Blk _ _ _ _
      rw [hW1]
      exact (hb.far (p := ⟨ga, 0, none⟩) (fun e => hab e.symm) _).alloc _
    have HC1 : Hid (Blk W1 gc 25 #[.int .i64 m.t, .int .i64 m.n, .int .i64 m.a, .int .i64 m.b, .slice Al m.l.length cl, .slice Ai m.i.length ci]) := by
      show Blk _ _ _ _
      rw [hW1]
      exact (hc.far (p := ⟨ga, 0, none⟩) (fun e => hac e.symm) _).alloc _
    have q4 := K1.out _ Hb1.out 4
    rw [hW1] at q4
    obtain ⟨ts, hts, htl, htn, htc, hto, htz⟩ := rows2_cells (Hrows.out.below Hb1.out)
    have hll := sml_l Hs.out
    have Hts := Lib.hid hts
    have Htc := Lib.hid htc
    have Hto := Lib.hid hto
    have Htn := Lib.hid (fun h => (⟨htz h, htn h⟩ : ts = [] ∧ cl = 0))
    have Htl := Lib.hid htl
    have hil := sml_il Hs.out
    clear ha hb hc hbel hW1 hs1 hts htl htn htc hto htz hrows hmats Ha
    go_wp2_with (at_builtin; rw [← HW1.out]; refine wpList_append_lists rfl _ _ rfl wc.heap.size _ [] ts Al cl rfl (by rw [← Htl.out]; rfl) Hown1.out Htc.out Hto.out Htn.out (by simp) (by have := Htl.out; omega) (by rw [Hsz1.out]; omega) ?_)
    intro v1 W2 hown2 hgr2
    have hown2 : W2.ownsRow wc.heap.size 26 1 v1 ts.length ts := hown2
    have hwc3 : w3.heap.size ≤ wc.heap.size := Hbel.out.size
    have Hb2 := Lib.hid (Hb1.out.grown hgr2 Hb1.out.size (fun k hk => Nat.le_trans hwc3 (Hown1.out.lt k hk).1))
    have HA2 := Lib.hid (HA1.out.grown hgr2 (fun e => by have := (Hown1.out.lt _ e.symm).1; omega))
    have HB2 := Lib.hid (HB1.out.grown hgr2 (fun e => by have := (Hown1.out.lt _ e.symm).1; omega))
    have HC2 := Lib.hid (HC1.out.grown hgr2 (fun e => by have := (Hown1.out.lt _ e.symm).1; omega))
    have hs2 : wc.heap.size + 1 ≤ W2.heap.size := by rw [← Hsz1.out]; exact hgr2.size
    have Hts2 := Lib.hid (Hts.out.below (below_across Hb1.out Hb2.out hgr2.size))
    have Hown2 := Lib.hid hown2
    obtain ⟨W3, hW3⟩ : ∃ W3, W3 = (((W2.alloc (.cells #[] 3)).alloc (.cells #[] 3)).alloc (.cells #[] 3)).alloc (.cells #[.slice (some ⟨W2.heap.size, 0, none⟩) 0 0, .slice (some ⟨W2.heap.size + 1, 0, none⟩) 0 0, .slice (some ⟨W2.heap.size + 1 + 1, 0, none⟩) 0 0] 26) := ⟨_, rfl⟩
    have HW3 := Lib.hid hW3
    have Hsz3 : Hid (W3.heap.size = W2.heap.size + 1 + 1 + 1 + 1) := by
      show _ = _
      rw [hW3]
      simp only [size_more]
    have Hb23 : Hid (Below W2.heap.size W2 W3) := by
      show Below _ _ _
      rw [hW3]
      exact ((((Below.refl W2.heap.size W2).alloc (Nat.le_refl _) _).alloc (by simp only [size_more]; omega) _).alloc (by simp only [size_more]; omega) _).alloc (by simp only [size_more]; omega) _
    have Hown3 : Hid (W3.ownsRow wc.heap.size 26 1 v1 ts.length ts) := by
      show World.ownsRow _ _ _ _ _ _ _
      rw [hW3]
      exact (((Hown2.out.alloc _).alloc _).alloc _).alloc _
    have Hcell3 : Hid (∀ ad, (some (⟨W2.heap.size + 1 + 1 + 1, 0, none⟩ : Addr)) = some ad → ∀ j u, ([.slice (some ⟨W2.heap.size, 0, none⟩) 0 0, .slice (some ⟨W2.heap.size + 1, 0, none⟩) 0 0, .slice (some ⟨W2.heap.size + 1 + 1, 0, none⟩) 0 0] : List Value)[j]? = some u → W3.cell? (ad.add j) = some u) := by
      intro ad e j u hj
      injection e with e
      subst e
      have h := Blk.new (((W2.alloc (.cells #[] 3)).alloc (.cells #[] 3)).alloc (.cells #[] 3)) 26 #[.slice (some ⟨W2.heap.size, 0, none⟩) 0 0, .slice (some ⟨W2.heap.size + 1, 0, none⟩) 0 0, .slice (some ⟨W2.heap.size + 1 + 1, 0, none⟩) 0 0]
      simp only [size_more] at h
      rw [add_at, hW3, h.cell j]
      simpa using hj
    have Hb3 := Lib.hid (Hb2.out.trans (Hb23.out.mono (by omega)))
    have HA3 := Lib.hid (HA2.out.below Hb23.out HA2.out.lt)
    have HB3 := Lib.hid (HB2.out.below Hb23.out HB2.out.lt)
    have HC3 := Lib.hid (HC2.out.below Hb23.out HC2.out.lt)
    clear hown2 hgr2 hW3 Hb23 HA1 HB1 HC1 HA2 HB2 HC2 Hown1 HW1 q4 Hts Htc Hto Htn
    go_wp2_with (at_builtin; rw [← HW3.out]; refine wpList_append_lists rfl _ _ rfl wc.heap.size v1 ts [.slice (some ⟨W2.heap.size, 0, none⟩) 0 0, .slice (some ⟨W2.heap.size + 1, 0, none⟩) 0 0, .slice (some ⟨W2.heap.size + 1 + 1, 0, none⟩) 0 0] (some ⟨W2.heap.size + 1 + 1 + 1, 0, none⟩) 3 rfl rfl Hown3.out Hcell3.out (by intro u hu; simp at hu; rcases hu with rfl | rfl | rfl <;> rfl) (by intro e; cases e) (by have := Htl.out; omega) (by simp) (by rw [Hsz3.out]; omega) ?_)
    intro v2 W4 hown4 hgr4
    have Hb4 := Lib.hid (Hb3.out.grown hgr4 Hb3.out.size (fun k hk => Nat.le_trans hwc3 (Hown3.out.lt k hk).1))
    have HA4 := Lib.hid (HA3.out.grown hgr4 (fun e => by have := (Hown3.out.lt _ e.symm).1; omega))
    have HB4 := Lib.hid (HB3.out.grown hgr4 (fun e => by have := (Hown3.out.lt _ e.symm).1; omega))
    have HC4 := Lib.hid (HC3.out.grown hgr4 (fun e => by have := (Hown3.out.lt _ e.symm).1; omega))
    have hs4 : wc.heap.size + 1 ≤ W4.heap.size := by have := hgr4.size; have := Hsz3.out; omega
    have hs24 : W2.heap.size ≤ W4.heap.size := by have := hgr4.size; have := Hsz3.out; omega
    obtain ⟨us2, hus2⟩ : ∃ us2 : List Value, us2 = ts ++ [.slice (some ⟨W2.heap.size, 0, none⟩) 0 0, .slice (some ⟨W2.heap.size + 1, 0, none⟩) 0 0, .slice (some ⟨W2.heap.size + 1 + 1, 0, none⟩) 0 0] := ⟨_, rfl⟩
    have hown4 : W4.ownsRow wc.heap.size 26 1 v2 us2.length us2 := by rw [hus2]; simpa using hown4
    have Hold4 : Hid (OldR W4 w3.heap.size us2 (m.l ++ [[], [], []])) := by
      show OldR _ _ _ _
      rw [hus2]
      exact (Hts2.out.below (below_across Hb2.out Hb4.out hs24)).append (OldR.three W4 w3.heap.size ⟨W2.heap.size, 0, none⟩ ⟨W2.heap.size + 1, 0, none⟩ ⟨W2.heap.size + 1 + 1, 0, none⟩)
    have hn2 : us2.length ≤ 400 := by rw [hus2]; have := Htl.out; simp; omega
    clear hus2
    obtain ⟨A2, c2, rfl⟩ := own_slice hown4
    have Hown4 := Lib.hid hown4
    have hbl2 : ∀ k, (Value.slice A2 us2.length c2).ownBlock = some k → wc.heap.size ≤ k ∧ k < W4.heap.size := hown4.lt
    have Hbl2 := Lib.hid hbl2
    clear hbl2
    clear hown4 hgr4 HA3 HB3 HC3 Hown3 Hcell3 HW3 Hb3 Hb2 Hown2 Hts2 Hsz3
    obtain ⟨W5, hW5⟩ : ∃ W5, W5 = (W4.setCell ⟨gb, 4, none⟩ (.slice A2 us2.length c2)).alloc (.cells #[] 25) := ⟨_, rfl⟩
    have HW5 := Lib.hid hW5
    have hsz5 : (W4.setCell ⟨gb, 4, none⟩ (.slice A2 us2.length c2)).heap.size = W4.heap.size := by simp [World.setCell]
    have b4 := HB4.out.cell 4
    have bf := HB4.out.frozen 4
    have hlw4 : gb < W4.heap.size := HB4.out.lt
    have Hb5 : Hid (Below w3.heap.size w3 W5) := by
      show Below _ _ _
      rw [hW5]
      exact (Hb4.out.setCell (p := ⟨gb, 4, none⟩) hgb _).alloc (by rw [hsz5]; exact Hb4.out.size) _
    have Hsz5 : Hid (W5.heap.size = W4.heap.size + 1) := by
      show _ = _
      rw [hW5, size_more, hsz5]
    have HownM : Hid (W5.ownsRow W4.heap.size 25 6 (.slice (some ⟨W4.heap.size, 0, none⟩) 0 0) 0 []) := by
      have h := World.ownsRow_lit (base := W4.heap.size) (e := 25) (size := 6) (W4.setCell ⟨gb, 4, none⟩ (.slice A2 us2.length c2)) #[] 0 (by rw [hsz5]; exact Nat.le_refl _) (by unfold maxLen; omega) rfl
      rw [hsz5] at h
      show World.ownsRow _ _ _ _ _ _ _
      rw [hW5]
      exact h
    have HownR : Hid (W5.ownsRow wc.heap.size 26 1 (.slice A2 us2.length c2) us2.length us2) := by
      show World.ownsRow _ _ _ _ _ _ _
      rw [hW5]
      refine (Hown4.out.kept (set_grown W4 gb 4 _) ?_).alloc _
      rcases h : (Value.slice A2 us2.length c2).ownBlock with _ | g
      · exact .inl rfl
      · refine .inr fun e => ?_
        injection e with e
        have := (Hbl2.out g h).1
        omega
    have HA5 : Hid (Blk W5 ga 25 #[.int .i64 tag, .int .i64 m.n, .int .i64 m.a, .int .i64 m.b, .slice Al m.l.length cl, .slice Ai m.i.length ci]) := by
      show Blk _ _ _ _
      rw [hW5]
      exact (HA4.out.far (p := ⟨gb, 4, none⟩) hab _).alloc _
    have HB5 : Hid (Blk W5 gb 25 #[.int .i64 m.t, .int .i64 m.n, .int .i64 m.a, .int .i64 m.b, .slice A2 us2.length c2, .slice Ai m.i.length ci]) := by
      show Blk _ _ _ _
      rw [hW5]
      exact (by simpa using HB4.out.set_ 4 (.slice A2 us2.length c2) : Blk (W4.setCell ⟨gb, 4, none⟩ (.slice A2 us2.length c2)) gb 25 #[.int .i64 m.t, .int .i64 m.n, .int .i64 m.a, .int .i64 m.b, .slice A2 us2.length c2, .slice Ai m.i.length ci]).alloc _
    have HC5 : Hid (Blk W5 gc 25 #[.int .i64 m.t, .int .i64 m.n, .int .i64 m.a, .int .i64 m.b, .slice Al m.l.length cl, .slice Ai m.i.length ci]) := by
      show Blk _ _ _ _
      rw [hW5]
      exact (HC4.out.far (p := ⟨gb, 4, none⟩) (fun e => hbc e.symm) _).alloc _
    have Hold5 := Lib.hid (Hold4.out.below (below_across Hb4.out Hb5.out (by rw [Hsz5.out]; omega)))
    have p5 := K1.out _ Hb4.out 5
    have hwW4 : w.heap.size < W4.heap.size := by omega
    have hwgb : w.heap.size ≠ gb := by omega
    obtain ⟨S, hS, _, hnil, hcM, hoM⟩ := matL_cells (Hmats.out.below Hb5.out)
    have HS := Lib.hid hS
    have HcM := Lib.hid hcM
    have HoM := Lib.hid hoM
    have Hnil : Hid (Ai = none → m.i.length = 0 ∧ ci = 0) := fun h => ⟨by rw [(hnil h).2]; rfl, (hnil h).1⟩
    have Hfl := Lib.hid (flat6_len hS.1 m.i.length)
    clear hW5 hsz5 hS hnil hcM hoM HA4 HB4 HC4 Hown4 Hold4
    go_wp2_with (at_builtin; rw [← HW5.out]; refine wpList_append_mats rfl _ _ rfl W4.heap.size 0 m.i.length _ [] (flat6 S m.i.length) Ai ci rfl rfl HownM.out Hfl.out HcM.out HoM.out Hnil.out (by omega) (by omega) (by rw [Hsz5.out]; omega) ?_)
    intro v3 W6 hown6 hgr6
    have hown6 : W6.ownsRow W4.heap.size 25 6 v3 m.i.length (flat6 S m.i.length) := by simpa using hown6
    have hww4 : wc.heap.size ≤ W4.heap.size := by omega
    have hw34 : w3.heap.size ≤ W4.heap.size := Hb4.out.size
    have Hb6 := Lib.hid (Hb5.out.grown hgr6 Hb5.out.size (fun k hk => Nat.le_trans hw34 (HownM.out.lt k hk).1))
    have HA6 := Lib.hid (HA5.out.grown hgr6 (fun e => by have := (HownM.out.lt _ e.symm).1; omega))
    have HB6 := Lib.hid (HB5.out.grown hgr6 (fun e => by have := (HownM.out.lt _ e.symm).1; omega))
    have HC6 := Lib.hid (HC5.out.grown hgr6 (fun e => by have := (HownM.out.lt _ e.symm).1; omega))
    have hs6 : W4.heap.size + 1 ≤ W6.heap.size := by have := hgr6.size; have := Hsz5.out; omega
    have Hold6 := Lib.hid (Hold5.out.below (below_across Hb5.out Hb6.out hgr6.size))
    have HS6 := Lib.hid (HS.out.below (below_across Hb5.out Hb6.out hgr6.size))
    have HownR6 := Lib.hid (HownR.out.kept hgr6 (own_ne HownR.out HownM.out (by decide)))
    have Hown6 := Lib.hid hown6
    obtain ⟨W7, hW7⟩ : ∃ W7, W7 = W6.alloc (.cells #[.int .i64 0, .int .i64 1, .int .i64 1, .int .i64 0, .slice none 0 0, .slice none 0 0] 25) := ⟨_, rfl⟩
    have HW7 := Lib.hid hW7
    have Hsz7 : Hid (W7.heap.size = W6.heap.size + 1) := by show _ = _; rw [hW7, size_more]
    have Hb67 : Hid (Below W6.heap.size W6 W7) := by
      show Below _ _ _
      rw [hW7]
      exact (Below.refl W6.heap.size W6).alloc (Nat.le_refl _) _
    have Hown7 : Hid (W7.ownsRow W4.heap.size 25 6 v3 m.i.length (flat6 S m.i.length)) := by
      show World.ownsRow _ _ _ _ _ _ _
      rw [hW7]
      exact Hown6.out.alloc _
    have HownR7 : Hid (W7.ownsRow wc.heap.size 26 1 (.slice A2 us2.length c2) us2.length us2) := by
      show World.ownsRow _ _ _ _ _ _ _
      rw [hW7]
      exact HownR6.out.alloc _
    have Hcell7 : Hid (∀ ad, (some (⟨W6.heap.size, 0, none⟩ : Addr)) = some ad → ∀ j u, ([.int .i64 0, .int .i64 1, .int .i64 1, .int .i64 0, .slice none 0 0, .slice none 0 0] : List Value)[j]? = some u → W7.cell? (ad.add j) = some u) := by
      intro ad e j u hj
      injection e with e
      subst e
      have h := Blk.new W6 25 #[.int .i64 0, .int .i64 1, .int .i64 1, .int .i64 0, .slice none 0 0, .slice none 0 0]
      rw [add_at, hW7, h.cell j]
      simpa using hj
    have Hb7 := Lib.hid (Hb6.out.trans (Hb67.out.mono Hb6.out.size))
    have HA7 := Lib.hid (HA6.out.below Hb67.out HA6.out.lt)
    have HB7 := Lib.hid (HB6.out.below Hb67.out HB6.out.lt)
    have HC7 := Lib.hid (HC6.out.below Hb67.out HC6.out.lt)
    clear hown6 hgr6 hW7 HA5 HB5 HC5 HA6 HB6 HC6 HownM HownR HownR6 HW5 HcM HoM Hnil p5 b4 bf Hold5 HS Hown6
    go_wp2_with (at_builtin; rw [← HW7.out]; refine wpList_append_mats rfl _ _ rfl W4.heap.size m.i.length 1 v3 (flat6 S m.i.length) [.int .i64 0, .int .i64 1, .int .i64 1, .int .i64 0, .slice none 0 0, .slice none 0 0] (some ⟨W6.heap.size, 0, none⟩) 1 rfl rfl Hown7.out rfl Hcell7.out (by intro u hu; simp at hu; rcases hu with rfl | rfl | rfl | rfl | rfl | rfl <;> rfl) (by intro e; cases e) (by omega) (by omega) (by rw [Hsz7.out]; omega) ?_)
    intro v4 W8 hown8 hgr8
    obtain ⟨S', hS', hfl'⟩ := (HS6.out.below (below_across Hb6.out Hb7.out Hb67.out.size)).more (.int .i64 0) (.int .i64 1) (.int .i64 1) (.int .i64 0) (.slice none 0 0) (.slice none 0 0) (.mk 0 1 1 0 [] []) (plain_mat _ _ 0 1 1 0)
    have hown8 : W8.ownsRow W4.heap.size 25 6 v4 (m.i.length + 1) (flat6 S' (m.i.length + 1)) := by rw [hfl']; exact hown8
    have Hb8 := Lib.hid (Hb7.out.grown hgr8 Hb7.out.size (fun k hk => Nat.le_trans hw34 (Hown7.out.lt k hk).1))
    have HA8 := Lib.hid (HA7.out.grown hgr8 (fun e => by have := (Hown7.out.lt _ e.symm).1; omega))
    have HB8 := Lib.hid (HB7.out.grown hgr8 (fun e => by have := (Hown7.out.lt _ e.symm).1; omega))
    have HC8 := Lib.hid (HC7.out.grown hgr8 (fun e => by have := (Hown7.out.lt _ e.symm).1; omega))
    have HownR8 := Lib.hid (HownR7.out.kept hgr8 (own_ne HownR7.out Hown7.out (by decide)))
    have Hold8 := Lib.hid (Hold6.out.below (below_across Hb6.out Hb8.out (Nat.le_trans Hb67.out.size hgr8.size)))
    have HS8 := Lib.hid (hS'.below (below_across Hb7.out Hb8.out hgr8.size))
    have hs8 : W4.heap.size ≤ W8.heap.size := by have := hgr8.size; have := Hsz7.out; omega
    have Hown8 := Lib.hid hown8
    obtain ⟨gi, capi, hv4, hgi⟩ : ∃ gi capi, v4 = .slice (some ⟨gi, 0, none⟩) (m.i.length + 1) capi ∧ W4.heap.size ≤ gi := by
      rcases hown8.2 with ⟨_, h0⟩ | ⟨g, cap, cur, hv, hb, _⟩
      · omega
      · exact ⟨g, cap, hv, hb⟩
    subst hv4
    obtain ⟨W9, hW9⟩ : ∃ W9, W9 = W8.setCell ⟨gc, 5, none⟩ (.slice (some ⟨gi, 0, none⟩) (m.i.length + 1) capi) := ⟨_, rfl⟩
    have HW9 := Lib.hid hW9
    have hs9 : W9.heap.size = W8.heap.size := by rw [hW9]; simp [World.setCell]
    have Hb39 : Hid (Below w3.heap.size w3 W9) := by
      show Below _ _ _
      rw [hW9]
      exact Hb8.out.setCell (p := ⟨gc, 5, none⟩) hgc _
    have HA9 : Hid (Blk W9 ga 25 #[.int .i64 tag, .int .i64 m.n, .int .i64 m.a, .int .i64 m.b, .slice Al m.l.length cl, .slice Ai m.i.length ci]) := by
      show Blk _ _ _ _
      rw [hW9]
      exact HA8.out.far (p := ⟨gc, 5, none⟩) hac _
    have HB9 : Hid (Blk W9 gb 25 #[.int .i64 m.t, .int .i64 m.n, .int .i64 m.a, .int .i64 m.b, .slice A2 us2.length c2, .slice Ai m.i.length ci]) := by
      show Blk _ _ _ _
      rw [hW9]
      exact HB8.out.far (p := ⟨gc, 5, none⟩) hbc _
    have HC9 : Hid (Blk W9 gc 25 #[.int .i64 m.t, .int .i64 m.n, .int .i64 m.a, .int .i64 m.b, .slice Al m.l.length cl, .slice (some ⟨gi, 0, none⟩) (m.i.length + 1) capi]) := by
      show Blk _ _ _ _
      rw [hW9]
      simpa using HC8.out.set_ 5 (.slice (some ⟨gi, 0, none⟩) (m.i.length + 1) capi)
    have Hg9 : Hid (W8.grownBy W9 (some gc)) := by
      show World.grownBy _ _ _
      rw [hW9]
      exact set_grown W8 gc 5 _
    have HownR9 := Lib.hid (HownR8.out.kept Hg9.out (by
      rcases h : (Value.slice A2 us2.length c2).ownBlock with _ | g
      · exact .inl rfl
      · refine .inr fun e => ?_
        injection e with e
        have := (Hbl2.out g h).1
        omega))
    have Hown9 := Lib.hid (Hown8.out.kept Hg9.out (.inr (by intro e; simp [Value.ownBlock] at e; omega)))
    have Hold9 := Lib.hid (Hold8.out.below (below_across Hb8.out Hb39.out (by rw [hs9]; exact Nat.le_refl _)))
    have HS9 := Lib.hid (HS8.out.below (below_across Hb8.out Hb39.out (by rw [hs9]; exact Nat.le_refl _)))
    have h39 : w3.heap.size ≤ W9.heap.size := Hb39.out.size
    have Hr9 := Lib.hid ((Hrows.out.below Hb39.out).mono h39)
    have Hm9 := Lib.hid ((Hmats.out.below Hb39.out).mono h39)
    have VA : Hid (MatV W9 W9.heap.size (.agg #[.int .i64 tag, .int .i64 m.n, .int .i64 m.a, .int .i64 m.b, .slice Al m.l.length cl, .slice Ai m.i.length ci]) (.mk tag m.n m.a m.b m.l m.i)) := MatV.shut Hr9.out Hm9.out
    have VB : Hid (MatV W9 W9.heap.size (.agg #[.int .i64 m.t, .int .i64 m.n, .int .i64 m.a, .int .i64 m.b, .slice A2 us2.length c2, .slice Ai m.i.length ci]) (.mk m.t m.n m.a m.b (m.l ++ [[], [], []]) m.i)) := MatV.shut (rows2_of_own HownR9.out Hold9.out h39) Hm9.out
    have VC : Hid (MatV W9 W9.heap.size (.agg #[.int .i64 m.t, .int .i64 m.n, .int .i64 m.a, .int .i64 m.b, .slice Al m.l.length cl, .slice (some ⟨gi, 0, none⟩) (m.i.length + 1) capi]) (.mk m.t m.n m.a m.b m.l (m.i ++ [.mk 0 1 1 0 [] []]))) :=
      MatV.shut Hr9.out (matL_of_own (i := m.i ++ [.mk 0 1 1 0 [] []]) (by rw [List.length_append]; exact Hown9.out) HS9.out h39)
    have HE9 := Lib.hid (HE.out.up Hb39.out)
    have Hb9 := Lib.hid (below_next Hb3_.out (Nat.le_refl _) Hb39.out)
    have hsr := Hs.out
    have HsA : Hid (Sml (.mk tag m.n m.a m.b m.l m.i)) := .mk (by omega) (fun r hr => sml_r hsr hr) (by omega) (fun x hx => sml_i hsr hx)
    have HsB : Hid (Sml (.mk m.t m.n m.a m.b (m.l ++ [[], [], []]) m.i)) := .mk (by simp; omega) (fun r hr => by
      rcases List.mem_append.1 hr with h | h
      · exact sml_r hsr h
      · simp at h; subst h; simp) (by omega) (fun x hx => sml_i hsr hx)
    have HsC : Hid (Sml (.mk m.t m.n m.a m.b m.l (m.i ++ [.mk 0 1 1 0 [] []]))) := .mk (by omega) (fun r hr => sml_r hsr hr) (by simp; omega) (fun x hx => by
      rcases List.mem_append.1 hx with h | h
      · exact sml_i hsr h
      · simp at h; subst h; exact sml_plain ..)
    have hDm : chk (.mk m.t m.n m.a m.b m.l m.i) = 0 := by rw [mat_eta']; exact HD.out
    have Hta : Hid (tag < 0 ∨ 9 < tag → chk (.mk tag m.n m.a m.b m.l m.i) ≠ 0) := fun h => tag_off h
    have hbb := list_more (x := [[], [], []]) hDm (by simp)
    have hcc := inner_more hDm
    obtain ⟨XB, hXB⟩ : ∃ X, chk (.mk m.t m.n m.a m.b (m.l ++ [[], [], []]) m.i) = X := ⟨_, rfl⟩
    obtain ⟨XC, hXC⟩ : ∃ X, chk (.mk m.t m.n m.a m.b m.l (m.i ++ [.mk 0 1 1 0 [] []])) = X := ⟨_, rfl⟩
    have HXB := Lib.hid hXB
    have HXC := Lib.hid hXC
    rw [hXB] at hbb
    rw [hXC] at hcc
    have hb0 : (XB != 0) = true := by simpa using hbb
    have hc0 : (XC != 0) = true := by simpa using hcc
    have c5 := HC8.out.cell 5
    have cf := HC8.out.frozen 5
    clear hown8 hgr8 hW9 hs9 hS' hfl' hsr hDm hbb hcc hXB hXC HA8 HB8 HC8 HownR8 Hold8 HS8 Hown8 HownR9 Hown9 Hold9 HS9 Hr9 Hm9 Hg9 HA7 HB7 HC7 Hown7 HownR7 Hcell7 Hold6 HS6 HW7
    by_cases t0 : tag < 0
    · have t0_ := t0
      have K := HA9.out
      have k0 := K.cell 0
      have k1 := K.cell 1
      have k2 := K.cell 2
      have k3 := K.cell 3
      have k4 := K.cell 4
      have k5 := K.cell 5
      rw [HW9.out] at k0 k1 k2 k3 k4 k5
      clear K
      go_wp2_with fail
      rw [← HW9.out]
      clear k0 k1 k2 k3 k4 k5
      refine (check_any E (.mk tag m.n m.a m.b m.l m.i) _ _ VA.out HsA.out HE9.out).mono ?_
      rintro e w10 ⟨rfl, hb10⟩
      have hta := Hta.out (by omega)
      have htb : (chk (.mk tag m.n m.a m.b m.l m.i) == 0) = false := by simpa using hta
      have Hb10 := Lib.hid (below_next Hb9.out (Nat.le_refl _) hb10)
      have HE10 := Lib.hid (HE9.out.up hb10)
      have VB10 := Lib.hid (VB.out.up hb10)
      have VC10 := Lib.hid (VC.out.up hb10)
      have HB10 := Lib.hid (HB9.out.below hb10 HB9.out.lt)
      have HC10 := Lib.hid (HC9.out.below hb10 HC9.out.lt)
      generalize chk (.mk tag m.n m.a m.b m.l m.i) = D0 at *
      clear hb10 hta Hta
      have K := HB10.out
      have k0 := K.cell 0
      have k1 := K.cell 1
      have k2 := K.cell 2
      have k3 := K.cell 3
      have k4 := K.cell 4
      have k5 := K.cell 5
      clear K
      go_wp2_with fail
      clear k0 k1 k2 k3 k4 k5
      refine (check_any E (.mk m.t m.n m.a m.b (m.l ++ [[], [], []]) m.i) _ _ VB10.out HsB.out HE10.out).mono ?_
      rintro e w11 ⟨rfl, hb11⟩
      rw [HXB.out]
      have Hb11 := Lib.hid (below_next Hb10.out (Nat.le_refl _) hb11)
      have HE11 := Lib.hid (HE10.out.up hb11)
      have VC11 := Lib.hid (VC10.out.up hb11)
      have HC11 := Lib.hid (HC10.out.below hb11 HC10.out.lt)
      clear hb11
      have K := HC11.out
      have k0 := K.cell 0
      have k1 := K.cell 1
      have k2 := K.cell 2
      have k3 := K.cell 3
      have k4 := K.cell 4
      have k5 := K.cell 5
      clear K
      go_wp2_with fail
      refine (check_any E (.mk m.t m.n m.a m.b m.l (m.i ++ [.mk 0 1 1 0 [] []])) _ _ VC11.out HsC.out HE11.out).mono ?_
      rintro e w12 ⟨rfl, hb12⟩
      rw [HXC.out]
      have Hb12 := Lib.hid (below_next Hb11.out (Nat.le_refl _) hb12)
      clear hb12 k0 k1 k2 k3 k4 k5
      go_wp2
      go_ret
      exact ⟨rfl, Hb12.out⟩
    · by_cases t9 : 9 < tag
      · have t9_ := t9
        have K := HA9.out
        have k0 := K.cell 0
        have k1 := K.cell 1
        have k2 := K.cell 2
        have k3 := K.cell 3
        have k4 := K.cell 4
        have k5 := K.cell 5
        rw [HW9.out] at k0 k1 k2 k3 k4 k5
        clear K
        go_wp2_with fail
        rw [← HW9.out]
        clear k0 k1 k2 k3 k4 k5
        refine (check_any E (.mk tag m.n m.a m.b m.l m.i) _ _ VA.out HsA.out HE9.out).mono ?_
        rintro e w10 ⟨rfl, hb10⟩
        have hta := Hta.out (by omega)
        have htb : (chk (.mk tag m.n m.a m.b m.l m.i) == 0) = false := by simpa using hta
        have Hb10 := Lib.hid (below_next Hb9.out (Nat.le_refl _) hb10)
        have HE10 := Lib.hid (HE9.out.up hb10)
        have VB10 := Lib.hid (VB.out.up hb10)
        have VC10 := Lib.hid (VC.out.up hb10)
        have HB10 := Lib.hid (HB9.out.below hb10 HB9.out.lt)
        have HC10 := Lib.hid (HC9.out.below hb10 HC9.out.lt)
        generalize chk (.mk tag m.n m.a m.b m.l m.i) = D0 at *
        clear hb10 hta Hta
        have K := HB10.out
        have k0 := K.cell 0
        have k1 := K.cell 1
        have k2 := K.cell 2
        have k3 := K.cell 3
        have k4 := K.cell 4
        have k5 := K.cell 5
        clear K
        go_wp2_with fail
        clear k0 k1 k2 k3 k4 k5
        refine (check_any E (.mk m.t m.n m.a m.b (m.l ++ [[], [], []]) m.i) _ _ VB10.out HsB.out HE10.out).mono ?_
        rintro e w11 ⟨rfl, hb11⟩
        rw [HXB.out]
        have Hb11 := Lib.hid (below_next Hb10.out (Nat.le_refl _) hb11)
        have HE11 := Lib.hid (HE10.out.up hb11)
        have VC11 := Lib.hid (VC10.out.up hb11)
        have HC11 := Lib.hid (HC10.out.below hb11 HC10.out.lt)
        clear hb11
        have K := HC11.out
        have k0 := K.cell 0
        have k1 := K.cell 1
        have k2 := K.cell 2
        have k3 := K.cell 3
        have k4 := K.cell 4
        have k5 := K.cell 5
        clear K
        go_wp2_with fail
        refine (check_any E (.mk m.t m.n m.a m.b m.l (m.i ++ [.mk 0 1 1 0 [] []])) _ _ VC11.out HsC.out HE11.out).mono ?_
        rintro e w12 ⟨rfl, hb12⟩
        rw [HXC.out]
        have Hb12 := Lib.hid (below_next Hb11.out (Nat.le_refl _) hb12)
        clear hb12 k0 k1 k2 k3 k4 k5
        go_wp2
        go_ret
        exact ⟨rfl, Hb12.out⟩
      · have t9' : tag ≤ 9 := by omega
        have t0' : 0 ≤ tag := by omega
        have HE10 := HE9
        have VB10 := VB
        have VC10 := VC
        have HC10 := HC9
        have Hb10 := Hb9
        have K := HB9.out
        have k0 := K.cell 0
        have k1 := K.cell 1
        have k2 := K.cell 2
        have k3 := K.cell 3
        have k4 := K.cell 4
        have k5 := K.cell 5
        rw [HW9.out] at k0 k1 k2 k3 k4 k5
        clear K
        go_wp2_with fail
        rw [← HW9.out]
        clear k0 k1 k2 k3 k4 k5
        refine (check_any E (.mk m.t m.n m.a m.b (m.l ++ [[], [], []]) m.i) _ _ VB10.out HsB.out HE10.out).mono ?_
        rintro e w11 ⟨rfl, hb11⟩
        rw [HXB.out]
        have Hb11 := Lib.hid (below_next Hb10.out (Nat.le_refl _) hb11)
        have HE11 := Lib.hid (HE10.out.up hb11)
        have VC11 := Lib.hid (VC10.out.up hb11)
        have HC11 := Lib.hid (HC10.out.below hb11 HC10.out.lt)
        clear hb11
        have K := HC11.out
        have k0 := K.cell 0
        have k1 := K.cell 1
        have k2 := K.cell 2
        have k3 := K.cell 3
        have k4 := K.cell 4
        have k5 := K.cell 5
        clear K
        go_wp2_with fail
        refine (check_any E (.mk m.t m.n m.a m.b m.l (m.i ++ [.mk 0 1 1 0 [] []])) _ _ VC11.out HsC.out HE11.out).mono ?_
        rintro e w12 ⟨rfl, hb12⟩
        rw [HXC.out]
        have Hb12 := Lib.hid (below_next Hb11.out (Nat.le_refl _) hb12)
        clear hb12 k0 k1 k2 k3 k4 k5
        go_wp2
        go_ret
        exact ⟨rfl, Hb12.out⟩

theorem tags_any (E : Nat → Addr) (m : Mat) (v : Value) (tag : Int) (w : World) (hv : MatV w w.heap.size v m) (hl : Lim m) (hE : Env E w) : Calls Tryd.prog 7 #[v, .int .i64 tag] w (Truly w) := by
  rcases hsm : smlB m with _ | _
  · exact tags_1 E m v tag w hv hl hE hsm
  · by_cases hD : chk m = 0
    · exact tags_main E m v tag w hv hl hE hsm hD
    · exact tags_2 E m v tag w hv hl hE hsm hD

end Wp
end Go.Proofs.YtgipkpfogfcebaaDoor
