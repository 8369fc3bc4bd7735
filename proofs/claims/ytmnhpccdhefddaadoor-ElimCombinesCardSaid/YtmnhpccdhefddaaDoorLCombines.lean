/- A goal is told as a combination just if it adds nothing to the rank, and by numbers that come to it: the law, walked. -/
import Derived.Test.YtmnhpccdhefddaaDoorLApp
namespace Go.Proofs.YtmnhpccdhefddaaDoor
open Go.RowKit
namespace Wp

variable {p : Int} {R : Nat}
theorem bas_prefix {cols : List (List Int)} {i : Nat} : ∀ {n : Nat}, i ≤ n → ∃ tl, basN p R cols n = basN p R cols i ++ tl
  | 0, h => ⟨[], by obtain rfl : i = 0 := by omega
                    simp⟩
  | n + 1, h => by
    by_cases e : i = n + 1
    · subst e
      exact ⟨[], by simp⟩
    · obtain ⟨tl, ht⟩ := bas_prefix (cols := cols) (show i ≤ n by omega)
      by_cases hin : InB p R cols n
      · exact ⟨tl ++ [n], by rw [basN_in hin, ht, List.append_assoc]⟩
      · exact ⟨tl, by rw [basN_out hin, ht]⟩
theorem bas_le {cols : List (List Int)} {i n : Nat} (h : i ≤ n) : (basN p R cols i).length ≤ (basN p R cols n).length := by
  obtain ⟨tl, ht⟩ := bas_prefix (p := p) (R := R) (cols := cols) h
  rw [ht, List.length_append]
  omega
theorem bas_hit {cols : List (List Int)} {i n : Nat} (h : i < n) (hin : InB p R cols i) : (basN p R cols i).length < (basN p R cols n).length ∧ (basN p R cols n).getD (basN p R cols i).length 0 = i := by
  obtain ⟨tl, ht⟩ := bas_prefix (p := p) (R := R) (cols := cols) (show i + 1 ≤ n by omega)
  rw [basN_in hin] at ht
  rw [ht]
  simp [List.getD]
theorem bas_miss {cols : List (List Int)} {i n a : Nat} (hin : ¬ InB p R cols i) (ha : a < (basN p R cols n).length) : (basN p R cols n).getD a 0 ≠ i := by
  intro e
  have : i ∈ basN p R cols n := by
    rw [← e]
    simp [List.getD, ha]
  exact hin (basN_mem.1 this).2
theorem cast_getD {l : List Nat} {a : Nat} : (l.map (fun (i : Nat) => (i : Int))).getD a 0 = ((l.getD a 0 : Nat) : Int) := by
  by_cases h : a < l.length
  · simp [List.getD, h]
  · simp [List.getD, List.getElem?_eq_none (show l.length ≤ a by omega)]
theorem colsIn_snoc {cols : List (List Int)} {goal : List Int} (h : ColsIn p R (cols ++ [goal])) : ColsIn p R cols ∧ InR p R goal := by
  refine ⟨fun i hi => ?_, ?_⟩
  · have := h i (by simp; omega)
    rwa [show (cols ++ [goal]).getD i [] = cols.getD i [] by simp [List.getD, List.getElem?_append_left hi]] at this
  · have := h cols.length (by simp)
    rwa [show (cols ++ [goal]).getD cols.length [] = goal by simp [List.getD]] at this
theorem rankI_more (h1 : prB p = true) (hR : R ≤ 64) {cols : List (List Int)} (hn : cols.length ≤ 63) {goal : List Int} (h : ColsIn p R (cols ++ [goal])) : rankI p R (cols ++ [goal]) = rankI p R cols ↔ InSp p R (cols.map vec) (vec goal) := by
  rw [rankI_rk h1 hR (by simp; omega) h, rankI_rk h1 hR (by omega) (colsIn_snoc h).1, List.map_append]
  show ((rk p R (cols.map vec ++ [vec goal]) : Nat) : Int) = _ ↔ _
  rw [← rk_goal (fld_ok h1) (cols.map vec) (vec goal)]
  omega

set_option maxHeartbeats 8000000 in
set_option maxRecDepth 100000 in
theorem comb_out (p : Int) (v : Value) (cols : List (List Int)) (vg : Value) (goal : List Int) (w : World) (hM : Met w) (hr : Rows2 w w.heap.size v cols) (hg : Row w w.heap.size vg goal) (h : 20 < (goal.length : Int) ∨ 20 < (cols.length : Int) ∨ elimB p (goal.length : Nat) (cols ++ [goal]) = false) :
    Calls Tryd.prog 4 #[.int .i64 p, v, vg] w (Truly w) := by
  have HM0 := Lib.hid hM
  have HC := Lib.hid hr
  have HG := Lib.hid hg
  have HB0 := Lib.hid (Below.refl w.heap.size w)
  obtain ⟨A, c, rfl, _⟩ := hr
  obtain ⟨Ag, cg, rfl, _⟩ := hg
  clear hM
  by_cases g1 : 20 < (goal.length : Int)
  · clear h
    go_enter Tryd.func4, Tryd.ntmps4
    go_wp2_with fail
    refine (fixed_any _ (HM0.out.up HB0.out)).mono ?_
    rintro e w1 ⟨rfl, hb2⟩
    have HB3 := Lib.hid (below_next HB0.out (Nat.le_refl _) hb2)
    clear hb2 HB0
    go_wp2_with fail
    refine (fixed_any _ (HM0.out.up HB3.out)).mono ?_
    rintro e w4 ⟨rfl, hb5⟩
    have HB6 := Lib.hid (below_next HB3.out (Nat.le_refl _) hb5)
    clear hb5 HB3
    go_wp2
    go_ret
    exact ⟨rfl, HB6.out⟩
  by_cases g2 : 20 < (cols.length : Int)
  · clear h
    go_enter Tryd.func4, Tryd.ntmps4
    go_wp2_with fail
    refine (fixed_any _ (HM0.out.up HB0.out)).mono ?_
    rintro e w1 ⟨rfl, hb2⟩
    have HB3 := Lib.hid (below_next HB0.out (Nat.le_refl _) hb2)
    clear hb2 HB0
    go_wp2_with fail
    refine (fixed_any _ (HM0.out.up HB3.out)).mono ?_
    rintro e w4 ⟨rfl, hb5⟩
    have HB6 := Lib.hid (below_next HB3.out (Nat.le_refl _) hb5)
    clear hb5 HB3
    go_wp2
    go_ret
    exact ⟨rfl, HB6.out⟩
  have Hb := Lib.hid ((h.resolve_left g1).resolve_left g2)
  clear h
  go_enter Tryd.func4, Tryd.ntmps4
  go_wp2_with fail
  refine (fixed_any _ (HM0.out.up HB0.out)).mono ?_
  rintro e w1 ⟨rfl, hb2⟩
  have HB3 := Lib.hid (below_next HB0.out (Nat.le_refl _) hb2)
  clear hb2 HB0
  have HA0 := Lib.hid (OwnR.new w1 w1.heap.size (w1.heap.size) (Nat.le_refl _) rfl)
  have HZ0 := Lib.hid (HC.out.up HB3.out)
  have HY0 := Lib.hid (HG.out.up HB3.out)
  have HD0 := Lib.hid ((Below.refl w1.heap.size w1).alloc (Nat.le_refl _) (.cells #[] 26))
  go_wp2_with (at_builtin; go_loud (refine wpList_append_rows (by first | rfl | (simp [Region.wanted, yielded, go_sem]; omega)) _ _ rfl _ _ _ [] cols rfl rfl HA0.out (ListO.of_rows (HZ0.out.below HD0.out) HD0.out.size HA0.out.lt) HD0.out.size (by first | omega | (simp; omega)) ?_))
  intro v1 W1 ho hg
  have HA1 := Lib.hid ho
  have HD1 := Lib.hid (HD0.out.grown hg HD0.out.size HA0.out.lt)
  clear ho hg HA0 HD0
  have HO1 := Lib.hid (ListO.one (W := W1) W1.heap.size rfl (RowO.of_row (HY0.out.below HD1.out) HD1.out.size HA1.out.lt))
  have HA2 := Lib.hid (HA1.out.upA (.cells #[.slice Ag goal.length cg] 26))
  have HD2 := Lib.hid (HD1.out.alloc HD1.out.size (.cells #[.slice Ag goal.length cg] 26))
  clear HA1 HD1
  go_wp2_with (at_builtin; go_loud (refine wpList_append_rows (by first | rfl | (simp [Region.wanted, yielded, go_sem]; omega)) _ _ rfl _ _ _ _ [goal] rfl rfl HA2.out HO1.out HD2.out.size (by first | omega | (simp; omega)) ?_))
  intro v3 W3 ho hg
  have HXa := Lib.hid (OwnR.rows ho)
  have HD3 := Lib.hid (HD2.out.grown hg HD2.out.size HA2.out.lt)
  have HB4 := Lib.hid (below_next HB3.out (Nat.le_refl _) HD3.out)
  clear ho hg HA2 HD2 HD3 HO1 HZ0 HY0
  generalize W3 = Wa at *
  go_wp2_with fail
  refine (refmayE_is p _ _ (cols ++ [goal]) false Hb.out _ HXa.out).mono ?_
  rintro e w5 ⟨rfl, hb6⟩
  have ext_7 := Lib.hid (HXa.out.up hb6)
  clear HXa
  have HB8 := Lib.hid (below_next HB4.out (Nat.le_refl _) hb6)
  clear hb6 HB4
  clear ext_7
  go_wp2_with fail
  refine (fixed_any _ (HM0.out.up HB8.out)).mono ?_
  rintro e w9 ⟨rfl, hb10⟩
  have HB11 := Lib.hid (below_next HB8.out (Nat.le_refl _) hb10)
  clear hb10 HB8
  go_wp2
  go_ret
  exact ⟨rfl, HB11.out⟩

set_option maxHeartbeats 8000000 in
set_option maxRecDepth 100000 in
theorem comb_in (p : Int) (v : Value) (cols : List (List Int)) (vg : Value) (goal : List Int) (w : World) (hM : Met w) (hr : Rows2 w w.heap.size v cols) (hg : Row w w.heap.size vg goal) (g1 : ¬ 20 < (goal.length : Int)) (g2 : ¬ 20 < (cols.length : Int)) (hb : elimB p (goal.length : Nat) (cols ++ [goal]) = true) :
    Calls Tryd.prog 4 #[.int .i64 p, v, vg] w (Truly w) := by
  have Hb := Lib.hid hb
  obtain ⟨hpr, R, hRR, hR64, hn64, hci⟩ := elimB_in hb
  obtain rfl : goal.length = R := by omega
  obtain ⟨hp2, hp31, _⟩ := prB_iff.1 hpr
  have HP := Lib.hid hpr
  have HI := Lib.hid (colsIn_snoc hci)
  have HGL : Hid (goal.length ≤ 1048576) := by show _ ≤ _; omega
  have HMo := Lib.hid (rankI_more hpr (by omega) (by omega) hci)
  have HCo := Lib.hid (comboI_in hpr (by omega) (by omega) HI.out.1 HI.out.2)
  have HM0 := Lib.hid hM
  have HC := Lib.hid hr
  have HG := Lib.hid hg
  have HB0 := Lib.hid (Below.refl w.heap.size w)
  obtain ⟨A, c, rfl, _⟩ := hr
  obtain ⟨Ag, cg, rfl, _⟩ := hg
  obtain ⟨x1, hx1⟩ : ∃ x, rankI p (goal.length : Nat) (cols ++ [goal]) = x := ⟨_, rfl⟩
  obtain ⟨x2, hx2⟩ : ∃ x, rankI p (goal.length : Nat) cols = x := ⟨_, rfl⟩
  have HX1 := Lib.hid hx1
  have HX2 := Lib.hid hx2
  have HMo' : Hid (x1 = x2 ↔ InSp p goal.length (cols.map vec) (vec goal)) := by rw [← hx1, ← hx2]; exact HMo.out
  clear hM hb hpr hci hRR HMo hx1 hx2 hn64
  go_enter Tryd.func4, Tryd.ntmps4
  go_wp2_with fail
  refine (fixed_any _ (HM0.out.up HB0.out)).mono ?_
  rintro e w1 ⟨rfl, hb2⟩
  have HB3 := Lib.hid (below_next HB0.out (Nat.le_refl _) hb2)
  clear hb2 HB0
  have HA0 := Lib.hid (OwnR.new w1 w1.heap.size (w1.heap.size) (Nat.le_refl _) rfl)
  have HZ0 := Lib.hid (HC.out.up HB3.out)
  have HY0 := Lib.hid (HG.out.up HB3.out)
  have HD0 := Lib.hid ((Below.refl w1.heap.size w1).alloc (Nat.le_refl _) (.cells #[] 26))
  go_wp2_with (at_builtin; go_loud (refine wpList_append_rows (by first | rfl | (simp [Region.wanted, yielded, go_sem]; omega)) _ _ rfl _ _ _ [] cols rfl rfl HA0.out (ListO.of_rows (HZ0.out.below HD0.out) HD0.out.size HA0.out.lt) HD0.out.size (by first | omega | (simp; omega)) ?_))
  intro v1 W1 ho hg
  have HA1 := Lib.hid ho
  have HD1 := Lib.hid (HD0.out.grown hg HD0.out.size HA0.out.lt)
  clear ho hg HA0 HD0
  have HO1 := Lib.hid (ListO.one (W := W1) W1.heap.size rfl (RowO.of_row (HY0.out.below HD1.out) HD1.out.size HA1.out.lt))
  have HA2 := Lib.hid (HA1.out.upA (.cells #[.slice Ag goal.length cg] 26))
  have HD2 := Lib.hid (HD1.out.alloc HD1.out.size (.cells #[.slice Ag goal.length cg] 26))
  clear HA1 HD1
  go_wp2_with (at_builtin; go_loud (refine wpList_append_rows (by first | rfl | (simp [Region.wanted, yielded, go_sem]; omega)) _ _ rfl _ _ _ _ [goal] rfl rfl HA2.out HO1.out HD2.out.size (by first | omega | (simp; omega)) ?_))
  intro v3 W3 ho hg
  have HXa := Lib.hid (OwnR.rows ho)
  have HD3 := Lib.hid (HD2.out.grown hg HD2.out.size HA2.out.lt)
  have HB4 := Lib.hid (below_next HB3.out (Nat.le_refl _) HD3.out)
  clear ho hg HA2 HD2 HD3 HO1 HZ0 HY0
  generalize W3 = Wa at *
  go_wp2_with fail
  refine (refmayE_is p _ _ (cols ++ [goal]) true Hb.out _ HXa.out).mono ?_
  rintro e w5 ⟨rfl, hb6⟩
  have ext_7 := Lib.hid (HXa.out.up hb6)
  clear HXa
  have HB8 := Lib.hid (below_next HB4.out (Nat.le_refl _) hb6)
  clear hb6 HB4
  clear ext_7
  rcases HCo.out with ⟨hc, hns⟩ | ⟨T, hc, hs, hT⟩
  · have Hc := Lib.hid hc
    have hne : ¬ x1 = x2 := fun e => hns (HMo'.out.1 e)
    clear hc hns HCo
    go_wp2_with fail
    refine (combo_is p _ _ _ cols goal none Hc.out _ (HM0.out.up HB8.out) (HC.out.up HB8.out) (HG.out.up HB8.out)).mono ?_
    rintro e w11 ⟨v9, rfl, r10, hb12⟩
    have HB13 := Lib.hid (below_next HB8.out (Nat.le_refl _) hb12)
    clear hb12 HB8
    have c_14 := Lib.hid (r10)
    obtain ⟨A_c, c_c, rfl, -⟩ := r10
    have HA0 := Lib.hid (OwnR.new w11 w11.heap.size (w11.heap.size) (Nat.le_refl _) rfl)
    have HZ0 := Lib.hid (HC.out.up HB13.out)
    have HY0 := Lib.hid (HG.out.up HB13.out)
    have HD0 := Lib.hid ((Below.refl w11.heap.size w11).alloc (Nat.le_refl _) (.cells #[] 26))
    have HLc := c_14
    go_wp2_with (at_builtin; go_loud (refine wpList_append_rows (by first | rfl | (simp [Region.wanted, yielded, go_sem]; omega)) _ _ rfl _ _ _ [] cols rfl rfl HA0.out (ListO.of_rows (HZ0.out.below HD0.out) HD0.out.size HA0.out.lt) HD0.out.size (by first | omega | (simp; omega)) ?_))
    intro v1 W1 ho hg
    have HA1 := Lib.hid ho
    have HD1 := Lib.hid (HD0.out.grown hg HD0.out.size HA0.out.lt)
    clear ho hg HA0 HD0
    have HO1 := Lib.hid (ListO.one (W := W1) W1.heap.size rfl (RowO.of_row (HY0.out.below HD1.out) HD1.out.size HA1.out.lt))
    have HA2 := Lib.hid (HA1.out.upA (.cells #[.slice Ag goal.length cg] 26))
    have HD2 := Lib.hid (HD1.out.alloc HD1.out.size (.cells #[.slice Ag goal.length cg] 26))
    clear HA1 HD1
    go_wp2_with (at_builtin; go_loud (refine wpList_append_rows (by first | rfl | (simp [Region.wanted, yielded, go_sem]; omega)) _ _ rfl _ _ _ _ [goal] rfl rfl HA2.out HO1.out HD2.out.size (by first | omega | (simp; omega)) ?_))
    intro v3 W3 ho hg
    have HXb := Lib.hid (OwnR.rows ho)
    have HD3 := Lib.hid (HD2.out.grown hg HD2.out.size HA2.out.lt)
    have HB15 := Lib.hid (below_next HB13.out (Nat.le_refl _) HD3.out)
    have c_16 := Lib.hid (HLc.out.up HD3.out)
    clear HLc
    clear ho hg HA2 HD2 HD3 HO1 HZ0 HY0
    generalize W3 = Wb at *
    go_wp2_with fail
    refine (refrankI_is p _ _ (cols ++ [goal]) x1 HX1.out _ HXb.out).mono ?_
    rintro e w17 ⟨rfl, hb18⟩
    have c_19 := Lib.hid (c_16.out.up hb18)
    clear c_16
    have ext_20 := Lib.hid (HXb.out.up hb18)
    clear HXb
    have HB21 := Lib.hid (below_next HB15.out (Nat.le_refl _) hb18)
    clear hb18 HB15
    clear ext_20
    go_wp2_with fail
    refine (refrankI_is p _ _ cols x2 HX2.out _ (HC.out.up HB21.out)).mono ?_
    rintro e w22 ⟨rfl, hb23⟩
    have c_24 := Lib.hid (c_19.out.up hb23)
    clear c_19
    have HB25 := Lib.hid (below_next HB21.out (Nat.le_refl _) hb23)
    clear hb23 HB21
    go_wp2
    go_ret
    exact ⟨rfl, HB25.out⟩
  · have Hc := Lib.hid hc
    obtain rfl : x1 = x2 := HMo'.out.2 hs
    have HT := Lib.hid hT
    have HTl := Lib.hid hT.len
    have HTr : Hid (ModIn p T) := hT.rng
    have HTs := Lib.hid (told_sum (by omega) HI.out.2 hT)
    have HBa := Lib.hid (basisI_in HP.out (by omega) (by omega) HI.out.1)
    have HBl := Lib.hid (basisI_length p (goal.length : Nat) cols)
    clear hc hs hT HCo HMo'
    go_wp2_with fail
    refine (combo_is p _ _ _ cols goal (some T) Hc.out _ (HM0.out.up HB8.out) (HC.out.up HB8.out) (HG.out.up HB8.out)).mono ?_
    rintro e w11 ⟨v9, rfl, r10, hb12⟩
    have HB13 := Lib.hid (below_next HB8.out (Nat.le_refl _) hb12)
    clear hb12 HB8
    have c_14 := Lib.hid (r10)
    clear r10
    have HA0 := Lib.hid (OwnR.new w11 w11.heap.size (w11.heap.size) (Nat.le_refl _) rfl)
    have HZ0 := Lib.hid (HC.out.up HB13.out)
    have HY0 := Lib.hid (HG.out.up HB13.out)
    have HD0 := Lib.hid ((Below.refl w11.heap.size w11).alloc (Nat.le_refl _) (.cells #[] 26))
    have HLc := c_14
    go_wp2_with (at_builtin; go_loud (refine wpList_append_rows (by first | rfl | (simp [Region.wanted, yielded, go_sem]; omega)) _ _ rfl _ _ _ [] cols rfl rfl HA0.out (ListO.of_rows (HZ0.out.below HD0.out) HD0.out.size HA0.out.lt) HD0.out.size (by first | omega | (simp; omega)) ?_))
    intro v1 W1 ho hg
    have HA1 := Lib.hid ho
    have HD1 := Lib.hid (HD0.out.grown hg HD0.out.size HA0.out.lt)
    clear ho hg HA0 HD0
    have HO1 := Lib.hid (ListO.one (W := W1) W1.heap.size rfl (RowO.of_row (HY0.out.below HD1.out) HD1.out.size HA1.out.lt))
    have HA2 := Lib.hid (HA1.out.upA (.cells #[.slice Ag goal.length cg] 26))
    have HD2 := Lib.hid (HD1.out.alloc HD1.out.size (.cells #[.slice Ag goal.length cg] 26))
    clear HA1 HD1
    go_wp2_with (at_builtin; go_loud (refine wpList_append_rows (by first | rfl | (simp [Region.wanted, yielded, go_sem]; omega)) _ _ rfl _ _ _ _ [goal] rfl rfl HA2.out HO1.out HD2.out.size (by first | omega | (simp; omega)) ?_))
    intro v3 W3 ho hg
    have HXb := Lib.hid (OwnR.rows ho)
    have HD3 := Lib.hid (HD2.out.grown hg HD2.out.size HA2.out.lt)
    have HB15 := Lib.hid (below_next HB13.out (Nat.le_refl _) HD3.out)
    have c_16 := Lib.hid (HLc.out.up HD3.out)
    clear HLc
    clear ho hg HA2 HD2 HD3 HO1 HZ0 HY0
    generalize W3 = Wb at *
    go_wp2_with fail
    refine (refrankI_is p _ _ (cols ++ [goal]) x1 HX1.out _ HXb.out).mono ?_
    rintro e w17 ⟨rfl, hb18⟩
    have c_19 := Lib.hid (c_16.out.up hb18)
    clear c_16
    have ext_20 := Lib.hid (HXb.out.up hb18)
    clear HXb
    have HB21 := Lib.hid (below_next HB15.out (Nat.le_refl _) hb18)
    clear hb18 HB15
    clear ext_20
    go_wp2_with fail
    refine (refrankI_is p _ _ cols x1 HX2.out _ (HC.out.up HB21.out)).mono ?_
    rintro e w22 ⟨rfl, hb23⟩
    have c_24 := Lib.hid (c_19.out.up hb23)
    clear c_19
    have HB25 := Lib.hid (below_next HB21.out (Nat.le_refl _) hb23)
    clear hb23 HB21
    go_wp2_with fail
    refine (basis_is p _ _ cols _ HBa.out _ (HM0.out.up HB25.out) (HC.out.up HB25.out)).mono ?_
    rintro e w28 ⟨v26, rfl, r27, hb29⟩
    have c_30 := Lib.hid (c_24.out.up hb29)
    clear c_24
    have HB31 := Lib.hid (below_next HB25.out (Nat.le_refl _) hb29)
    clear hb29 HB25
    have bas_32 := Lib.hid (r27)
    clear r27
    have Hcc := c_30
    have Hbb := bas_32
    have hcr : Row w28 w28.heap.size v9 T := Hcc.out
    have hbr := Hbb.out
    obtain ⟨Ac, cc, hv, _, hcc⟩ := hcr
    rw [HTl.out] at hv hcc
    subst hv
    obtain ⟨Ab, cb, hv, _, hbc⟩ := hbr
    rw [List.length_map] at hv hbc
    obtain ⟨nb, hnb⟩ : ∃ nb, nb = (basN p goal.length cols cols.length).length := ⟨_, rfl⟩
    rw [← hnb] at hv hbc
    subst hv
    have Hccell := Lib.hid hcc
    have Hbcell := Lib.hid hbc
    have Hnb := Lib.hid hnb
    have hnn : (nb : Int) ≤ (cols.length : Int) := by
      have := basN_le (p := p) (R := goal.length) (cols := cols) (k := cols.length)
      omega
    clear hcc hbc hnb
    go_wp2
    go_loopw [12, 13] (fun va vi wr => ∃ i a : Nat, va = .int .i64 a ∧ vi = .int .i64 i ∧ i ≤ cols.length ∧ a = (basN p goal.length cols i).length ∧ wr = w28) (fun _ vi _ => cols.length - (intOf vi).toNat)
    case atStart => exact ⟨0, 0, rfl, rfl, Nat.zero_le _, rfl, rfl⟩
    case round =>
      obtain ⟨i, a, rfl, rfl, hi, ha, rfl⟩ := hrel
      have Ha := Lib.hid ha
      clear ha
      by_cases hlt : i < cols.length
      · have hltI : (i : Int) < (cols.length : Int) := by omega
        obtain ⟨ac, hAc, hacb, gc⟩ := Hccell.out i hlt
        subst hAc
        have htr := HTr.out i
        have Hoff := Lib.hid (HT.out.off i)
        obtain ⟨t, ht⟩ : ∃ t, T.getD i 0 = t := ⟨_, rfl⟩
        rw [ht] at gc htr
        have Htt := Lib.hid ht
        clear ht hacb
        have t1 : ¬ t < 0 := by omega
        have t2 : ¬ p ≤ t := by omega
        by_cases hin : InB p goal.length cols i
        · obtain ⟨h1, h2⟩ := bas_hit hlt hin
          rw [← Ha.out, ← Hnb.out] at h1
          rw [← Ha.out] at h2
          obtain ⟨ab, hAb, habb, gb⟩ := Hbcell.out a h1
          subst hAb
          rw [cast_getD, h2] at gb
          have h1I : (a : Int) < (nb : Int) := by omega
          have hw1 : IntKind.i64.wrap ((a : Int) + 1) = (a : Int) + 1 := by rw [IntKind.wrap_i64]; omega
          have Hin := Lib.hid hin
          clear h2 hin habb
          go_wp2
          go_roundw
          case rel =>
            refine ⟨i + 1, a + 1, by go_num, by go_num, by omega, ?_, by first | rfl | trivial⟩
            rw [basN_in Hin.out, List.length_append, ← Ha.out]
            rfl
          case measure => simp [intOf]; omega
        · have Hin := Lib.hid hin
          obtain rfl : t = 0 := by
            apply Classical.byContradiction
            intro e
            exact hin (basN_mem.1 (Hoff.out (by rw [Htt.out]; exact e))).2
          by_cases h1 : a < nb
          · have h2 := bas_miss (a := a) hin (by rw [← Hnb.out]; exact h1)
            obtain ⟨ab, hAb, habb, gb⟩ := Hbcell.out a h1
            subst hAb
            rw [cast_getD] at gb
            obtain ⟨y, hy⟩ : ∃ y, ((basN p goal.length cols cols.length).getD a 0) = y := ⟨_, rfl⟩
            rw [hy] at gb h2
            have h1I : (a : Int) < (nb : Int) := by omega
            have h2I : ¬ (y : Int) = (i : Int) := by omega
            clear hin habb hy h2
            go_wp2
            go_roundw
            case rel =>
              refine ⟨i + 1, a, by go_num, by go_num, by omega, ?_, by first | rfl | trivial⟩
              rw [basN_out Hin.out, ← Ha.out]
            case measure => simp [intOf]; omega
          · have h1I : ¬ (a : Int) < (nb : Int) := by omega
            clear hin
            go_wp2
            go_roundw
            case rel =>
              refine ⟨i + 1, a, by go_num, by go_num, by omega, ?_, by first | rfl | trivial⟩
              rw [basN_out Hin.out, ← Ha.out]
            case measure => simp [intOf]; omega
      · have hie : i = cols.length := by omega
        subst hie
        have hab : (a : Int) = (nb : Int) := by have := Ha.out; have := Hnb.out; omega
        have Hab := Lib.hid hab
        obtain rfl : a = nb := by omega
        clear hab
        go_wp2_with fail
        refine (refsum_any p goal.length _ _ cols T _ hp2 hp31 (HC.out.up HB31.out) Hcc.out (by omega) (by omega) HI.out.1 (by have := HTl.out; omega) HTr.out).mono ?_
        rintro e w203 ⟨v201, rfl, r202, hb204⟩
        have c_205 := Lib.hid (Hcc.out.up hb204)
        clear Hcc
        have HB206 := Lib.hid (below_next HB31.out (Nat.le_refl _) hb204)
        clear hb204 HB31
        have s_207 := Lib.hid (r202)
        clear r202
        go_wp2_with fail
        refine (same_is _ _ _ goal _ s_207.out (HG.out.up HB206.out) (by rw [HTs.out]; exact HGL.out) HGL.out (same_true HTs.out)).mono ?_
        rintro e w208 ⟨rfl, hb209⟩
        have c_210 := Lib.hid (c_205.out.up hb209)
        clear c_205
        have s_211 := Lib.hid (s_207.out.up hb209)
        clear s_207
        have HB212 := Lib.hid (below_next HB206.out (Nat.le_refl _) hb209)
        clear hb209 HB206
        go_wp2
        go_ret
        exact ⟨rfl, HB212.out⟩

theorem combines_any (p : Int) (v : Value) (cols : List (List Int)) (vg : Value) (goal : List Int) (w : World) (hM : Met w) (hr : Rows2 w w.heap.size v cols) (hg : Row w w.heap.size vg goal) : Calls Tryd.prog 4 #[.int .i64 p, v, vg] w (Truly w) := by
  by_cases g1 : 20 < (goal.length : Int)
  · exact comb_out p v cols vg goal w hM hr hg (.inl g1)
  by_cases g2 : 20 < (cols.length : Int)
  · exact comb_out p v cols vg goal w hM hr hg (.inr (.inl g2))
  rcases hb : elimB p (goal.length : Nat) (cols ++ [goal]) with _ | _
  · exact comb_out p v cols vg goal w hM hr hg (.inr (.inr hb))
  · exact comb_in p v cols vg goal w hM hr hg g1 g2 hb

end Wp
end Go.Proofs.YtmnhpccdhefddaaDoor
