/- The law that all is as the document tells it, walked: it answers true. -/
import Derived.Test.YtmnhpccdhefddaaDoorLFixed
namespace Go.Proofs.YtmnhpccdhefddaaDoor
open Go.RowKit
namespace Wp

theorem basisI_length (p rows : Int) (cols : List (List Int)) : (basisI p rows cols).length ≤ 1048576 := by
  unfold basisI
  split
  · rename_i h
    obtain ⟨h1, R, _, _, h3, h4⟩ := elimB_in h
    rw [placesI_length]
    have := linesI_length h1 h4
    omega
  · simp
theorem refrankI_is (p rows : Int) (v : Value) (cols : List (List Int)) (x : Int) (h : rankI p rows cols = x) (w : World) (hr : Rows2 w w.heap.size v cols) :
    Calls Tryd.prog 15 #[.int .i64 p, .int .i64 rows, v] w (Gets w (.int .i64 x)) := by
  subst h
  exact refrankI_any p rows v cols w hr
theorem refbasisI_is (p rows : Int) (v : Value) (cols : List (List Int)) (x : List Int) (h : basisI p rows cols = x) (w : World) (hr : Rows2 w w.heap.size v cols) :
    Calls Tryd.prog 13 #[.int .i64 p, .int .i64 rows, v] w (Gives w x) := by
  subst h
  exact refbasisI_any p rows v cols w hr

set_option maxHeartbeats 8000000 in
set_option maxRecDepth 100000 in
theorem tells_big (p rows : Int) (v : Value) (cols : List (List Int)) (w : World) (hM : Met w) (hr : Rows2 w w.heap.size v cols) (h : 20 < rows ∨ 20 < (cols.length : Int)) :
    Calls Tryd.prog 3 #[.int .i64 p, .int .i64 rows, v] w (Truly w) := by
  have HM0 := Lib.hid hM
  have HB0 := Lib.hid (Below.refl w.heap.size w)
  obtain ⟨A, c, rfl, _⟩ := hr
  clear hM
  by_cases h1 : 20 < rows
  · clear h
    go_enter Tryd.func3, Tryd.ntmps3
    go_wp2_with fail
    refine (fixed_any _ (HM0.out.up HB0.out)).mono ?_
    rintro e w1 ⟨rfl, hb2⟩
    have HB3 := Lib.hid (below_next HB0.out (Nat.le_refl _) hb2)
    clear hb2 HB0
    go_wp2
    go_ret
    exact ⟨rfl, HB3.out⟩
  have h2 : 20 < (cols.length : Int) := h.resolve_left h1
  clear h
  go_enter Tryd.func3, Tryd.ntmps3
  go_wp2_with fail
  refine (fixed_any _ (HM0.out.up HB0.out)).mono ?_
  rintro e w1 ⟨rfl, hb2⟩
  have HB3 := Lib.hid (below_next HB0.out (Nat.le_refl _) hb2)
  clear hb2 HB0
  go_wp2
  go_ret
  exact ⟨rfl, HB3.out⟩

set_option maxHeartbeats 8000000 in
set_option maxRecDepth 100000 in
theorem tells_any (p rows : Int) (v : Value) (cols : List (List Int)) (w : World) (hM : Met w) (hr : Rows2 w w.heap.size v cols) :
    Calls Tryd.prog 3 #[.int .i64 p, .int .i64 rows, v] w (Truly w) := by
  by_cases h : 20 < rows ∨ 20 < (cols.length : Int)
  · exact tells_big p rows v cols w hM hr h
  have h1 : ¬ 20 < rows := fun e => h (.inl e)
  have h2 : ¬ 20 < (cols.length : Int) := fun e => h (.inr e)
  clear h
  have HM0 := Lib.hid hM
  have HC := Lib.hid hr
  have HB0 := Lib.hid (Below.refl w.heap.size w)
  obtain ⟨A, c, rfl, _⟩ := hr
  clear hM
  have HL := Lib.hid (basisI_length p rows cols)
  obtain ⟨b, hb⟩ : ∃ b, elimB p rows cols = b := ⟨_, rfl⟩
  obtain ⟨x, hx⟩ : ∃ x, rankI p rows cols = x := ⟨_, rfl⟩
  have Hb := Lib.hid hb
  have Hx := Lib.hid hx
  clear hb hx
  go_enter Tryd.func3, Tryd.ntmps3
  go_wp2_with fail
  refine (fixed_any _ (HM0.out.up HB0.out)).mono ?_
  rintro e w1 ⟨rfl, hb2⟩
  have cols_3 := Lib.hid (HC.out.up hb2)
  clear HC
  have HB4 := Lib.hid (below_next HB0.out (Nat.le_refl _) hb2)
  clear hb2 HB0
  go_wp2_with fail
  refine (may_is p rows _ cols b Hb.out _ (HM0.out.up HB4.out) cols_3.out).mono ?_
  rintro e w5 ⟨rfl, hb6⟩
  have cols_7 := Lib.hid (cols_3.out.up hb6)
  clear cols_3
  have HB8 := Lib.hid (below_next HB4.out (Nat.le_refl _) hb6)
  clear hb6 HB4
  go_wp2_with fail
  refine (refmayE_is p rows _ cols b Hb.out _ cols_7.out).mono ?_
  rintro e w9 ⟨rfl, hb10⟩
  have cols_11 := Lib.hid (cols_7.out.up hb10)
  clear cols_7
  have HB12 := Lib.hid (below_next HB8.out (Nat.le_refl _) hb10)
  clear hb10 HB8
  go_wp2_with fail
  refine (basis_any p rows _ cols _ (HM0.out.up HB12.out) cols_11.out).mono ?_
  rintro e w15 ⟨v13, rfl, r14, hb16⟩
  have cols_17 := Lib.hid (cols_11.out.up hb16)
  clear cols_11
  have HB18 := Lib.hid (below_next HB12.out (Nat.le_refl _) hb16)
  clear hb16 HB12
  have b1_19 := Lib.hid (r14)
  clear r14
  go_wp2_with fail
  refine (refbasisI_any p rows _ cols _ cols_17.out).mono ?_
  rintro e w22 ⟨v20, rfl, r21, hb23⟩
  have cols_24 := Lib.hid (cols_17.out.up hb23)
  clear cols_17
  have b1_25 := Lib.hid (b1_19.out.up hb23)
  clear b1_19
  have HB26 := Lib.hid (below_next HB18.out (Nat.le_refl _) hb23)
  clear hb23 HB18
  have b2_27 := Lib.hid (r21)
  clear r21
  go_wp2_with fail
  refine (same_is _ _ _ _ _ b1_25.out b2_27.out HL.out HL.out (same_true rfl)).mono ?_
  rintro e w28 ⟨rfl, hb29⟩
  have cols_30 := Lib.hid (cols_24.out.up hb29)
  clear cols_24
  have b1_31 := Lib.hid (b1_25.out.up hb29)
  clear b1_25
  have b2_32 := Lib.hid (b2_27.out.up hb29)
  clear b2_27
  have HB33 := Lib.hid (below_next HB26.out (Nat.le_refl _) hb29)
  clear hb29 HB26
  clear b1_31
  clear b2_32
  go_wp2_with fail
  refine (rank_is p rows _ cols x Hx.out _ (HM0.out.up HB33.out) cols_30.out).mono ?_
  rintro e w34 ⟨rfl, hb35⟩
  have cols_36 := Lib.hid (cols_30.out.up hb35)
  clear cols_30
  have HB37 := Lib.hid (below_next HB33.out (Nat.le_refl _) hb35)
  clear hb35 HB33
  go_wp2_with fail
  refine (refrankI_is p rows _ cols x Hx.out _ cols_36.out).mono ?_
  rintro e w38 ⟨rfl, hb39⟩
  have cols_40 := Lib.hid (cols_36.out.up hb39)
  clear cols_36
  have HB41 := Lib.hid (below_next HB37.out (Nat.le_refl _) hb39)
  clear hb39 HB37
  go_wp2
  go_ret
  exact ⟨rfl, HB41.out⟩

end Wp
end Go.Proofs.YtmnhpccdhefddaaDoor
