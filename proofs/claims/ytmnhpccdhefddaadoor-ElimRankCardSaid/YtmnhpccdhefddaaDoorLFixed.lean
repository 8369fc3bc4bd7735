/- The calls whose answers the document fixes, walked: they are as it fixes them. -/
import Derived.Test.YtmnhpccdhefddaaDoorLRefSum
import Derived.Test.YtmnhpccdhefddaaDoorLRefB
import Derived.Test.YtmnhpccdhefddaaDoorLCombo
import Derived.Test.YtmnhpccdhefddaaDoorSSame
namespace Go.Proofs.YtmnhpccdhefddaaDoor
open Go.RowKit
namespace Wp

theorem combo_is (p rows : Int) (v vg : Value) (cols : List (List Int)) (goal : List Int) (r : Option (List Int)) (h : comboI p rows cols goal = r) (w : World) (hM : Met w) (hr : Rows2 w w.heap.size v cols) (hg : Row w w.heap.size vg goal) :
    Calls Tryd.prog 16 #[.int .i64 p, .int .i64 rows, v, vg] w (TellsC w r) := by
  subst h
  exact combo_any p rows v vg cols goal w hM hr hg
theorem rank_is (p rows : Int) (v : Value) (cols : List (List Int)) (x : Int) (h : rankI p rows cols = x) (w : World) (hM : Met w) (hr : Rows2 w w.heap.size v cols) :
    Calls Tryd.prog 14 #[.int .i64 p, .int .i64 rows, v] w (Gets w (.int .i64 x)) := by
  subst h
  exact rank_any p rows v cols w hM hr
theorem basis_is (p rows : Int) (v : Value) (cols : List (List Int)) (x : List Int) (h : basisI p rows cols = x) (w : World) (hM : Met w) (hr : Rows2 w w.heap.size v cols) :
    Calls Tryd.prog 12 #[.int .i64 p, .int .i64 rows, v] w (Gives w x) := by
  subst h
  exact basis_any p rows v cols w hM hr
theorem Rows2.nil_ (W : World) (B : Nat) : Rows2 W B (.slice none 0 0) [] := ⟨none, 0, rfl, ⟨Nat.le_refl _, by decide, fun _ => rfl⟩, fun k hk => absurd hk (by simp)⟩
theorem Rows2.upA {W : World} {v : Value} {pp : List (List Int)} (h : Rows2 W W.heap.size v pp) (o : Obj) : Rows2 (W.alloc o) (W.alloc o).heap.size v pp := h.up ((Below.refl _ W).alloc (Nat.le_refl _) o)
theorem Row.at0 (W : World) (n : Nat) (h : W.heap.size = n) : Row (W.alloc (.cells #[] 3)) (W.alloc (.cells #[] 3)).heap.size (.slice (some ⟨n, 0, none⟩) 0 0) [] := by
  subst h
  exact (Row.lit0 W).here
theorem Row.at1 (W : World) (n : Nat) (h : W.heap.size = n) (x : Int) : Row (W.alloc (.cells #[.int .i64 x] 3)) (W.alloc (.cells #[.int .i64 x] 3)).heap.size (.slice (some ⟨n, 0, none⟩) 1 1) [x] := by
  subst h
  exact (Row.lit1 W x).here
theorem Row.at2 (W : World) (n : Nat) (h : W.heap.size = n) (x y : Int) : Row (W.alloc (.cells #[.int .i64 x, .int .i64 y] 3)) (W.alloc (.cells #[.int .i64 x, .int .i64 y] 3)).heap.size (.slice (some ⟨n, 0, none⟩) 2 2) [x, y] := by
  subst h
  exact (Row.lit2 W x y).here
theorem Row.at3 (W : World) (n : Nat) (h : W.heap.size = n) (x y z : Int) : Row (W.alloc (.cells #[.int .i64 x, .int .i64 y, .int .i64 z] 3)) (W.alloc (.cells #[.int .i64 x, .int .i64 y, .int .i64 z] 3)).heap.size (.slice (some ⟨n, 0, none⟩) 3 3) [x, y, z] := by
  subst h
  exact (Row.lit3 W x y z).here
theorem Rows2.lit3 {W : World} {u v x : Value} {a b c : List Int} (h1 : Row W W.heap.size u a) (h2 : Row W W.heap.size v b) (h3 : Row W W.heap.size x c) :
    Rows2 (W.alloc (.cells #[u, v, x] 26)) (W.alloc (.cells #[u, v, x] 26)).heap.size (.slice (some ⟨W.heap.size, 0, none⟩) 3 3) [a, b, c] := by
  refine ⟨_, 3, rfl, ⟨Nat.le_refl _, by decide, fun h => (by cases h)⟩, fun k hk => ?_⟩
  match k, hk with
  | 0, _ => exact ⟨⟨W.heap.size, 0, none⟩, u, rfl, by simp, (Blk.new W 26 #[u, v, x]).cell 0, h1.upA _⟩
  | 1, _ => exact ⟨⟨W.heap.size, 0, none⟩, v, rfl, by simp, (Blk.new W 26 #[u, v, x]).cell 1, h2.upA _⟩
  | 2, _ => exact ⟨⟨W.heap.size, 0, none⟩, x, rfl, by simp, (Blk.new W 26 #[u, v, x]).cell 2, h3.upA _⟩
theorem Rows2.at3 (W : World) (n : Nat) (h : W.heap.size = n) {u v x : Value} {a b c : List Int} (h1 : Row W W.heap.size u a) (h2 : Row W W.heap.size v b) (h3 : Row W W.heap.size x c) :
    Rows2 (W.alloc (.cells #[u, v, x] 26)) (W.alloc (.cells #[u, v, x] 26)).heap.size (.slice (some ⟨n, 0, none⟩) 3 3) [a, b, c] := by
  subst h
  exact Rows2.lit3 h1 h2 h3

set_option maxHeartbeats 8000000 in
set_option maxRecDepth 100000 in
theorem fixed_any (w : World) (hM : Met w) : Calls Tryd.prog 8 #[] w (Truly w) := by
  have HM0 := Lib.hid hM
  have HB0 := Lib.hid (Below.refl w.heap.size w)
  clear hM
  go_enter Tryd.func8, Tryd.ntmps8
  have HB1 := Lib.hid (HB0.out.alloc HB0.out.size (.cells #[.int .i64 1, .int .i64 2] 3))
  clear HB0
  have ra_2 := Lib.hid (Row.at2 w (w.heap.size) (by simp) 1 2)
  have ra_3 := Lib.hid (ra_2.out.upA (.cells #[.int .i64 2, .int .i64 4] 3))
  clear ra_2
  have HB4 := Lib.hid (HB1.out.alloc HB1.out.size (.cells #[.int .i64 2, .int .i64 4] 3))
  clear HB1
  have rb_5 := Lib.hid (Row.at2 (w.alloc (.cells #[.int .i64 1, .int .i64 2] 3)) (w.heap.size + 1) (by simp) 2 4)
  have ra_6 := Lib.hid (ra_3.out.upA (.cells #[.int .i64 0, .int .i64 1] 3))
  clear ra_3
  have rb_7 := Lib.hid (rb_5.out.upA (.cells #[.int .i64 0, .int .i64 1] 3))
  clear rb_5
  have HB8 := Lib.hid (HB4.out.alloc HB4.out.size (.cells #[.int .i64 0, .int .i64 1] 3))
  clear HB4
  have rc_9 := Lib.hid (Row.at2 ((w.alloc (.cells #[.int .i64 1, .int .i64 2] 3)).alloc (.cells #[.int .i64 2, .int .i64 4] 3)) (w.heap.size + 1 + 1) (by simp) 0 1)
  have HC := Lib.hid (Rows2.at3 _ (w.heap.size + 1 + 1 + 1) (by simp) ra_6.out rb_7.out rc_9.out)
  clear ra_6
  clear rb_7
  clear rc_9
  have HB10 := Lib.hid (HB8.out.alloc HB8.out.size (.cells #[.slice (some ⟨w.heap.size, 0, none⟩) 2 2, .slice (some ⟨w.heap.size + 1, 0, none⟩) 2 2, .slice (some ⟨w.heap.size + 1 + 1, 0, none⟩) 2 2] 26))
  clear HB8
  have cols_11 := Lib.hid (HC.out.upA (.cells #[.int .i64 3, .int .i64 4] 3))
  clear HC
  have HB12 := Lib.hid (HB10.out.alloc HB10.out.size (.cells #[.int .i64 3, .int .i64 4] 3))
  clear HB10
  have g1_13 := Lib.hid (Row.at2 ((((w.alloc (.cells #[.int .i64 1, .int .i64 2] 3)).alloc (.cells #[.int .i64 2, .int .i64 4] 3)).alloc (.cells #[.int .i64 0, .int .i64 1] 3)).alloc (.cells #[.slice (some ⟨w.heap.size, 0, none⟩) 2 2, .slice (some ⟨w.heap.size + 1, 0, none⟩) 2 2, .slice (some ⟨w.heap.size + 1 + 1, 0, none⟩) 2 2] 26)) (w.heap.size + 1 + 1 + 1 + 1) (by simp) 3 4)
  go_wp2_with fail
  refine (combo_is 5 2 _ _ [[1, 2], [2, 4], [0, 1]] [3, 4] (some [3, 0, 3]) (by decide +kernel) _ (HM0.out.up HB12.out) cols_11.out g1_13.out).mono ?_
  rintro e w16 ⟨v14, rfl, r15, hb17⟩
  have cols_18 := Lib.hid (cols_11.out.up hb17)
  clear cols_11
  have g1_19 := Lib.hid (g1_13.out.up hb17)
  clear g1_13
  have HB20 := Lib.hid (below_next HB12.out (Nat.le_refl _) hb17)
  clear hb17 HB12
  have c_21 := Lib.hid (r15)
  clear r15
  clear g1_19
  have cols_22 := Lib.hid (cols_18.out.upA (.cells #[.int .i64 0, .int .i64 1] 3))
  clear cols_18
  have c_23 := Lib.hid (c_21.out.upA (.cells #[.int .i64 0, .int .i64 1] 3))
  clear c_21
  have HB24 := Lib.hid (HB20.out.alloc HB20.out.size (.cells #[.int .i64 0, .int .i64 1] 3))
  clear HB20
  have g2_25 := Lib.hid (Row.at2 w16 (w16.heap.size) (by simp) 0 1)
  go_wp2_with fail
  refine (combo_is 5 2 _ _ [[1, 2], [2, 4]] [0, 1] none (by decide +kernel) _ (HM0.out.up HB24.out) (Rows2.take cols_22.out (k := 2) (by decide)) g2_25.out).mono ?_
  rintro e w28 ⟨v26, rfl, r27, hb29⟩
  have cols_30 := Lib.hid (cols_22.out.up hb29)
  clear cols_22
  have c_31 := Lib.hid (c_23.out.up hb29)
  clear c_23
  have g2_32 := Lib.hid (g2_25.out.up hb29)
  clear g2_25
  have HB33 := Lib.hid (below_next HB24.out (Nat.le_refl _) hb29)
  clear hb29 HB24
  have no_34 := Lib.hid (r27)
  clear r27
  clear g2_32
  clear no_34
  have cols_35 := Lib.hid (cols_30.out.upA (.cells #[.int .i64 0, .int .i64 0] 3))
  clear cols_30
  have c_36 := Lib.hid (c_31.out.upA (.cells #[.int .i64 0, .int .i64 0] 3))
  clear c_31
  have HB37 := Lib.hid (HB33.out.alloc HB33.out.size (.cells #[.int .i64 0, .int .i64 0] 3))
  clear HB33
  have g3_38 := Lib.hid (Row.at2 w28 (w28.heap.size) (by simp) 0 0)
  go_wp2_with fail
  refine (combo_is 5 2 _ _ [] [0, 0] (some []) (by decide +kernel) _ (HM0.out.up HB37.out) (Rows2.nil_ _ _) g3_38.out).mono ?_
  rintro e w41 ⟨v39, rfl, r40, hb42⟩
  have cols_43 := Lib.hid (cols_35.out.up hb42)
  clear cols_35
  have c_44 := Lib.hid (c_36.out.up hb42)
  clear c_36
  have g3_45 := Lib.hid (g3_38.out.up hb42)
  clear g3_38
  have HB46 := Lib.hid (below_next HB37.out (Nat.le_refl _) hb42)
  clear hb42 HB37
  have z_47 := Lib.hid (r40)
  obtain ⟨A_z, c_z, rfl, -⟩ := r40
  clear g3_45
  go_wp2_with fail
  refine (basis_is 5 2 _ [[1, 2], [2, 4], [0, 1]] [0, 2] (by decide +kernel) _ (HM0.out.up HB46.out) cols_43.out).mono ?_
  rintro e w50 ⟨v48, rfl, r49, hb51⟩
  have cols_52 := Lib.hid (cols_43.out.up hb51)
  clear cols_43
  have c_53 := Lib.hid (c_44.out.up hb51)
  clear c_44
  have z_54 := Lib.hid (z_47.out.up hb51)
  clear z_47
  have HB55 := Lib.hid (below_next HB46.out (Nat.le_refl _) hb51)
  clear hb51 HB46
  have bas_56 := Lib.hid (r49)
  clear r49
  have cols_57 := Lib.hid (cols_52.out.upA (.cells #[.int .i64 0, .int .i64 2] 3))
  clear cols_52
  have c_58 := Lib.hid (c_53.out.upA (.cells #[.int .i64 0, .int .i64 2] 3))
  clear c_53
  have z_59 := Lib.hid (z_54.out.upA (.cells #[.int .i64 0, .int .i64 2] 3))
  clear z_54
  have bas_60 := Lib.hid (bas_56.out.upA (.cells #[.int .i64 0, .int .i64 2] 3))
  clear bas_56
  have HB61 := Lib.hid (HB55.out.alloc HB55.out.size (.cells #[.int .i64 0, .int .i64 2] 3))
  clear HB55
  have l1_62 := Lib.hid (Row.at2 w50 (w50.heap.size) (by simp) 0 2)
  go_wp2_with fail
  refine (same_is _ _ [0, 2] [0, 2] _ bas_60.out l1_62.out (by decide) (by decide) (same_true rfl)).mono ?_
  rintro e w63 ⟨rfl, hb64⟩
  have cols_65 := Lib.hid (cols_57.out.up hb64)
  clear cols_57
  have c_66 := Lib.hid (c_58.out.up hb64)
  clear c_58
  have z_67 := Lib.hid (z_59.out.up hb64)
  clear z_59
  have bas_68 := Lib.hid (bas_60.out.up hb64)
  clear bas_60
  have l1_69 := Lib.hid (l1_62.out.up hb64)
  clear l1_62
  have HB70 := Lib.hid (below_next HB61.out (Nat.le_refl _) hb64)
  clear hb64 HB61
  clear bas_68
  clear l1_69
  go_wp2_with fail
  refine (rank_is 5 2 _ [[1, 2], [2, 4], [0, 1]] 2 (by decide +kernel) _ (HM0.out.up HB70.out) cols_65.out).mono ?_
  rintro e w71 ⟨rfl, hb72⟩
  have cols_73 := Lib.hid (cols_65.out.up hb72)
  clear cols_65
  have c_74 := Lib.hid (c_66.out.up hb72)
  clear c_66
  have z_75 := Lib.hid (z_67.out.up hb72)
  clear z_67
  have HB76 := Lib.hid (below_next HB70.out (Nat.le_refl _) hb72)
  clear hb72 HB70
  have cols_77 := Lib.hid (cols_73.out.upA (.cells #[.int .i64 3, .int .i64 0, .int .i64 3] 3))
  clear cols_73
  have c_78 := Lib.hid (c_74.out.upA (.cells #[.int .i64 3, .int .i64 0, .int .i64 3] 3))
  clear c_74
  have z_79 := Lib.hid (z_75.out.upA (.cells #[.int .i64 3, .int .i64 0, .int .i64 3] 3))
  clear z_75
  have HB80 := Lib.hid (HB76.out.alloc HB76.out.size (.cells #[.int .i64 3, .int .i64 0, .int .i64 3] 3))
  clear HB76
  have l2_81 := Lib.hid (Row.at3 w71 (w71.heap.size) (by simp) 3 0 3)
  go_wp2_with fail
  refine (same_is _ _ [3, 0, 3] [3, 0, 3] _ c_78.out l2_81.out (by decide) (by decide) (same_true rfl)).mono ?_
  rintro e w82 ⟨rfl, hb83⟩
  have cols_84 := Lib.hid (cols_77.out.up hb83)
  clear cols_77
  have c_85 := Lib.hid (c_78.out.up hb83)
  clear c_78
  have z_86 := Lib.hid (z_79.out.up hb83)
  clear z_79
  have l2_87 := Lib.hid (l2_81.out.up hb83)
  clear l2_81
  have HB88 := Lib.hid (below_next HB80.out (Nat.le_refl _) hb83)
  clear hb83 HB80
  clear c_85
  clear l2_87
  go_wp2_with fail
  refine (may_is 5 2 _ [[1, 2], [2, 4], [0, 1]] true (by decide +kernel) _ (HM0.out.up HB88.out) cols_84.out).mono ?_
  rintro e w89 ⟨rfl, hb90⟩
  have cols_91 := Lib.hid (cols_84.out.up hb90)
  clear cols_84
  have z_92 := Lib.hid (z_86.out.up hb90)
  clear z_86
  have HB93 := Lib.hid (below_next HB88.out (Nat.le_refl _) hb90)
  clear hb90 HB88
  go_wp2_with fail
  refine (may_is 4 2 _ [[1, 2], [2, 4], [0, 1]] false (by decide +kernel) _ (HM0.out.up HB93.out) cols_91.out).mono ?_
  rintro e w94 ⟨rfl, hb95⟩
  have cols_96 := Lib.hid (cols_91.out.up hb95)
  clear cols_91
  have z_97 := Lib.hid (z_92.out.up hb95)
  clear z_92
  have HB98 := Lib.hid (below_next HB93.out (Nat.le_refl _) hb95)
  clear hb95 HB93
  go_wp2_with fail
  refine (rank_is 5 3 _ [[1, 2], [2, 4], [0, 1]] (-1) (by decide +kernel) _ (HM0.out.up HB98.out) cols_96.out).mono ?_
  rintro e w99 ⟨rfl, hb100⟩
  have cols_101 := Lib.hid (cols_96.out.up hb100)
  clear cols_96
  have z_102 := Lib.hid (z_97.out.up hb100)
  clear z_97
  have HB103 := Lib.hid (below_next HB98.out (Nat.le_refl _) hb100)
  clear hb100 HB98
  go_wp2
  go_ret
  exact ⟨rfl, HB103.out⟩

end Wp
end Go.Proofs.YtmnhpccdhefddaaDoor
