/- Columns that stand twice, and a sum of columns, walked: the law answers true. -/
import Derived.Test.YtmnhpccdhefddaaDoorLApp
namespace Go.Proofs.YtmnhpccdhefddaaDoor
open Go.RowKit
namespace Wp

set_option maxHeartbeats 8000000 in
set_option maxRecDepth 100000 in
theorem twice_out (p : Int) (v : Value) (cols : List (List Int)) (vt : Value) (times : List Int) (w : World) (hM : Met w) (hr : Rows2 w w.heap.size v cols) (ht : Row w w.heap.size vt times) (R : Nat) (hR : (cols.getD 0 []).length = R) (h : (cols.length : Int) < 1 ∨ 20 < (cols.length : Int) ∨ 20 < (R : Int) ∨ 20 < (times.length : Int) ∨ elimB p R cols = false) :
    Calls Tryd.prog 7 #[.int .i64 p, v, vt] w (Truly w) := by
  have HM0 := Lib.hid hM
  have HC := Lib.hid hr
  have HT := Lib.hid ht
  have HB0 := Lib.hid (Below.refl w.heap.size w)
  obtain ⟨A, c, rfl, _, hcell⟩ := hr
  obtain ⟨At, ct, rfl, _, htcell⟩ := ht
  clear hM htcell
  by_cases g1 : (cols.length : Int) < 1
  · clear h hcell
    go_enter Tryd.func7, Tryd.ntmps7
    go_wp2_with fail
    refine (fixed_any _ (HM0.out.up HB0.out)).mono ?_
    rintro e w1 ⟨rfl, hb2⟩
    have HB3 := Lib.hid (below_next HB0.out (Nat.le_refl _) hb2)
    clear hb2 HB0
    go_wp2_with fail
    refine (fixed_any _ (HM0.out.up HB3.out)).mono ?_
    rintro e w4 ⟨rfl, hb5⟩
    have HB6 := Lib.hid (below_next HB3.out (Nat.le_refl _) hb5)
    clear hb5 HB3
    go_wp2
    go_ret
    exact ⟨rfl, HB6.out⟩
  by_cases g2 : 20 < (cols.length : Int)
  · clear h hcell
    go_enter Tryd.func7, Tryd.ntmps7
    go_wp2_with fail
    refine (fixed_any _ (HM0.out.up HB0.out)).mono ?_
    rintro e w1 ⟨rfl, hb2⟩
    have HB3 := Lib.hid (below_next HB0.out (Nat.le_refl _) hb2)
    clear hb2 HB0
    go_wp2_with fail
    refine (fixed_any _ (HM0.out.up HB3.out)).mono ?_
    rintro e w4 ⟨rfl, hb5⟩
    have HB6 := Lib.hid (below_next HB3.out (Nat.le_refl _) hb5)
    clear hb5 HB3
    go_wp2
    go_ret
    exact ⟨rfl, HB6.out⟩
  obtain ⟨ad, u, hA, hab, hcu, hru⟩ := hcell 0 (by omega)
  subst hA
  obtain ⟨Au, cu, rfl, _, _⟩ := hru
  rw [hR] at hcu
  rw [add_zero] at hcu
  clear hcell
  by_cases g3 : 20 < (R : Int)
  · clear h
    go_enter Tryd.func7, Tryd.ntmps7
    go_wp2_with fail
    refine (fixed_any _ (HM0.out.up HB0.out)).mono ?_
    rintro e w1 ⟨rfl, hb2⟩
    have HB3 := Lib.hid (below_next HB0.out (Nat.le_refl _) hb2)
    clear hb2 HB0
    have g0 := (HB3.out.cell (p := ad) hab).trans hcu
    go_wp2_with fail
    refine (fixed_any _ (HM0.out.up HB3.out)).mono ?_
    rintro e w4 ⟨rfl, hb5⟩
    have HB6 := Lib.hid (below_next HB3.out (Nat.le_refl _) hb5)
    clear hb5 HB3
    go_wp2
    go_ret
    exact ⟨rfl, HB6.out⟩
  by_cases g4 : 20 < (times.length : Int)
  · clear h
    go_enter Tryd.func7, Tryd.ntmps7
    go_wp2_with fail
    refine (fixed_any _ (HM0.out.up HB0.out)).mono ?_
    rintro e w1 ⟨rfl, hb2⟩
    have HB3 := Lib.hid (below_next HB0.out (Nat.le_refl _) hb2)
    clear hb2 HB0
    have g0 := (HB3.out.cell (p := ad) hab).trans hcu
    go_wp2_with fail
    refine (fixed_any _ (HM0.out.up HB3.out)).mono ?_
    rintro e w4 ⟨rfl, hb5⟩
    have HB6 := Lib.hid (below_next HB3.out (Nat.le_refl _) hb5)
    clear hb5 HB3
    go_wp2
    go_ret
    exact ⟨rfl, HB6.out⟩
  have Hb := Lib.hid ((((h.resolve_left g1).resolve_left g2).resolve_left g3).resolve_left g4)
  clear h
  go_enter Tryd.func7, Tryd.ntmps7
  go_wp2_with fail
  refine (fixed_any _ (HM0.out.up HB0.out)).mono ?_
  rintro e w1 ⟨rfl, hb2⟩
  have HB3 := Lib.hid (below_next HB0.out (Nat.le_refl _) hb2)
  clear hb2 HB0
  have g0 := (HB3.out.cell (p := ad) hab).trans hcu
  go_wp2_with fail
  refine (refmayE_is p R _ cols false Hb.out _ (HC.out.up HB3.out)).mono ?_
  rintro e w4 ⟨rfl, hb5⟩
  have HB6 := Lib.hid (below_next HB3.out (Nat.le_refl _) hb5)
  clear hb5 HB3
  go_wp2_with fail
  refine (fixed_any _ (HM0.out.up HB6.out)).mono ?_
  rintro e w7 ⟨rfl, hb8⟩
  have HB9 := Lib.hid (below_next HB6.out (Nat.le_refl _) hb8)
  clear hb8 HB6
  go_wp2
  go_ret
  exact ⟨rfl, HB9.out⟩

set_option maxHeartbeats 8000000 in
set_option maxRecDepth 100000 in
theorem twice_in (p : Int) (v : Value) (cols : List (List Int)) (vt : Value) (times : List Int) (w : World) (hM : Met w) (hr : Rows2 w w.heap.size v cols) (ht : Row w w.heap.size vt times) (R : Nat) (hR : (cols.getD 0 []).length = R) (g1 : ¬ (cols.length : Int) < 1) (g2 : ¬ 20 < (cols.length : Int)) (g3 : ¬ 20 < (R : Int)) (g4 : ¬ 20 < (times.length : Int)) (hb : elimB p R cols = true) :
    Calls Tryd.prog 7 #[.int .i64 p, v, vt] w (Truly w) := by
  have Hb := Lib.hid hb
  obtain ⟨hpr, R', hRR, hR64, hn64, hci⟩ := elimB_in hb
  obtain rfl : R = R' := by omega
  obtain ⟨hp2, hp31, _⟩ := prB_iff.1 hpr
  have HP := Lib.hid hpr
  have HI := Lib.hid hci
  have HM0 := Lib.hid hM
  have HC := Lib.hid hr
  have HT := Lib.hid ht
  have HB0 := Lib.hid (Below.refl w.heap.size w)
  obtain ⟨A, c, rfl, _, hcell⟩ := hr
  obtain ⟨At, ct, rfl, _, htcell⟩ := ht
  obtain ⟨ad, u, hA, hab, hcu, hru⟩ := hcell 0 (by omega)
  subst hA
  obtain ⟨Au, cu, rfl, _, _⟩ := hru
  rw [hR] at hcu
  rw [add_zero] at hcu
  have Htc := Lib.hid htcell
  clear hM hcell hb hpr hci hRR htcell
  go_enter Tryd.func7, Tryd.ntmps7
  go_wp2_with fail
  refine (fixed_any _ (HM0.out.up HB0.out)).mono ?_
  rintro e w1 ⟨rfl, hb2⟩
  have HB3 := Lib.hid (below_next HB0.out (Nat.le_refl _) hb2)
  clear hb2 HB0
  have g0 := (HB3.out.cell (p := ad) hab).trans hcu
  go_wp2_with fail
  refine (refmayE_is p R _ cols true Hb.out _ (HC.out.up HB3.out)).mono ?_
  rintro e w4 ⟨rfl, hb5⟩
  have HB6 := Lib.hid (below_next HB3.out (Nat.le_refl _) hb5)
  clear hb5 HB3
  clear g0
  go_wp2
  go_loopw [7] (fun vi wr => ∃ i : Nat, vi = .int .i64 i ∧ i ≤ times.length ∧ wr = w4 ∧ ∀ j, j < i → 0 ≤ times.getD j 0 ∧ times.getD j 0 < p) (fun vi _ => times.length - (intOf vi).toNat)
  case atStart => exact ⟨0, rfl, Nat.zero_le _, rfl, fun j hj => absurd hj (Nat.not_lt_zero _)⟩
  case round =>
    obtain ⟨i, rfl, hi, rfl, hall⟩ := hrel
    have Hall := Lib.hid hall
    clear hall
    by_cases hlt : i < times.length
    · have hltI : (i : Int) < (times.length : Int) := by omega
      obtain ⟨adt, hAt, habt, hct⟩ := Htc.out i hlt
      subst hAt
      have g5 := (HB6.out.cell (p := adt.add i) (by rw [add_block]; exact habt)).trans hct
      clear hct
      obtain ⟨t, ht⟩ : ∃ t, times.getD i 0 = t := ⟨_, rfl⟩
      have Htt := Lib.hid ht
      rw [ht] at g5
      clear ht
      by_cases t1 : t < 0
      · go_wp2
        go_ret
        exact ⟨rfl, HB6.out⟩
      · by_cases t2 : p ≤ t
        · go_wp2
          go_ret
          exact ⟨rfl, HB6.out⟩
        · go_wp2
          go_roundw
          case rel =>
            refine ⟨i + 1, by go_num, by omega, by first | rfl | trivial, fun j hj => ?_⟩
            by_cases e : j = i
            · rw [e, Htt.out]
              omega
            · exact Hall.out j (by omega)
          case measure => simp [intOf]; omega
    · have hie : i = times.length := by omega
      subst hie
      have HTm : Hid (ModIn p times) := fun j => by
        by_cases hj : j < times.length
        · exact Hall.out j hj
        · rw [getD_out (by omega)]
          omega
      clear Hall
      have g6 := (HB6.out.cell (p := ad) hab).trans hcu
      have HA0 := Lib.hid (OwnR.new wr wr.heap.size (wr.heap.size) (Nat.le_refl _) rfl)
      have HZ0 := Lib.hid (HC.out.up HB6.out)
      have HD0 := Lib.hid ((Below.refl wr.heap.size wr).alloc (Nat.le_refl _) (.cells #[] 26))
      go_wp2_with (at_builtin; go_loud (refine wpList_append_rows rfl _ _ rfl _ _ _ [] cols rfl rfl HA0.out (ListO.of_rows (HZ0.out.below HD0.out) HD0.out.size HA0.out.lt) HD0.out.size (by first | omega | (simp; omega)) ?_))
      intro v1 W1 ho hg
      have HA1 := Lib.hid ho
      have HD1 := Lib.hid (HD0.out.grown hg HD0.out.size HA0.out.lt)
      clear ho hg HA0 HD0
      go_wp2_with (at_builtin; go_loud (refine wpList_append_rows rfl _ _ rfl _ _ _ _ cols rfl rfl HA1.out (ListO.of_rows (HZ0.out.below HD1.out) HD1.out.size HA1.out.lt) HD1.out.size (by first | omega | (simp; omega)) ?_))
      intro v2 W2 ho hg
      have HA2 := Lib.hid ho
      have HD2 := Lib.hid (HD1.out.grown hg HD1.out.size HA1.out.lt)
      clear ho hg HA1 HD1
      have HX := Lib.hid HA2.out.rows
      have HB3 := Lib.hid (below_next HB6.out (Nat.le_refl _) HD2.out)
      clear HA2 HD2 HZ0 g6 hcu hR
      go_wp2_with fail
      refine (refsum_any p R _ _ cols times _ hp2 hp31 (HC.out.up HB3.out) (HT.out.up HB3.out) (by omega) (by omega) HI.out (by omega) HTm.out).mono ?_
      rintro e w103 ⟨v101, rfl, r102, hb104⟩
      have ext_105 := Lib.hid (HX.out.up hb104)
      clear HX
      have HB106 := Lib.hid (below_next HB3.out (Nat.le_refl _) hb104)
      clear hb104 HB3
      have goal_107 := Lib.hid (r102)
      clear r102
      have HG := Lib.hid (sumL_in (p := p) (R := R) (by omega) cols times)
      obtain ⟨T, hT, HToT⟩ : ∃ T, comboI p R cols (sumL p R cols times) = some T ∧ Hid (Told p R cols (sumL p R cols times) T) := by
        rcases comboI_in HP.out (by omega) (by omega) HI.out HG.out with ⟨_, hn⟩ | ⟨T, hT, _, hTT⟩
        · exact absurd (sumL_span cols times) hn
        · exact ⟨T, hT, hTT⟩
      have HTs := Lib.hid (told_sum (by omega) HG.out HToT.out)
      have HTl := Lib.hid HToT.out.len
      have HTr : Hid (ModIn p T) := HToT.out.rng
      have HcT := Lib.hid hT
      have HSl : Hid ((sumL p R cols times).length ≤ 1048576) := by show _ ≤ _; rw [HG.out.1]; omega
      clear hT HToT
      generalize sumL p R cols times = goal at *
      go_wp2_with fail
      refine (combo_is p R _ _ cols goal (some T) HcT.out _ (HM0.out.up HB106.out) (HC.out.up HB106.out) goal_107.out).mono ?_
      rintro e w110 ⟨v108, rfl, r109, hb111⟩
      have ext_112 := Lib.hid (ext_105.out.up hb111)
      clear ext_105
      have goal_113 := Lib.hid (goal_107.out.up hb111)
      clear goal_107
      have HB114 := Lib.hid (below_next HB106.out (Nat.le_refl _) hb111)
      clear hb111 HB106
      have c_115 := Lib.hid (r109)
      clear r109
      have hcr := c_115.out
      obtain ⟨Ac, cc, hv, _, _⟩ := hcr
      have hlT : ((some T).getD []).length = cols.length := HTl.out
      rw [hlT] at hv
      subst hv
      clear hlT
      go_wp2_with fail
      refine (basis_any p R _ (cols ++ cols) _ (HM0.out.up HB114.out) ext_112.out).mono ?_
      rintro e w118 ⟨v116, rfl, r117, hb119⟩
      have ext_120 := Lib.hid (ext_112.out.up hb119)
      clear ext_112
      have goal_121 := Lib.hid (goal_113.out.up hb119)
      clear goal_113
      have c_122 := Lib.hid (c_115.out.up hb119)
      clear c_115
      have HB123 := Lib.hid (below_next HB114.out (Nat.le_refl _) hb119)
      clear hb119 HB114
      have b1_124 := Lib.hid (r117)
      clear r117
      go_wp2_with fail
      refine (basis_any p R _ cols _ (HM0.out.up HB123.out) (HC.out.up HB123.out)).mono ?_
      rintro e w127 ⟨v125, rfl, r126, hb128⟩
      have ext_129 := Lib.hid (ext_120.out.up hb128)
      clear ext_120
      have goal_130 := Lib.hid (goal_121.out.up hb128)
      clear goal_121
      have c_131 := Lib.hid (c_122.out.up hb128)
      clear c_122
      have b1_132 := Lib.hid (b1_124.out.up hb128)
      clear b1_124
      have HB133 := Lib.hid (below_next HB123.out (Nat.le_refl _) hb128)
      clear hb128 HB123
      have b2_134 := Lib.hid (r126)
      clear r126
      go_wp2_with fail
      refine (same_is _ _ _ _ _ b1_132.out b2_134.out (basisI_length _ _ _) (basisI_length _ _ _) (same_true (basisI_twice HP.out (by omega) (by omega) HI.out))).mono ?_
      rintro e w135 ⟨rfl, hb136⟩
      have ext_137 := Lib.hid (ext_129.out.up hb136)
      clear ext_129
      have goal_138 := Lib.hid (goal_130.out.up hb136)
      clear goal_130
      have c_139 := Lib.hid (c_131.out.up hb136)
      clear c_131
      have b1_140 := Lib.hid (b1_132.out.up hb136)
      clear b1_132
      have b2_141 := Lib.hid (b2_134.out.up hb136)
      clear b2_134
      have HB142 := Lib.hid (below_next HB133.out (Nat.le_refl _) hb136)
      clear hb136 HB133
      clear b1_140
      clear b2_141
      go_wp2_with fail
      refine (refsum_any p R _ _ cols T _ hp2 hp31 (HC.out.up HB142.out) c_139.out (by omega) (by omega) HI.out (by have := HTl.out; omega) HTr.out).mono ?_
      rintro e w145 ⟨v143, rfl, r144, hb146⟩
      have ext_147 := Lib.hid (ext_137.out.up hb146)
      clear ext_137
      have goal_148 := Lib.hid (goal_138.out.up hb146)
      clear goal_138
      have c_149 := Lib.hid (c_139.out.up hb146)
      clear c_139
      have HB150 := Lib.hid (below_next HB142.out (Nat.le_refl _) hb146)
      clear hb146 HB142
      have s_151 := Lib.hid (r144)
      clear r144
      go_wp2_with fail
      refine (same_is _ _ _ goal _ s_151.out goal_148.out (by rw [HTs.out]; exact HSl.out) HSl.out (same_true HTs.out)).mono ?_
      rintro e w152 ⟨rfl, hb153⟩
      have ext_154 := Lib.hid (ext_147.out.up hb153)
      clear ext_147
      have goal_155 := Lib.hid (goal_148.out.up hb153)
      clear goal_148
      have c_156 := Lib.hid (c_149.out.up hb153)
      clear c_149
      have s_157 := Lib.hid (s_151.out.up hb153)
      clear s_151
      have HB158 := Lib.hid (below_next HB150.out (Nat.le_refl _) hb153)
      clear hb153 HB150
      go_wp2
      go_ret
      exact ⟨rfl, HB158.out⟩

theorem twice_any (p : Int) (v : Value) (cols : List (List Int)) (vt : Value) (times : List Int) (w : World) (hM : Met w) (hr : Rows2 w w.heap.size v cols) (ht : Row w w.heap.size vt times) : Calls Tryd.prog 7 #[.int .i64 p, v, vt] w (Truly w) := by
  by_cases g1 : (cols.length : Int) < 1
  · exact twice_out p v cols vt times w hM hr ht _ rfl (.inl g1)
  by_cases g2 : 20 < (cols.length : Int)
  · exact twice_out p v cols vt times w hM hr ht _ rfl (.inr (.inl g2))
  by_cases g3 : 20 < (((cols.getD 0 []).length : Nat) : Int)
  · exact twice_out p v cols vt times w hM hr ht _ rfl (.inr (.inr (.inl g3)))
  by_cases g4 : 20 < (times.length : Int)
  · exact twice_out p v cols vt times w hM hr ht _ rfl (.inr (.inr (.inr (.inl g4))))
  rcases hb : elimB p ((cols.getD 0 []).length : Nat) cols with _ | _
  · exact twice_out p v cols vt times w hM hr ht _ rfl (.inr (.inr (.inr (.inr hb))))
  · exact twice_in p v cols vt times w hM hr ht _ rfl g1 g2 g3 g4 hb

end Wp
end Go.Proofs.YtmnhpccdhefddaaDoor
