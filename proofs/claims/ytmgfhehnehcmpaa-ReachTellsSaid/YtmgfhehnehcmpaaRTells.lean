/- The law that what one comes to, and the shortest way, are as the document says, walked: it answers true. -/
import Derived.Test.YtmgfhehnehcmpaaRTellX
import Derived.Test.YtmgfhehnehcmpaaRFixed
namespace Go.Proofs.Ytmgfhehnehcmpaa
open Go.RowKit
namespace Wp

theorem path_len {adj : List (List Int)} {src dst l : List Int} {b : Bool} (h : pathC adj src dst = (l, b)) : l.length ≤ adj.length := by
  have off : (goodB adj src && okL adj.length dst) = false → l.length ≤ adj.length := fun hg => by
    have := path_eq (cpath_no hg)
    rw [h] at this
    injection this with e1 _
    rw [← e1]
    exact Nat.zero_le _
  rcases h1 : digB adj with _ | _
  · exact off (by rw [good_no1 h1]; rfl)
  · rcases h2 : okL adj.length src with _ | _
    · exact off (by rw [good_no2 h2]; rfl)
    · rcases h3 : okL adj.length dst with _ | _
      · exact off (by rw [h3, Bool.and_false])
      · obtain ⟨l', b', e, hok⟩ := path_ok_ex h1 h2 h3
        rw [h] at e
        injection e with e1 e2
        subst e1 e2
        exact (path_pf h1 h2 h3 hok).len
theorem from_len (adj : List (List Int)) (src : List Int) : (fromL adj src).length ≤ adj.length := by
  rcases h1 : digB adj with _ | _
  · unfold fromL; rw [good_no1 h1]; exact Nat.zero_le _
  · rcases h2 : okL adj.length src with _ | _
    · unfold fromL; rw [good_no2 h2]; exact Nat.zero_le _
    · exact pts_len (ok_pts (from_pts h1 h2))
set_option maxHeartbeats 8000000 in
set_option maxRecDepth 100000 in
theorem tells_1 (v va vb : Value) (adj : List (List Int)) (a b : List Int) (w : World) (hr : Rows2 w w.heap.size v adj) (ha : Row w w.heap.size va a) (hb : Row w w.heap.size vb b) (b1 : 20 < (adj.length : Int)) : Calls Try.prog 4 #[v, va, vb] w (Truly w) := by
  have HB0 := Lib.hid (Below.refl w.heap.size w)
  have HR0 := Lib.hid hr
  have HA0 := Lib.hid ha
  have HC0 := Lib.hid hb
  obtain ⟨A, c, rfl, _, _⟩ := hr
  obtain ⟨Aa, ca, rfl, _, _⟩ := ha
  obtain ⟨Ab, cb, rfl, _, _⟩ := hb
  go_enter Try.func4, Try.ntmps4
  clear HR0 HA0 HC0
  go_wp2_with fail
  refine (rfixed_any _).mono ?_
  rintro e w1 ⟨rfl, hb2⟩
  have HB3 := Lib.hid (below_next HB0.out (Nat.le_refl _) hb2)
  clear hb2 HB0
  go_wp2
  go_ret
  exact ⟨rfl, HB3.out⟩

set_option maxHeartbeats 8000000 in
set_option maxRecDepth 100000 in
theorem tells_2 (v va vb : Value) (adj : List (List Int)) (a b : List Int) (w : World) (hr : Rows2 w w.heap.size v adj) (ha : Row w w.heap.size va a) (hb : Row w w.heap.size vb b) (b1 : ¬ 20 < (adj.length : Int)) (b2 : 40 < (a.length : Int)) : Calls Try.prog 4 #[v, va, vb] w (Truly w) := by
  have HB0 := Lib.hid (Below.refl w.heap.size w)
  have HR0 := Lib.hid hr
  have HA0 := Lib.hid ha
  have HC0 := Lib.hid hb
  obtain ⟨A, c, rfl, _, _⟩ := hr
  obtain ⟨Aa, ca, rfl, _, _⟩ := ha
  obtain ⟨Ab, cb, rfl, _, _⟩ := hb
  go_enter Try.func4, Try.ntmps4
  clear HR0 HA0 HC0
  go_wp2_with fail
  refine (rfixed_any _).mono ?_
  rintro e w1 ⟨rfl, hb2⟩
  have HB3 := Lib.hid (below_next HB0.out (Nat.le_refl _) hb2)
  clear hb2 HB0
  go_wp2
  go_ret
  exact ⟨rfl, HB3.out⟩

set_option maxHeartbeats 8000000 in
set_option maxRecDepth 100000 in
theorem tells_3 (v va vb : Value) (adj : List (List Int)) (a b : List Int) (w : World) (hr : Rows2 w w.heap.size v adj) (ha : Row w w.heap.size va a) (hb : Row w w.heap.size vb b) (b1 : ¬ 20 < (adj.length : Int)) (b2 : ¬ 40 < (a.length : Int)) (b3 : 40 < (b.length : Int)) : Calls Try.prog 4 #[v, va, vb] w (Truly w) := by
  have HB0 := Lib.hid (Below.refl w.heap.size w)
  have HR0 := Lib.hid hr
  have HA0 := Lib.hid ha
  have HC0 := Lib.hid hb
  obtain ⟨A, c, rfl, _, _⟩ := hr
  obtain ⟨Aa, ca, rfl, _, _⟩ := ha
  obtain ⟨Ab, cb, rfl, _, _⟩ := hb
  go_enter Try.func4, Try.ntmps4
  clear HR0 HA0 HC0
  go_wp2_with fail
  refine (rfixed_any _).mono ?_
  rintro e w1 ⟨rfl, hb2⟩
  have HB3 := Lib.hid (below_next HB0.out (Nat.le_refl _) hb2)
  clear hb2 HB0
  go_wp2
  go_ret
  exact ⟨rfl, HB3.out⟩

set_option maxHeartbeats 8000000 in
set_option maxRecDepth 100000 in
theorem tells_4 (v va vb : Value) (adj : List (List Int)) (a b : List Int) (w : World) (hr : Rows2 w w.heap.size v adj) (ha : Row w w.heap.size va a) (hb : Row w w.heap.size vb b) (b1 : ¬ 20 < (adj.length : Int)) (b2 : ¬ 40 < (a.length : Int)) (b3 : ¬ 40 < (b.length : Int)) (l : List Int) (t : Bool) (hpc : pathC adj a b = (l, t)) (m : Bool) (hm : digB adj = m) : Calls Try.prog 4 #[v, va, vb] w (Truly w) := by
  have HB0 := Lib.hid (Below.refl w.heap.size w)
  have HR0 := Lib.hid hr
  have HA0 := Lib.hid ha
  have HC0 := Lib.hid hb
  obtain ⟨A, c, rfl, _, _⟩ := hr
  obtain ⟨Aa, ca, rfl, _, _⟩ := ha
  obtain ⟨Ab, cb, rfl, _, _⟩ := hb
  have HPC := Lib.hid hpc
  have HM := Lib.hid hm
  have HPL : Hid (l.length ≤ 1048576) := Lib.hid (by have := path_len hpc; omega)
  have HFL : Hid ((fromL adj a).length ≤ 1048576) := Lib.hid (by have := from_len adj a; omega)
  clear hpc hm
  go_enter Try.func4, Try.ntmps4
  go_wp2
  go_loopw [7] (fun vi wr => ∃ i : Nat, vi = .int .i64 (i : Int) ∧ i ≤ adj.length ∧ wr = w) (fun vi _ => adj.length - (intOf vi).toNat)
  case atStart => exact ⟨0, rfl, Nat.zero_le _, rfl⟩
  case round =>
    obtain ⟨i, rfl, hi, hwr⟩ := hrel
    subst hwr
    by_cases hlt : i < adj.length
    · have hiI : (i : Int) < (adj.length : Int) := by omega
      obtain ⟨ada, ua, hAa, hca, hru⟩ := HR0.out.read i hlt
      subst hAa
      obtain ⟨Au, cu, rfl, -⟩ := hru
      by_cases h40 : 40 < (adj.getD i []).length
      · obtain ⟨L, hL⟩ : ∃ L, (adj.getD i []).length = L := ⟨_, rfl⟩
        rw [hL] at hca h40
        have h40I : (40 : Int) < (L : Int) := by omega
        clear hL
        go_wp2_with fail
        refine (rfixed_any _).mono ?_
        rintro e w5 ⟨rfl, hb5⟩
        have H5 := Lib.hid hb5
        clear hb5
        go_wp2
        go_ret
        exact ⟨rfl, H5.out⟩
      · obtain ⟨L, hL⟩ : ∃ L, (adj.getD i []).length = L := ⟨_, rfl⟩
        rw [hL] at hca h40
        have h40I : ¬ (40 : Int) < (L : Int) := by omega
        clear hL
        go_wp2
        go_roundw
        case rel => exact ⟨i + 1, by go_num, by omega, by first | trivial | rfl⟩
        case measure => simp [intOf]; omega
    · have hie : i = adj.length := by omega
      clear hlt hi
      subst hie
      cases m with
      | true =>
        skip
        go_wp2_with fail
        refine (path_is adj a b l t HPC.out _ _ _ _ HR0.out HA0.out HC0.out).mono ?_
        rintro e w3 ⟨u1, rfl, r2, hb4⟩
        have adj_5 := Lib.hid (HR0.out.up hb4)
        clear HR0
        have a_6 := Lib.hid (HA0.out.up hb4)
        clear HA0
        have b_7 := Lib.hid (HC0.out.up hb4)
        clear HC0
        have HB8 := Lib.hid (below_next HB0.out (Nat.le_refl _) hb4)
        clear hb4 HB0
        have p_9 := Lib.hid (r2)
        clear r2
        go_wp2_with fail
        refine (r7path_is adj a b l t HPC.out _ _ _ _ adj_5.out a_6.out b_7.out).mono ?_
        rintro e w12 ⟨u10, rfl, r11, hb13⟩
        have adj_14 := Lib.hid (adj_5.out.up hb13)
        clear adj_5
        have a_15 := Lib.hid (a_6.out.up hb13)
        clear a_6
        have b_16 := Lib.hid (b_7.out.up hb13)
        clear b_7
        have p_17 := Lib.hid (p_9.out.up hb13)
        clear p_9
        have HB18 := Lib.hid (below_next HB8.out (Nat.le_refl _) hb13)
        clear hb13 HB8
        have q_19 := Lib.hid (r11)
        clear r11
        go_wp2_with fail
        refine (rfixed_any _).mono ?_
        rintro e w20 ⟨rfl, hb21⟩
        have adj_22 := Lib.hid (adj_14.out.up hb21)
        clear adj_14
        have a_23 := Lib.hid (a_15.out.up hb21)
        clear a_15
        have b_24 := Lib.hid (b_16.out.up hb21)
        clear b_16
        have p_25 := Lib.hid (p_17.out.up hb21)
        clear p_17
        have q_26 := Lib.hid (q_19.out.up hb21)
        clear q_19
        have HB27 := Lib.hid (below_next HB18.out (Nat.le_refl _) hb21)
        clear hb21 HB18
        go_wp2_with fail
        refine (rmay_is _ adj true HM.out _ adj_22.out).mono ?_
        rintro e w28 ⟨rfl, hb29⟩
        have adj_30 := Lib.hid (adj_22.out.up hb29)
        clear adj_22
        have a_31 := Lib.hid (a_23.out.up hb29)
        clear a_23
        have b_32 := Lib.hid (b_24.out.up hb29)
        clear b_24
        have p_33 := Lib.hid (p_25.out.up hb29)
        clear p_25
        have q_34 := Lib.hid (q_26.out.up hb29)
        clear q_26
        have HB35 := Lib.hid (below_next HB27.out (Nat.le_refl _) hb29)
        clear hb29 HB27
        go_wp2_with fail
        refine (r7may_is _ adj true HM.out _ adj_30.out).mono ?_
        rintro e w36 ⟨rfl, hb37⟩
        have adj_38 := Lib.hid (adj_30.out.up hb37)
        clear adj_30
        have a_39 := Lib.hid (a_31.out.up hb37)
        clear a_31
        have b_40 := Lib.hid (b_32.out.up hb37)
        clear b_32
        have p_41 := Lib.hid (p_33.out.up hb37)
        clear p_33
        have q_42 := Lib.hid (q_34.out.up hb37)
        clear q_34
        have HB43 := Lib.hid (below_next HB35.out (Nat.le_refl _) hb37)
        clear hb37 HB35
        go_wp2_with fail
        refine (from_is adj a (fromL adj a) rfl _ _ _ adj_38.out a_39.out).mono ?_
        rintro e w46 ⟨v44, rfl, r45, hb47⟩
        have adj_48 := Lib.hid (adj_38.out.up hb47)
        clear adj_38
        have a_49 := Lib.hid (a_39.out.up hb47)
        clear a_39
        have b_50 := Lib.hid (b_40.out.up hb47)
        clear b_40
        have p_51 := Lib.hid (p_41.out.up hb47)
        clear p_41
        have q_52 := Lib.hid (q_42.out.up hb47)
        clear q_42
        have HB53 := Lib.hid (below_next HB43.out (Nat.le_refl _) hb47)
        clear hb47 HB43
        have x_54 := Lib.hid (r45)
        clear r45
        go_wp2_with fail
        refine (r7from_is _ _ adj a _ adj_48.out a_49.out (by omega)).mono ?_
        rintro e w57 ⟨v55, rfl, r56, hb58⟩
        have adj_59 := Lib.hid (adj_48.out.up hb58)
        clear adj_48
        have a_60 := Lib.hid (a_49.out.up hb58)
        clear a_49
        have b_61 := Lib.hid (b_50.out.up hb58)
        clear b_50
        have p_62 := Lib.hid (p_51.out.up hb58)
        clear p_51
        have q_63 := Lib.hid (q_52.out.up hb58)
        clear q_52
        have x_64 := Lib.hid (x_54.out.up hb58)
        clear x_54
        have HB65 := Lib.hid (below_next HB53.out (Nat.le_refl _) hb58)
        clear hb58 HB53
        have y_66 := Lib.hid (r56)
        clear r56
        clear adj_59
        clear a_60
        clear b_61
        go_wp2_with fail
        refine (same_is _ _ (fromL adj a) (fromL adj a) _ x_64.out y_66.out HFL.out HFL.out (same_true rfl)).mono ?_
        rintro e w67 ⟨rfl, hb68⟩
        have p_69 := Lib.hid (p_62.out.up hb68)
        clear p_62
        have q_70 := Lib.hid (q_63.out.up hb68)
        clear q_63
        have x_71 := Lib.hid (x_64.out.up hb68)
        clear x_64
        have y_72 := Lib.hid (y_66.out.up hb68)
        clear y_66
        have HB73 := Lib.hid (below_next HB65.out (Nat.le_refl _) hb68)
        clear hb68 HB65
        clear x_71
        clear y_72
        go_wp2_with fail
        refine (same_is _ _ l l _ p_69.out q_70.out HPL.out HPL.out (same_true rfl)).mono ?_
        rintro e w74 ⟨rfl, hb75⟩
        have p_76 := Lib.hid (p_69.out.up hb75)
        clear p_69
        have q_77 := Lib.hid (q_70.out.up hb75)
        clear q_70
        have HB78 := Lib.hid (below_next HB73.out (Nat.le_refl _) hb75)
        clear hb75 HB73
        clear p_76
        clear q_77
        go_wp2
        go_ret
        exact ⟨rfl, HB78.out⟩
      | false =>
        skip
        go_wp2_with fail
        refine (path_is adj a b l t HPC.out _ _ _ _ HR0.out HA0.out HC0.out).mono ?_
        rintro e w3 ⟨u1, rfl, r2, hb4⟩
        have adj_5 := Lib.hid (HR0.out.up hb4)
        clear HR0
        have a_6 := Lib.hid (HA0.out.up hb4)
        clear HA0
        have b_7 := Lib.hid (HC0.out.up hb4)
        clear HC0
        have HB8 := Lib.hid (below_next HB0.out (Nat.le_refl _) hb4)
        clear hb4 HB0
        have p_9 := Lib.hid (r2)
        clear r2
        go_wp2_with fail
        refine (r7path_is adj a b l t HPC.out _ _ _ _ adj_5.out a_6.out b_7.out).mono ?_
        rintro e w12 ⟨u10, rfl, r11, hb13⟩
        have adj_14 := Lib.hid (adj_5.out.up hb13)
        clear adj_5
        have a_15 := Lib.hid (a_6.out.up hb13)
        clear a_6
        have b_16 := Lib.hid (b_7.out.up hb13)
        clear b_7
        have p_17 := Lib.hid (p_9.out.up hb13)
        clear p_9
        have HB18 := Lib.hid (below_next HB8.out (Nat.le_refl _) hb13)
        clear hb13 HB8
        have q_19 := Lib.hid (r11)
        clear r11
        go_wp2_with fail
        refine (rfixed_any _).mono ?_
        rintro e w20 ⟨rfl, hb21⟩
        have adj_22 := Lib.hid (adj_14.out.up hb21)
        clear adj_14
        have a_23 := Lib.hid (a_15.out.up hb21)
        clear a_15
        have b_24 := Lib.hid (b_16.out.up hb21)
        clear b_16
        have p_25 := Lib.hid (p_17.out.up hb21)
        clear p_17
        have q_26 := Lib.hid (q_19.out.up hb21)
        clear q_19
        have HB27 := Lib.hid (below_next HB18.out (Nat.le_refl _) hb21)
        clear hb21 HB18
        go_wp2_with fail
        refine (rmay_is _ adj false HM.out _ adj_22.out).mono ?_
        rintro e w28 ⟨rfl, hb29⟩
        have adj_30 := Lib.hid (adj_22.out.up hb29)
        clear adj_22
        have a_31 := Lib.hid (a_23.out.up hb29)
        clear a_23
        have b_32 := Lib.hid (b_24.out.up hb29)
        clear b_24
        have p_33 := Lib.hid (p_25.out.up hb29)
        clear p_25
        have q_34 := Lib.hid (q_26.out.up hb29)
        clear q_26
        have HB35 := Lib.hid (below_next HB27.out (Nat.le_refl _) hb29)
        clear hb29 HB27
        go_wp2_with fail
        refine (r7may_is _ adj false HM.out _ adj_30.out).mono ?_
        rintro e w36 ⟨rfl, hb37⟩
        have adj_38 := Lib.hid (adj_30.out.up hb37)
        clear adj_30
        have a_39 := Lib.hid (a_31.out.up hb37)
        clear a_31
        have b_40 := Lib.hid (b_32.out.up hb37)
        clear b_32
        have p_41 := Lib.hid (p_33.out.up hb37)
        clear p_33
        have q_42 := Lib.hid (q_34.out.up hb37)
        clear q_34
        have HB43 := Lib.hid (below_next HB35.out (Nat.le_refl _) hb37)
        clear hb37 HB35
        go_wp2_with fail
        refine (from_is adj a (fromL adj a) rfl _ _ _ adj_38.out a_39.out).mono ?_
        rintro e w46 ⟨v44, rfl, r45, hb47⟩
        have adj_48 := Lib.hid (adj_38.out.up hb47)
        clear adj_38
        have a_49 := Lib.hid (a_39.out.up hb47)
        clear a_39
        have b_50 := Lib.hid (b_40.out.up hb47)
        clear b_40
        have p_51 := Lib.hid (p_41.out.up hb47)
        clear p_41
        have q_52 := Lib.hid (q_42.out.up hb47)
        clear q_42
        have HB53 := Lib.hid (below_next HB43.out (Nat.le_refl _) hb47)
        clear hb47 HB43
        have x_54 := Lib.hid (r45)
        clear r45
        go_wp2_with fail
        refine (r7from_is _ _ adj a _ adj_48.out a_49.out (by omega)).mono ?_
        rintro e w57 ⟨v55, rfl, r56, hb58⟩
        have adj_59 := Lib.hid (adj_48.out.up hb58)
        clear adj_48
        have a_60 := Lib.hid (a_49.out.up hb58)
        clear a_49
        have b_61 := Lib.hid (b_50.out.up hb58)
        clear b_50
        have p_62 := Lib.hid (p_51.out.up hb58)
        clear p_51
        have q_63 := Lib.hid (q_52.out.up hb58)
        clear q_52
        have x_64 := Lib.hid (x_54.out.up hb58)
        clear x_54
        have HB65 := Lib.hid (below_next HB53.out (Nat.le_refl _) hb58)
        clear hb58 HB53
        have y_66 := Lib.hid (r56)
        clear r56
        clear adj_59
        clear a_60
        clear b_61
        go_wp2_with fail
        refine (same_is _ _ (fromL adj a) (fromL adj a) _ x_64.out y_66.out HFL.out HFL.out (same_true rfl)).mono ?_
        rintro e w67 ⟨rfl, hb68⟩
        have p_69 := Lib.hid (p_62.out.up hb68)
        clear p_62
        have q_70 := Lib.hid (q_63.out.up hb68)
        clear q_63
        have x_71 := Lib.hid (x_64.out.up hb68)
        clear x_64
        have y_72 := Lib.hid (y_66.out.up hb68)
        clear y_66
        have HB73 := Lib.hid (below_next HB65.out (Nat.le_refl _) hb68)
        clear hb68 HB65
        clear x_71
        clear y_72
        go_wp2_with fail
        refine (same_is _ _ l l _ p_69.out q_70.out HPL.out HPL.out (same_true rfl)).mono ?_
        rintro e w74 ⟨rfl, hb75⟩
        have p_76 := Lib.hid (p_69.out.up hb75)
        clear p_69
        have q_77 := Lib.hid (q_70.out.up hb75)
        clear q_70
        have HB78 := Lib.hid (below_next HB73.out (Nat.le_refl _) hb75)
        clear hb75 HB73
        clear p_76
        clear q_77
        go_wp2
        go_ret
        exact ⟨rfl, HB78.out⟩

theorem tells_any (v va vb : Value) (adj : List (List Int)) (a b : List Int) (w : World) (hr : Rows2 w w.heap.size v adj) (ha : Row w w.heap.size va a) (hb : Row w w.heap.size vb b) : Calls Try.prog 4 #[v, va, vb] w (Truly w) := by
  by_cases b1 : 20 < (adj.length : Int)
  · exact tells_1 v va vb adj a b w hr ha hb b1
  · by_cases b2 : 40 < (a.length : Int)
    · exact tells_2 v va vb adj a b w hr ha hb b1 b2
    · by_cases b3 : 40 < (b.length : Int)
      · exact tells_3 v va vb adj a b w hr ha hb b1 b2 b3
      · exact tells_4 v va vb adj a b w hr ha hb b1 b2 b3 (pathC adj a b).1 (pathC adj a b).2 rfl (digB adj) rfl

end Wp
end Go.Proofs.Ytmgfhehnehcmpaa
