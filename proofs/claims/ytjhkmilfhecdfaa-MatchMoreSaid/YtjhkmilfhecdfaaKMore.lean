/- The law of one more on the left, walked: it answers true. -/
import Derived.Test.YtjhkmilfhecdfaaKAllP
namespace Go.Proofs.Ytjhkmilfhecdfaa
open Go.RowKit
namespace Wp

theorem may_app {R : Nat} {adj : List (List Int)} {l : List Int} (h : mayM R adj = true) (hl : okL R l = true) (hn : adj.length ≤ 63) : mayM R ([] ++ adj ++ [l]) = true := by
  have hb := may_bounds h
  unfold mayM at h ⊢
  rw [Bool.and_eq_true, Bool.and_eq_true, List.all_eq_true] at h ⊢
  rw [List.nil_append, decide_eq_true_iff, decide_eq_true_iff]
  refine ⟨⟨⟨by omega, by omega⟩, by simp; omega⟩, fun x hx => ?_⟩
  rw [List.mem_append, List.mem_singleton] at hx
  rcases hx with hx | hx
  · exact h.2 x hx
  · rw [hx]; exact hl
theorem may_one {R : Nat} {l : List Int} (h : mayM R [l] = true) : okL R l = true := by
  unfold mayM at h
  rw [Bool.and_eq_true, List.all_eq_true] at h
  exact h.2 l (by simp)
theorem ok_upTo {R : Nat} (h : R ≤ 64) : okL R (upTo R) = true := by
  have := may_rep (R := R) (k := 1) (l := upTo R) h (by omega) (upTo_set (by omega)) fun x hx => by
    obtain ⟨r, hr, rfl⟩ := upTo_mem.1 hx
    omega
  exact may_one this

set_option maxHeartbeats 8000000 in
set_option maxRecDepth 100000 in
theorem more_any (v vl : Value) (right : Int) (adj : List (List Int)) (l : List Int) (w : World) (hr : Rows2 w w.heap.size v adj) (hl : Row w w.heap.size vl l) : Calls Try.prog 5 #[.int .i64 right, v, vl] w (Truly w) := by
  have HB0 := Lib.hid (Below.refl w.heap.size w)
  have HR0 := Lib.hid hr
  have HL0 := Lib.hid hl
  obtain ⟨A, c, rfl, _⟩ := hr
  obtain ⟨Al, cl, rfl, _⟩ := hl
  by_cases b1 : 63 < (adj.length : Int)
  · skip
    go_enter Try.func5, Try.ntmps5
    go_wp2_with fail
    refine (kfixed_any _).mono ?_
    rintro e w1 ⟨rfl, hb2⟩
    have adj_3 := Lib.hid (HR0.out.up hb2)
    clear HR0
    have l_4 := Lib.hid (HL0.out.up hb2)
    clear HL0
    have HB5 := Lib.hid (below_next HB0.out (Nat.le_refl _) hb2)
    clear hb2 HB0
    go_wp2_with fail
    refine (kfixed_any _).mono ?_
    rintro e w6 ⟨rfl, hb7⟩
    have adj_8 := Lib.hid (adj_3.out.up hb7)
    clear adj_3
    have l_9 := Lib.hid (l_4.out.up hb7)
    clear l_4
    have HB10 := Lib.hid (below_next HB5.out (Nat.le_refl _) hb7)
    clear hb7 HB5
    go_wp2
    go_ret
    exact ⟨rfl, HB10.out⟩
  rcases hmay : mayM right adj with _ | _
  · have Hmay := Lib.hid hmay
    clear hmay
    go_enter Try.func5, Try.ntmps5
    go_wp2_with fail
    refine (kfixed_any _).mono ?_
    rintro e w1 ⟨rfl, hb2⟩
    have adj_3 := Lib.hid (HR0.out.up hb2)
    clear HR0
    have l_4 := Lib.hid (HL0.out.up hb2)
    clear HL0
    have HB5 := Lib.hid (below_next HB0.out (Nat.le_refl _) hb2)
    clear hb2 HB0
    go_wp2_with fail
    refine (k6may_is right _ adj false Hmay.out _ adj_3.out).mono ?_
    rintro e w6 ⟨rfl, hb7⟩
    have adj_8 := Lib.hid (adj_3.out.up hb7)
    clear adj_3
    have l_9 := Lib.hid (l_4.out.up hb7)
    clear l_4
    have HB10 := Lib.hid (below_next HB5.out (Nat.le_refl _) hb7)
    clear hb7 HB5
    go_wp2_with fail
    refine (kfixed_any _).mono ?_
    rintro e w11 ⟨rfl, hb12⟩
    have adj_13 := Lib.hid (adj_8.out.up hb12)
    clear adj_8
    have l_14 := Lib.hid (l_9.out.up hb12)
    clear l_9
    have HB15 := Lib.hid (below_next HB10.out (Nat.le_refl _) hb12)
    clear hb12 HB10
    go_wp2
    go_ret
    exact ⟨rfl, HB15.out⟩
  have Hmay := Lib.hid hmay
  rcases hone : mayM right [l] with _ | _
  · have Hone := Lib.hid hone
    clear hone hmay
    go_enter Try.func5, Try.ntmps5
    go_wp2_with fail
    refine (kfixed_any _).mono ?_
    rintro e w1 ⟨rfl, hb2⟩
    have adj_3 := Lib.hid (HR0.out.up hb2)
    clear HR0
    have l_4 := Lib.hid (HL0.out.up hb2)
    clear HL0
    have HB5 := Lib.hid (below_next HB0.out (Nat.le_refl _) hb2)
    clear hb2 HB0
    go_wp2_with fail
    refine (k6may_is right _ adj true Hmay.out _ adj_3.out).mono ?_
    rintro e w6 ⟨rfl, hb7⟩
    have adj_8 := Lib.hid (adj_3.out.up hb7)
    clear adj_3
    have l_9 := Lib.hid (l_4.out.up hb7)
    clear l_4
    have HB10 := Lib.hid (below_next HB5.out (Nat.le_refl _) hb7)
    clear hb7 HB5
    have one_11 := Lib.hid (Rows2.at1 w6 (w6.heap.size) (by simp) l_9.out)
    have adj_12 := Lib.hid (adj_8.out.upA (.cells #[.slice Al l.length cl] 25))
    clear adj_8
    have l_13 := Lib.hid (l_9.out.upA (.cells #[.slice Al l.length cl] 25))
    clear l_9
    have HB14 := Lib.hid (HB10.out.alloc HB10.out.size (.cells #[.slice Al l.length cl] 25))
    clear HB10
    go_wp2_with fail
    refine (k6may_is right _ [l] false Hone.out _ one_11.out).mono ?_
    rintro e w15 ⟨rfl, hb16⟩
    have adj_17 := Lib.hid (adj_12.out.up hb16)
    clear adj_12
    have l_18 := Lib.hid (l_13.out.up hb16)
    clear l_13
    have one_19 := Lib.hid (one_11.out.up hb16)
    clear one_11
    have HB20 := Lib.hid (below_next HB14.out (Nat.le_refl _) hb16)
    clear hb16 HB14
    go_wp2_with fail
    refine (kfixed_any _).mono ?_
    rintro e w21 ⟨rfl, hb22⟩
    have adj_23 := Lib.hid (adj_17.out.up hb22)
    clear adj_17
    have l_24 := Lib.hid (l_18.out.up hb22)
    clear l_18
    have one_25 := Lib.hid (one_19.out.up hb22)
    clear one_19
    have HB26 := Lib.hid (below_next HB20.out (Nat.le_refl _) hb22)
    clear hb22 HB20
    go_wp2
    go_ret
    exact ⟨rfl, HB26.out⟩
  have Hone := Lib.hid hone
  obtain ⟨hr0, hr64, hn64⟩ := may_bounds hmay
  clear hone hmay
  obtain ⟨R, rfl⟩ : ∃ R : Nat, right = (R : Int) := ⟨right.toNat, by omega⟩
  have hR64 : R ≤ 64 := by omega
  have hn63 : adj.length ≤ 63 := by omega
  have Hm1 := Lib.hid (may_app Hmay.out (may_one Hone.out) hn63)
  have Hm2 := Lib.hid (may_app Hmay.out (ok_upTo hR64) hn63)
  have hll : l.length ≤ 64 := may_len Hone.out 0
  clear hr0 hr64
  go_enter Try.func5, Try.ntmps5
  go_wp2_with fail
  refine (kfixed_any _).mono ?_
  rintro e w1 ⟨rfl, hb2⟩
  have adj_3 := Lib.hid (HR0.out.up hb2)
  clear HR0
  have l_4 := Lib.hid (HL0.out.up hb2)
  clear HL0
  have HB5 := Lib.hid (below_next HB0.out (Nat.le_refl _) hb2)
  clear hb2 HB0
  go_wp2_with fail
  refine (k6may_is R _ adj true Hmay.out _ adj_3.out).mono ?_
  rintro e w6 ⟨rfl, hb7⟩
  have adj_8 := Lib.hid (adj_3.out.up hb7)
  clear adj_3
  have l_9 := Lib.hid (l_4.out.up hb7)
  clear l_4
  have HB10 := Lib.hid (below_next HB5.out (Nat.le_refl _) hb7)
  clear hb7 HB5
  have one_11 := Lib.hid (Rows2.at1 w6 (w6.heap.size) (by simp) l_9.out)
  have adj_12 := Lib.hid (adj_8.out.upA (.cells #[.slice Al l.length cl] 25))
  clear adj_8
  have l_13 := Lib.hid (l_9.out.upA (.cells #[.slice Al l.length cl] 25))
  clear l_9
  have HB14 := Lib.hid (HB10.out.alloc HB10.out.size (.cells #[.slice Al l.length cl] 25))
  clear HB10
  go_wp2_with fail
  refine (k6may_is R _ [l] true Hone.out _ one_11.out).mono ?_
  rintro e w15 ⟨rfl, hb16⟩
  have adj_17 := Lib.hid (adj_12.out.up hb16)
  clear adj_12
  have l_18 := Lib.hid (l_13.out.up hb16)
  clear l_13
  have one_19 := Lib.hid (one_11.out.up hb16)
  clear one_11
  have HB20 := Lib.hid (below_next HB14.out (Nat.le_refl _) hb16)
  clear hb16 HB14
  clear one_19
  go_wp2_with fail
  refine (max_yes R _ adj Hmay.out _ adj_17.out).mono ?_
  rintro e w22 ⟨un, hsn, nn, rfl, r21, hb23, hmn, hnn, hbn⟩
  have adj_24 := Lib.hid (adj_17.out.up hb23)
  clear adj_17
  have l_25 := Lib.hid (l_18.out.up hb23)
  clear l_18
  have HB26 := Lib.hid (below_next HB20.out (Nat.le_refl _) hb23)
  clear hb23 HB20
  have n_27 := Lib.hid (r21)
  clear r21
  have Hmn := Lib.hid hmn
  have Hnn := Lib.hid hnn
  have Hbn := Lib.hid hbn
  clear hmn hnn hbn
  clear n_27
  have HA10 := Lib.hid (OwnR.new w22 w22.heap.size (w22.heap.size) (Nat.le_refl _) (by simp))
  have HD10 := Lib.hid ((Below.refl w22.heap.size w22).alloc (Nat.le_refl _) (.cells #[] 25))
  go_wp2_with (at_builtin; go_loud (refine wpList_append_rows rfl _ _ rfl _ _ _ [] adj rfl rfl HA10.out (ListO.of_rows (adj_24.out.below HD10.out) HD10.out.size HA10.out.lt) HD10.out.size (by first | omega | (simp; omega)) ?_))
  intro v11 W11 ho hg
  have HA11 := Lib.hid ho
  have HD11 := Lib.hid (HD10.out.grown hg HD10.out.size HA10.out.lt)
  clear ho hg HA10 HD10
  have HRl := Lib.hid ((l_25.out.below HD11.out))
  have HL1 := Lib.hid (ListO.one W11.heap.size rfl (RowO.of_row HRl.out HD11.out.size HA11.out.lt))
  have HA12 := Lib.hid (HA11.out.upA (.cells #[.slice Al l.length cl] 25))
  have HD12 := Lib.hid (HD11.out.alloc HD11.out.size (.cells #[.slice Al l.length cl] 25))
  clear HRl HA11 HD11
  go_wp2_with (at_builtin; go_loud (refine wpList_append_rows rfl _ _ rfl _ _ _ _ [l] rfl rfl HA12.out HL1.out HD12.out.size (by first | omega | (simp; omega)) ?_))
  intro v13 W13 ho hg
  have HA13 := Lib.hid ho
  have HD13 := Lib.hid (HD12.out.grown hg HD12.out.size HA12.out.lt)
  clear ho hg HA12 HD12
  clear HL1
  have hbW := HD13.out
  have adj_28 := Lib.hid (adj_24.out.up hbW)
  clear adj_24
  have l_29 := Lib.hid (l_25.out.up hbW)
  clear l_25
  have HB30 := Lib.hid (below_next HB26.out (Nat.le_refl _) hbW)
  clear hbW HB26
  have HRowsm := Lib.hid HA13.out.rows
  clear HA13 HD13
  go_wp2_with fail
  refine (max_yes R _ ([] ++ adj ++ [l]) Hm1.out _ HRowsm.out).mono ?_
  rintro e w32 ⟨um, hsm, nm, rfl, r31, hb33, hmm, hnm, hbm⟩
  have adj_34 := Lib.hid (adj_28.out.up hb33)
  clear adj_28
  have l_35 := Lib.hid (l_29.out.up hb33)
  clear l_29
  have rowsm_36 := Lib.hid (HRowsm.out.up hb33)
  clear HRowsm
  have HB37 := Lib.hid (below_next HB30.out (Nat.le_refl _) hb33)
  clear hb33 HB30
  have m_38 := Lib.hid (r31)
  clear r31
  have Hmm := Lib.hid hmm
  have Hnm := Lib.hid hnm
  have Hbm := Lib.hid hbm
  clear hmm hnm hbm
  clear rowsm_36
  clear m_38
  clear l_35
  have hown0 := World.ownsRow_lit (base := w32.heap.size) (e := 3) (size := 1) w32 #[] 0 (Nat.le_refl _) (by unfold maxLen; omega) rfl
  have Hown0 := Lib.hid hown0
  have HBl := Lib.hid ((Below.refl w32.heap.size w32).alloc (Nat.le_refl _) (.cells #[] 3))
  clear hown0
  go_wp2
  go_loopw [11, 12] (fun va vi wr => ∃ k : Nat, vi = .int .i64 k ∧ k ≤ R ∧ wr.ownsRow w32.heap.size 3 1 va (ints (upTo k)).length (ints (upTo k)) ∧ Below w32.heap.size w32 wr) (fun _ vi _ => R - (intOf vi).toNat)
  case atStart => exact ⟨0, rfl, Nat.zero_le _, Hown0.out, HBl.out⟩
  case round =>
    clear Hown0 HBl
    obtain ⟨k, rfl, hk, hown, hbr⟩ := hrel
    have Hown := Lib.hid (World.ownsRow.alloc hown (.cells #[.int .i64 (k : Int)] 3))
    have Hown1 := Lib.hid hown
    have Hbr := Lib.hid hbr
    have Hbr2 := Lib.hid (hbr.alloc hbr.size (.cells #[.int .i64 (k : Int)] 3))
    clear hown hbr
    by_cases hlt : k < R
    · have hkI : (k : Int) < (R : Int) := by omega
      have Hcell := Lib.hid (cellN wr _ rfl (.int .i64 (k : Int)) 3)
      have Hul : Hid ((ints (upTo k)).length ≤ 64) := Lib.hid (by rw [ints_length, upTo_length]; omega)
      go_wp2_with (at_builtin; go_loud (refine wpList_append_cell rfl _ _ 25 3 (.int .i64 0) 8 rfl Try.underlying25 info3 rfl w32.heap.size _ (.int .i64 (k : Int)) (ints (upTo k)) rfl Hown.out wr.heap.size rfl Hcell.out rfl (by have := Hul.out; omega) (by omega) Hbr2.out.size ?_))
      intro v7 w7 hown7 hgr7 hl7
      have Hb7 := Lib.hid (Hbr2.out.grown hgr7 Hbr2.out.size (fun j hj => (Hown.out.lt j hj).1))
      have Hown7 : Hid (w7.ownsRow w32.heap.size 3 1 v7 (ints (upTo (k + 1))).length (ints (upTo (k + 1)))) := Lib.hid (by
        rw [upTo_succ, ints_append, List.length_append]
        exact hown7)
      clear hown7 hgr7 hl7 Hcell Hul Hown Hown1 Hbr Hbr2
      go_wp2
      go_roundw
      case rel => exact ⟨k + 1, by go_num, by omega, Hown7.out, Hb7.out⟩
      case measure => simp [intOf]; omega
    · have hke : k = R := by omega
      subst hke
      have HAl := Lib.hid (Row.of_own (zs := upTo k) Hown1.out (ints_length _))
      have HAd := Lib.hid (adj_34.out.up Hbr.out)
      have HBx := Lib.hid (below_next HB37.out (Nat.le_refl _) Hbr.out)
      obtain ⟨A2, c2, hAe, -⟩ := id HAl.out
      rw [upTo_length] at hAe
      subst hAe
      clear Hown Hown1 Hbr Hbr2 adj_34 HB37
      have HA20 := Lib.hid (OwnR.new wr wr.heap.size (wr.heap.size) (Nat.le_refl _) (by simp))
      have HD20 := Lib.hid ((Below.refl wr.heap.size wr).alloc (Nat.le_refl _) (.cells #[] 25))
      go_wp2_with (at_builtin; go_loud (refine wpList_append_rows rfl _ _ rfl _ _ _ [] adj rfl rfl HA20.out (ListO.of_rows (HAd.out.below HD20.out) HD20.out.size HA20.out.lt) HD20.out.size (by first | omega | (simp; omega)) ?_))
      intro v21 W21 ho hg
      have HA21 := Lib.hid ho
      have HD21 := Lib.hid (HD20.out.grown hg HD20.out.size HA20.out.lt)
      clear ho hg HA20 HD20
      have HRl := Lib.hid ((HAl.out.below HD21.out))
      have HL1 := Lib.hid (ListO.one W21.heap.size rfl (RowO.of_row HRl.out HD21.out.size HA21.out.lt))
      have HA22 := Lib.hid (HA21.out.upA (.cells #[.slice A2 k c2] 25))
      have HD22 := Lib.hid (HD21.out.alloc HD21.out.size (.cells #[.slice A2 k c2] 25))
      clear HRl HA21 HD21
      go_wp2_with (at_builtin; go_loud (refine wpList_append_rows rfl _ _ rfl _ _ _ _ [(upTo k)] rfl rfl HA22.out HL1.out HD22.out.size (by first | omega | (simp; omega)) ?_))
      intro v23 W23 ho hg
      have HA23 := Lib.hid ho
      have HD23 := Lib.hid (HD22.out.grown hg HD22.out.size HA22.out.lt)
      clear ho hg HA22 HD22
      clear HL1
      have hbW := HD23.out
      have adj_201 := Lib.hid (HAd.out.up hbW)
      clear HAd
      have all_202 := Lib.hid (HAl.out.up hbW)
      clear HAl
      have HB203 := Lib.hid (below_next HBx.out (Nat.le_refl _) hbW)
      clear hbW HBx
      have HRowsk2 := Lib.hid HA23.out.rows
      clear HA23 HD23
      go_wp2_with fail
      refine (max_yes k _ ([] ++ adj ++ [(upTo k)]) Hm2.out _ HRowsk2.out).mono ?_
      rintro e w205 ⟨uk2, hsk2, nk2, rfl, r204, hb206, hmk2, hnk2, hbk2⟩
      have adj_207 := Lib.hid (adj_201.out.up hb206)
      clear adj_201
      have all_208 := Lib.hid (all_202.out.up hb206)
      clear all_202
      have rowsk2_209 := Lib.hid (HRowsk2.out.up hb206)
      clear HRowsk2
      have HB210 := Lib.hid (below_next HB203.out (Nat.le_refl _) hb206)
      clear hb206 HB203
      have k2_211 := Lib.hid (r204)
      clear r204
      have Hmk2 := Lib.hid hmk2
      have Hnk2 := Lib.hid hnk2
      have Hbk2 := Lib.hid hbk2
      clear hmk2 hnk2 hbk2
      clear rowsk2_209
      clear k2_211
      clear adj_207
      clear all_208
      have hmo := Hbn.out.more (l := l) (m := nm) (by have := Hbm.out; rwa [List.nil_append] at this)
      have hal := Hbn.out.all (l := upTo k) (m := nk2) (fun r hr => upTo_mem.2 ⟨r, hr, rfl⟩) (by have := Hbk2.out; rwa [List.nil_append] at this)
      have hal : nk2 = min (nn + 1) k := hal
      have hnn := Hbn.out.le.1
      have hmin : min ((nn : Int) + 1) (k : Int) = (nk2 : Int) := by omega
      have hw : IntKind.i64.wrap ((nn : Int) + 1) = (nn : Int) + 1 := by rw [IntKind.wrap_i64]; omega
      have hw2 : wrap64 ((nn : Int) + 1) = (nn : Int) + 1 := by unfold wrap64; omega
      clear hal
      rcases hmo with rfl | rfl
      · go_wp2
        go_ret
        exact ⟨rfl, HB210.out⟩
      · have hne : ¬ ((nn : Int) + 1 = (nn : Int)) := by omega
        go_wp2
        go_ret
        exact ⟨rfl, HB210.out⟩

end Wp
end Go.Proofs.Ytjhkmilfhecdfaa
