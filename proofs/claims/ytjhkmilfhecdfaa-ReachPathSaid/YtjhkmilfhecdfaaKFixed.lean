/- The calls whose answers the document fixes, walked: they are as it fixes them. -/
import Derived.Test.YtjhkmilfhecdfaaKLaw
import Derived.Test.YtjhkmilfhecdfaaKLit
import Derived.Test.YtjhkmilfhecdfaaSSame
namespace Go.Proofs.Ytjhkmilfhecdfaa
open Go.RowKit
namespace Wp

theorem big_fixed : Big 2 [[0], [0], [0, 1]] 2 := by
  refine ⟨⟨fun i => if i = 0 then 0 else if i = 2 then 1 else -1, ⟨fun i hi => ?_, fun i j hi hj e hn => ?_⟩, by decide⟩, fun i => decide (i = 2), fun r => decide (r = 0), fun i r hg => ?_, by decide⟩
  · match i, hi with
    | 0, _ => exact .inr ⟨0, by decide, rfl, by simp [Goes]⟩
    | 1, _ => exact .inl rfl
    | 2, _ => exact .inr ⟨1, by decide, rfl, by simp [Goes]⟩
  · match i, hi, j, hj with
    | 0, _, 0, _ => rfl
    | 0, _, 1, _ => simp at e
    | 0, _, 2, _ => simp at e
    | 1, _, _, _ => simp at hn
    | 2, _, 0, _ => simp at e
    | 2, _, 1, _ => simp at e
    | 2, _, 2, _ => rfl
  · have hi := goes_lt hg
    match i, hi with
    | 0, _ => exact .inr (by simpa [Goes] using hg)
    | 1, _ => exact .inr (by simpa [Goes] using hg)
    | 2, _ => exact .inl rfl
theorem mat_zero {adj : List (List Int)} {hs : Nat → Int} (h : Mat 0 adj hs) {i : Nat} (hi : i < adj.length) : hs i = -1 := by
  rcases h.ok i hi with e | ⟨r, hr, _⟩
  · exact e
  · omega

set_option maxHeartbeats 8000000 in
set_option maxRecDepth 100000 in
theorem kfixed_any (w : World) : Calls Try.prog 14 #[] w (Truly w) := by
  have HB0 := Lib.hid (Below.refl w.heap.size w)
  go_enter Try.func14, Try.ntmps14
  have HB1 := Lib.hid (HB0.out.alloc HB0.out.size (.cells #[.int .i64 0] 3))
  clear HB0
  have ra_2 := Lib.hid (Row.at1 w (w.heap.size) (by simp) 0)
  have ra_3 := Lib.hid (ra_2.out.upA (.cells #[.int .i64 0] 3))
  clear ra_2
  have HB4 := Lib.hid (HB1.out.alloc HB1.out.size (.cells #[.int .i64 0] 3))
  clear HB1
  have rb_5 := Lib.hid (Row.at1 (w.alloc (.cells #[.int .i64 0] 3)) (w.heap.size + 1) (by simp) 0)
  have ra_6 := Lib.hid (ra_3.out.upA (.cells #[.int .i64 0, .int .i64 1] 3))
  clear ra_3
  have rb_7 := Lib.hid (rb_5.out.upA (.cells #[.int .i64 0, .int .i64 1] 3))
  clear rb_5
  have HB8 := Lib.hid (HB4.out.alloc HB4.out.size (.cells #[.int .i64 0, .int .i64 1] 3))
  clear HB4
  have rc_9 := Lib.hid (Row.at2 ((w.alloc (.cells #[.int .i64 0] 3)).alloc (.cells #[.int .i64 0] 3)) (w.heap.size + 1 + 1) (by simp) 0 1)
  have adj_10 := Lib.hid (Rows2.at3 (((w.alloc (.cells #[.int .i64 0] 3)).alloc (.cells #[.int .i64 0] 3)).alloc (.cells #[.int .i64 0, .int .i64 1] 3)) (w.heap.size + 1 + 1 + 1) (by simp) ra_6.out rb_7.out rc_9.out)
  have ra_11 := Lib.hid (ra_6.out.upA (.cells #[.slice (some ⟨w.heap.size, 0, none⟩) 1 1, .slice (some ⟨w.heap.size + 1, 0, none⟩) 1 1, .slice (some ⟨w.heap.size + 1 + 1, 0, none⟩) 2 2] 25))
  clear ra_6
  have rb_12 := Lib.hid (rb_7.out.upA (.cells #[.slice (some ⟨w.heap.size, 0, none⟩) 1 1, .slice (some ⟨w.heap.size + 1, 0, none⟩) 1 1, .slice (some ⟨w.heap.size + 1 + 1, 0, none⟩) 2 2] 25))
  clear rb_7
  have rc_13 := Lib.hid (rc_9.out.upA (.cells #[.slice (some ⟨w.heap.size, 0, none⟩) 1 1, .slice (some ⟨w.heap.size + 1, 0, none⟩) 1 1, .slice (some ⟨w.heap.size + 1 + 1, 0, none⟩) 2 2] 25))
  clear rc_9
  have HB14 := Lib.hid (HB8.out.alloc HB8.out.size (.cells #[.slice (some ⟨w.heap.size, 0, none⟩) 1 1, .slice (some ⟨w.heap.size + 1, 0, none⟩) 1 1, .slice (some ⟨w.heap.size + 1 + 1, 0, none⟩) 2 2] 25))
  clear HB8
  go_wp2_with fail
  refine (max_yes 2 _ [[0], [0], [0, 1]] (by decide +kernel) _ adj_10.out).mono ?_
  rintro e w16 ⟨um, hsm, nm, rfl, r15, hb17, hmm, hnm, hbm⟩
  have adj_18 := Lib.hid (adj_10.out.up hb17)
  clear adj_10
  have HB19 := Lib.hid (below_next HB14.out (Nat.le_refl _) hb17)
  clear hb17 HB14
  have m_20 := Lib.hid (r15)
  clear r15
  have Hmm := Lib.hid hmm
  have Hnm := Lib.hid hnm
  have Hbm := Lib.hid hbm
  clear hmm hnm hbm
  have en : nm = 2 := Hbm.out.eq big_fixed
  subst en
  go_wp2_with fail
  refine (cover_yes 2 _ [[0], [0], [0, 1]] (by decide +kernel) _ adj_18.out).mono ?_
  rintro e w23 ⟨ua, ub, la, lb, rfl, r21, q22, hb24, hca⟩
  have adj_25 := Lib.hid (adj_18.out.up hb24)
  clear adj_18
  have m_26 := Lib.hid (m_20.out.up hb24)
  clear m_20
  have HB27 := Lib.hid (below_next HB19.out (Nat.le_refl _) hb24)
  clear hb24 HB19
  have a_28 := Lib.hid (r21)
  have b_29 := Lib.hid (q22)
  obtain ⟨A_a, c_a, rfl, -⟩ := r21
  obtain ⟨A_b, c_b, rfl, -⟩ := q22
  have Hca := Lib.hid hca
  clear hca
  have hab : la.length + lb.length = 2 := by
    obtain ⟨n, hn, e⟩ := Hca.out.size
    rw [e]
    exact hn.eq big_fixed
  have hw : IntKind.i64.wrap ((la.length : Int) + (lb.length : Int)) = 2 := by rw [IntKind.wrap_i64]; omega
  have hw2 : wrap64 ((la.length : Int) + (lb.length : Int)) = 2 := by unfold wrap64; omega
  clear hab
  have nn_30 := Lib.hid (Rows2.at2 w23 (w23.heap.size) (by simp) (Row.nil_ _ _) (Row.nil_ _ _))
  have adj_31 := Lib.hid (adj_25.out.upA (.cells #[.slice none 0 0, .slice none 0 0] 25))
  clear adj_25
  have m_32 := Lib.hid (m_26.out.upA (.cells #[.slice none 0 0, .slice none 0 0] 25))
  clear m_26
  have a_33 := Lib.hid (a_28.out.upA (.cells #[.slice none 0 0, .slice none 0 0] 25))
  clear a_28
  have b_34 := Lib.hid (b_29.out.upA (.cells #[.slice none 0 0, .slice none 0 0] 25))
  clear b_29
  have HB35 := Lib.hid (HB27.out.alloc HB27.out.size (.cells #[.slice none 0 0, .slice none 0 0] 25))
  clear HB27
  go_wp2_with fail
  refine (max_yes 0 _ [[], []] (by decide +kernel) _ nn_30.out).mono ?_
  rintro e w37 ⟨uz, hsz, nz, rfl, r36, hb38, hmz, hnz, hbz⟩
  have adj_39 := Lib.hid (adj_31.out.up hb38)
  clear adj_31
  have m_40 := Lib.hid (m_32.out.up hb38)
  clear m_32
  have a_41 := Lib.hid (a_33.out.up hb38)
  clear a_33
  have b_42 := Lib.hid (b_34.out.up hb38)
  clear b_34
  have nn_43 := Lib.hid (nn_30.out.up hb38)
  clear nn_30
  have HB44 := Lib.hid (below_next HB35.out (Nat.le_refl _) hb38)
  clear hb38 HB35
  have z_45 := Lib.hid (r36)
  clear r36
  have Hmz := Lib.hid hmz
  have Hnz := Lib.hid hnz
  have Hbz := Lib.hid hbz
  clear hmz hnz hbz
  clear nn_43
  have ez : nz = 0 := by have := Hbz.out.le.2; simpa using this
  subst ez
  go_wp2_with fail
  refine (max_no 1 _ [[0], [0], [0, 1]] (by decide +kernel) _ adj_39.out).mono ?_
  rintro e w46 ⟨ubad, rfl, -, hb47⟩
  have adj_48 := Lib.hid (adj_39.out.up hb47)
  clear adj_39
  have m_49 := Lib.hid (m_40.out.up hb47)
  clear m_40
  have a_50 := Lib.hid (a_41.out.up hb47)
  clear a_41
  have b_51 := Lib.hid (b_42.out.up hb47)
  clear b_42
  have z_52 := Lib.hid (z_45.out.up hb47)
  clear z_45
  have HB53 := Lib.hid (below_next HB44.out (Nat.le_refl _) hb47)
  clear hb47 HB44
  go_wp2_with fail
  refine (matches_true 2 _ _ [[0], [0], [0, 1]] hsm 2 _ adj_48.out m_49.out (by decide +kernel) Hmm.out Hnm.out).mono ?_
  rintro e w54 ⟨rfl, hb55⟩
  have adj_56 := Lib.hid (adj_48.out.up hb55)
  clear adj_48
  have m_57 := Lib.hid (m_49.out.up hb55)
  clear m_49
  have a_58 := Lib.hid (a_50.out.up hb55)
  clear a_50
  have b_59 := Lib.hid (b_51.out.up hb55)
  clear b_51
  have z_60 := Lib.hid (z_52.out.up hb55)
  clear z_52
  have HB61 := Lib.hid (below_next HB53.out (Nat.le_refl _) hb55)
  clear hb55 HB53
  clear m_57
  go_wp2_with fail
  refine (covers_ok 2 _ _ _ [[0], [0], [0, 1]] la lb (by decide +kernel) Hca.out _ adj_56.out a_58.out b_59.out).mono ?_
  rintro e w62 ⟨rfl, hb63⟩
  have adj_64 := Lib.hid (adj_56.out.up hb63)
  clear adj_56
  have a_65 := Lib.hid (a_58.out.up hb63)
  clear a_58
  have b_66 := Lib.hid (b_59.out.up hb63)
  clear b_59
  have z_67 := Lib.hid (z_60.out.up hb63)
  clear z_60
  have HB68 := Lib.hid (below_next HB61.out (Nat.le_refl _) hb63)
  clear hb63 HB61
  clear a_65
  clear b_66
  have adj_69 := Lib.hid (adj_64.out.upA (.cells #[.int .i64 (-1), .int .i64 (-1)] 3))
  clear adj_64
  have z_70 := Lib.hid (z_67.out.upA (.cells #[.int .i64 (-1), .int .i64 (-1)] 3))
  clear z_67
  have HB71 := Lib.hid (HB68.out.alloc HB68.out.size (.cells #[.int .i64 (-1), .int .i64 (-1)] 3))
  clear HB68
  have l1_72 := Lib.hid (Row.at2 w62 (w62.heap.size) (by simp) (-1) (-1))
  go_wp2_with fail
  refine (same_is _ _ _ [-1, -1] _ z_70.out l1_72.out (by simp) (by decide) (same_true (by show [hsz 0, hsz 1] = [-1, -1]; rw [mat_zero Hmz.out (by decide), mat_zero Hmz.out (by decide)]))).mono ?_
  rintro e w73 ⟨rfl, hb74⟩
  have adj_75 := Lib.hid (adj_69.out.up hb74)
  clear adj_69
  have z_76 := Lib.hid (z_70.out.up hb74)
  clear z_70
  have l1_77 := Lib.hid (l1_72.out.up hb74)
  clear l1_72
  have HB78 := Lib.hid (below_next HB71.out (Nat.le_refl _) hb74)
  clear hb74 HB71
  clear z_76
  clear l1_77
  go_wp2_with fail
  refine (kmay_is 2 _ [[0], [0], [0, 1]] true (by decide +kernel) _ adj_75.out).mono ?_
  rintro e w79 ⟨rfl, hb80⟩
  have adj_81 := Lib.hid (adj_75.out.up hb80)
  clear adj_75
  have HB82 := Lib.hid (below_next HB78.out (Nat.le_refl _) hb80)
  clear hb80 HB78
  go_wp2_with fail
  refine (kmay_is 1 _ [[0], [0], [0, 1]] false (by decide +kernel) _ adj_81.out).mono ?_
  rintro e w83 ⟨rfl, hb84⟩
  have adj_85 := Lib.hid (adj_81.out.up hb84)
  clear adj_81
  have HB86 := Lib.hid (below_next HB82.out (Nat.le_refl _) hb84)
  clear hb84 HB82
  go_wp2
  go_ret
  exact ⟨rfl, HB86.out⟩

end Wp
end Go.Proofs.Ytjhkmilfhecdfaa
