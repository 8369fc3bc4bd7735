/- The law that what was put in comes out in order, walked: it answers true. -/
import Derived.Test.YtcdfjhmlpdhelaaOSeen
import Derived.Test.YtcdfjhmlpdhelaaOLeast
namespace Go.Proofs.Ytcdfjhmlpdhelaa
open Go Go.RowKit
namespace Wp

set_option maxHeartbeats 8000000 in
set_option maxRecDepth 1000000 in
theorem osorts_any (v : Value) (l : List Int) (w : World) (hr : Row w w.heap.size v l) : Calls Try.prog 8 #[v] w (Truly w) := by
  have HB0 := Lib.hid (Below.refl w.heap.size w)
  have HR0 := Lib.hid hr
  obtain ⟨A, c, rfl, _⟩ := hr
  by_cases hb : 100 < (l.length : Int)
  · go_enter Try.func8, Try.ntmps8
    go_wp2_with fail
    refine (ofixed_any _).mono ?_
    rintro e w1 ⟨rfl, hb1⟩
    have HB1 := Lib.hid (HB0.out.trans hb1)
    clear HB0 hb1
    go_wp2_with fail
    refine (ofixed_any _).mono ?_
    rintro e w2 ⟨rfl, hb2⟩
    have HB2 := Lib.hid (below_next HB1.out (Nat.le_refl _) hb2)
    clear HB1 hb2
    go_wp2
    go_ret
    exact ⟨rfl, HB2.out⟩
  · obtain ⟨i0, hi, hz0, hz1, hz2⟩ := info_parts infoB
    go_enter Try.func8, Try.ntmps8
    go_wp2_with fail
    refine (ofixed_any _).mono ?_
    rintro e w1 ⟨rfl, hb1⟩
    have HB1 := Lib.hid (HB0.out.trans hb1)
    have HR1 := Lib.hid (HR0.out.up hb1)
    clear HB0 HR0 hb1
    go_wp2_with fail
    refine (qnew_any _).mono ?_
    rintro e w2 ⟨rfl, hq, hb2, hz⟩
    unfold qV
    have HQ2 := Lib.hid hq
    have HW := Lib.hid hb2
    clear hb2 hq hz
    go_wp2
    go_loopw [4] (fun vi wr => ∃ i : Nat, vi = .int .i64 (i : Int) ∧ i ≤ l.length ∧ Hid (HQ wr (fun k => k < w1.heap.size) w1.heap.size (keyed (fun j => l.getD j 0) i) ∧ Below w1.heap.size w1 wr)) (fun vi _ => l.length - (intOf vi).toNat)
    case atStart => exact ⟨0, rfl, Nat.zero_le _, HQ2.out, HW.out⟩
    case round =>
      obtain ⟨i, rfl, hi', HS⟩ := hrel
      have hsz2 := HS.out.2.size
      by_cases hlt : i < l.length
      · have hiI : (i : Int) < (l.length : Int) := by omega
        obtain ⟨ad, hA, had, hc⟩ := (HR1.out.below HS.out.2).read i hlt
        subst hA
        obtain ⟨x, hx⟩ : ∃ x, l.getD i 0 = x := ⟨_, rfl⟩
        rw [hx] at hc
        have HX := Lib.hid hx
        clear hx HQ2 HW
        go_wp2_with fail
        refine (qpush_any (fun k => k < w1.heap.size) w1.heap.size _ x (i : Int) (by rw [keyed_length]; omega) _ HS.out.1).mono ?_
        rintro e w3 ⟨rfl, hq3, hk3⟩
        have H3 := Lib.hid (HS.out.2.trans (hk3.below hsz2 fun i hi => hi))
        have HQ3 := Lib.hid hq3
        clear hq3 hk3
        go_wp2
        go_roundw
        case rel => exact ⟨i + 1, by go_num, by omega, by unfold keyed; rw [HX.out]; exact HQ3.out, H3.out⟩
        case measure => simp [intOf]; omega
      · have hie : i = l.length := by omega
        clear hlt hi'
        have hNb : l.length ≤ 100 := by omega
        subst hie
        have HOU := Lib.hid (outs_keyed (fun j => l.getD j 0) l.length)
        have HPE := Lib.hid (sortP_perm (keyed (fun j => l.getD j 0) l.length))
        have HKE := Lib.hid (fun p (hp : p ∈ sortP (keyed (fun j => l.getD j 0) l.length)) => (mem_keyed.1 (HPE.out.mem_iff.1 hp)).2.2)
        have HLE := Lib.hid (show (sortP (keyed (fun j => l.getD j 0) l.length)).length = l.length by rw [HPE.out.length_eq, keyed_length])
        clear HQ2 HW
        go_wp2_with (at_make; refine wpList_make_full _ rfl _ _ 50 rfl 0 4 i0 (.bool false) 1 (by kernel_rfl) hi hz0 hz1 .i64 .i64 _ _ l.length rfl rfl (by rfl) (by rfl) (by rw [hz2]; omega) (by unfold maxLen; omega) (Nat.zero_le _) ?_)
        intro w4 hown4 hg4
        have hseen := seen_made w4 0 wr.heap.size l.length (by first | exact hown4 | (rw [Nat.mul_one]; exact hown4))
        have hb4 : Below wr.heap.size wr w4 := (Below.refl _ wr).grown hg4 (Nat.le_refl _) (fun i hi => by cases hi)
        obtain ⟨F2, hF2⟩ : ∃ F2 : Nat → Prop, F2 = fun k => k < w1.heap.size ∨ (wr.heap.size ≤ k ∧ k < w4.heap.size) := ⟨_, rfl⟩
        have HQ4 := Lib.hid (show HQ w4 F2 w1.heap.size (sortP (keyed (fun j => l.getD j 0) l.length)) by rw [hF2]; exact (HS.out.1.more hb4).perm HPE.out.symm)
        have HFo := Lib.hid (show F2 wr.heap.size by rw [hF2]; exact .inr ⟨Nat.le_refl _, hseen.lt⟩)
        have HFb := Lib.hid (show ∀ k, k < w1.heap.size → F2 k by intro k hk; rw [hF2]; exact .inl hk)
        have HN4 := Lib.hid hseen
        have HW4 := Lib.hid (HS.out.2.trans (hb4.mono hsz2))
        have hs4 := HB1.out.size
        clear hown4 hg4 hseen hb4 hF2 HS HPE
        generalize sortP (keyed (fun j => l.getD j 0) l.length) = s at *
        generalize wr.heap.size = G at *
        go_wp2
        go_loopw [6, 7, 8] (fun vl va vi wx => ∃ (t : Nat) (L T : Int), vl = .int .i64 L ∧ va = .int .i64 T ∧ vi = .int .i64 (t : Int) ∧ t ≤ l.length ∧ Hid ((∀ u, t = u + 1 → atP s u = (L, T)) ∧ HQ wx F2 w1.heap.size (s.drop t) ∧ Seen wx G l.length (seenA (fun _ => false) s t) ∧ Below w1.heap.size w4 wx)) (fun _ _ vi _ => l.length - (intOf vi).toNat)
        case atStart => exact ⟨0, 0, -1, rfl, rfl, rfl, Nat.zero_le _, fun u hu => by omega, HQ4.out, by rw [seenA_zero]; exact HN4.out, Below.refl _ _⟩
        case round =>
          obtain ⟨t, L, T, rfl, rfl, rfl, ht, HS⟩ := hrel
          by_cases hlt : t < l.length
          · have htI : (t : Int) < (l.length : Int) := by omega
            have hts : t < s.length := by rw [HLE.out]; exact hlt
            obtain ⟨he, hmin⟩ := HOU.out.rise.drop t hts
            obtain ⟨j, hj, hid, hnew⟩ := HOU.out.fresh hts
            have hkk := HKE.out _ (atP_mem hts)
            rw [hid, Int.toNat_natCast] at hkk
            have hp := qpop_any F2 w1.heap.size (s.drop t) (s.drop (t + 1)) (atP s t) (by rw [he]) hmin (by rw [List.length_drop, HLE.out]; omega) wr HS.out.2.1
            have hlast : t = 0 ∨ (0 < t ∧ L < (atP s t).1) ∨ (0 < t ∧ L = (atP s t).1 ∧ T ≤ (j : Int)) := by
              rcases Nat.eq_zero_or_pos t with h0 | h0
              · exact .inl h0
              · have h1 := HS.out.1 (t - 1) (by omega)
                have h2 := HOU.out.after (t := t - 1) (by omega)
                rw [show t - 1 + 1 = t by omega, h1] at h2
                unfold ltP at h2
                simp only at h2
                omega
            have HI := Lib.hid hid
            have HAT := Lib.hid (show atP s t = ((atP s t).1, (j : Int)) from Prod.ext rfl hid)
            rw [hid] at hp
            obtain ⟨k, hk⟩ : ∃ k, (atP s t).1 = k := ⟨_, rfl⟩
            rw [hk] at hp hkk hlast HAT
            have HP := Lib.hid hp
            have HK := Lib.hid hkk
            have HNW := Lib.hid hnew
            have HT := Lib.hid hts
            have hjI : (j : Int) < (l.length : Int) := by omega
            have hsx : w1.heap.size ≤ wr.heap.size := Nat.le_trans HW4.out.size HS.out.2.2.2.size
            clear hp hkk hid hnew he hmin hk hts
            go_wp2_with fail
            refine HP.out.mono ?_
            rintro e w5 ⟨rfl, hq5, hk5⟩
            have hb5 := HS.out.2.2.2.trans (hk5.below hsx HFb.out)
            have hsn := HS.out.2.2.1.fk hk5 HFo.out
            obtain ⟨ad, hA, _, hcl⟩ := (HR1.out.below (HW4.out.trans hb5)).read j hj
            rw [← HK.out] at hcl
            have hc1 := hsn.cell hj
            rw [HNW.out] at hc1
            have hfz := hsn.frozen j
            subst hA
            have H5 := Lib.hid hq5
            have H6 := Lib.hid hsn
            have H7 := Lib.hid hb5
            clear hq5 hk5 hsn hb5
            rcases hlast with h1 | ⟨h0, h1⟩ | ⟨h0, h1, h2⟩
            · have g1 : ¬ (0 < t) := by omega
              go_wp2
              go_roundw
              case rel =>
                refine ⟨t + 1, k, (j : Int), rfl, rfl, by go_num, by omega, fun u hu => ?_, H5.out.setOther HFo.out j _, ?_, H7.out.setCell (by show w1.heap.size ≤ G; omega) _⟩
                · rw [show u = t by omega]; exact HAT.out
                · rw [seenA_succ HT.out HI.out]; exact H6.out.set_ j
              case measure => simp [intOf]; omega
            · have g1 : ¬ k < L := by omega
              have g2 : (k == L) = false := by rw [beq_eq_false_iff_ne]; omega
              go_wp2
              go_roundw
              case rel =>
                refine ⟨t + 1, k, (j : Int), rfl, rfl, by go_num, by omega, fun u hu => ?_, H5.out.setOther HFo.out j _, ?_, H7.out.setCell (by show w1.heap.size ≤ G; omega) _⟩
                · rw [show u = t by omega]; exact HAT.out
                · rw [seenA_succ HT.out HI.out]; exact H6.out.set_ j
              case measure => simp [intOf]; omega
            · replace h1 := h1.symm
              subst h1
              have g1 : ¬ (j : Int) < T := by omega
              go_wp2
              go_roundw
              case rel =>
                refine ⟨t + 1, k, (j : Int), rfl, rfl, by go_num, by omega, fun u hu => ?_, H5.out.setOther HFo.out j _, ?_, H7.out.setCell (by show w1.heap.size ≤ G; omega) _⟩
                · rw [show u = t by omega]; exact HAT.out
                · rw [seenA_succ HT.out HI.out]; exact H6.out.set_ j
              case measure => simp [intOf]; omega
          · have hte : t = l.length := by omega
            clear hlt ht
            subst hte
            have hd : s.drop l.length = [] := List.drop_of_length_le (by rw [HLE.out]; exact Nat.le_refl _)
            have h0 := HS.out.2.1
            rw [hd] at h0
            have H0 := Lib.hid h0
            have H9 := Lib.hid (HB1.out.trans ((HW4.out.trans HS.out.2.2.2).mono hs4))
            clear h0 hd
            go_wp2_with fail
            refine (qpop_none F2 w1.heap.size _ H0.out).mono ?_
            rintro e w5 ⟨rfl, hw5⟩
            replace hw5 := hw5.symm
            subst hw5
            go_wp2_with fail
            refine (qlen_any F2 w1.heap.size [] _ H0.out).mono ?_
            rintro e w5 ⟨rfl, hw5⟩
            replace hw5 := hw5.symm
            subst hw5
            go_wp2
            go_ret
            exact ⟨rfl, H9.out⟩

end Wp
end Go.Proofs.Ytcdfjhmlpdhelaa
