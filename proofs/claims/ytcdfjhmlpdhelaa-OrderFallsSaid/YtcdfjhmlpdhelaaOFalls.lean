/- The law of the places, the greatest ahead, walked: it answers true. -/
import Derived.Test.YtcdfjhmlpdhelaaOSeen
import Derived.Test.YtcdfjhmlpdhelaaOLeast
namespace Go.Proofs.Ytcdfjhmlpdhelaa
open Go Go.RowKit
namespace Wp

theorem outs_least (l : List Int) : Outs (fun _ => false) l.length (leastS l) := by
  have hp := leastS_perm l
  refine ⟨fun p h => ?_, fun _ _ => rfl, ?_, leastS_rise l⟩
  · have := mem_keyed.1 (hp.mem_iff.2 h)
    exact ⟨this.1, this.2.1⟩
  · refine ((hp.symm.trans (keyed_perm _ _)).map Prod.snd).nodup_iff.2 ?_
    rw [List.map_map, show (Prod.snd ∘ fun j : Int => (-l.getD j.toNat 0, j)) = id from rfl, List.map_id]
    exact idxs_nodup _

set_option maxHeartbeats 8000000 in
set_option maxRecDepth 1000000 in
theorem ofalls_any (v : Value) (l : List Int) (w : World) (hr : Row w w.heap.size v l) : Calls Try.prog 9 #[v] w (Truly w) := by
  have HB0 := Lib.hid (Below.refl w.heap.size w)
  have HR0 := Lib.hid hr
  obtain ⟨A, c, rfl, _⟩ := hr
  by_cases hb : 100 < (l.length : Int)
  · go_enter Try.func9, Try.ntmps9
    go_wp2_with fail
    refine (ofixed_any _).mono ?_
    rintro e w1 ⟨rfl, hb1⟩
    have HB1 := Lib.hid (HB0.out.trans hb1)
    clear HB0 hb1
    go_wp2_with fail
    refine (ofixed_any _).mono ?_
    rintro e w2 ⟨rfl, hb2⟩
    have HB2 := Lib.hid (below_next HB1.out (Nat.le_refl _) hb2)
    clear HB1 hb2
    go_wp2
    go_ret
    exact ⟨rfl, HB2.out⟩
  · obtain ⟨i0, hi, hz0, hz1, hz2⟩ := info_parts infoB
    have hNb : l.length ≤ 100 := by omega
    go_enter Try.func9, Try.ntmps9
    go_wp2_with fail
    refine (ofixed_any _).mono ?_
    rintro e w1 ⟨rfl, hb1⟩
    have HB1 := Lib.hid (HB0.out.trans hb1)
    have HR1 := Lib.hid (HR0.out.up hb1)
    clear HB0 HR0 hb1
    go_wp2_with fail
    refine (great_new _ l _ HR1.out (by omega)).mono ?_
    rintro e w2 ⟨rfl, hr2, hb2, hz2'⟩
    have HR2 := Lib.hid (HR1.out.up hb2)
    have HO2 := Lib.hid hr2
    have HB2 := Lib.hid (below_next HB1.out (Nat.le_refl _) hb2)
    have HOU := Lib.hid (outs_least l)
    have HLE := Lib.hid (leastS_length l)
    clear hr2 hb2 HR1 HB1 hz2'
    generalize w1.heap.size + 1 = G at *
    go_wp2_with (at_make; refine wpList_make_full _ rfl _ _ 50 rfl 0 4 i0 (.bool false) 1 (by kernel_rfl) hi hz0 hz1 .i64 .i64 _ _ l.length rfl rfl (by rfl) (by rfl) (by rw [hz2]; omega) (by unfold maxLen; omega) (Nat.zero_le _) ?_)
    intro w4 hown4 hg4
    have hseen := seen_made w4 0 w2.heap.size l.length (by first | exact hown4 | (rw [Nat.mul_one]; exact hown4))
    have hb4 : Below w2.heap.size w2 w4 := (Below.refl _ w2).grown hg4 (Nat.le_refl _) (fun i hi => by cases hi)
    have HN4 := Lib.hid hseen
    have HW4 := Lib.hid hb4
    clear hown4 hg4 hseen hb4
    go_wp2
    go_loopw [5] (fun vi wx => ∃ t : Nat, vi = .int .i64 (t : Int) ∧ t ≤ l.length ∧ Hid (Seen wx w2.heap.size l.length (seenA (fun _ => false) (leastS l) t) ∧ Below w2.heap.size w2 wx)) (fun vi _ => l.length - (intOf vi).toNat)
    case atStart => exact ⟨0, rfl, Nat.zero_le _, by rw [seenA_zero]; exact HN4.out, HW4.out⟩
    case round =>
      obtain ⟨t, rfl, ht, HS⟩ := hrel
      by_cases hlt : t < l.length
      · have htI : (t : Int) < (l.length : Int) := by omega
        have hts : t < (leastS l).length := by rw [HLE.out]; exact hlt
        obtain ⟨j, hj, hid, hnew⟩ := HOU.out.fresh hts
        obtain ⟨j', _, hg, ha⟩ := leastS_at l t hlt
        have hjj : j' = j := by
          rw [ha] at hid
          simp only at hid
          omega
        subst hjj
        have HI := Lib.hid hid
        have HT := Lib.hid hts
        have hjI : (j' : Int) < (l.length : Int) := by omega
        have hgl : t < (greatL l).length := by rw [(great_places l).length]; exact hlt
        obtain ⟨ad, hA, _, hcl⟩ := (HR2.out.below HS.out.2).read j' hj
        obtain ⟨adg, hAg, _, hcg⟩ := (HO2.out.below HS.out.2).read t hgl
        injection hAg with hAg
        subst hAg
        rw [hg, add_at] at hcg
        have hc1 := HS.out.1.cell hj
        rw [hnew] at hc1
        have hfz := HS.out.1.frozen j'
        have d1 : decide ((j' : Int) < 0) = false := decide_eq_false (by omega)
        have d2 : decide (l.length ≤ j') = false := decide_eq_false (by omega)
        have d3 : decide ((l.length : Int) ≤ (j' : Int)) = false := decide_eq_false (by omega)
        obtain ⟨x, hx⟩ : ∃ x, l.getD j' 0 = x := ⟨_, rfl⟩
        rw [hx] at hcl
        rcases Nat.eq_zero_or_pos t with h0 | h0
        · subst hA
          have g1 : decide (0 < t) = false := decide_eq_false (by omega)
          have g2 : decide ((0 : Int) < (t : Int)) = false := decide_eq_false (by omega)
          clear h0
          clear hid hnew hts hgl hg hx ha
          go_wp2
          go_big_quiet (fail)
          go_wp2
          go_roundw
          case rel =>
            refine ⟨t + 1, by go_num, by omega, ?_, (below_drewN HS.out.2 nq).setCell (by exact Nat.le_refl _) _⟩
            rw [seenA_succ HT.out HI.out]; exact (HS.out.1.below (below_drewN (Below.refl _ _) nq)).set_ j'
          case measure => simp [intOf]; omega
        · obtain ⟨m, hm, hgm, ham⟩ := leastS_at l (t - 1) (by omega)
          have h2 := HOU.out.after (t := t - 1) (by omega)
          rw [show t - 1 + 1 = t by omega, ha, ham, hx] at h2
          obtain ⟨y, hy⟩ : ∃ y, l.getD m 0 = y := ⟨_, rfl⟩
          rw [hy] at h2
          have hlast : x < y ∨ (y = x ∧ (m : Int) ≤ (j' : Int)) := by
            unfold ltP at h2
            simp only at h2
            omega
          obtain ⟨ad2, hA2, _, hcm⟩ := (HR2.out.below HS.out.2).read m hm
          rw [hA] at hA2
          injection hA2 with hA2
          subst hA2
          rw [hy] at hcm
          obtain ⟨adg, hAg, _, hcp⟩ := (HO2.out.below HS.out.2).read (t - 1) (by rw [(great_places l).length]; omega)
          injection hAg with hAg
          subst hAg
          rw [hgm, add_at] at hcp
          have hmI : (m : Int) < (l.length : Int) := by omega
          have hw1 : IntKind.i64.wrap ((t : Int) - 1) = (t : Int) - 1 := by rw [IntKind.wrap_i64]; omega
          have hw2 : (0 : Int) ≤ (t : Int) - 1 := by omega
          have hw3 : (t : Int) - 1 < (l.length : Int) := by omega
          have hw4 : ((t : Int) - 1).toNat = t - 1 := by omega
          have hw5 : (1 : Int) ≤ (t : Int) := by omega
          have hw6 : wrap64 ((t : Int) - 1) = (t : Int) - 1 := by unfold wrap64; omega
          subst hA
          clear hid hnew hts hgl hg hx hy hgm ham h2 ha
          rcases hlast with h1 | ⟨h1, h2⟩
          · have g1 : decide (y < x) = false := decide_eq_false (by omega)
            have g2 : (x == y) = false := by rw [beq_eq_false_iff_ne]; omega
            have g3 : decide (0 < t) = true := decide_eq_true h0
            have g4 : decide ((0 : Int) < (t : Int)) = true := decide_eq_true (by omega)
            go_wp2
            go_big_quiet (fail)
            go_wp2
            go_roundw
            case rel =>
              refine ⟨t + 1, by go_num, by omega, ?_, (below_drewN HS.out.2 nq).setCell (by exact Nat.le_refl _) _⟩
              rw [seenA_succ HT.out HI.out]; exact (HS.out.1.below (below_drewN (Below.refl _ _) nq)).set_ j'
            case measure => simp [intOf]; omega
          · subst h1
            have g1 : decide ((j' : Int) < (m : Int)) = false := decide_eq_false (by omega)
            have g2 : decide (j' < m) = false := decide_eq_false (by omega)
            have g5 : decide (y < y) = false := decide_eq_false (by omega)
            have g3 : decide (0 < t) = true := decide_eq_true h0
            have g4 : decide ((0 : Int) < (t : Int)) = true := decide_eq_true (by omega)
            go_wp2
            go_big_quiet (fail)
            go_wp2
            go_roundw
            case rel =>
              refine ⟨t + 1, by go_num, by omega, ?_, (below_drewN HS.out.2 nq).setCell (by exact Nat.le_refl _) _⟩
              rw [seenA_succ HT.out HI.out]; exact (HS.out.1.below (below_drewN (Below.refl _ _) nq)).set_ j'
            case measure => simp [intOf]; omega
      · have hte : t = l.length := by omega
        clear hlt ht
        subst hte
        have H9 := Lib.hid (HB2.out.trans (HS.out.2.mono HB2.out.size))
        go_wp2
        go_ret
        exact ⟨rfl, H9.out⟩

end Wp
end Go.Proofs.Ytcdfjhmlpdhelaa
