/- The law of all with all, and none with any, walked: it answers true. -/
import Derived.Test.YtjhkmilfhecdfaaKAllP
namespace Go.Proofs.Ytjhkmilfhecdfaa
open Go.RowKit
namespace Wp

set_option maxHeartbeats 8000000 in
set_option maxRecDepth 100000 in
theorem all_any (left right : Int) (w : World) : Calls Try.prog 6 #[.int .i64 left, .int .i64 right] w (Truly w) := by
  have HB0 := Lib.hid (Below.refl w.heap.size w)
  by_cases b1 : left < 0
  · skip
    go_enter Try.func6, Try.ntmps6
    go_wp2_with fail
    refine (kfixed_any _).mono ?_
    rintro e w1 ⟨rfl, hb2⟩
    have HB3 := Lib.hid (below_next HB0.out (Nat.le_refl _) hb2)
    clear hb2 HB0
    go_wp2_with fail
    refine (kfixed_any _).mono ?_
    rintro e w4 ⟨rfl, hb5⟩
    have HB6 := Lib.hid (below_next HB3.out (Nat.le_refl _) hb5)
    clear hb5 HB3
    go_wp2
    go_ret
    exact ⟨rfl, HB6.out⟩
  by_cases b2 : 20 < left
  · skip
    go_enter Try.func6, Try.ntmps6
    go_wp2_with fail
    refine (kfixed_any _).mono ?_
    rintro e w1 ⟨rfl, hb2⟩
    have HB3 := Lib.hid (below_next HB0.out (Nat.le_refl _) hb2)
    clear hb2 HB0
    go_wp2_with fail
    refine (kfixed_any _).mono ?_
    rintro e w4 ⟨rfl, hb5⟩
    have HB6 := Lib.hid (below_next HB3.out (Nat.le_refl _) hb5)
    clear hb5 HB3
    go_wp2
    go_ret
    exact ⟨rfl, HB6.out⟩
  by_cases b3 : right < 0
  · skip
    go_enter Try.func6, Try.ntmps6
    go_wp2_with fail
    refine (kfixed_any _).mono ?_
    rintro e w1 ⟨rfl, hb2⟩
    have HB3 := Lib.hid (below_next HB0.out (Nat.le_refl _) hb2)
    clear hb2 HB0
    go_wp2_with fail
    refine (kfixed_any _).mono ?_
    rintro e w4 ⟨rfl, hb5⟩
    have HB6 := Lib.hid (below_next HB3.out (Nat.le_refl _) hb5)
    clear hb5 HB3
    go_wp2
    go_ret
    exact ⟨rfl, HB6.out⟩
  by_cases b4 : 20 < right
  · skip
    go_enter Try.func6, Try.ntmps6
    go_wp2_with fail
    refine (kfixed_any _).mono ?_
    rintro e w1 ⟨rfl, hb2⟩
    have HB3 := Lib.hid (below_next HB0.out (Nat.le_refl _) hb2)
    clear hb2 HB0
    go_wp2_with fail
    refine (kfixed_any _).mono ?_
    rintro e w4 ⟨rfl, hb5⟩
    have HB6 := Lib.hid (below_next HB3.out (Nat.le_refl _) hb5)
    clear hb5 HB3
    go_wp2
    go_ret
    exact ⟨rfl, HB6.out⟩
  obtain ⟨n, rfl⟩ : ∃ n : Nat, left = (n : Int) := ⟨left.toNat, by omega⟩
  obtain ⟨R, rfl⟩ : ∃ R : Nat, right = (R : Int) := ⟨right.toNat, by omega⟩
  have hn20 : n ≤ 20 := by omega
  have hR20 : R ≤ 20 := by omega
  clear b1 b2 b3 b4
  have hb1 : ¬ ((n : Int) < 0) := by omega
  have hb2 : ¬ (20 < (n : Int)) := by omega
  have hb3 : ¬ ((R : Int) < 0) := by omega
  have hb4 : ¬ (20 < (R : Int)) := by omega
  go_enter Try.func6, Try.ntmps6
  go_wp2_with fail
  refine (kfixed_any _).mono ?_
  rintro e w1 ⟨rfl, hb2⟩
  have HB3 := Lib.hid (below_next HB0.out (Nat.le_refl _) hb2)
  clear hb2 HB0
  have HS := Lib.hid (AKeep.start w1)
  have HBs := Lib.hid HB3.out
  clear HB3
  go_wp2
  go_loopw [7, 8] (fun vl vi wr => ∃ k : Nat, vi = .int .i64 k ∧ k ≤ R ∧ AKeep w1 wr (.slice (some ⟨w1.heap.size, 0, none⟩) 0 0) (.slice (some ⟨w1.heap.size + 1, 0, none⟩) 0 0) vl 0 0 k) (fun _ vi _ => R - (intOf vi).toNat)
  case atStart => exact ⟨0, rfl, Nat.zero_le _, HS.out⟩
  case round =>
    clear HS
    obtain ⟨k, rfl, hk, hA⟩ := hrel
    have HA := Lib.hid hA
    clear hA
    by_cases hlt : k < R
    · have hkI : (k : Int) < (R : Int) := by omega
      have HA2 := Lib.hid (HA.out.upA (.cells #[.int .i64 (k : Int)] 3))
      have Hcell := Lib.hid (cellN wr _ rfl (.int .i64 (k : Int)) 3)
      have Hul : Hid ((ints (upTo k)).length ≤ 64) := Lib.hid (by rw [ints_length, upTo_length]; omega)
      clear HA
      go_wp2_with (at_builtin; go_loud (refine wpList_append_cell rfl _ _ 25 3 (.int .i64 0) 8 rfl Try.underlying25 info3 rfl w1.heap.size _ (.int .i64 (k : Int)) (ints (upTo k)) rfl HA2.out.l wr.heap.size rfl Hcell.out rfl (by have := Hul.out; omega) (by omega) HA2.out.bel.size ?_))
      intro v7 w7 hown7 hgr7 hl7
      have HA3 := Lib.hid (HA2.out.pushL hown7 hgr7)
      clear hown7 hgr7 hl7 HA2 Hcell Hul
      go_wp2
      go_roundw
      case rel => exact ⟨k + 1, by go_num, by omega, HA3.out⟩
      case measure => simp [intOf]; omega
    · have hke : k = R := by omega
      subst hke
      obtain ⟨Al, cl, rfl⟩ : ∃ Al cl, u7 = .slice Al k cl := by
        obtain ⟨A, c, e, _⟩ := Row.of_own (zs := upTo k) HA.out.l (ints_length _)
        rw [upTo_length] at e
        exact ⟨A, c, e⟩
      go_wp2
      clear hlt
      go_loopw [5, 6, 9] (fun va vn vi wx => ∃ k2 : Nat, vi = .int .i64 k2 ∧ k2 ≤ n ∧ AKeep w1 wx va vn (.slice Al k cl) k2 k2 k) (fun _ _ vi _ => n - (intOf vi).toNat)
      case atStart => exact ⟨0, rfl, Nat.zero_le _, HA.out⟩
      case round =>
        clear HA
        obtain ⟨k2, rfl, hk2, hA2⟩ := hrel
        have HA2 := Lib.hid hA2
        clear hA2
        by_cases hlt2 : k2 < n
        · have hkI2 : (k2 : Int) < (n : Int) := by omega
          have HA3 := Lib.hid (HA2.out.upA (.cells #[.slice Al k cl] 25))
          have Hcell := Lib.hid (cellN wr _ rfl (.slice Al k cl) 25)
          clear HA2
          go_wp2_with (at_builtin; go_loud (refine wpList_append_cell rfl _ _ 22 25 (.slice none 0 0) 24 rfl Try.underlying22 info24 rfl w1.heap.size _ (.slice Al k cl) (List.replicate k2 (.slice Al k cl)) rfl HA3.out.a wr.heap.size rfl Hcell.out rfl (by simp; omega) (by omega) HA3.out.bel.size ?_))
          intro v8 w8 hown8 hgr8 hl8
          have HA4 := Lib.hid (HA3.out.pushA hown8 hgr8 (by simpa using hl8))
          clear hown8 hgr8 hl8 HA3 Hcell
          have HA5 := Lib.hid (HA4.out.upA (.cells #[.slice none 0 0] 25))
          have Hcell := Lib.hid (cellN w8 _ rfl (.slice none 0 0) 25)
          clear HA4
          go_wp2_with (at_builtin; go_loud (refine wpList_append_cell rfl _ _ 22 25 (.slice none 0 0) 24 rfl Try.underlying22 info24 rfl w1.heap.size _ (.slice none 0 0) (List.replicate k2 (.slice none 0 0)) rfl HA5.out.n w8.heap.size rfl Hcell.out rfl (by simp; omega) (by omega) HA5.out.bel.size ?_))
          intro v9 w9 hown9 hgr9 hl9
          have HA6 := Lib.hid (HA5.out.pushN hown9 hgr9 (by simpa using hl9))
          clear hown9 hgr9 hl9 HA5 Hcell
          go_wp2
          go_roundw
          case rel => exact ⟨k2 + 1, by go_num, by omega, HA6.out⟩
          case measure => simp [intOf]; omega
        · have hke2 : k2 = n := by omega
          subst hke2
          have HRA := Lib.hid HA2.out.rowsA
          have HRN := Lib.hid HA2.out.rowsN
          have HBx := Lib.hid (below_next HBs.out (Nat.le_refl _) HA2.out.bel)
          have HmA := Lib.hid (may_rep (R := k) (k := k2) (l := upTo k) (by omega) (by omega) (upTo_set (by omega)) (fun x hx => by obtain ⟨r, hr, rfl⟩ := upTo_mem.1 hx; omega))
          have HmN := Lib.hid (may_rep (R := k) (k := k2) (l := []) (by omega) (by omega) isSet_nil (fun x hx => by simp at hx))
          have hlenA : (List.replicate k2 (upTo k)).length = k2 := by simp
          clear HA2 HBs
          go_wp2_with fail
          refine (max_yes k _ (List.replicate k2 (upTo k)) HmA.out _ HRA.out).mono ?_
          rintro e w2 ⟨um, hsm, nm, rfl, r1, hb3, hmm, hnm, hbm⟩
          have adj_4 := Lib.hid (HRA.out.up hb3)
          clear HRA
          have nn_5 := Lib.hid (HRN.out.up hb3)
          clear HRN
          have HB6 := Lib.hid (below_next HBx.out (Nat.le_refl _) hb3)
          clear hb3 HBx
          have m_7 := Lib.hid (r1)
          clear r1
          have Hmm := Lib.hid hmm
          have Hnm := Lib.hid hnm
          have Hbm := Lib.hid hbm
          clear hmm hnm hbm
          have em : nm = min k2 k := Hbm.out.eq (big_rep k2 k (by omega))
          have hmin : min (k2 : Int) (k : Int) = (nm : Int) := by omega
          have hmin2 : (if (k2 : Int) ≤ (k : Int) then (k2 : Int) else (k : Int)) = (nm : Int) := by split <;> omega
          clear em
          go_wp2_with fail
          refine (max_yes k _ (List.replicate k2 []) HmN.out _ nn_5.out).mono ?_
          rintro e w9 ⟨uz, hsz, nz, rfl, r8, hb10, hmz, hnz, hbz⟩
          have adj_11 := Lib.hid (adj_4.out.up hb10)
          clear adj_4
          have nn_12 := Lib.hid (nn_5.out.up hb10)
          clear nn_5
          have m_13 := Lib.hid (m_7.out.up hb10)
          clear m_7
          have HB14 := Lib.hid (below_next HB6.out (Nat.le_refl _) hb10)
          clear hb10 HB6
          have z_15 := Lib.hid (r8)
          clear r8
          have Hmz := Lib.hid hmz
          have Hnz := Lib.hid hnz
          have Hbz := Lib.hid hbz
          clear hmz hnz hbz
          clear z_15
          have ez : nz = 0 := Hbz.out.eq (big_nil k2 k)
          subst ez
          go_wp2_with fail
          refine (cover_yes k _ (List.replicate k2 []) HmN.out _ nn_12.out).mono ?_
          rintro e w18 ⟨ua, ub, la, lb, rfl, r16, q17, hb19, hca⟩
          have adj_20 := Lib.hid (adj_11.out.up hb19)
          clear adj_11
          have nn_21 := Lib.hid (nn_12.out.up hb19)
          clear nn_12
          have m_22 := Lib.hid (m_13.out.up hb19)
          clear m_13
          have HB23 := Lib.hid (below_next HB14.out (Nat.le_refl _) hb19)
          clear hb19 HB14
          have a_24 := Lib.hid (r16)
          have b_25 := Lib.hid (q17)
          obtain ⟨A_a, c_a, rfl, -⟩ := r16
          obtain ⟨A_b, c_b, rfl, -⟩ := q17
          have Hca := Lib.hid hca
          clear hca
          clear nn_21
          clear a_24
          clear b_25
          have hab : la.length + lb.length = 0 := by
            obtain ⟨n, hn, e⟩ := Hca.out.size
            rw [e]
            exact hn.eq (big_nil k2 k)
          have ha0 : la.length = 0 := by omega
          have hb0 : lb.length = 0 := by omega
          clear hab
          rw [ha0, hb0]
          clear ha0 hb0
          go_wp2_with fail
          refine (matches_true k _ _ (List.replicate k2 (upTo k)) hsm nm _ adj_20.out m_22.out HmA.out Hmm.out Hnm.out).mono ?_
          rintro e w26 ⟨rfl, hb27⟩
          have adj_28 := Lib.hid (adj_20.out.up hb27)
          clear adj_20
          have m_29 := Lib.hid (m_22.out.up hb27)
          clear m_22
          have HB30 := Lib.hid (below_next HB23.out (Nat.le_refl _) hb27)
          clear hb27 HB23
          clear adj_28
          clear m_29
          go_wp2
          go_ret
          exact ⟨rfl, HB30.out⟩

end Wp
end Go.Proofs.Ytjhkmilfhecdfaa
