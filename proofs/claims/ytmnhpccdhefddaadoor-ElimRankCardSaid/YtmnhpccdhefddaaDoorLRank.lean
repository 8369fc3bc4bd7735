/- The rank: bounds, one column more, the order, a number that all are multiplied by: the law, walked. -/
import Derived.Test.YtmnhpccdhefddaaDoorLRankK
namespace Go.Proofs.YtmnhpccdhefddaaDoor
open Go.RowKit
namespace Wp

set_option maxHeartbeats 8000000 in
set_option maxRecDepth 100000 in
theorem rankl_out (p : Int) (v : Value) (cols : List (List Int)) (k : Int) (w : World) (hM : Met w) (hr : Rows2 w w.heap.size v cols) (R : Nat) (hR : (cols.getD 0 []).length = R) (h : (cols.length : Int) < 1 ∨ 20 < (cols.length : Int) ∨ 20 < (R : Int) ∨ elimB p R cols = false ∨ (elimB p R cols = true ∧ (k < 1 ∨ p ≤ k))) :
    Calls Tryd.prog 5 #[.int .i64 p, v, .int .i64 k] w (Truly w) := by
  have HM0 := Lib.hid hM
  have HC := Lib.hid hr
  have HB0 := Lib.hid (Below.refl w.heap.size w)
  obtain ⟨A, c, rfl, hcap, hcell⟩ := hr
  clear hM
  by_cases g1 : (cols.length : Int) < 1
  · clear h hcell
    go_enter Tryd.func5, Tryd.ntmps5
    go_wp2_with fail
    refine (fixed_any _ (HM0.out.up HB0.out)).mono ?_
    rintro e w1 ⟨rfl, hb2⟩
    have HB3 := Lib.hid (below_next HB0.out (Nat.le_refl _) hb2)
    clear hb2 HB0
    go_wp2_with fail
    refine (fixed_any _ (HM0.out.up HB3.out)).mono ?_
    rintro e w4 ⟨rfl, hb5⟩
    have HB6 := Lib.hid (below_next HB3.out (Nat.le_refl _) hb5)
    clear hb5 HB3
    go_wp2
    go_ret
    exact ⟨rfl, HB6.out⟩
  by_cases g2 : 20 < (cols.length : Int)
  · clear h hcell
    go_enter Tryd.func5, Tryd.ntmps5
    go_wp2_with fail
    refine (fixed_any _ (HM0.out.up HB0.out)).mono ?_
    rintro e w1 ⟨rfl, hb2⟩
    have HB3 := Lib.hid (below_next HB0.out (Nat.le_refl _) hb2)
    clear hb2 HB0
    go_wp2_with fail
    refine (fixed_any _ (HM0.out.up HB3.out)).mono ?_
    rintro e w4 ⟨rfl, hb5⟩
    have HB6 := Lib.hid (below_next HB3.out (Nat.le_refl _) hb5)
    clear hb5 HB3
    go_wp2
    go_ret
    exact ⟨rfl, HB6.out⟩
  obtain ⟨ad, u, hA, hab, hcu, hru⟩ := hcell 0 (by omega)
  subst hA
  obtain ⟨Au, cu, rfl, _, _⟩ := hru
  rw [hR] at hcu
  rw [add_zero] at hcu
  clear hcell
  by_cases g3 : 20 < (R : Int)
  · clear h
    go_enter Tryd.func5, Tryd.ntmps5
    go_wp2_with fail
    refine (fixed_any _ (HM0.out.up HB0.out)).mono ?_
    rintro e w1 ⟨rfl, hb2⟩
    have HB3 := Lib.hid (below_next HB0.out (Nat.le_refl _) hb2)
    clear hb2 HB0
    have g0 := (HB3.out.cell (p := ad) hab).trans hcu
    go_wp2_with fail
    refine (fixed_any _ (HM0.out.up HB3.out)).mono ?_
    rintro e w4 ⟨rfl, hb5⟩
    have HB6 := Lib.hid (below_next HB3.out (Nat.le_refl _) hb5)
    clear hb5 HB3
    go_wp2
    go_ret
    exact ⟨rfl, HB6.out⟩
  rcases ((h.resolve_left g1).resolve_left g2).resolve_left g3 with hb | ⟨hb, hk⟩
  · have Hb := Lib.hid hb
    clear h hb
    go_enter Tryd.func5, Tryd.ntmps5
    go_wp2_with fail
    refine (fixed_any _ (HM0.out.up HB0.out)).mono ?_
    rintro e w1 ⟨rfl, hb2⟩
    have HB3 := Lib.hid (below_next HB0.out (Nat.le_refl _) hb2)
    clear hb2 HB0
    have g0 := (HB3.out.cell (p := ad) hab).trans hcu
    go_wp2_with fail
    refine (refmayE_is p R _ cols false Hb.out _ (HC.out.up HB3.out)).mono ?_
    rintro e w4 ⟨rfl, hb5⟩
    have HB6 := Lib.hid (below_next HB3.out (Nat.le_refl _) hb5)
    clear hb5 HB3
    go_wp2_with fail
    refine (fixed_any _ (HM0.out.up HB6.out)).mono ?_
    rintro e w7 ⟨rfl, hb8⟩
    have HB9 := Lib.hid (below_next HB6.out (Nat.le_refl _) hb8)
    clear hb8 HB6
    go_wp2
    go_ret
    exact ⟨rfl, HB9.out⟩
  · have Hb := Lib.hid hb
    clear h hb
    by_cases k1 : k < 1
    · clear hk
      go_enter Tryd.func5, Tryd.ntmps5
      go_wp2_with fail
      refine (fixed_any _ (HM0.out.up HB0.out)).mono ?_
      rintro e w1 ⟨rfl, hb2⟩
      have HB3 := Lib.hid (below_next HB0.out (Nat.le_refl _) hb2)
      clear hb2 HB0
      have g0 := (HB3.out.cell (p := ad) hab).trans hcu
      go_wp2_with fail
      refine (refmayE_is p R _ cols true Hb.out _ (HC.out.up HB3.out)).mono ?_
      rintro e w4 ⟨rfl, hb5⟩
      have HB6 := Lib.hid (below_next HB3.out (Nat.le_refl _) hb5)
      clear hb5 HB3
      go_wp2_with fail
      refine (fixed_any _ (HM0.out.up HB6.out)).mono ?_
      rintro e w7 ⟨rfl, hb8⟩
      have HB9 := Lib.hid (below_next HB6.out (Nat.le_refl _) hb8)
      clear hb8 HB6
      go_wp2
      go_ret
      exact ⟨rfl, HB9.out⟩
    · have k2 : p ≤ k := hk.resolve_left k1
      clear hk
      go_enter Tryd.func5, Tryd.ntmps5
      go_wp2_with fail
      refine (fixed_any _ (HM0.out.up HB0.out)).mono ?_
      rintro e w1 ⟨rfl, hb2⟩
      have HB3 := Lib.hid (below_next HB0.out (Nat.le_refl _) hb2)
      clear hb2 HB0
      have g0 := (HB3.out.cell (p := ad) hab).trans hcu
      go_wp2_with fail
      refine (refmayE_is p R _ cols true Hb.out _ (HC.out.up HB3.out)).mono ?_
      rintro e w4 ⟨rfl, hb5⟩
      have HB6 := Lib.hid (below_next HB3.out (Nat.le_refl _) hb5)
      clear hb5 HB3
      go_wp2_with fail
      refine (fixed_any _ (HM0.out.up HB6.out)).mono ?_
      rintro e w7 ⟨rfl, hb8⟩
      have HB9 := Lib.hid (below_next HB6.out (Nat.le_refl _) hb8)
      clear hb8 HB6
      go_wp2
      go_ret
      exact ⟨rfl, HB9.out⟩

set_option maxHeartbeats 8000000 in
set_option maxRecDepth 100000 in
theorem rankl_in (p : Int) (v : Value) (cols : List (List Int)) (k : Int) (w : World) (hM : Met w) (hr : Rows2 w w.heap.size v cols) (R : Nat) (hR : (cols.getD 0 []).length = R) (g1 : ¬ (cols.length : Int) < 1) (g2 : ¬ 20 < (cols.length : Int)) (g3 : ¬ 20 < (R : Int)) (hb : elimB p R cols = true) (k1 : ¬ k < 1) (k2 : ¬ p ≤ k) :
    Calls Tryd.prog 5 #[.int .i64 p, v, .int .i64 k] w (Truly w) := by
  have Hb := Lib.hid hb
  obtain ⟨hpr, R', hRR, hR64, hn64, hci⟩ := elimB_in hb
  obtain rfl : R = R' := by omega
  obtain ⟨hp2, hp31, _⟩ := prB_iff.1 hpr
  have HP := Lib.hid hpr
  have HI := Lib.hid hci
  have hn0 : 0 < cols.length := by omega
  have HFa := Lib.hid (rank_facts hpr (by omega) hn0 (by omega) hci)
  have HFb := Lib.hid (rank_back hpr (by omega) hn64 hci)
  have HFt := Lib.hid (rank_times hpr (by omega) (by omega) (by omega) hn64 hci : rankI p R (timesC p R k cols cols.length) = rankI p R cols)
  have HM0 := Lib.hid hM
  have HC := Lib.hid hr
  have HB0 := Lib.hid (Below.refl w.heap.size w)
  obtain ⟨A, c, rfl, hcap, hcell⟩ := hr
  have Hcell := Lib.hid hcell
  obtain ⟨ad, u, hA, hab, hcu, hru⟩ := hcell 0 (by omega)
  subst hA
  obtain ⟨Au, cu, rfl, _, _⟩ := hru
  rw [hR] at hcu
  rw [add_zero] at hcu
  have hcapI : (cols.length : Int) ≤ (c : Int) := by omega
  clear hM hcell hb hpr hci hRR hcap
  go_enter Tryd.func5, Tryd.ntmps5
  go_wp2_with fail
  refine (fixed_any _ (HM0.out.up HB0.out)).mono ?_
  rintro e w1 ⟨rfl, hb2⟩
  have HB3 := Lib.hid (below_next HB0.out (Nat.le_refl _) hb2)
  clear hb2 HB0
  have g0 := (HB3.out.cell (p := ad) hab).trans hcu
  go_wp2_with fail
  refine (refmayE_is p R _ cols true Hb.out _ (HC.out.up HB3.out)).mono ?_
  rintro e w4 ⟨rfl, hb5⟩
  have HB6 := Lib.hid (below_next HB3.out (Nat.le_refl _) hb5)
  clear hb5 HB3
  clear g0
  have g0 := (HB6.out.cell (p := ad) hab).trans hcu
  have HS := Lib.hid (RKeep.start w4)
  have hw0 : IntKind.i64.wrap ((cols.length : Int) - 1) = (cols.length : Int) - 1 := by rw [IntKind.wrap_i64]; omega
  go_wp2
  go_loopw [8, 9, 10] (fun vb vt vi wr => ∃ (j : Nat) (us vs : List Value), vi = .int .i64 ((cols.length : Int) - 1 - (j : Int)) ∧ j ≤ cols.length ∧ RKeep w4 wr vb vt us vs (backC cols j) (timesC p R k cols j)) (fun _ _ vi _ => (intOf vi + 1).toNat)
  case atStart => exact ⟨0, [], [], by simp, Nat.zero_le _, by rw [timesC, backC_zero]; exact HS.out⟩
  case round =>
    obtain ⟨j, us, vs, rfl, hj, hkeep⟩ := hrel
    have Hk := Lib.hid hkeep
    clear HS hkeep g0 hw0
    by_cases hlt : j < cols.length
    · obtain ⟨i, hi⟩ : ∃ i : Nat, i = cols.length - 1 - j := ⟨_, rfl⟩
      have hiI : (cols.length : Int) - 1 - (j : Int) = (i : Int) := by omega
      have hin : i < cols.length := by omega
      have hi0 : (0 : Int) ≤ (i : Int) := by omega
      have hinI : (i : Int) < (cols.length : Int) := by omega
      have HJ := Lib.hid hi
      obtain ⟨ad', u, hA, habi, hcui, hrui⟩ := Hcell.out i hin
      injection hA with hA
      subst hA
      have hru2 := hrui
      obtain ⟨Ai, ci, hvi, _⟩ := hrui
      rw [(HI.out i hin).1] at hvi
      subst hvi
      have HBr := Lib.hid (below_next HB6.out (Nat.le_refl _) Hk.out.bel)
      have HRu := Lib.hid (hru2.up HB6.out)
      have g5 := (HBr.out.cell (p := ad.add i) (by rw [add_block]; exact habi)).trans hcui
      have HCo := Lib.hid (Hk.out.outb.alloc (.cells #[.slice Ai R ci] 26))
      have Hce := Lib.hid ((Blk.new wr 26 #[.slice Ai R ci]).cell 0)
      have HLe := Lib.hid Hk.out.bel.size
      have hul : us.length ≤ 64 := by
        have h1 := Hk.out.lenb
        rw [backC_length hj] at h1
        omega
      have hvl : vs.length ≤ 64 := by
        have h1 := Hk.out.fam.1
        unfold timesC at h1
        rw [List.length_map, backC_length hj] at h1
        omega
      rw [hiI]
      clear hru2 hcui habi hi hiI
      go_wp2_with (at_builtin; go_loud (refine wpList_append_cell rfl _ _ 22 26 (.slice none 0 0) 24 rfl Tryd.underlying22 info24 rfl w4.heap.size _ (.slice Ai R ci) us rfl HCo.out wr.heap.size rfl Hce.out rfl (by omega) (by omega) (by have := HLe.out; simp; omega) ?_))
      intro v2 wp hown2 hgr2 hl2
      have HK2 := Lib.hid ((Hk.out.upA (.cells #[.slice Ai R ci] 26)).pushB HRu.out hown2 hgr2 (by simpa using hl2))
      have HB2 := Lib.hid (below_next HB6.out (Nat.le_refl _) HK2.out.bel)
      have hw1 : IntKind.i64.wrap ((i : Int) + 1) = (i : Int) + 1 := by rw [IntKind.wrap_i64]; omega
      have hw2 : (0 : Int) ≤ (i : Int) + 1 := by omega
      have hw3 : ((i : Int) + 1).toNat = i + 1 := by omega
      have hw4 : (i : Int) ≤ (i : Int) + 1 := by omega
      have hw5 : (i : Int) + 1 ≤ (c : Int) := by omega
      clear hown2 hgr2 hl2 g5 HCo Hce HLe Hk HBr HRu
      have HSub := Lib.hid (Rows2.sub HC.out (i := i) (m := 1) (by omega) (.inl rfl) (by simp))
      have e1 : (cols.drop i).take 1 = [cols.getD i []] := by
        rw [List.drop_eq_getElem_cons hin, List.take_succ_cons, List.take_zero]
        simp [List.getD, hin]
      rw [e1] at HSub
      have HIn : Hid (ColsIn p R [cols.getD i []]) := by
        intro q hq
        obtain rfl : q = 0 := by simpa using hq
        exact HI.out i hin
      have hMI : ModIn p [k] := by
        intro q
        match q with
        | 0 => simp; omega
        | q + 1 => simp; omega
      have hsz : (wp.alloc (.cells #[.int .i64 k] 3)).heap.size = wp.heap.size + 1 := by simp
      have HB3 := Lib.hid (HB2.out.alloc HB2.out.size (.cells #[.int .i64 k] 3))
      have HK3 := Lib.hid (HK2.out.upA (.cells #[.int .i64 k] 3))
      have hsum := refsum_own p R (.slice (some (ad.add i)) 1 (c - i)) (.slice (some ⟨wp.heap.size, 0, none⟩) 1 1) [cols.getD i []] [k] _ hp2 hp31 (HSub.out.up HB3.out) (Row.at1 wp wp.heap.size rfl k) (by omega) (by simp) HIn.out (by simp) hMI
      rw [hsz] at hsum
      have Hsum := Lib.hid hsum
      have Hsz := Lib.hid hsz
      clear hsum hsz hMI e1 HB2 HK2 HIn HSub
      go_wp2_with fail
      refine Hsum.out.mono ?_
      rintro e wq ⟨rfl, hown4, hb4⟩
      rw [← Hsz.out] at hb4
      have HK4 := Lib.hid (HK3.out.below hb4)
      have hle := HK3.out.bel.size
      rw [Hsz.out] at hle
      have Hnew := Lib.hid (own_le hown4 hle)
      have Hdis : Hid (∀ v ∈ vs, v.ownBlock = none ∨ v.ownBlock ≠ (Value.slice (some ⟨wp.heap.size + 1, 0, none⟩) R R).ownBlock) := by
        intro z hz
        rcases hbz : z.ownBlock with _ | q
        · exact .inl rfl
        · right
          have := HK3.out.fam.lt hz hbz
          rw [Hsz.out] at this
          simp [Value.ownBlock]
          omega
      have Hco4 := Lib.hid (HK4.out.outt.alloc (.cells #[.slice (some ⟨wp.heap.size + 1, 0, none⟩) R R] 26))
      have Hce4 := Lib.hid ((Blk.new wq 26 #[.slice (some ⟨wp.heap.size + 1, 0, none⟩) R R]).cell 0)
      have HLe4 := Lib.hid HK4.out.bel.size
      clear hown4 hb4 hle Hsum HK3 HB3
      go_wp2_with (at_builtin; go_loud (refine wpList_append_cell rfl _ _ 22 26 (.slice none 0 0) 24 rfl Tryd.underlying22 info24 rfl w4.heap.size _ (.slice (some ⟨wp.heap.size + 1, 0, none⟩) R R) vs rfl Hco4.out wq.heap.size rfl Hce4.out rfl (by omega) (by omega) (by have := HLe4.out; simp; omega) ?_))
      intro v6 ws hown6 hgr6 hl6
      have HK6 := Lib.hid ((HK4.out.upA (.cells #[.slice (some ⟨wp.heap.size + 1, 0, none⟩) R R] 26)).pushT (q := scaleL p R k (cols.getD i [])) (by
        have hq : (scaleL p R k (cols.getD i [])).length = R := (sumL_in (by omega) _ _).1
        rw [hq]
        exact own_kept_none Hnew.out ((Below.refl _ wq).alloc (Nat.le_refl _) _)) Hdis.out hown6 hgr6 (by simpa using hl6))
      have hw6 : IntKind.i64.wrap ((i : Int) - 1) = (i : Int) - 1 := by rw [IntKind.wrap_i64]; omega
      have HJ2 : Hid (cols.length - 1 - j = i) := HJ.out.symm
      clear hown6 hgr6 hl6 Hco4 Hce4 Hdis Hnew HK4
      go_wp2
      go_roundw
      case rel =>
        refine ⟨j + 1, us ++ [.slice Ai R ci], vs ++ [.slice (some ⟨wp.heap.size + 1, 0, none⟩) R R], by have := HJ2.out; congr 1; omega, by omega, ?_⟩
        rw [backC_succ hlt, timesC_succ hlt, HJ2.out]
        exact HK6.out
      case measure =>
        simp [intOf]
    · obtain rfl : j = cols.length := by omega
      have HXb := Lib.hid Hk.out.rowsB
      have HXt := Lib.hid Hk.out.rowsT
      have HBr := Lib.hid (below_next HB6.out (Nat.le_refl _) Hk.out.bel)
      obtain ⟨bA, bc, hvb⟩ := own_slice Hk.out.outb
      obtain ⟨x1, hx1⟩ : ∃ x, rankI p R cols = x := ⟨_, rfl⟩
      obtain ⟨x2, hx2⟩ : ∃ x, rankI p R (cols.drop 1) = x := ⟨_, rfl⟩
      have hfa := HFa.out
      have hfb := HFb.out
      have hft := HFt.out
      rw [hx1, hx2] at hfa
      rw [hx1] at hfb hft
      have Hx1 := Lib.hid hx1
      have Hx2 := Lib.hid hx2
      have Hfb := Lib.hid hfb
      have Hft := Lib.hid hft
      have hm1 : (cols.length : Int) - 1 - ((cols.length : Nat) : Int) = -1 := by omega
      rw [hm1]
      have hw7 : (1 : Int) ≤ (cols.length : Int) := by omega
      have hw8 : IntKind.i64.wrap (x2 + 1) = x2 + 1 := by rw [IntKind.wrap_i64]; omega
      obtain ⟨f1, f2, f3, f4, f5⟩ := hfa
      clear hx1 hx2 hfb hft hm1 Hk hvb HFa HFb HFt g1
      have hlen1 : cols.length ≤ c := by omega
      have Hd1 : Hid ((cols.drop 1).take (cols.length - 1) = cols.drop 1) := by
        show _ = _
        exact List.take_of_length_le (by simp)
      by_cases hc1 : c = 1
      · have hcl : cols.length = 1 := by omega
        have f6 : x1 ≤ 1 := by omega
        have HSub := Lib.hid (Rows2.sub HC.out (i := 1) (m := 0) (by omega) (A' := some ad) (.inr rfl) (by simp))
        have e0 : (cols.drop 1).take 0 = cols.drop 1 := by
          rw [List.take_zero]
          exact (List.drop_eq_nil_iff.2 (by omega)).symm
        rw [e0] at HSub
        have Hcl := Lib.hid hcl
        subst hc1
        clear e0 hlen1 Hd1 hn0
        rw [hcl] at *
        clear hcl
        go_wp2
        go_region_with (first | (go_at_call_of 14 (Value.slice (some ad) 1 1); refine (rank_is p R _ cols x1 Hx1.out _ (HM0.out.up (by first | exact HBr.out.drew | exact below_next HBr.out.drew (Nat.le_refl _) ‹_›)) (HC.out.up (by first | exact HBr.out.drew | exact below_next HBr.out.drew (Nat.le_refl _) ‹_›))).mono ?_; rintro e w' ⟨rfl, hb'⟩) | (go_at_call 14; go_loud (refine (rank_is p R _ (cols.drop 1) x2 Hx2.out _ (HM0.out.up (by first | exact HBr.out.drew | exact below_next HBr.out.drew (Nat.le_refl _) ‹_›)) (HSub.out.up (by first | exact HBr.out.drew | exact below_next HBr.out.drew (Nat.le_refl _) ‹_›))).mono ?_); rintro e w' ⟨rfl, hb'⟩))
        all_goals
          have HBx := Lib.hid (below_next (below_next (Below.refl wr.heap.size wr).drew (Nat.le_refl _) ‹Below wr.drew.heap.size wr.drew _›) (Nat.le_refl _) hb')
          have HB88 := Lib.hid (below_next HBr.out (Nat.le_refl _) HBx.out)
          have HX8b := Lib.hid (HXb.out.up HBx.out)
          have HX8t := Lib.hid (HXt.out.up HBx.out)
          clear hb' HBx HXb HXt HBr
          go_simp
          go_wp2_with fail
          refine (rank_is p R _ _ x1 Hfb.out _ (HM0.out.up HB88.out) HX8b.out).mono ?_
          rintro e w301 ⟨rfl, hb302⟩
          have xb_303 := Lib.hid (HX8b.out.up hb302)
          clear HX8b
          have xt_304 := Lib.hid (HX8t.out.up hb302)
          clear HX8t
          have HB305 := Lib.hid (below_next HB88.out (Nat.le_refl _) hb302)
          clear hb302 HB88
          go_wp2_with fail
          refine (rank_is p R _ _ x1 Hft.out _ (HM0.out.up HB305.out) xt_304.out).mono ?_
          rintro e w306 ⟨rfl, hb307⟩
          have xb_308 := Lib.hid (xb_303.out.up hb307)
          clear xb_303
          have xt_309 := Lib.hid (xt_304.out.up hb307)
          clear xt_304
          have HB310 := Lib.hid (below_next HB305.out (Nat.le_refl _) hb307)
          clear hb307 HB305
          go_wp2
          go_ret
          exact ⟨rfl, HB310.out⟩
      · have HSub := Lib.hid (Rows2.sub HC.out (i := 1) (m := cols.length - 1) (by omega) (.inl rfl) (by simp))
        rw [Hd1.out] at HSub
        have hc1I : (1 : Int) ≤ (c : Int) := by omega
        go_wp2
        go_region_with (first | (go_at_call_of 14 (Value.slice (some ad) cols.length c); refine (rank_is p R _ cols x1 Hx1.out _ (HM0.out.up (by first | exact HBr.out.drew | exact below_next HBr.out.drew (Nat.le_refl _) ‹_›)) (HC.out.up (by first | exact HBr.out.drew | exact below_next HBr.out.drew (Nat.le_refl _) ‹_›))).mono ?_; rintro e w' ⟨rfl, hb'⟩) | (go_at_call 14; go_loud (refine (rank_is p R _ (cols.drop 1) x2 Hx2.out _ (HM0.out.up (by first | exact HBr.out.drew | exact below_next HBr.out.drew (Nat.le_refl _) ‹_›)) (HSub.out.up (by first | exact HBr.out.drew | exact below_next HBr.out.drew (Nat.le_refl _) ‹_›))).mono ?_); rintro e w' ⟨rfl, hb'⟩))
        all_goals
          have HBx := Lib.hid (below_next (below_next (Below.refl wr.heap.size wr).drew (Nat.le_refl _) ‹Below wr.drew.heap.size wr.drew _›) (Nat.le_refl _) hb')
          have HB88 := Lib.hid (below_next HBr.out (Nat.le_refl _) HBx.out)
          have HX8b := Lib.hid (HXb.out.up HBx.out)
          have HX8t := Lib.hid (HXt.out.up HBx.out)
          clear hb' HBx HXb HXt HBr
          go_simp
          go_wp2_with fail
          refine (rank_is p R _ _ x1 Hfb.out _ (HM0.out.up HB88.out) HX8b.out).mono ?_
          rintro e w301 ⟨rfl, hb302⟩
          have xb_303 := Lib.hid (HX8b.out.up hb302)
          clear HX8b
          have xt_304 := Lib.hid (HX8t.out.up hb302)
          clear HX8t
          have HB305 := Lib.hid (below_next HB88.out (Nat.le_refl _) hb302)
          clear hb302 HB88
          go_wp2_with fail
          refine (rank_is p R _ _ x1 Hft.out _ (HM0.out.up HB305.out) xt_304.out).mono ?_
          rintro e w306 ⟨rfl, hb307⟩
          have xb_308 := Lib.hid (xb_303.out.up hb307)
          clear xb_303
          have xt_309 := Lib.hid (xt_304.out.up hb307)
          clear xt_304
          have HB310 := Lib.hid (below_next HB305.out (Nat.le_refl _) hb307)
          clear hb307 HB305
          go_wp2
          go_ret
          exact ⟨rfl, HB310.out⟩

theorem rankl_any (p : Int) (v : Value) (cols : List (List Int)) (k : Int) (w : World) (hM : Met w) (hr : Rows2 w w.heap.size v cols) : Calls Tryd.prog 5 #[.int .i64 p, v, .int .i64 k] w (Truly w) := by
  by_cases g1 : (cols.length : Int) < 1
  · exact rankl_out p v cols k w hM hr _ rfl (.inl g1)
  by_cases g2 : 20 < (cols.length : Int)
  · exact rankl_out p v cols k w hM hr _ rfl (.inr (.inl g2))
  by_cases g3 : 20 < (((cols.getD 0 []).length : Nat) : Int)
  · exact rankl_out p v cols k w hM hr _ rfl (.inr (.inr (.inl g3)))
  rcases hb : elimB p ((cols.getD 0 []).length : Nat) cols with _ | _
  · exact rankl_out p v cols k w hM hr _ rfl (.inr (.inr (.inr (.inl hb))))
  by_cases k1 : k < 1
  · exact rankl_out p v cols k w hM hr _ rfl (.inr (.inr (.inr (.inr ⟨hb, .inl k1⟩))))
  by_cases k2 : p ≤ k
  · exact rankl_out p v cols k w hM hr _ rfl (.inr (.inr (.inr (.inr ⟨hb, .inr k2⟩))))
  exact rankl_in p v cols k w hM hr _ rfl g1 g2 g3 hb k1 k2

end Wp
end Go.Proofs.YtmnhpccdhefddaaDoor
