/- Columns of which each has 1 in a row of its own: the law, walked. -/
import Derived.Test.YtmnhpccdhefddaaDoorLApp
namespace Go.Proofs.YtmnhpccdhefddaaDoor
open Go.RowKit
namespace Wp

def allI (i : Nat) : List Int := (List.range i).map fun (j : Nat) => (j : Int)
def unitsF (n i : Nat) : List (List Int) := (List.range i).map (unitL n)
theorem allI_succ (i : Nat) : allI (i + 1) = allI i ++ [(i : Int)] := by simp [allI, List.range_succ]
theorem unitsF_succ (n i : Nat) : unitsF n (i + 1) = unitsF n i ++ [unitL n i] := by simp [unitsF, List.range_succ]
theorem unit_cells {n i : Nat} : (madeCells #[Value.int .i64 0] n).toList.set i (.int .i64 1) = ints (unitL n i) := by
  rw [toList_madeCells_one]
  apply List.ext_getElem
  · simp [ints, unitL]
  · intro j h1 h2
    rw [List.getElem_set]
    simp only [ints, unitL, List.getElem_map, List.getElem_range, List.getElem_replicate]
    by_cases e : i = j
    · subst e
      simp
    · rw [if_neg e, if_neg (fun h => e h.symm)]
theorem unitL_length (n i : Nat) : (unitL n i).length = n := by simp [unitL]
theorem cell_at (W : World) (n : Nat) (h : W.heap.size = n) (u : Value) (t : TypeId) : (W.alloc (.cells #[u] t)).cell? ⟨n, 0, none⟩ = some u := by
  subst h
  exact (Blk.new W t #[u]).cell 0
theorem Fam.tail {w : World} {B : Nat} {u : Value} {vs : List Value} {q : List Int} {pp : List (List Int)} (h : Fam w B (u :: vs) (q :: pp)) : Fam w B vs pp :=
  ⟨by have := h.1; simpa using this, fun i v p hv hp => h.2.1 (i + 1) v p (by simpa using hv) (by simpa using hp), fun i j v z hv hz hij => h.2.2 (i + 1) (j + 1) v z (by simpa using hv) (by simpa using hz) (by omega)⟩
structure UKeep (w wr : World) (va vb : Value) (vs : List Value) (n i : Nat) : Prop where
  out : wr.ownsRow w.heap.size 26 1 vb vs.length vs
  fam : Fam wr w.heap.size (va :: vs) (allI i :: unitsF n i)
  bel : Below w.heap.size w wr
theorem UKeep.start (w : World) (n : Nat) : UKeep w ((w.alloc (.cells #[] 26)).alloc (.cells #[] 3)) (.slice (some ⟨w.heap.size + 1, 0, none⟩) 0 0) (.slice (some ⟨w.heap.size, 0, none⟩) 0 0) [] n 0 := by
  have h := World.ownsRow_lit (base := w.heap.size) (e := 3) (size := 1) (w.alloc (.cells #[] 26)) #[] 0 (by simp) (by unfold maxLen; omega) rfl
  rw [show (w.alloc (.cells #[] 26)).heap.size = w.heap.size + 1 by simp] at h
  refine ⟨World.ownsRow.alloc (World.ownsRow_lit w #[] 0 (Nat.le_refl _) (by unfold maxLen; omega) rfl) _, ⟨rfl, ?_, ?_⟩, below_two w _ _⟩
  · intro i v p hv hp
    match i, hv, hp with
    | 0, hv, hp =>
      simp at hv hp
      subst hv hp
      exact h
    | i + 1, hv, _ => simp at hv
  · intro i j v u hv hu hij
    match i, hv with
    | 0, hv =>
      match j, hu with
      | 0, _ => exact absurd rfl hij
      | j + 1, hu => simp at hu
    | i + 1, hv => simp at hv
/-- A round: a row made and its 1 stored, a row more, a number more. -/
theorem UKeep.made {w wr : World} {va vb : Value} {vs : List Value} {n i : Nat} (h : UKeep w wr va vb vs n i) (hn : n ≤ 64) {w2 : World} (e2 : w2 = wr.alloc (.cells ((madeCells #[.int .i64 0] n).setIfInBounds i (.int .i64 1)) 3)) :
    w2.ownsRow w.heap.size 26 1 vb vs.length vs ∧ Fam w2 w.heap.size (va :: (vs ++ [.slice (some ⟨wr.heap.size, 0, none⟩) n n])) (allI i :: unitsF n (i + 1)) ∧ Below w.heap.size w w2 ∧ w2.heap.size = wr.heap.size + 1 := by
  have hb : Below wr.heap.size wr w2 := by
    rw [e2]
    exact (Below.refl _ wr).alloc (Nat.le_refl _) _
  have hnew : w2.ownsRow wr.heap.size 3 1 (.slice (some ⟨wr.heap.size, 0, none⟩) n n) n (ints (unitL n i)) := by
    have h0 := World.ownsRow_lit (base := wr.heap.size) (e := 3) (size := 1) wr ((madeCells #[.int .i64 0] n).setIfInBounds i (.int .i64 1)) n (Nat.le_refl _) (by unfold maxLen; omega) (by rw [Array.size_setIfInBounds, size_madeCells]; omega)
    rw [Array.toList_setIfInBounds, unit_cells] at h0
    rw [e2]
    exact h0
  have hF := (h.fam.new (only_of_below hb none)).push (u := .slice (some ⟨wr.heap.size, 0, none⟩) n n) (q := unitL n i) (by rw [unitL_length]; exact own_le hnew h.bel.size) (fun z hz => by
    rcases hbz : z.ownBlock with _ | q
    · exact .inl rfl
    · right
      have := h.fam.lt hz hbz
      simp [Value.ownBlock]
      omega)
  rw [List.cons_append, List.cons_append, ← unitsF_succ] at hF
  exact ⟨own_kept_none h.out hb, hF, below_next h.bel (Nat.le_refl _) hb, by rw [e2]; simp⟩
variable {p : Int} {n : Nat}
theorem combo_units (h1 : prB p = true) (hn : n ≤ 64) {goal : List Int} (hg : InR p n goal) : comboI p n (unitsL n) goal = some goal := by
  have hp := (prB_iff.1 h1).1
  have hl : (unitsL n).length = n := by simp [unitsL]
  rcases comboI_in h1 hn (by omega) (unitsL_in (by omega)) hg with ⟨_, h⟩ | ⟨T, hT, _, ht⟩
  · exact absurd (units_span goal hg.1) h
  · rw [hT, told_units (by omega) hg ht]
theorem basis_units (h1 : prB p = true) (hn : n ≤ 64) : basisI p n (unitsL n) = allI n := by
  have hp := (prB_iff.1 h1).1
  have hl : (unitsL n).length = n := by simp [unitsL]
  rw [basisI_in h1 hn (by omega) (unitsL_in (by omega)), basN_units (by omega)]
  rfl
theorem rank_units (h1 : prB p = true) (hn : n ≤ 64) : rankI p n (unitsL n) = n := by
  have hp := (prB_iff.1 h1).1
  have hl : (unitsL n).length = n := by simp [unitsL]
  rw [rankI_rk h1 hn (by omega) (unitsL_in (by omega)), rk_cols (fld_ok h1), basN_units (by omega), List.length_range]

set_option maxHeartbeats 8000000 in
set_option maxRecDepth 100000 in
theorem units_out (p : Int) (v : Value) (goal : List Int) (w : World) (hM : Met w) (hg : Row w w.heap.size v goal) (h : 20 < (goal.length : Int) ∨ elimB p (goal.length : Nat) [goal] = false) :
    Calls Tryd.prog 6 #[.int .i64 p, v] w (Truly w) := by
  have HM0 := Lib.hid hM
  have HG := Lib.hid hg
  have HB0 := Lib.hid (Below.refl w.heap.size w)
  obtain ⟨A, c, rfl, _⟩ := hg
  clear hM
  by_cases g1 : 20 < (goal.length : Int)
  · clear h
    go_enter Tryd.func6, Tryd.ntmps6
    go_wp2_with fail
    refine (fixed_any _ (HM0.out.up HB0.out)).mono ?_
    rintro e w1 ⟨rfl, hb2⟩
    have HB3 := Lib.hid (below_next HB0.out (Nat.le_refl _) hb2)
    clear hb2 HB0
    go_wp2_with fail
    refine (fixed_any _ (HM0.out.up HB3.out)).mono ?_
    rintro e w4 ⟨rfl, hb5⟩
    have HB6 := Lib.hid (below_next HB3.out (Nat.le_refl _) hb5)
    clear hb5 HB3
    go_wp2
    go_ret
    exact ⟨rfl, HB6.out⟩
  have Hb := Lib.hid (h.resolve_left g1)
  clear h
  go_enter Tryd.func6, Tryd.ntmps6
  go_wp2_with fail
  refine (fixed_any _ (HM0.out.up HB0.out)).mono ?_
  rintro e w1 ⟨rfl, hb2⟩
  have HB3 := Lib.hid (below_next HB0.out (Nat.le_refl _) hb2)
  clear hb2 HB0
  have HE := Lib.hid (Rows2.lit1 (HG.out.up HB3.out))
  have HB4 := Lib.hid (HB3.out.alloc HB3.out.size (.cells #[.slice A goal.length c] 26))
  clear HB3
  go_wp2_with fail
  refine (refmayE_is p _ _ [goal] false Hb.out _ HE.out).mono ?_
  rintro e w5 ⟨rfl, hb6⟩
  have HB7 := Lib.hid (below_next HB4.out (Nat.le_refl _) hb6)
  clear hb6 HB4
  clear HE
  go_wp2_with fail
  refine (fixed_any _ (HM0.out.up HB7.out)).mono ?_
  rintro e w8 ⟨rfl, hb9⟩
  have HB10 := Lib.hid (below_next HB7.out (Nat.le_refl _) hb9)
  clear hb9 HB7
  go_wp2
  go_ret
  exact ⟨rfl, HB10.out⟩

set_option maxHeartbeats 8000000 in
set_option maxRecDepth 100000 in
theorem units_in (p : Int) (v : Value) (goal : List Int) (w : World) (hM : Met w) (hg : Row w w.heap.size v goal) (g1 : ¬ 20 < (goal.length : Int)) (hb : elimB p (goal.length : Nat) [goal] = true) :
    Calls Tryd.prog 6 #[.int .i64 p, v] w (Truly w) := by
  have Hb := Lib.hid hb
  obtain ⟨hpr, R, hRR, hR64, _, hci⟩ := elimB_in hb
  obtain rfl : goal.length = R := by omega
  have HP := Lib.hid hpr
  have HI : Hid (InR p goal.length goal) := by
    show InR p goal.length goal
    have := hci 0 (by simp)
    simpa using this
  have HM0 := Lib.hid hM
  have HG := Lib.hid hg
  have HB0 := Lib.hid (Below.refl w.heap.size w)
  obtain ⟨A, c, rfl, _⟩ := hg
  have hmk := fun W => run_make_row' 26 3 (.int .i64 0) 8 Tryd.underlying26 info3 rfl .i64 .i64 goal.length (by omega) (by omega) W
  clear hM hb hpr hci hRR
  go_enter Tryd.func6, Tryd.ntmps6
  go_wp2_with fail
  refine (fixed_any _ (HM0.out.up HB0.out)).mono ?_
  rintro e w1 ⟨rfl, hb2⟩
  have HB3 := Lib.hid (below_next HB0.out (Nat.le_refl _) hb2)
  clear hb2 HB0
  have HE := Lib.hid (Rows2.lit1 (HG.out.up HB3.out))
  have HB4 := Lib.hid (HB3.out.alloc HB3.out.size (.cells #[.slice A goal.length c] 26))
  clear HB3
  go_wp2_with fail
  refine (refmayE_is p _ _ [goal] true Hb.out _ HE.out).mono ?_
  rintro e w5 ⟨rfl, hb6⟩
  have HB7 := Lib.hid (below_next HB4.out (Nat.le_refl _) hb6)
  clear hb6 HB4
  clear HE
  go_wp2
  have HS := Lib.hid (UKeep.start w5 goal.length)
  go_loopw [6, 7, 8] (fun vb va vi wr => ∃ (i : Nat) (vs : List Value), vi = .int .i64 i ∧ i ≤ goal.length ∧ UKeep w5 wr va vb vs goal.length i) (fun _ _ vi _ => goal.length - (intOf vi).toNat)
  case atStart => exact ⟨0, [], rfl, Nat.zero_le _, HS.out⟩
  case round =>
    obtain ⟨i, vs, rfl, hi, hkeep⟩ := hrel
    have Hk := Lib.hid hkeep
    clear HS hkeep
    by_cases hlt : i < goal.length
    · have hltI : (i : Int) < (goal.length : Int) := by omega
      have Hnum := Lib.hid (World.rowIs_made wr (.int .i64 0) goal.length 3)
      have g4 := World.rowIs.cell Hnum.out hlt
      have hfz := World.rowIs.frozen Hnum.out i
      obtain ⟨w2, e2⟩ : ∃ w2, w2 = wr.alloc (.cells ((madeCells #[.int .i64 0] goal.length).setIfInBounds i (.int .i64 1)) 3) := ⟨_, rfl⟩
      obtain ⟨hout2, hfam2, hbel2, hsz2⟩ := Hk.out.made (by omega) e2
      have Hout2 := Lib.hid hout2
      have Hfam2 := Lib.hid hfam2
      have Hbel2 := Lib.hid hbel2
      have Hsz2 := Lib.hid hsz2
      have hvl : vs.length ≤ 64 := by
        have := Hk.out.fam.1
        simp [unitsF] at this
        omega
      have hil64 : (ints (allI i)).length ≤ 64 := by
        simp [ints, allI]
        omega
      have HLe := Lib.hid Hk.out.bel.size
      have HE2 := Lib.hid e2
      clear hout2 hfam2 hbel2 hsz2 hmk
      have hmk := run_make_row' 26 3 (.int .i64 0) 8 Tryd.underlying26 info3 rfl .i64 .i64 goal.length (by omega) (by omega) wr
      have Hcell3 := Lib.hid (cell_at w2 (wr.heap.size + 1) Hsz2.out (.slice (some ⟨wr.heap.size, 0, none⟩) goal.length goal.length) 26)
      rw [e2] at Hcell3
      have Hout3 := Lib.hid (Hout2.out.alloc (.cells #[.slice (some ⟨wr.heap.size, 0, none⟩) goal.length goal.length] 26))
      rw [e2] at Hout3
      clear e2 Hnum
      go_wp2_with (at_builtin; go_loud (refine wpList_append_cell rfl _ _ 22 26 (.slice none 0 0) 24 rfl Tryd.underlying22 info24 rfl w5.heap.size _ (.slice (some ⟨wr.heap.size, 0, none⟩) goal.length goal.length) vs rfl Hout3.out (wr.heap.size + 1) rfl Hcell3.out rfl (by omega) (by omega) (by have := HLe.out; have := Hsz2.out; rw [← HE2.out]; simp; omega) ?_))
      intro v4 w4 hown4 hgr4 _
      rw [← HE2.out] at hgr4 Hout3
      have Hb3 := Lib.hid (Hbel2.out.alloc (by have := HLe.out; have := Hsz2.out; omega) (.cells #[.slice (some ⟨wr.heap.size, 0, none⟩) goal.length goal.length] 26))
      have Hfam4 := Lib.hid ((Hfam2.out.new (World.grownBy_alloc _ _ none)).outer Hout3.out hgr4)
      have Hb4 := Lib.hid (Hb3.out.grown hgr4 Hb3.out.size (fun k hk => (Hout3.out.lt k hk).1))
      have Hout4 := Lib.hid hown4
      clear hown4 hgr4 Hout3 Hb3 Hcell3 Hout2 Hfam2 Hbel2
      have Hfam5 := Lib.hid (Hfam4.out.new (World.grownBy_alloc w4 (.cells #[.int .i64 (i : Int)] 3) none))
      have Hout5 := Lib.hid (Hout4.out.alloc (.cells #[.int .i64 (i : Int)] 3))
      have Hb5 := Lib.hid (Hb4.out.alloc Hb4.out.size (.cells #[.int .i64 (i : Int)] 3))
      have hva0 := Hfam5.out.2.1 0 _ _ rfl rfl
      rw [← ints_length (allI i)] at hva0
      have Hva := Lib.hid hva0
      clear hva0
      have Hcell5 := Lib.hid (cell_at w4 w4.heap.size rfl (.int .i64 (i : Int)) 3)
      clear Hfam4 Hout4 Hb4
      go_wp2_with (at_builtin; go_loud (refine wpList_append_cell rfl _ _ 26 3 (.int .i64 0) 8 rfl Tryd.underlying26 info3 rfl w5.heap.size _ (.int .i64 (i : Int)) (ints (allI i)) rfl Hva.out w4.heap.size rfl Hcell5.out rfl (by omega) (by omega) Hb5.out.size ?_))
      intro v6 w6 hown6 hgr6 hl6
      have Hk6 : Hid (UKeep w5 w6 v6 v4 (vs ++ [.slice (some ⟨wr.heap.size, 0, none⟩) goal.length goal.length]) goal.length (i + 1)) := by
        refine ⟨?_, ?_, Hb5.out.grown hgr6 Hb5.out.size (fun k hk => (Hva.out.lt k hk).1)⟩
        · rw [List.length_append]
          exact Hout5.out.kept hgr6 (own_ne Hout5.out Hva.out (by decide))
        · have := Hfam5.out.grow (at_ := 0) (u' := v6) (q := allI (i + 1)) rfl hgr6 (by
            rw [allI_succ, ints_append, List.length_append, ← ints_length]
            exact hown6) (by simpa using hl6)
          simpa using this
      clear hown6 hgr6 hl6 Hfam5 Hout5 Hb5 Hva Hcell5
      go_wp2
      go_roundw
      case rel => exact ⟨i + 1, _, by go_num, by omega, Hk6.out⟩
      case measure => simp [intOf]; omega
    · have hie : i = goal.length := by omega
      subst hie
      have hvl : vs.length = goal.length := by
        have := Hk.out.fam.1
        simpa [unitsF] using this
      have HX := Lib.hid (Fam.rows (pp := unitsL goal.length) Hk.out.fam.tail Hk.out.out)
      have HA := Lib.hid (Row.of_own (zs := allI goal.length) (Hk.out.fam.2.1 0 _ _ rfl rfl) rfl)
      have HB99 := Lib.hid (below_next HB7.out (Nat.le_refl _) Hk.out.bel)
      have HAl : Hid ((allI goal.length).length ≤ 1048576) := by show _ ≤ _; simp [allI]; omega
      have HGl : Hid (goal.length ≤ 1048576) := by show _ ≤ _; omega
      clear Hk hvl hmk
      go_wp2_with fail
      refine (combo_is p _ _ _ (unitsL goal.length) goal (some goal) (combo_units HP.out (by omega) HI.out) _ (HM0.out.up HB99.out) HX.out (HG.out.up HB99.out)).mono ?_
      rintro e w103 ⟨v101, rfl, r102, hb104⟩
      have ext_105 := Lib.hid (HX.out.up hb104)
      clear HX
      have all_106 := Lib.hid (HA.out.up hb104)
      clear HA
      have HB107 := Lib.hid (below_next HB99.out (Nat.le_refl _) hb104)
      clear hb104 HB99
      have c_108 := Lib.hid (r102)
      clear r102
      go_wp2_with fail
      refine (basis_is p _ _ (unitsL goal.length) _ (basis_units HP.out (by omega)) _ (HM0.out.up HB107.out) ext_105.out).mono ?_
      rintro e w111 ⟨v109, rfl, r110, hb112⟩
      have ext_113 := Lib.hid (ext_105.out.up hb112)
      clear ext_105
      have all_114 := Lib.hid (all_106.out.up hb112)
      clear all_106
      have c_115 := Lib.hid (c_108.out.up hb112)
      clear c_108
      have HB116 := Lib.hid (below_next HB107.out (Nat.le_refl _) hb112)
      clear hb112 HB107
      have b_117 := Lib.hid (r110)
      clear r110
      go_wp2_with fail
      refine (same_is _ _ _ _ _ b_117.out all_114.out HAl.out HAl.out (same_true rfl)).mono ?_
      rintro e w118 ⟨rfl, hb119⟩
      have ext_120 := Lib.hid (ext_113.out.up hb119)
      clear ext_113
      have all_121 := Lib.hid (all_114.out.up hb119)
      clear all_114
      have c_122 := Lib.hid (c_115.out.up hb119)
      clear c_115
      have b_123 := Lib.hid (b_117.out.up hb119)
      clear b_117
      have HB124 := Lib.hid (below_next HB116.out (Nat.le_refl _) hb119)
      clear hb119 HB116
      clear b_123
      clear all_121
      go_wp2_with fail
      refine (rank_is p _ _ (unitsL goal.length) _ (rank_units HP.out (by omega)) _ (HM0.out.up HB124.out) ext_120.out).mono ?_
      rintro e w125 ⟨rfl, hb126⟩
      have ext_127 := Lib.hid (ext_120.out.up hb126)
      clear ext_120
      have c_128 := Lib.hid (c_122.out.up hb126)
      clear c_122
      have HB129 := Lib.hid (below_next HB124.out (Nat.le_refl _) hb126)
      clear hb126 HB124
      go_wp2_with fail
      refine (same_is _ _ goal goal _ c_128.out (HG.out.up HB129.out) HGl.out HGl.out (same_true rfl)).mono ?_
      rintro e w130 ⟨rfl, hb131⟩
      have ext_132 := Lib.hid (ext_127.out.up hb131)
      clear ext_127
      have c_133 := Lib.hid (c_128.out.up hb131)
      clear c_128
      have HB134 := Lib.hid (below_next HB129.out (Nat.le_refl _) hb131)
      clear hb131 HB129
      go_wp2
      go_ret
      exact ⟨rfl, HB134.out⟩

theorem units_any (p : Int) (v : Value) (goal : List Int) (w : World) (hM : Met w) (hg : Row w w.heap.size v goal) : Calls Tryd.prog 6 #[.int .i64 p, v] w (Truly w) := by
  by_cases g1 : 20 < (goal.length : Int)
  · exact units_out p v goal w hM hg (.inl g1)
  rcases hb : elimB p (goal.length : Nat) [goal] with _ | _
  · exact units_out p v goal w hM hg (.inr hb)
  · exact units_in p v goal w hM hg g1 hb

end Wp
end Go.Proofs.YtmnhpccdhefddaaDoor
