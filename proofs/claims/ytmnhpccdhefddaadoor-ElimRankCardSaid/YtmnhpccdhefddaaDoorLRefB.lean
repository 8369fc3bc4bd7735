/- The document's Rank and Basis, walked. -/
import Derived.Test.YtmnhpccdhefddaaDoorLRefRk
import Derived.Deep.RegionWith
namespace Go.Proofs.YtmnhpccdhefddaaDoor
open Go.RowKit
namespace Wp

theorem refmayE_is (p rows : Int) (v : Value) (cols : List (List Int)) (b : Bool) (h : elimB p rows cols = b) (w : World) (hr : Rows2 w w.heap.size v cols) :
    Calls Tryd.prog 10 #[.int .i64 p, .int .i64 rows, v] w (Says w b) := by
  subst h
  exact refmayE_any p rows v cols w hr
theorem Rows2.take {w : World} {B : Nat} {A : Option Addr} {n c : Nat} {pp : List (List Int)} (h : Rows2 w B (.slice A n c) pp) {k : Nat} (hk : k ≤ pp.length) : Rows2 w B (.slice A k c) (pp.take k) := by
  obtain ⟨A', c', hv, hn, hc⟩ := h
  injection hv with h1 h2 h3
  subst h1
  subst h3
  refine ⟨_, _, by rw [List.length_take, Nat.min_eq_left hk], ⟨by rw [List.length_take, Nat.min_eq_left hk]; omega, hn.2.1, hn.2.2⟩, fun i hi => ?_⟩
  rw [List.length_take, Nat.min_eq_left hk] at hi
  obtain ⟨ad, u, h4, h5, h6, h7⟩ := hc i (by omega)
  refine ⟨ad, u, h4, h5, h6, ?_⟩
  rw [show (pp.take k).getD i [] = pp.getD i [] by simp [List.getD, hi]]
  exact h7
theorem colsIn_take {p : Int} {R k : Nat} {cols : List (List Int)} (h : ColsIn p R cols) : ColsIn p R (cols.take k) := by
  intro i hi
  rw [List.length_take] at hi
  rw [show (cols.take k).getD i [] = cols.getD i [] by simp [List.getD, show i < k by omega]]
  exact h i (by omega)
/-- What the lines of a basis tell is the document's. -/
theorem rankI_rk {p : Int} {R : Nat} {cols : List (List Int)} (h1 : prB p = true) (hR : R ≤ 64) (hn : cols.length ≤ 64) (hc : ColsIn p R cols) : rankI p R cols = ((rk p R (cols.map vec) : Nat) : Int) := by
  unfold rankI
  rw [if_pos (elimB_of h1 hR hn hc), rk_cols (fld_ok h1), ← (linesI_lines h1 hc).pl, List.length_map]

set_option maxHeartbeats 4000000 in
set_option maxRecDepth 100000 in
theorem refrankI_any (p rows : Int) (v : Value) (cols : List (List Int)) (w : World) (hr : Rows2 w w.heap.size v cols) :
    Calls Tryd.prog 15 #[.int .i64 p, .int .i64 rows, v] w (Gets w (.int .i64 (rankI p rows cols))) := by
  have Hr := Lib.hid hr
  obtain ⟨A, c, rfl, _⟩ := hr
  rcases hb : elimB p rows cols with _ | _
  · have Hb := Lib.hid hb
    have e : rankI p rows cols = -1 := by unfold rankI; rw [hb]; rfl
    rw [e]
    clear hb e
    go_enter Tryd.func15, Tryd.ntmps15
    go_wp2_with fail
    refine (refmayE_is p rows _ cols false Hb.out w Hr.out).mono ?_
    rintro e w1 ⟨rfl, hb1⟩
    go_wp2
    go_ret
    exact ⟨rfl, hb1⟩
  · obtain ⟨h1, R, rfl, h2, h3, h4⟩ := elimB_in hb
    have Hb := Lib.hid hb
    rw [rankI_rk h1 h2 h3 h4]
    have Hk := Lib.hid (fun w1 (hr1 : Rows2 w1 w1.heap.size (Value.slice A cols.length c) cols) => refrank_any p R _ cols w1 h1 hr1 h4 h2 h3)
    generalize rk p R (cols.map vec) = n at *
    clear hb h1 h4
    go_enter Tryd.func15, Tryd.ntmps15
    go_wp2_with fail
    refine (refmayE_is p R _ cols true Hb.out w Hr.out).mono ?_
    rintro e w1 ⟨rfl, hb1⟩
    have Hb1 := Lib.hid hb1
    clear hb1
    go_wp2_with fail
    refine (Hk.out w1 (Hr.out.up Hb1.out)).mono ?_
    rintro e w2 ⟨rfl, hb2⟩
    have Hb2 := Lib.hid (below_next Hb1.out (Nat.le_refl _) hb2)
    go_wp2
    go_ret
    exact ⟨rfl, Hb2.out⟩

theorem own_kept_none {w w' : World} {base : Nat} {e : TypeId} {size : Nat} {v : Value} {n : Nat} {xs : List Value} (h : w.ownsRow base e size v n xs) (hb : Below w.heap.size w w') : w'.ownsRow base e size v n xs :=
  h.kept (only_of_below hb none) (by
    rcases v.ownBlock with _ | q
    · exact .inl rfl
    · exact .inr (by simp))
def basI (p : Int) (_ : Nat) (cols : List (List Int)) (k : Nat) : List Int := (placesI (linesL p (fun x => invI x p) cols k))
theorem basI_step {p : Int} {R : Nat} {cols : List (List Int)} (h1 : prB p = true) (hc : ColsIn p R cols) {k : Nat} (hk : k < cols.length) :
    (rk p R ((cols.take k).map vec) < rk p R ((cols.take (k + 1)).map vec) ∧ basI p R cols (k + 1) = basI p R cols k ++ [(k : Int)]) ∨
    (rk p R ((cols.take (k + 1)).map vec) ≤ rk p R ((cols.take k).map vec) ∧ basI p R cols (k + 1) = basI p R cols k) := by
  have hp : 0 < p := by have := (prB_iff.1 h1).1; omega
  have e1 := (lines_any hp (inv_ok h1) (cols := cols) (k := k) fun i hi => hc i (by omega)).pl
  have e2 := (lines_any hp (inv_ok h1) (cols := cols) (k := k + 1) fun i hi => hc i (by omega)).pl
  have hpl : ∀ ls : List Line, placesI ls = (ls.map Line.place).map fun n : Nat => (n : Int) := fun ls => by unfold placesI; rw [List.map_map]; rfl
  rw [← firsts_take cols (by omega), ← firsts_take cols (show k + 1 ≤ cols.length by omega)]
  unfold basI
  rw [hpl, hpl, e1, e2]
  by_cases h : InB p R cols k
  · left
    rw [rk_firsts_in (fld_ok h1) h, basN_in h]
    exact ⟨by omega, by simp⟩
  · right
    rw [rk_firsts_out (fld_ok h1) h, basN_out h]
    exact ⟨Nat.le_refl _, rfl⟩

set_option maxHeartbeats 8000000 in
set_option maxRecDepth 100000 in
theorem refbasis_in (p : Int) (R : Nat) (v : Value) (cols : List (List Int)) (w : World) (hr : Rows2 w w.heap.size v cols) (hpr : prB p = true) (hR : R ≤ 64) (hn : cols.length ≤ 64) (hc : ColsIn p R cols) :
    Calls Tryd.prog 13 #[.int .i64 p, .int .i64 R, v] w (Gives w (basI p R cols cols.length)) := by
  have Hr := Lib.hid hr
  have Hb := Lib.hid (elimB_of hpr hR hn hc)
  obtain ⟨F, hF⟩ : ∃ F : Nat → Nat, F = fun k => rk p R ((cols.take k).map vec) := ⟨_, rfl⟩
  obtain ⟨A, c, rfl, hnc, _⟩ := hr
  have Hrk : Hid (∀ k W, k ≤ cols.length → Below w.heap.size w W → Calls Tryd.prog 25 #[.int .i64 p, .int .i64 R, .slice A k c] W (Gets W (.int .i64 (F k : Nat)))) := by
    intro k W hk hW
    rw [hF]
    exact refrank_any p R _ (cols.take k) W hpr ((Hr.out.up hW).take hk) (colsIn_take hc) hR (by rw [List.length_take]; omega)
  have Hstep := Lib.hid (fun k (hk : k < cols.length) => basI_step hpr hc hk)
  have Hfold : Hid (∀ k, rk p R ((cols.take k).map vec) = F k) := by
    intro k
    rw [hF]
  have hn' : (cols.length : Int) ≤ 64 := by omega
  have hcap : (cols.length : Int) ≤ (c : Int) := by have := hnc.1; omega
  have Hown0 : Hid ((w.alloc (.cells #[] 3)).ownsRow w.heap.size 3 1 (.slice (some ⟨w.heap.size, 0, none⟩) 0 0) (ints (basI p R cols 0)).length (ints (basI p R cols 0))) :=
    World.ownsRow_lit w #[] 0 (Nat.le_refl _) (by unfold maxLen; omega) rfl
  have Hb0 := Lib.hid ((Below.refl w.heap.size w).alloc (Nat.le_refl _) (.cells #[] 3))
  clear hpr hc hF hnc
  go_enter Tryd.func13, Tryd.ntmps13
  go_wp2
  go_loopw [7, 8] (fun vo vi wr => ∃ i : Nat, vi = .int .i64 i ∧ i ≤ cols.length ∧ wr.ownsRow w.heap.size 3 1 vo (ints (basI p R cols i)).length (ints (basI p R cols i)) ∧ (basI p R cols i).length ≤ i ∧ Below w.heap.size w wr) (fun _ vi _ => cols.length - (intOf vi).toNat)
  case atStart => exact ⟨0, rfl, Nat.zero_le _, Hown0.out, Nat.le_refl _, Hb0.out⟩
  case round =>
    clear Hown0 Hb0
    obtain ⟨i, rfl, hi, hown, hbl, hbr⟩ := hrel
    have Hown := Lib.hid hown
    have Hbr := Lib.hid hbr
    have Hbl := Lib.hid hbl
    clear hown hbr hbl
    by_cases hlt : i < cols.length
    · have hlt' : (i : Int) < (cols.length : Int) := by omega
      have hcap' : (i : Int) + 1 ≤ (c : Int) := by omega
      go_wp2_with fail
      refine (refmayE_is p R _ cols true Hb.out _ (Hr.out.up Hbr.out)).mono ?_
      rintro e w1 ⟨rfl, hb1⟩
      have Hb1 := Lib.hid (below_next Hbr.out (Nat.le_refl _) hb1)
      have Hown1 := Lib.hid (own_kept_none Hown.out hb1)
      have hw1 : IntKind.i64.wrap ((i : Int) + 1) = (i : Int) + 1 := by rw [IntKind.wrap_i64]; omega
      have hw2 : (0 : Int) ≤ (i : Int) + 1 := by omega
      have hw3 : ((i : Int) + 1).toNat = i + 1 := by omega
      clear hb1
      go_wp2
      go_region_with (go_at_call 25; refine (Hrk.out _ _ (by omega) (by first | exact Hb1.out.drew | exact below_next Hb1.out.drew (Nat.le_refl _) ‹_›)).mono ?_; rintro e w' ⟨rfl, hb'⟩)
      all_goals
        have Hb2 := Lib.hid (below_next (below_next Hb1.out.drew (Nat.le_refl _) ‹Below w1.drew.heap.size w1.drew _›) (Nat.le_refl _) hb')
        have Hown2 := Lib.hid (own_kept_none (own_kept_none (show w1.drew.ownsRow w.heap.size 3 1 u7 _ _ from Hown1.out) ‹Below w1.drew.heap.size w1.drew _›) hb')
        clear hb' hw1 hw2 hw3
        rcases Hstep.out i hlt with ⟨h1, h2⟩ | ⟨h1, h2⟩
        · rw [Hfold.out, Hfold.out] at h1
          have h1' : (F i : Int) < (F (i + 1) : Int) := by omega
          have Hnext : Hid (ints (basI p R cols (i + 1)) = ints (basI p R cols i) ++ [.int .i64 (i : Int)]) := by
            show _ = _
            rw [h2, ints_append]
            rfl
          have Hbl2 : Hid ((basI p R cols (i + 1)).length ≤ i + 1) := by
            have := Hbl.out
            show _ ≤ _
            rw [h2]
            simp
            exact this
          have hxl : (ints (basI p R cols i)).length ≤ 64 := by
            have := Hbl.out
            rw [ints_length]
            omega
          generalize ints (basI p R cols i) = xs at *
          have Hcell2 : Hid ((w'.alloc (.cells #[.int .i64 (i : Int)] 3)).cell? ⟨w'.heap.size, 0, none⟩ = some (.int .i64 (i : Int))) := (Blk.new w' 3 #[.int .i64 (i : Int)]).cell 0
          have Hb3 := Lib.hid (Hb2.out.alloc Hb2.out.size (.cells #[.int .i64 (i : Int)] 3))
          have Hown3 := Lib.hid (Hown2.out.alloc (.cells #[.int .i64 (i : Int)] 3))
          clear h1 h2 Hown2
          go_simp
          go_wp2_with (at_builtin; refine wpList_append_cell rfl _ _ 26 3 (.int .i64 0) 8 rfl Tryd.underlying26 info3 rfl w.heap.size _ (.int .i64 (i : Int)) xs rfl Hown3.out w'.heap.size rfl Hcell2.out rfl (by omega) (by omega) Hb3.out.size ?_)
          intro v4 w4 hown4 hgr4 _
          have Hb4 := Lib.hid (Hb3.out.grown hgr4 Hb3.out.size (fun k hk => (Hown3.out.lt k hk).1))
          have Hown4 := Lib.hid hown4
          clear hown4 hgr4
          go_wp2
          go_roundw
          case rel =>
            refine ⟨i + 1, by go_num, by omega, ?_, Hbl2.out, Hb4.out⟩
            rw [Hnext.out, List.length_append]
            exact Hown4.out
          case measure => simp [intOf]; omega
        · rw [Hfold.out, Hfold.out] at h1
          have h1' : (F (i + 1) : Int) ≤ (F i : Int) := by omega
          have H2 := Lib.hid h2
          clear h1 h2
          go_simp
          go_wp2
          go_roundw
          case rel =>
            have := Hbl.out
            refine ⟨i + 1, by go_num, by omega, ?_, ?_, Hb2.out⟩
            · rw [H2.out]; exact Hown2.out
            · rw [H2.out]; omega
          case measure => simp [intOf]; omega
    · have hie : i = cols.length := by omega
      have Hrow := Lib.hid (Row.of_own Hown.out (by rw [ints_length]))
      rw [hie] at Hrow
      subst hie
      go_wp2
      go_ret
      exact ⟨_, rfl, Hrow.out, Hbr.out⟩

set_option maxHeartbeats 4000000 in
set_option maxRecDepth 100000 in
theorem refbasis_bad (p rows : Int) (v : Value) (cols : List (List Int)) (w : World) (hr : Rows2 w w.heap.size v cols) (hb : elimB p rows cols = false) :
    Calls Tryd.prog 13 #[.int .i64 p, .int .i64 rows, v] w (Gives w []) := by
  have Hr := Lib.hid hr
  have Hb := Lib.hid hb
  obtain ⟨A, c, rfl, hnc, _⟩ := hr
  have hlm : (cols.length : Int) ≤ 9223372036854775807 := by have := hnc.1; have := hnc.2.1; unfold maxLen at *; omega
  have Hb0 := Lib.hid ((Below.refl w.heap.size w).alloc (Nat.le_refl _) (.cells #[] 3))
  have Hrow0 := Lib.hid (Row.lit0 w)
  clear hb hnc
  by_cases h0 : 0 < cols.length
  · have h0' : (0 : Int) < (cols.length : Int) := by omega
    go_enter Tryd.func13, Tryd.ntmps13
    go_wp2
    refine wp_loop_rounds 1 ?_
    rw [rounds_succ]
    go_wp2_with fail
    refine (refmayE_is p rows _ cols false Hb.out _ (Hr.out.up Hb0.out)).mono ?_
    rintro e w1 ⟨rfl, hb1⟩
    have Hb1 := Lib.hid (below_next Hb0.out (Nat.le_refl _) hb1)
    have Hrow1 : Hid (Row w1 w1.heap.size (.slice (some ⟨w.heap.size, 0, none⟩) 0 0) []) := (Hrow0.out.here.up hb1)
    clear hb1
    go_wp2
    go_ret
    exact ⟨_, rfl, Hrow1.out, Hb1.out⟩
  · have h0' : cols.length = 0 := by omega
    rw [h0'] at Hr ⊢
    clear hlm h0
    go_enter Tryd.func13, Tryd.ntmps13
    go_wp2
    refine wp_loop_rounds 1 ?_
    rw [rounds_succ]
    go_wp2
    go_ret
    exact ⟨_, rfl, Hrow0.out.here, Hb0.out⟩

theorem refbasisI_any (p rows : Int) (v : Value) (cols : List (List Int)) (w : World) (hr : Rows2 w w.heap.size v cols) :
    Calls Tryd.prog 13 #[.int .i64 p, .int .i64 rows, v] w (Gives w (basisI p rows cols)) := by
  unfold basisI
  rcases hb : elimB p rows cols with _ | _
  · simp only [Bool.false_eq_true, if_false]
    exact refbasis_bad p rows v cols w hr hb
  · simp only [if_true]
    obtain ⟨h1, R, rfl, h2, h3, h4⟩ := elimB_in hb
    exact refbasis_in p R v cols w hr h1 h2 h3 h4

end Wp
end Go.Proofs.YtmnhpccdhefddaaDoor
