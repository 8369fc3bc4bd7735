/- The program's Basis and Rank, walked. -/
import Derived.Test.YtmnhpccdhefddaaDoorLLines
namespace Go.Proofs.YtmnhpccdhefddaaDoor
open Go.RowKit
namespace Wp

theorem may_is (p rows : Int) (v : Value) (cols : List (List Int)) (b : Bool) (h : elimB p rows cols = b) (w : World) (hM : Met w) (hr : Rows2 w w.heap.size v cols) :
    Calls Tryd.prog 9 #[.int .i64 p, .int .i64 rows, v] w (Says w b) := by
  subst h
  exact may_any p rows v cols w hM hr

/-- What may be columns has a prime, and columns in bounds. -/
theorem elimB_in {p rows : Int} {cols : List (List Int)} (h : elimB p rows cols = true) : prB p = true ∧ ∃ R : Nat, rows = (R : Int) ∧ R ≤ 64 ∧ cols.length ≤ 64 ∧ ColsIn p R cols := by
  unfold elimB at h
  rw [Bool.and_eq_true, Bool.and_eq_true, Bool.and_eq_true, decide_eq_true_iff, decide_eq_true_iff] at h
  obtain ⟨⟨⟨h1, h2, h3⟩, h4⟩, h5⟩ := h
  refine ⟨h1, rows.toNat, by omega, by omega, h4, fun i hi => ?_⟩
  have h6 : cols.any (badRow p rows) = false := by simpa using h5
  have h7 := List.any_eq_false.1 h6 cols[i] (List.getElem_mem hi)
  rw [show cols.getD i [] = cols[i] by simp [List.getD, hi]]
  unfold badRow at h7
  rw [Bool.or_eq_true, decide_eq_true_iff, not_or, Classical.not_not] at h7
  refine ⟨by omega, fun x hx => ?_⟩
  have h8 := List.any_eq_false.1 (by simpa using h7.2 : cols[i].any (wrongB p) = false) x hx
  unfold wrongB at h8
  rw [decide_eq_true_iff] at h8
  omega
theorem elimB_of {p : Int} {R : Nat} {cols : List (List Int)} (h1 : prB p = true) (h2 : R ≤ 64) (h3 : cols.length ≤ 64) (h4 : ColsIn p R cols) : elimB p (R : Int) cols = true := by
  unfold elimB
  rw [h1, decide_eq_true (show (0 : Int) ≤ (R : Int) ∧ (R : Int) ≤ 64 by omega), decide_eq_true h3]
  simp only [Bool.true_and]
  rw [Bool.not_eq_true', List.any_eq_false]
  intro c hc
  obtain ⟨i, hi, rfl⟩ := List.mem_iff_getElem.1 hc
  have := h4 i hi
  rw [show cols.getD i [] = cols[i] by simp [List.getD, hi]] at this
  unfold badRow
  rw [Bool.or_eq_true, decide_eq_true_iff, not_or, Classical.not_not]
  refine ⟨by rw [this.1], ?_⟩
  rw [Bool.not_eq_true, List.any_eq_false]
  intro x hx
  have := this.2 x hx
  unfold wrongB
  rw [decide_eq_true_iff]
  omega

def linesI (p : Int) (cols : List (List Int)) : List Line := linesL p (fun x => invI x p) cols cols.length
def placesI (ls : List Line) : List Int := ls.map fun l => (l.place : Int)
/-- What the program answers, plain. -/
def basisI (p rows : Int) (cols : List (List Int)) : List Int := if elimB p rows cols then placesI (linesI p cols) else []
def rankI (p rows : Int) (cols : List (List Int)) : Int := if elimB p rows cols then ((linesI p cols).length : Int) else -1
theorem linesI_lines {p : Int} {R : Nat} {cols : List (List Int)} (h1 : prB p = true) (hc : ColsIn p R cols) : Lines p R cols cols.length (linesI p cols) :=
  lines_any (by have := (prB_iff.1 h1).1; omega) (inv_ok h1) hc
theorem linesI_length {p : Int} {R : Nat} {cols : List (List Int)} (h1 : prB p = true) (hc : ColsIn p R cols) : (linesI p cols).length ≤ cols.length := by
  have e := congrArg List.length (linesI_lines h1 hc).pl
  rw [List.length_map] at e
  have := basN_le (p := p) (R := R) (cols := cols) (k := cols.length)
  omega

set_option maxHeartbeats 4000000 in
set_option maxRecDepth 100000 in
theorem rank_any (p rows : Int) (v : Value) (cols : List (List Int)) (w : World) (hM : Met w) (hr : Rows2 w w.heap.size v cols) :
    Calls Tryd.prog 14 #[.int .i64 p, .int .i64 rows, v] w (Gets w (.int .i64 (rankI p rows cols))) := by
  have Hr := Lib.hid hr
  have HM := Lib.hid hM
  obtain ⟨A, c, rfl, _⟩ := hr
  unfold rankI
  rcases hb : elimB p rows cols with _ | _
  · have Hb := Lib.hid hb
    clear hb hM
    simp only [Bool.false_eq_true, if_false]
    go_enter Tryd.func14, Tryd.ntmps14
    go_wp2_with fail
    refine (may_is p rows _ cols false Hb.out w HM.out Hr.out).mono ?_
    rintro e w1 ⟨rfl, hb1⟩
    go_wp2
    go_ret
    exact ⟨rfl, hb1⟩
  · obtain ⟨h1, R, rfl, h2, h3, h4⟩ := elimB_in hb
    have Hb := Lib.hid hb
    have Hl := Lib.hid (fun w1 (hM1 : Met w1) (hr1 : Rows2 w1 w1.heap.size (Value.slice A cols.length c) cols) => lines_at p R _ cols w1 hM1 h1 hr1 h4 h2 h3)
    have hnl := linesI_length h1 h4
    change Hid (∀ w1, Met w1 → Rows2 w1 w1.heap.size (Value.slice A cols.length c) cols → Calls Tryd.prog 24 #[.int .i64 p, .slice A cols.length c] w1 (GivesL w1 (linesI p cols))) at Hl
    generalize linesI p cols = ls at *
    clear hb hM h1 h4
    simp only [if_true]
    go_enter Tryd.func14, Tryd.ntmps14
    go_wp2_with fail
    refine (may_is p R _ cols true Hb.out w HM.out Hr.out).mono ?_
    rintro e w1 ⟨rfl, hb1⟩
    have Hb1 := Lib.hid hb1
    clear hb1
    go_wp2_with fail
    refine (Hl.out w1 (HM.out.up Hb1.out) (Hr.out.up Hb1.out)).mono ?_
    rintro e w2 ⟨v2, rfl, hls, hb2⟩
    have Hb2 := Lib.hid (below_next Hb1.out (Nat.le_refl _) hb2)
    obtain ⟨A2, c2, rfl, _⟩ := hls
    clear hb2
    go_wp2
    go_ret
    exact ⟨rfl, Hb2.out⟩

theorem placesI_getD (ls : List Line) {k : Nat} (hk : k < ls.length) : placesI (ls.take (k + 1)) = placesI (ls.take k) ++ [((ls[k]).place : Int)] := by
  unfold placesI
  rw [List.take_succ_eq_append_getElem hk, List.map_append]
  rfl
theorem placesI_length (ls : List Line) : (placesI ls).length = ls.length := by simp [placesI]

set_option maxHeartbeats 4000000 in
set_option maxRecDepth 100000 in
theorem basis_any (p rows : Int) (v : Value) (cols : List (List Int)) (w : World) (hM : Met w) (hr : Rows2 w w.heap.size v cols) :
    Calls Tryd.prog 12 #[.int .i64 p, .int .i64 rows, v] w (Gives w (basisI p rows cols)) := by
  have Hr := Lib.hid hr
  have HM := Lib.hid hM
  obtain ⟨A, c, rfl, _⟩ := hr
  unfold basisI
  rcases hb : elimB p rows cols with _ | _
  · have Hb := Lib.hid hb
    clear hb hM
    simp only [Bool.false_eq_true, if_false]
    go_enter Tryd.func12, Tryd.ntmps12
    go_wp2_with fail
    refine (may_is p rows _ cols false Hb.out w HM.out Hr.out).mono ?_
    rintro e w1 ⟨rfl, hb1⟩
    go_wp2
    go_ret
    exact ⟨_, rfl, Row.nil_ _ _, hb1⟩
  · obtain ⟨h1, R, rfl, h2, h3, h4⟩ := elimB_in hb
    have Hb := Lib.hid hb
    have Hl := Lib.hid (fun w1 (hM1 : Met w1) (hr1 : Rows2 w1 w1.heap.size (Value.slice A cols.length c) cols) => lines_at p R _ cols w1 hM1 h1 hr1 h4 h2 h3)
    have hnl := linesI_length h1 h4
    change Hid (∀ w1, Met w1 → Rows2 w1 w1.heap.size (Value.slice A cols.length c) cols → Calls Tryd.prog 24 #[.int .i64 p, .slice A cols.length c] w1 (GivesL w1 (linesI p cols))) at Hl
    generalize linesI p cols = ls at *
    have hls64 : ls.length ≤ 64 := by omega
    clear hb hM h1 h4
    simp only [if_true]
    go_enter Tryd.func12, Tryd.ntmps12
    go_wp2_with fail
    refine (may_is p R _ cols true Hb.out w HM.out Hr.out).mono ?_
    rintro e w1 ⟨rfl, hb1⟩
    have Hb1 := Lib.hid hb1
    clear hb1
    go_wp2_with fail
    refine (Hl.out w1 (HM.out.up Hb1.out) (Hr.out.up Hb1.out)).mono ?_
    rintro e w2 ⟨v2, rfl, hls, hb2⟩
    have Hb2 := Lib.hid (below_next Hb1.out (Nat.le_refl _) hb2)
    obtain ⟨A2, c2, rfl, _, hcell⟩ := hls
    have Hcell := Lib.hid hcell
    have hn' : (ls.length : Int) ≤ 64 := by omega
    clear hb2 hcell Hl
    go_wp2
    go_loopw [7, 19] (fun vb vk wr => ∃ k : Nat, vk = .int .i64 k ∧ k ≤ ls.length ∧ wr.ownsRow w2.heap.size 3 1 vb (ints (placesI (ls.take k))).length (ints (placesI (ls.take k))) ∧ Below w2.heap.size w2 wr) (fun _ vk _ => ls.length - (intOf vk).toNat)
    case atStart => exact ⟨0, rfl, Nat.zero_le _, World.ownsRow_nil _ _ _ _, Below.refl _ _⟩
    case round =>
      obtain ⟨k, rfl, hk, hown, hbr⟩ := hrel
      have Hown := Lib.hid hown
      have Hbr := Lib.hid hbr
      clear hown hbr
      by_cases hlt : k < ls.length
      · obtain ⟨ad, u, b, hA, hab, ⟨q0, q1, q2, q3, q4⟩, hru, _, _⟩ := Hcell.out k hlt
        subst hA
        have Hnext := Lib.hid (placesI_getD ls hlt)
        have hpl : (placesI (ls.take k)).length ≤ 64 := by rw [placesI_length, List.length_take]; omega
        have e0 := (Hbr.out.cell (p := ad.add (k * 5)) (by rw [add_block]; exact hab)).trans q0
        have e1 := (Hbr.out.cell (p := ⟨(ad.add (k * 5)).block, (ad.add (k * 5)).off + 1, none⟩) (by show (ad.add (k * 5)).block < _; rw [add_block]; exact hab)).trans q1
        have e2 := (Hbr.out.cell (p := ⟨(ad.add (k * 5)).block, (ad.add (k * 5)).off + 2, none⟩) (by show (ad.add (k * 5)).block < _; rw [add_block]; exact hab)).trans q2
        have e3 := (Hbr.out.cell (p := ⟨(ad.add (k * 5)).block, (ad.add (k * 5)).off + 3, none⟩) (by show (ad.add (k * 5)).block < _; rw [add_block]; exact hab)).trans q3
        have e4 := (Hbr.out.cell (p := ⟨(ad.add (k * 5)).block, (ad.add (k * 5)).off + 4, none⟩) (by show (ad.add (k * 5)).block < _; rw [add_block]; exact hab)).trans q4
        obtain ⟨A3, c3, rfl, _⟩ := hru
        generalize ls[k] = l at *
        obtain ⟨pl, ll, ld, iv, bf⟩ := l
        simp only at e0 e1 e2 e3 e4 Hnext
        clear q0 q1 q2 q3 q4 Hcell
        have hxl : (ints (placesI (ls.take k))).length ≤ 64 := by rw [ints_length]; exact hpl
        have Hnext' : Hid (ints (placesI (ls.take (k + 1))) = ints (placesI (ls.take k)) ++ [.int .i64 (pl : Int)]) := by
          show _ = _
          rw [Hnext.out, ints_append]
          rfl
        generalize ints (placesI (ls.take k)) = xs at *
        have Hown3 := Lib.hid ((Hown.out.alloc (.cells #[.int .i64 (pl : Int), .slice A3 ll.length c3, .int .i64 (ld : Int), .int .i64 iv, .map (some b)] 43)).alloc (.cells #[.int .i64 (pl : Int)] 3))
        have Hbr3 := Lib.hid ((Hbr.out.alloc Hbr.out.size (.cells #[.int .i64 (pl : Int), .slice A3 ll.length c3, .int .i64 (ld : Int), .int .i64 iv, .map (some b)] 43)).alloc (by have := Hbr.out.size; simp; omega) (.cells #[.int .i64 (pl : Int)] 3))
        have Hcell3 : Hid (((wr.alloc (.cells #[.int .i64 (pl : Int), .slice A3 ll.length c3, .int .i64 (ld : Int), .int .i64 iv, .map (some b)] 43)).alloc (.cells #[.int .i64 (pl : Int)] 3)).cell? ⟨wr.heap.size + 1, 0, none⟩ = some (.int .i64 (pl : Int))) := by
          show _ = _
          simp
        clear Hnext hpl
        go_wp2_with (at_builtin; refine wpList_append_cell rfl _ _ 26 3 (.int .i64 0) 8 rfl Tryd.underlying26 info3 rfl w2.heap.size _ (.int .i64 (pl : Int)) xs rfl Hown3.out (wr.heap.size + 1) rfl Hcell3.out rfl (by omega) (by omega) Hbr3.out.size ?_)
        intro v4 w4 hown4 hgr4 _
        have Hbr4 := Lib.hid (Hbr3.out.grown hgr4 Hbr3.out.size (fun i hi => (Hown3.out.lt i hi).1))
        have Hown4 := Lib.hid hown4
        clear hown4 hgr4
        go_wp2
        go_roundw
        case rel =>
          refine ⟨k + 1, by go_num, by omega, ?_, Hbr4.out⟩
          rw [Hnext'.out, List.length_append]
          exact Hown4.out
        case measure => simp [intOf]; omega
      · have hke : k = ls.length := by omega
        subst hke
        have Hfin := Lib.hid (Row.of_own Hown.out (by rw [ints_length]))
        rw [List.take_length] at Hfin
        go_wp2
        go_ret
        exact ⟨_, rfl, Hfin.out, below_next Hb2.out (Nat.le_refl _) Hbr.out⟩

end Wp
end Go.Proofs.YtmnhpccdhefddaaDoor
