/- Digraphs that may be, and sets of points: the program's May and points, walked. -/
import Derived.Test.YtmgfhehnehcmpaaKMay
import Derived.Test.YtmgfhehnehcmpaaRRun
import Derived.Test.YtmgfhehnehcmpaaKMax
namespace Go.Proofs.Ytmgfhehnehcmpaa
open Go.RowKit
namespace Wp

def digB (adj : List (List Int)) : Bool := decide (adj.length ≤ 4096) && adj.all (okL adj.length)
theorem digB_off {adj : List (List Int)} (h : 4096 < (adj.length : Int)) : digB adj = false := by
  unfold digB
  rw [Bool.and_eq_false_iff, decide_eq_false_iff_not]
  exact .inl (by omega)
theorem digB_miss {adj : List (List Int)} {i : Nat} (hi : i < adj.length) (h : okL adj.length (adj.getD i []) = false) : digB adj = false := by
  unfold digB
  rw [Bool.and_eq_false_iff]
  right
  rw [Bool.eq_false_iff]
  intro e
  have := List.all_eq_true.1 e adj[i] (List.getElem_mem hi)
  rw [show adj.getD i [] = adj[i] by simp [List.getD, hi]] at h
  rw [this] at h
  cases h
theorem digB_all {adj : List (List Int)} (h3 : ¬ 4096 < (adj.length : Int)) (h : ∀ i, i < adj.length → okL adj.length (adj.getD i []) = true) : digB adj = true := by
  unfold digB
  rw [Bool.and_eq_true, decide_eq_true_iff, List.all_eq_true]
  refine ⟨by omega, fun l hl => ?_⟩
  obtain ⟨i, hi, rfl⟩ := List.mem_iff_getElem.1 hl
  have := h i hi
  rwa [show adj.getD i [] = adj[i] by simp [List.getD, hi]] at this
theorem ok_pts {n : Nat} {l : List Int} (h : okL n l = true) : Pts n l := by
  unfold okL at h
  rw [Bool.and_eq_true, mayB_iff] at h
  obtain ⟨⟨h1, h2⟩, h3⟩ := h
  refine ⟨h1, fun x hx => ⟨(h2 x hx).1, ?_⟩⟩
  obtain ⟨m, hm, rfl⟩ := List.mem_iff_getElem.1 hx
  have hl : l[m] ≤ l.getD (l.length - 1) 0 := by
    rw [show l.getD (l.length - 1) 0 = l[l.length - 1]'(by omega) by simp [List.getD, show l.length - 1 < l.length by omega]]
    rcases Nat.lt_or_ge m (l.length - 1) with hlt | hge
    · exact Int.le_of_lt (List.pairwise_iff_getElem.1 h1 m (l.length - 1) hm (by omega) hlt)
    · have : m = l.length - 1 := by omega
      subst this
      exact Int.le_refl _
  rw [decide_eq_false (by omega), Bool.false_or, decide_eq_true_iff] at h3
  omega
theorem ok_set {n : Int} {l : List Int} (h : okL n l = true) : IsSet l := by
  unfold okL at h
  rw [Bool.and_eq_true, mayB_iff] at h
  exact h.1
theorem pts_ok {n : Nat} {l : List Int} (hn : n ≤ 4096) (h : Pts n l) : okL n l = true := by
  unfold okL
  rw [Bool.and_eq_true, mayB_iff]
  refine ⟨⟨h.up, fun x hx => by have := h.pt x hx; unfold Fit; omega⟩, ?_⟩
  rcases Nat.eq_zero_or_pos l.length with h0 | h0
  · rw [decide_eq_true h0]; rfl
  · rw [Bool.or_eq_true]
    right
    refine decide_eq_true ?_
    rw [show l.getD (l.length - 1) 0 = l[l.length - 1]'(by omega) by simp [List.getD, show l.length - 1 < l.length by omega]]
    exact (h.pt _ (List.getElem_mem _)).2
theorem digB_dig {adj : List (List Int)} (h : digB adj = true) : Dig adj ∧ adj.length ≤ 4096 := by
  unfold digB at h
  rw [Bool.and_eq_true, decide_eq_true_iff, List.all_eq_true] at h
  have key : ∀ x, Pts adj.length (adj.getD x []) := fun x => by
    rcases Nat.lt_or_ge x adj.length with hx | hx
    · rw [show adj.getD x [] = adj[x] by simp [List.getD, hx]]
      exact ok_pts (h.2 _ (List.getElem_mem hx))
    · rw [List.getD_eq_getElem?_getD, List.getElem?_eq_none hx]
      exact ⟨List.Pairwise.nil, fun y hy => by simp at hy⟩
  exact ⟨⟨fun x => (key x).up, fun x => (key x).pt⟩, h.1⟩

set_option maxHeartbeats 4000000 in
set_option maxRecDepth 100000 in
theorem points_any (n : Nat) (v : Value) (l : List Int) (w : World) (hr : Row w w.heap.size v l) :
    Calls Try.prog 34 #[.int .i64 n, v] w (Says w (okL n l)) := by
  have Hr := Lib.hid hr
  obtain ⟨A, c, rfl, hcap, hcl⟩ := hr
  have Hcl := Lib.hid hcl
  have hlm : (l.length : Int) ≤ 9223372036854775807 := by
    have h1 := hcap.1
    have h2 := hcap.2.1
    unfold maxLen at h2
    omega
  clear hcl hcap
  rcases hm : mayB l with _ | _
  · have Hm := Lib.hid hm
    clear hm
    rw [okL_no Hm.out]
    go_enter Try.func34, Try.ntmps34
    go_wp2_with fail
    refine (mayset_is _ l false Hm.out _ Hr.out).mono ?_
    rintro e w1 ⟨rfl, hb1⟩
    have Hb1 := Lib.hid hb1
    clear hb1
    go_wp2
    go_ret
    exact ⟨rfl, Hb1.out⟩
  · have Hm := Lib.hid hm
    clear hm
    by_cases h0 : l.length = 0
    · rw [okL_nil Hm.out h0]
      have hl0 : l = [] := List.eq_nil_of_length_eq_zero h0
      subst hl0
      go_enter Try.func34, Try.ntmps34
      go_wp2_with fail
      refine (mayset_is _ [] true Hm.out _ Hr.out).mono ?_
      rintro e w1 ⟨rfl, hb1⟩
      have Hb1 := Lib.hid hb1
      clear hb1
      go_wp2
      go_ret
      exact ⟨rfl, Hb1.out⟩
    · obtain ⟨x, hx⟩ : ∃ x, l.getD (l.length - 1) 0 = x := ⟨_, rfl⟩
      obtain ⟨al, hAl, halb, hcx⟩ := Hcl.out (l.length - 1) (by omega)
      have Hlast := Lib.hid (okL_last (right := (n : Int)) Hm.out (by omega) hx)
      rw [hx] at hcx
      subst hAl
      obtain ⟨L, hL⟩ : ∃ L, l.length = L := ⟨_, rfl⟩
      rw [hL] at hcx hlm h0 Hr
      have hL0 : ¬ ((L : Int) = 0) := by omega
      have hL1 : (0 : Int) < (L : Int) := by omega
      have hL2 : (1 : Int) ≤ (L : Int) := by omega
      have hw1 : IntKind.i64.wrap ((L : Int) - 1) = (L : Int) - 1 := by rw [IntKind.wrap_i64]; omega
      have hw2 : (0 : Int) ≤ (L : Int) - 1 := by omega
      have hw3 : (L : Int) - 1 < (L : Int) := by omega
      have hw4 : ((L : Int) - 1).toNat = L - 1 := by omega
      have Hcx := Lib.hid hcx
      rw [hL]
      clear hx hcx hL
      by_cases hxn : x < (n : Int)
      · rw [Hlast.out, decide_eq_true hxn]
        go_enter Try.func34, Try.ntmps34
        go_wp2_with fail
        refine (mayset_is _ l true Hm.out _ Hr.out).mono ?_
        rintro e w1 ⟨rfl, hb1⟩
        have Hb1 := Lib.hid hb1
        have g1 := (hb1.cell (p := al.add (L - 1)) (by rw [add_block]; exact halb)).trans Hcx.out
        clear hb1
        go_wp2
        go_ret
        exact ⟨rfl, Hb1.out⟩
      · rw [Hlast.out, decide_eq_false hxn]
        go_enter Try.func34, Try.ntmps34
        go_wp2_with fail
        refine (mayset_is _ l true Hm.out _ Hr.out).mono ?_
        rintro e w1 ⟨rfl, hb1⟩
        have Hb1 := Lib.hid hb1
        have g1 := (hb1.cell (p := al.add (L - 1)) (by rw [add_block]; exact halb)).trans Hcx.out
        clear hb1
        go_wp2
        go_ret
        exact ⟨congrArg (fun b => Ending.returned (.bool b)) (show ((L : Int) == 0 || decide (x < (n : Int))) = false by rw [decide_eq_false (by omega), Bool.or_false]; exact beq_false_of_ne hL0), Hb1.out⟩
theorem points_is (n : Nat) (v : Value) (l : List Int) (b : Bool) (h : okL n l = b) (w : World) (hr : Row w w.heap.size v l) :
    Calls Try.prog 34 #[.int .i64 n, v] w (Says w b) := by
  subst h
  exact points_any n v l w hr

set_option maxHeartbeats 4000000 in
set_option maxRecDepth 100000 in
theorem rmay_any (v : Value) (adj : List (List Int)) (w : World) (hr : Rows2 w w.heap.size v adj) :
    Calls Try.prog 16 #[v] w (Says w (digB adj)) := by
  obtain ⟨A, c, rfl, hcap, hcell⟩ := hr
  have Hcell := Lib.hid hcell
  clear hcell
  by_cases b3 : 4096 < (adj.length : Int)
  · rw [digB_off b3]
    go_enter Try.func16, Try.ntmps16
    go_wp2
    go_ret
    exact ⟨rfl, Below.refl _ _⟩
  have Hall := Lib.hid (fun h => digB_all (adj := adj) b3 h)
  go_enter Try.func16, Try.ntmps16
  go_wp2
  go_loopw [10] (fun vi wr => ∃ i : Nat, vi = .int .i64 i ∧ i ≤ adj.length ∧ Below w.heap.size w wr ∧ ∀ j, j < i → okL adj.length (adj.getD j []) = true) (fun vi _ => adj.length - (intOf vi).toNat)
  case atStart => exact ⟨0, rfl, Nat.zero_le _, Below.refl _ _, fun j hj => absurd hj (Nat.not_lt_zero _)⟩
  case round =>
    obtain ⟨i, rfl, hi, hbr, hok⟩ := hrel
    have Hbr := Lib.hid hbr
    have Hok := Lib.hid hok
    clear hbr hok
    by_cases hlt : i < adj.length
    · have hltI : (i : Int) < (adj.length : Int) := by omega
      obtain ⟨ad, u, hA, hab, hcu, hru⟩ := Hcell.out i hlt
      subst hA
      have g1 := (Hbr.out.cell (p := ad.add i) (by rw [add_block]; exact hab)).trans hcu
      have Hru := Lib.hid ((hru.below Hbr.out).mono Hbr.out.size)
      have Hmiss := Lib.hid (fun h => digB_miss hlt h)
      have Hnext : Hid (okL adj.length (adj.getD i []) = true → ∀ j, j < i + 1 → okL adj.length (adj.getD j []) = true) := Lib.hid fun h j hj => by
        by_cases e : j = i
        · rw [e]; exact h
        · exact Hok.out j (by omega)
      clear hcu hab Hok hru
      generalize adj.getD i [] = l at *
      rcases hm : okL adj.length l with _ | _
      · have Hm := Lib.hid hm
        rw [Hmiss.out hm]
        clear hm
        go_wp2_with fail
        refine (points_is adj.length _ l false Hm.out _ Hru.out).mono ?_
        rintro e w1 ⟨rfl, hb1⟩
        have Hb1 := Lib.hid (below_next Hbr.out (Nat.le_refl _) hb1)
        clear hb1
        go_wp2
        go_ret
        exact ⟨rfl, Hb1.out⟩
      · have Hm := Lib.hid hm
        clear hm
        go_wp2_with fail
        refine (points_is adj.length _ l true Hm.out _ Hru.out).mono ?_
        rintro e w1 ⟨rfl, hb1⟩
        have Hb1 := Lib.hid (below_next Hbr.out (Nat.le_refl _) hb1)
        clear hb1
        go_wp2
        go_roundw
        case rel => exact ⟨i + 1, by go_num, by omega, Hb1.out, Hnext.out Hm.out⟩
        case measure => simp [intOf]; omega
    · have hie : i = adj.length := by omega
      subst hie
      have Hyes := Lib.hid (Hall.out Hok.out)
      go_wp2
      go_ret
      exact ⟨congrArg (fun b => Ending.returned (.bool b)) Hyes.out.symm, Hbr.out⟩
theorem rmay_is (v : Value) (adj : List (List Int)) (b : Bool) (h : digB adj = b) (w : World) (hr : Rows2 w w.heap.size v adj) :
    Calls Try.prog 16 #[v] w (Says w b) := by
  subst h
  exact rmay_any v adj w hr

end Wp
end Go.Proofs.Ytmgfhehnehcmpaa
