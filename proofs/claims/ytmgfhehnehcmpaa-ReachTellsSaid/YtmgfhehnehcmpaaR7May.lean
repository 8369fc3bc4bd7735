/- Digraphs that may be, and sets of points: the document's May and points, walked. -/
import Derived.Test.YtmgfhehnehcmpaaRMay
import Derived.Test.YtmgfhehnehcmpaaK6May
namespace Go.Proofs.Ytmgfhehnehcmpaa
open Go.RowKit
namespace Wp

set_option maxHeartbeats 4000000 in
set_option maxRecDepth 100000 in
theorem r7points_any (n : Nat) (v : Value) (l : List Int) (w : World) (hr : Row w w.heap.size v l) :
    Calls Try.prog 38 #[v, .int .i64 n] w (Says w (okL n l)) := by
  have Hr := Lib.hid hr
  obtain ⟨A, c, rfl, hcap, hcl⟩ := hr
  have Hcl := Lib.hid hcl
  have hlm : (l.length : Int) ≤ 9223372036854775807 := by
    have h1 := hcap.1
    have h2 := hcap.2.1
    unfold maxLen at h2
    omega
  clear hcl hcap
  rcases hm : mayB l with _ | _
  · have Hm := Lib.hid hm
    clear hm
    rw [okL_no Hm.out]
    go_enter Try.func38, Try.ntmps38
    go_wp2_with fail
    refine (maysetr_is _ l false Hm.out _ Hr.out).mono ?_
    rintro e w1 ⟨rfl, hb1⟩
    have Hb1 := Lib.hid hb1
    clear hb1
    go_wp2
    go_ret
    exact ⟨rfl, Hb1.out⟩
  · have Hm := Lib.hid hm
    clear hm
    by_cases h0 : l.length = 0
    · rw [okL_nil Hm.out h0]
      have hl0 : l = [] := List.eq_nil_of_length_eq_zero h0
      subst hl0
      go_enter Try.func38, Try.ntmps38
      go_wp2_with fail
      refine (maysetr_is _ [] true Hm.out _ Hr.out).mono ?_
      rintro e w1 ⟨rfl, hb1⟩
      have Hb1 := Lib.hid hb1
      clear hb1
      go_wp2
      go_ret
      exact ⟨rfl, Hb1.out⟩
    · obtain ⟨x, hx⟩ : ∃ x, l.getD (l.length - 1) 0 = x := ⟨_, rfl⟩
      obtain ⟨al, hAl, halb, hcx⟩ := Hcl.out (l.length - 1) (by omega)
      have Hlast := Lib.hid (okL_last (right := (n : Int)) Hm.out (by omega) hx)
      rw [hx] at hcx
      subst hAl
      obtain ⟨L, hL⟩ : ∃ L, l.length = L := ⟨_, rfl⟩
      rw [hL] at hcx hlm h0 Hr
      have hL0 : ¬ ((L : Int) = 0) := by omega
      have hL1 : (0 : Int) < (L : Int) := by omega
      have hL2 : (1 : Int) ≤ (L : Int) := by omega
      have hw1 : IntKind.i64.wrap ((L : Int) - 1) = (L : Int) - 1 := by rw [IntKind.wrap_i64]; omega
      have hw2 : (0 : Int) ≤ (L : Int) - 1 := by omega
      have hw3 : (L : Int) - 1 < (L : Int) := by omega
      have hw4 : ((L : Int) - 1).toNat = L - 1 := by omega
      have Hcx := Lib.hid hcx
      rw [hL]
      clear hx hcx hL
      by_cases hxn : x < (n : Int)
      · rw [Hlast.out, decide_eq_true hxn]
        go_enter Try.func38, Try.ntmps38
        go_wp2_with fail
        refine (maysetr_is _ l true Hm.out _ Hr.out).mono ?_
        rintro e w1 ⟨rfl, hb1⟩
        have Hb1 := Lib.hid hb1
        have g1 := (hb1.cell (p := al.add (L - 1)) (by rw [add_block]; exact halb)).trans Hcx.out
        clear hb1
        go_wp2
        go_ret
        exact ⟨rfl, Hb1.out⟩
      · rw [Hlast.out, decide_eq_false hxn]
        go_enter Try.func38, Try.ntmps38
        go_wp2_with fail
        refine (maysetr_is _ l true Hm.out _ Hr.out).mono ?_
        rintro e w1 ⟨rfl, hb1⟩
        have Hb1 := Lib.hid hb1
        have g1 := (hb1.cell (p := al.add (L - 1)) (by rw [add_block]; exact halb)).trans Hcx.out
        clear hb1
        go_wp2
        go_ret
        exact ⟨congrArg (fun b => Ending.returned (.bool b)) (show ((L : Int) == 0 || decide (x < (n : Int))) = false by rw [decide_eq_false (by omega), Bool.or_false]; exact beq_false_of_ne hL0), Hb1.out⟩
theorem r7points_is (n : Nat) (v : Value) (l : List Int) (b : Bool) (h : okL n l = b) (w : World) (hr : Row w w.heap.size v l) :
    Calls Try.prog 38 #[v, .int .i64 n] w (Says w b) := by
  subst h
  exact r7points_any n v l w hr

set_option maxHeartbeats 4000000 in
set_option maxRecDepth 100000 in
theorem r7may_any (v : Value) (adj : List (List Int)) (w : World) (hr : Rows2 w w.heap.size v adj) :
    Calls Try.prog 17 #[v] w (Says w (digB adj)) := by
  obtain ⟨A, c, rfl, hcap, hcell⟩ := hr
  have hlm : (adj.length : Int) ≤ 9223372036854775807 := by
    have h1 := hcap.1
    have h2 := hcap.2.1
    unfold maxLen at h2
    omega
  have Hcell := Lib.hid hcell
  clear hcell
  go_enter Try.func17, Try.ntmps17
  go_wp2
  go_loopw [3] (fun vi wr => ∃ i : Nat, vi = .int .i64 i ∧ i ≤ adj.length ∧ Below w.heap.size w wr ∧ ∀ j, j < i → okL adj.length (adj.getD j []) = true) (fun vi _ => adj.length - (intOf vi).toNat)
  case atStart => exact ⟨0, rfl, Nat.zero_le _, Below.refl _ _, fun j hj => absurd hj (Nat.not_lt_zero _)⟩
  case round =>
    obtain ⟨i, rfl, hi, hbr, hok⟩ := hrel
    have Hbr := Lib.hid hbr
    have Hok := Lib.hid hok
    clear hbr hok
    by_cases hlt : i < adj.length
    · have hltI : (i : Int) < (adj.length : Int) := by omega
      obtain ⟨ad, u, hA, hab, hcu, hru⟩ := Hcell.out i hlt
      subst hA
      have g1 := (Hbr.out.cell (p := ad.add i) (by rw [add_block]; exact hab)).trans hcu
      have Hru := Lib.hid ((hru.below Hbr.out).mono Hbr.out.size)
      have Hmiss := Lib.hid (fun h => digB_miss hlt h)
      have Hnext : Hid (okL adj.length (adj.getD i []) = true → ∀ j, j < i + 1 → okL adj.length (adj.getD j []) = true) := Lib.hid fun h j hj => by
        by_cases e : j = i
        · rw [e]; exact h
        · exact Hok.out j (by omega)
      clear hcu hab Hok hru
      generalize adj.getD i [] = l at *
      rcases hm : okL adj.length l with _ | _
      · have Hm := Lib.hid hm
        rw [Hmiss.out hm]
        clear hm
        go_wp2_with fail
        refine (r7points_is adj.length _ l false Hm.out _ Hru.out).mono ?_
        rintro e w1 ⟨rfl, hb1⟩
        have Hb1 := Lib.hid (below_next Hbr.out (Nat.le_refl _) hb1)
        clear hb1
        go_wp2
        go_ret
        exact ⟨rfl, Hb1.out⟩
      · have Hm := Lib.hid hm
        clear hm
        go_wp2_with fail
        refine (r7points_is adj.length _ l true Hm.out _ Hru.out).mono ?_
        rintro e w1 ⟨rfl, hb1⟩
        have Hb1 := Lib.hid (below_next Hbr.out (Nat.le_refl _) hb1)
        clear hb1
        go_wp2
        go_roundw
        case rel => exact ⟨i + 1, by go_num, by omega, Hb1.out, Hnext.out Hm.out⟩
        case measure => simp [intOf]; omega
    · have hie : i = adj.length := by omega
      subst hie
      by_cases b3 : (adj.length : Int) ≤ 4096
      · have Hyes := Lib.hid (digB_all (adj := adj) (by omega) Hok.out)
        go_wp2
        go_ret
        exact ⟨congrArg (fun b => Ending.returned (.bool b)) Hyes.out.symm, Hbr.out⟩
      · have Hno := Lib.hid (digB_off (adj := adj) (by omega))
        go_wp2
        go_ret
        exact ⟨congrArg (fun b => Ending.returned (.bool b)) Hno.out.symm, Hbr.out⟩
theorem r7may_is (v : Value) (adj : List (List Int)) (b : Bool) (h : digB adj = b) (w : World) (hr : Rows2 w w.heap.size v adj) :
    Calls Try.prog 17 #[v] w (Says w b) := by
  subst h
  exact r7may_any v adj w hr

end Wp
end Go.Proofs.Ytmgfhehnehcmpaa
