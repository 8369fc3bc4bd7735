/- Two sides that may be: the program's May, walked. -/
import Derived.Test.YtimmmfppehmfcaaGreatDoorSMay
import Derived.Test.YtimmmfppehmfcaaGreatDoorLRows
namespace Go.Proofs.YtimmmfppehmfcaaGreatDoor
open Go.RowKit
namespace Wp

/-- A set of those on the right. -/
def okA (right : Int) (l : List Int) : Bool := mayB l && (decide (l.length = 0) || decide (l.getD (l.length - 1) 0 < right))
def mayM (right : Int) (adj : List (List Int)) : Bool := decide (0 ≤ right ∧ right ≤ 64) && decide (adj.length ≤ 64) && adj.all (okA right)
theorem mayM_off {right : Int} {adj : List (List Int)} (h : right < 0 ∨ 64 < right ∨ 64 < (adj.length : Int)) : mayM right adj = false := by
  unfold mayM
  rw [Bool.and_eq_false_iff, Bool.and_eq_false_iff, decide_eq_false_iff_not, decide_eq_false_iff_not]
  omega
theorem mayM_miss {right : Int} {adj : List (List Int)} {i : Nat} (hi : i < adj.length) (h : okA right (adj.getD i []) = false) : mayM right adj = false := by
  unfold mayM
  rw [Bool.and_eq_false_iff]
  right
  rw [Bool.eq_false_iff]
  intro e
  have := List.all_eq_true.1 e adj[i] (List.getElem_mem hi)
  rw [show adj.getD i [] = adj[i] by simp [List.getD, hi]] at h
  rw [this] at h
  cases h
theorem mayM_all {right : Int} {adj : List (List Int)} (h1 : ¬ right < 0) (h2 : ¬ 64 < right) (h3 : ¬ 64 < (adj.length : Int)) (h : ∀ i, i < adj.length → okA right (adj.getD i []) = true) : mayM right adj = true := by
  unfold mayM
  rw [Bool.and_eq_true, Bool.and_eq_true, decide_eq_true_iff, decide_eq_true_iff, List.all_eq_true]
  refine ⟨⟨by omega, by omega⟩, fun l hl => ?_⟩
  obtain ⟨i, hi, rfl⟩ := List.mem_iff_getElem.1 hl
  have := h i hi
  rwa [show adj.getD i [] = adj[i] by simp [List.getD, hi]] at this
theorem okA_no {right : Int} {l : List Int} (h : mayB l = false) : okA right l = false := by simp [okA, h]
theorem okA_nil {right : Int} {l : List Int} (h : mayB l = true) (h0 : l.length = 0) : okA right l = true := by simp [okA, h, h0]
theorem okA_last {right x : Int} {l : List Int} (h : mayB l = true) (h0 : 0 < l.length) (hx : l.getD (l.length - 1) 0 = x) : okA right l = decide (x < right) := by
  unfold okA
  rw [h, hx, decide_eq_false (show ¬ l.length = 0 by omega)]
  simp
theorem mayset_is (v : Value) (l : List Int) (b : Bool) (h : mayB l = b) (w : World) (hr : Row w w.heap.size v l) : Calls Tryz.prog 52 #[v] w (Says w b) := by
  subst h
  obtain ⟨_, _, _, ⟨h1, h2, _⟩, _⟩ := id hr
  exact may_any v l w hr (by unfold maxLen at h2; omega)

set_option maxHeartbeats 4000000 in
set_option maxRecDepth 100000 in
theorem kmay_any (right : Int) (v : Value) (adj : List (List Int)) (w : World) (hr : Rows2 w w.heap.size v adj) :
    Calls Tryz.prog 58 #[.int .i64 right, v] w (Says w (mayM right adj)) := by
  obtain ⟨A, c, rfl, _, hcell⟩ := hr
  have Hcell := Lib.hid hcell
  clear hcell
  by_cases b1 : right < 0
  · rw [mayM_off (.inl b1)]
    go_enter Tryz.func58, Tryz.ntmps58
    go_wp2
    go_ret
    exact ⟨rfl, Below.refl _ _⟩
  by_cases b2 : 64 < right
  · rw [mayM_off (.inr (.inl b2))]
    go_enter Tryz.func58, Tryz.ntmps58
    go_wp2
    go_ret
    exact ⟨rfl, Below.refl _ _⟩
  by_cases b3 : 64 < (adj.length : Int)
  · rw [mayM_off (.inr (.inr b3))]
    go_enter Tryz.func58, Tryz.ntmps58
    go_wp2
    go_ret
    exact ⟨rfl, Below.refl _ _⟩
  have Hall := Lib.hid (fun h => mayM_all (adj := adj) b1 b2 b3 h)
  go_enter Tryz.func58, Tryz.ntmps58
  go_wp2
  go_loopw [20] (fun vi wr => ∃ i : Nat, vi = .int .i64 i ∧ i ≤ adj.length ∧ Below w.heap.size w wr ∧ ∀ j, j < i → okA right (adj.getD j []) = true) (fun vi _ => adj.length - (intOf vi).toNat)
  case atStart => exact ⟨0, rfl, Nat.zero_le _, Below.refl _ _, fun j hj => absurd hj (Nat.not_lt_zero _)⟩
  case round =>
    obtain ⟨i, rfl, hi, hbr, hok⟩ := hrel
    have Hbr := Lib.hid hbr
    have Hok := Lib.hid hok
    clear hbr hok
    by_cases hlt : i < adj.length
    · have hltI : (i : Int) < (adj.length : Int) := by omega
      obtain ⟨ad, u, hA, hab, hcu, hru⟩ := Hcell.out i hlt
      subst hA
      have g1 := (Hbr.out.cell (p := ad.add i) (by rw [add_block]; exact hab)).trans hcu
      have Hru := Lib.hid ((hru.below Hbr.out).mono Hbr.out.size)
      have Hmiss := Lib.hid (fun h => mayM_miss (right := right) hlt h)
      have Hnext : Hid (okA right (adj.getD i []) = true → ∀ j, j < i + 1 → okA right (adj.getD j []) = true) := fun h j hj => by
        by_cases e : j = i
        · rw [e]; exact h
        · exact Hok.out j (by omega)
      clear hcu hab Hok
      generalize adj.getD i [] = l at *
      rcases hm : mayB l with _ | _
      · have Hm := Lib.hid hm
        obtain ⟨Au, cu, rfl, _⟩ := hru
        clear hm
        rw [Hmiss.out (okA_no Hm.out)]
        go_wp2_with fail
        refine (mayset_is _ l false Hm.out _ Hru.out).mono ?_
        rintro e w1 ⟨rfl, hb1⟩
        have Hb1 := Lib.hid (below_next Hbr.out (Nat.le_refl _) hb1)
        clear hb1
        go_wp2
        go_ret
        exact ⟨rfl, Hb1.out⟩
      · have Hm := Lib.hid hm
        obtain ⟨Au, cu, rfl, hcap, hcl⟩ := hru
        have Hcl := Lib.hid hcl
        obtain ⟨L, hL⟩ : ∃ L, l.length = L := ⟨_, rfl⟩
        have HL := Lib.hid hL
        have hLm : (L : Int) ≤ 9223372036854775807 := by
          have h1 := hcap.1
          have h2 := hcap.2.1
          unfold maxLen at h2
          omega
        rw [hL] at g1 Hru
        clear hm hcl hcap hL
        by_cases h0 : L = 0
        · have hok1 := Lib.hid (okA_nil (right := right) Hm.out (HL.out.trans h0))
          subst h0
          go_wp2_with fail
          refine (mayset_is _ l true Hm.out _ Hru.out).mono ?_
          rintro e w1 ⟨rfl, hb1⟩
          have Hb1 := Lib.hid (below_next Hbr.out (Nat.le_refl _) hb1)
          clear hb1
          go_wp2
          go_roundw
          case rel => exact ⟨i + 1, by go_num, by omega, Hb1.out, Hnext.out hok1.out⟩
          case measure => simp [intOf]; omega
        · obtain ⟨x, hx⟩ : ∃ x, l.getD (l.length - 1) 0 = x := ⟨_, rfl⟩
          obtain ⟨al, hAl, halb, hcx⟩ := Hcl.out (l.length - 1) (by have := HL.out; omega)
          have Hlast := Lib.hid (okA_last (right := right) Hm.out (by have := HL.out; omega) hx)
          rw [hx, HL.out] at hcx
          subst hAl
          have hL0 : (0 : Int) < (L : Int) := by omega
          have hw1 : IntKind.i64.wrap ((L : Int) - 1) = (L : Int) - 1 := by rw [IntKind.wrap_i64]; omega
          have hw2 : (0 : Int) ≤ (L : Int) - 1 := by omega
          have hw3 : (L : Int) - 1 < (L : Int) := by omega
          have hw4 : ((L : Int) - 1).toNat = L - 1 := by omega
          clear hx h0
          go_wp2_with fail
          refine (mayset_is _ l true Hm.out _ Hru.out).mono ?_
          rintro e w1 ⟨rfl, hb1⟩
          have Hb1 := Lib.hid (below_next Hbr.out (Nat.le_refl _) hb1)
          have g2 := (Hb1.out.cell (p := al.add (L - 1)) (by rw [add_block]; exact halb)).trans hcx
          clear hb1 hcx
          by_cases hxr : x < right
          · have hxr2 : ¬ right ≤ x := by omega
            have Hok1 : Hid (okA right l = true) := Hlast.out.trans (decide_eq_true hxr)
            go_wp2
            go_roundw
            case rel => exact ⟨i + 1, by go_num, by omega, Hb1.out, Hnext.out Hok1.out⟩
            case measure => simp [intOf]; omega
          · have hxr2 : right ≤ x := by omega
            have Hno := Lib.hid (Hmiss.out (Hlast.out.trans (decide_eq_false hxr)))
            go_wp2
            go_ret
            exact ⟨congrArg (fun b => Ending.returned (.bool b)) Hno.out.symm, Hb1.out⟩
    · have hie : i = adj.length := by omega
      subst hie
      have Hyes := Lib.hid (Hall.out Hok.out)
      go_wp2
      go_ret
      exact ⟨congrArg (fun b => Ending.returned (.bool b)) Hyes.out.symm, Hbr.out⟩

end Wp
end Go.Proofs.YtimmmfppehmfcaaGreatDoor
