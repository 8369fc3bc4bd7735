/- The law on signed numbers' bytes, walked: it answers true. -/
import Derived.Test.YtcabbhiabhblfaaDoorWLaw
namespace Go.Proofs.YtcabbhiabhblfaaDoor
open Go.RowKit
namespace Wp

set_option maxHeartbeats 1000000 in
set_option maxRecDepth 100000 in
theorem signs_out (E : Nat → Addr) (n m : Int) (w : World) (hM : Met E w.heap.size w) (h : n < 0 ∨ m < 0 ∨ 562949953421312 < n ∨ 562949953421312 < m) :
    Calls Tryd.prog 7 #[.int .i64 n, .int .i64 m] w (Truly w) := by
  by_cases h1 : n < 0
  · clear h
    go_enter Tryd.func7, Tryd.ntmps7
    go_wp2_with fail
    refine (fixed_any E w hM).mono ?_
    rintro e w1 ⟨rfl, hb⟩
    go_wp2_with fail
    refine (twice_fixed E w w1 hM hb).mono ?_
    rintro e w2 ⟨rfl, hb2⟩
    go_wp2
    go_ret
    exact ⟨rfl, hb2⟩
  have h1' : 0 ≤ n := by omega
  clear h1
  by_cases h2 : m < 0
  · clear h
    go_enter Tryd.func7, Tryd.ntmps7
    go_wp2_with fail
    refine (fixed_any E w hM).mono ?_
    rintro e w1 ⟨rfl, hb⟩
    go_wp2_with fail
    refine (twice_fixed E w w1 hM hb).mono ?_
    rintro e w2 ⟨rfl, hb2⟩
    go_wp2
    go_ret
    exact ⟨rfl, hb2⟩
  have h2' : 0 ≤ m := by omega
  clear h2
  by_cases h3 : 562949953421312 < n
  · clear h
    go_enter Tryd.func7, Tryd.ntmps7
    go_wp2_with fail
    refine (fixed_any E w hM).mono ?_
    rintro e w1 ⟨rfl, hb⟩
    go_wp2_with fail
    refine (twice_fixed E w w1 hM hb).mono ?_
    rintro e w2 ⟨rfl, hb2⟩
    go_wp2
    go_ret
    exact ⟨rfl, hb2⟩
  have h3' : n ≤ 562949953421312 := by omega
  clear h3
  have h4 : 562949953421312 < m := by omega
  clear h
  ·
    go_enter Tryd.func7, Tryd.ntmps7
    go_wp2_with fail
    refine (fixed_any E w hM).mono ?_
    rintro e w1 ⟨rfl, hb⟩
    go_wp2_with fail
    refine (twice_fixed E w w1 hM hb).mono ?_
    rintro e w2 ⟨rfl, hb2⟩
    go_wp2
    go_ret
    exact ⟨rfl, hb2⟩

set_option maxHeartbeats 1000000 in
set_option maxRecDepth 100000 in
theorem signs_in (E : Nat → Addr) (n m : Int) (w : World) (hM : Met E w.heap.size w) (hn0 : 0 ≤ n) (hm0 : 0 ≤ m) (hn1 : n ≤ 562949953421312) (hm1 : m ≤ 562949953421312) :
    Calls Tryd.prog 7 #[.int .i64 n, .int .i64 m] w (Truly w) := by
  have e1 := Lib.hid (intB_pos hn0 hn1)
  have l1 : 1 ≤ (numB n).size := by rw [numB_len hn0 (by omega)]; exact Lib.uvarint_pos _
  have l2 : n ≤ m → (numB n).size ≤ (numB m).size := by
    intro h
    rw [numB_len hn0 (by omega), numB_len hm0 (by omega)]
    exact enc_mono 7 _ _ (by omega) (by omega)
  have L2 := Lib.hid l2
  clear l2
  by_cases h0 : 0 < n
  · have e2 := Lib.hid (intB_minus h0 hn1)
    by_cases hnm : m < n
    · go_enter Tryd.func7, Tryd.ntmps7
      go_wp2_with fail
      refine (fixed_any E w hM).mono ?_
      rintro e w1 ⟨rfl, hb1⟩
      have hB1 := hb1
      go_wp2_with fail
      refine (int_any _ _).mono ?_
      rintro e w2 ⟨rfl, hb2⟩
      have hB2 := hB1.trans (hb2.mono hB1.size)
      clear hb2 hB1
      rw [e1.out]
      go_wp2_with fail
      refine (num_any _ _).mono ?_
      rintro e w3 ⟨rfl, hb3⟩
      have hB3 := hB2.trans (hb3.mono hB2.size)
      clear hb3 hB2
      go_wp2_with fail
      refine (int_any _ _).mono ?_
      rintro e w4 ⟨rfl, hb4⟩
      have hB4 := hB3.trans (hb4.mono hB3.size)
      clear hb4 hB3
      rw [e2.out]
      go_wp2_with fail
      refine (num_any _ _).mono ?_
      rintro e w5 ⟨rfl, hb5⟩
      have hB5 := hB4.trans (hb5.mono hB4.size)
      clear hb5 hB4
      go_wp2
      go_ret
      exact ⟨rfl, hB5⟩
    · have hnm' : n ≤ m := by omega
      have l2 := L2.out hnm'
      clear hnm
      go_enter Tryd.func7, Tryd.ntmps7
      go_wp2_with fail
      refine (fixed_any E w hM).mono ?_
      rintro e w1 ⟨rfl, hb1⟩
      have hB1 := hb1
      go_wp2_with fail
      refine (int_any _ _).mono ?_
      rintro e w2 ⟨rfl, hb2⟩
      have hB2 := hB1.trans (hb2.mono hB1.size)
      clear hb2 hB1
      rw [e1.out]
      go_wp2_with fail
      refine (num_any _ _).mono ?_
      rintro e w3 ⟨rfl, hb3⟩
      have hB3 := hB2.trans (hb3.mono hB2.size)
      clear hb3 hB2
      go_wp2_with fail
      refine (int_any _ _).mono ?_
      rintro e w4 ⟨rfl, hb4⟩
      have hB4 := hB3.trans (hb4.mono hB3.size)
      clear hb4 hB3
      rw [e2.out]
      go_wp2_with fail
      refine (num_any _ _).mono ?_
      rintro e w5 ⟨rfl, hb5⟩
      have hB5 := hB4.trans (hb5.mono hB4.size)
      clear hb5 hB4
      go_wp2_with fail
      refine (num_any _ _).mono ?_
      rintro e w6 ⟨rfl, hb6⟩
      have hB6 := hB5.trans (hb6.mono hB5.size)
      clear hb6 hB5
      go_wp2_with fail
      refine (num_any _ _).mono ?_
      rintro e w7 ⟨rfl, hb7⟩
      have hB7 := hB6.trans (hb7.mono hB6.size)
      clear hb7 hB6
      go_wp2_with fail
      refine (num_any _ _).mono ?_
      rintro e w8 ⟨rfl, hb8⟩
      have hB8 := hB7.trans (hb8.mono hB7.size)
      clear hb8 hB7
      have hfin : (decide (m < n) || decide ((1 : Int) ≤ ((numB n).size : Int))) = true := by rw [Bool.or_eq_true]; exact .inr (decide_eq_true (by omega))
      have Hfin := Lib.hid hfin
      clear hfin
      go_wp2
      go_ret
      refine ⟨?_, hB8⟩
      exact congrArg (fun b => Ending.returned (.bool b)) Hfin.out
  · have hz : n = 0 := by omega
    have h0' : ¬ 0 < n := h0
    have hn00 : n ≤ 0 := by omega
    clear hz h0
    by_cases hnm : m < n
    · omega
    · have hnm' : n ≤ m := by omega
      have l2 := L2.out hnm'
      clear hnm
      go_enter Tryd.func7, Tryd.ntmps7
      go_wp2_with fail
      refine (fixed_any E w hM).mono ?_
      rintro e w1 ⟨rfl, hb1⟩
      have hB1 := hb1
      go_wp2_with fail
      refine (int_any _ _).mono ?_
      rintro e w2 ⟨rfl, hb2⟩
      have hB2 := hB1.trans (hb2.mono hB1.size)
      clear hb2 hB1
      rw [e1.out]
      go_wp2_with fail
      refine (num_any _ _).mono ?_
      rintro e w3 ⟨rfl, hb3⟩
      have hB3 := hB2.trans (hb3.mono hB2.size)
      clear hb3 hB2
      go_wp2_with fail
      refine (num_any _ _).mono ?_
      rintro e w4 ⟨rfl, hb4⟩
      have hB4 := hB3.trans (hb4.mono hB3.size)
      clear hb4 hB3
      go_wp2_with fail
      refine (num_any _ _).mono ?_
      rintro e w5 ⟨rfl, hb5⟩
      have hB5 := hB4.trans (hb5.mono hB4.size)
      clear hb5 hB4
      go_wp2_with fail
      refine (num_any _ _).mono ?_
      rintro e w6 ⟨rfl, hb6⟩
      have hB6 := hB5.trans (hb6.mono hB5.size)
      clear hb6 hB5
      have hfin : (decide (m < n) || decide ((1 : Int) ≤ ((numB n).size : Int))) = true := by rw [Bool.or_eq_true]; exact .inr (decide_eq_true (by omega))
      have Hfin := Lib.hid hfin
      clear hfin
      go_wp2
      go_ret
      refine ⟨?_, hB6⟩
      exact congrArg (fun b => Ending.returned (.bool b)) Hfin.out

theorem signs_any (E : Nat → Addr) (n m : Int) (w : World) (hM : Met E w.heap.size w) :
    Calls Tryd.prog 7 #[.int .i64 n, .int .i64 m] w (Truly w) := by
  by_cases h : n < 0 ∨ m < 0 ∨ 562949953421312 < n ∨ 562949953421312 < m
  · exact signs_out E n m w hM h
  · exact signs_in E n m w hM (by omega) (by omega) (by omega) (by omega)

end Wp
end Go.Proofs.YtcabbhiabhblfaaDoor
