/- The law on the bytes of numbers and lists, walked: it answers true. -/
import Derived.Test.YtcabbhiabhblfaaDoorWRefRow
namespace Go.Proofs.YtcabbhiabhblfaaDoor
open Go.RowKit
namespace Wp

set_option maxHeartbeats 1000000 in
set_option maxRecDepth 100000 in
theorem writes_out (E : Nat → Addr) (n : Int) (v : Value) (zs : List Int) (w : World) (hM : Met E w.heap.size w) (hr : Row w w.heap.size v zs) (h : 100 < zs.length) :
    Calls Tryd.prog 4 #[.int .i64 n, v] w (Truly w) := by
  obtain ⟨A, c, rfl, _⟩ := hr
  have h' : (100 : Int) < (zs.length : Int) := by omega
  go_enter Tryd.func4, Tryd.ntmps4
  go_wp2_with fail
  refine (fixed_any E w hM).mono ?_
  rintro e w1 ⟨rfl, hb1⟩
  have hB1 := hb1
  go_wp2
  go_ret
  exact ⟨rfl, hB1⟩

set_option maxHeartbeats 1000000 in
set_option maxRecDepth 100000 in
theorem writes_in (E : Nat → Addr) (n : Int) (v : Value) (zs : List Int) (w : World) (hM : Met E w.heap.size w) (hr : Row w w.heap.size v zs) (h : zs.length ≤ 100) :
    Calls Tryd.prog 4 #[.int .i64 n, v] w (Truly w) := by
  have h' : (zs.length : Int) ≤ 100 := by omega
  have hz : zs.length ≤ 1048576 := by omega
  have hv : ∃ A c, v = .slice A zs.length c := by
    obtain ⟨A, c, hv, _⟩ := hr
    exact ⟨A, c, hv⟩
  obtain ⟨A, c, rfl⟩ := hv
  have Hr := Lib.hid hr
  clear hr
  go_enter Tryd.func4, Tryd.ntmps4
  go_wp2_with fail
  refine (fixed_any E w hM).mono ?_
  rintro e w1 ⟨rfl, hb1⟩
  have hB1 := hb1
  go_wp2_with fail
  refine (num_any _ _).mono ?_
  rintro e w2 ⟨rfl, hb2⟩
  have hB2 := hB1.trans (hb2.mono hB1.size)
  clear hb2 hB1
  go_wp2_with fail
  refine (refnum_any _ _).mono ?_
  rintro e w3 ⟨rfl, hb3⟩
  have hB3 := hB2.trans (hb3.mono hB2.size)
  clear hb3 hB2
  go_wp2_with fail
  refine (int_any _ _).mono ?_
  rintro e w4 ⟨rfl, hb4⟩
  have hB4 := hB3.trans (hb4.mono hB3.size)
  clear hb4 hB3
  go_wp2_with fail
  refine (refint_any _ _).mono ?_
  rintro e w5 ⟨rfl, hb5⟩
  have hB5 := hB4.trans (hb5.mono hB4.size)
  clear hb5 hB4
  go_wp2_with fail
  refine (nums_any _ zs _ hz ((Hr.out.below hB5).mono hB5.size)).mono ?_
  rintro e w6 ⟨rfl, hb6⟩
  have hB6 := hB5.trans (hb6.mono hB5.size)
  clear hb6 hB5
  go_wp2_with fail
  refine (refnums_any _ zs _ hz ((Hr.out.below hB6).mono hB6.size)).mono ?_
  rintro e w7 ⟨rfl, hb7⟩
  have hB7 := hB6.trans (hb7.mono hB6.size)
  clear hb7 hB6
  go_wp2_with fail
  refine (ints_any _ zs _ hz ((Hr.out.below hB7).mono hB7.size)).mono ?_
  rintro e w8 ⟨rfl, hb8⟩
  have hB8 := hB7.trans (hb8.mono hB7.size)
  clear hb8 hB7
  go_wp2_with fail
  refine (refints_any _ zs _ hz ((Hr.out.below hB8).mono hB8.size)).mono ?_
  rintro e w9 ⟨rfl, hb9⟩
  have hB9 := hB8.trans (hb9.mono hB8.size)
  clear hb9 hB8
  go_wp2
  go_ret
  exact ⟨rfl, hB9⟩

theorem writes_any (E : Nat → Addr) (n : Int) (v : Value) (zs : List Int) (w : World) (hM : Met E w.heap.size w) (hr : Row w w.heap.size v zs) :
    Calls Tryd.prog 4 #[.int .i64 n, v] w (Truly w) := by
  by_cases h : 100 < zs.length
  · exact writes_out E n v zs w hM hr h
  · exact writes_in E n v zs w hM hr (by omega)

end Wp
end Go.Proofs.YtcabbhiabhblfaaDoor
