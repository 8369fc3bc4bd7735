/- The law on what a reader takes of any bytes, asked anything, walked: it answers true. -/
import Derived.Test.YtcabbhiabhblfaaDoorWScr
import Derived.Test.YtcabbhiabhblfaaDoorWSame
namespace Go.Proofs.YtcabbhiabhblfaaDoor
open Go.RowKit
namespace Wp


set_option maxHeartbeats 1000000 in
set_option maxRecDepth 100000 in
theorem takes_out (E : Nat → Addr) (s : ByteArray) (v : Value) (zs : List Int) (most : Int) (w : World) (hM : Met E w.heap.size w) (hr : Row w w.heap.size v zs) (h : 500 < s.size ∨ 20 < zs.length) :
    Calls Tryd.prog 3 #[.string s, v, .int .i64 most] w (Truly w) := by
  obtain ⟨A, c, rfl, _⟩ := hr
  by_cases h1 : 500 < s.size
  · have h' : (500 : Int) < (s.size : Int) := by omega
    clear h h1
    go_enter Tryd.func3, Tryd.ntmps3
    go_wp2_with fail
    refine (fixed_any E w hM).mono ?_
    rintro e w1 ⟨rfl, hb⟩
    go_wp2
    go_ret
    exact ⟨rfl, hb⟩
  · have h2 : (20 : Int) < (zs.length : Int) := by omega
    have h1' : (s.size : Int) ≤ 500 := by omega
    clear h h1
    go_enter Tryd.func3, Tryd.ntmps3
    go_wp2_with fail
    refine (fixed_any E w hM).mono ?_
    rintro e w1 ⟨rfl, hb⟩
    go_wp2
    go_ret
    exact ⟨rfl, hb⟩

set_option maxHeartbeats 1000000 in
set_option maxRecDepth 100000 in
theorem takes_in (E : Nat → Addr) (s : ByteArray) (v : Value) (zs : List Int) (most : Int) (w : World) (hM : Met E w.heap.size w) (hr : Row w w.heap.size v zs) (h1 : s.size ≤ 500) (h2 : zs.length ≤ 20) :
    Calls Tryd.prog 3 #[.string s, v, .int .i64 most] w (Truly w) := by
  have h1' : (s.size : Int) ≤ 500 := by omega
  have h2' : (zs.length : Int) ≤ 20 := by omega
  have hv : ∃ A c, v = .slice A zs.length c := by
    obtain ⟨A, c, hv, _⟩ := hr
    exact ⟨A, c, hv⟩
  obtain ⟨A, c, rfl⟩ := hv
  have Hr := Lib.hid hr
  clear hr
  go_enter Tryd.func3, Tryd.ntmps3
  go_wp2_with fail
  refine (fixed_any E w hM).mono ?_
  rintro e w1 ⟨rfl, hb1⟩
  have hM1 : Met E w1.heap.size w1 := (hM.below hb1).more hb1.size
  go_wp2_with fail
  refine (script_any s _ zs most w1 E hM1 h1 h2 ((Hr.out.below hb1).mono hb1.size)).mono ?_
  rintro e w2 ⟨va, rfl, hown2, hlen, hb2⟩
  have hB2 : Below w.heap.size w w2 := hb1.trans (hb2.mono hb1.size)
  go_wp2_with fail
  refine (model_any s _ zs most w2 h1 h2 ((Hr.out.below hB2).mono hB2.size)).mono ?_
  rintro e w3 ⟨vb, rfl, hown3, _, hb3⟩
  have hB3 : Below w.heap.size w w3 := hB2.trans (hb3.mono hB2.size)
  have hra : Row w3 w3.heap.size va (scriptL s.data.toList most zs) := ((Row.of_own hown2 rfl).below hb3).mono hb3.size
  have hrb : Row w3 w3.heap.size vb (scriptL s.data.toList most zs) := Row.of_own hown3 rfl
  have hsame := same_any va vb _ _ w3 hra hrb (by omega) (by omega)
  have e : sameB (scriptL s.data.toList most zs) (scriptL s.data.toList most zs) = true := by simp [sameB]
  rw [e] at hsame
  have Hs := Lib.hid hsame
  clear hsame hra hrb hown2 hown3 hb2 hb3 hlen e
  go_wp2_with fail
  refine Hs.out.mono ?_
  rintro e w4 ⟨rfl, q, rfl⟩
  go_wp2
  go_ret
  exact ⟨rfl, below_drewN hB3 q⟩

theorem takes_any (E : Nat → Addr) (s : ByteArray) (v : Value) (zs : List Int) (most : Int) (w : World) (hM : Met E w.heap.size w) (_hs : s.size ≤ maxLen) (hr : Row w w.heap.size v zs) :
    Calls Tryd.prog 3 #[.string s, v, .int .i64 most] w (Truly w) := by
  by_cases h : s.size ≤ 500 ∧ zs.length ≤ 20
  · exact takes_in E s v zs most w hM hr h.1 h.2
  · exact takes_out E s v zs most w hM hr (by omega)

end Wp
end Go.Proofs.YtcabbhiabhblfaaDoor
