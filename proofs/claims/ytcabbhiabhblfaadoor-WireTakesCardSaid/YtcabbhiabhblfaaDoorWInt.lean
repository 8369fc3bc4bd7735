/- The program's wire.Int and wire.Read, walked. -/
import Derived.Test.YtcabbhiabhblfaaDoorWNum
namespace Go.Proofs.YtcabbhiabhblfaaDoor
open Go.RowKit
namespace Wp

/-- wire.Int's answer. -/
def intB (n : Int) : ByteArray := if n < -562949953421312 ∨ 562949953421312 < n then ⟨#[]⟩ else if n < 0 then numB (-2 * n - 1) else numB (2 * n)

set_option maxHeartbeats 400000 in
theorem int_any (n : Int) (w : World) :
    Calls Tryd.prog 16 #[.int .i64 n] w fun e w' => e = .returned (.string (intB n)) ∧ Below w.heap.size w w' := by
  by_cases h1 : n < -562949953421312
  · have e : intB n = ⟨#[]⟩ := if_pos (.inl h1)
    rw [e]
    go_enter Tryd.func16, Tryd.ntmps16
    go_wp2
    go_ret
    exact ⟨rfl, Below.refl _ _⟩
  by_cases h2 : 562949953421312 < n
  · have e : intB n = ⟨#[]⟩ := if_pos (.inr h2)
    rw [e]
    go_enter Tryd.func16, Tryd.ntmps16
    go_wp2
    go_ret
    exact ⟨rfl, Below.refl _ _⟩
  have h1' : -562949953421312 ≤ n := by omega
  have h2' : n ≤ 562949953421312 := by omega
  clear h1 h2
  by_cases h3 : n < 0
  · have e : intB n = numB (-2 * n - 1) := by unfold intB; rw [if_neg (by omega), if_pos h3]
    rw [e]
    have he := Lib.hid e
    clear e
    go_enter Tryd.func16, Tryd.ntmps16
    go_wp2_with fail
    refine (num_any _ _).mono ?_
    rintro e w' ⟨rfl, hb⟩
    go_wp2
    go_ret
    exact ⟨rfl, hb⟩
  · have e : intB n = numB (2 * n) := by unfold intB; rw [if_neg (by omega), if_neg h3]
    rw [e]
    have h3' : 0 ≤ n := by omega
    clear e h3
    go_enter Tryd.func16, Tryd.ntmps16
    go_wp2_with fail
    refine (num_any _ _).mono ?_
    rintro e w' ⟨rfl, hb⟩
    go_wp2
    go_ret
    exact ⟨rfl, hb⟩

theorem read_any (s : ByteArray) (w : World) :
    Calls Tryd.prog 22 #[.string s] w fun e w' => e = .returned (.pointer (some ⟨w.heap.size, 0, none⟩)) ∧ w.alloc (.cells #[.string s, .int .i64 0, .nilIface] 49) = w' := by
  go_enter Tryd.func22, Tryd.ntmps22
  go_wp2
  go_ret
  exact ⟨rfl, rfl⟩

end Wp
end Go.Proofs.YtcabbhiabhblfaaDoor
