/- The program's (*wire.Reader).End, walked. -/
import Derived.Test.YtcabbhiabhblfaaDoorWTold
import Derived.Test.YtcabbhiabhblfaaDoorWTake
import Derived.BigRegion
import Derived.RegionTactic
import Derived.ChangeAlike
namespace Go.Proofs.YtcabbhiabhblfaaDoor
open Go.RowKit
namespace Wp

/-- How a reader ends: the error's number, and the place. -/
def endS (T : List UInt8) (st : St) : Nat × Nat :=
  match st.2 with
  | some (p, k) => (9 + k, p)
  | none => if st.1 < T.length then (13, st.1) else (0, st.1)

theorem end_nil (w : World) : Calls Tryd.prog 27 #[.pointer none] w fun e w' => e = .returned (.tuple #[.int .i64 1, .int .i64 0]) ∧ w = w' := by
  go_enter Tryd.func27, Tryd.ntmps27
  go_wp2
  go_ret2
  exact ⟨rfl, rfl⟩

set_option maxHeartbeats 400000 in
theorem end_err (E : Nat → Addr) (B : Nat) (T : ByteArray) (b q p k : Nat) (hk : 1 ≤ k ∧ k ≤ 4) (w : World) (hM : Met E B w) (hB : B ≤ b) (hr : Rd E T b (q, some (p, k)) w) :
    Calls Tryd.prog 27 #[.pointer (some ⟨b, 0, none⟩)] w fun e w' => e = .returned (.tuple #[.int .i64 ((9 + k : Nat) : Int), .int .i64 p]) ∧ Below w.heap.size w w' := by
  have c2 : w.cell? ⟨b, 2, none⟩ = some (errV E (some (p, k))) := hr.cell 2
  have hc := told_any E B p k hk w hM (by have := hr.lt; omega)
  unfold errV at c2 hc
  have Hc := Lib.hid hc
  clear hc
  go_enter Tryd.func27, Tryd.ntmps27
  go_wp2_with fail
  refine Hc.out.mono ?_
  rintro e w1 ⟨rfl, hb⟩
  go_wp2
  go_ret2
  exact ⟨rfl, hb⟩

set_option maxHeartbeats 400000 in
theorem end_ok (E : Nat → Addr) (T : ByteArray) (b p : Nat) (hp : p = T.size) (_hT : T.size ≤ 1099511627776) (w : World) (hr : Rd E T b (p, none) w) :
    Calls Tryd.prog 27 #[.pointer (some ⟨b, 0, none⟩)] w fun e w' => e = .returned (.tuple #[.int .i64 0, .int .i64 p]) ∧ Below w.heap.size w w' := by
  subst hp
  have c0 : w.cell? ⟨b, 0, none⟩ = some (.string T) := hr.cell 0
  have c1 : w.cell? ⟨b, 1, none⟩ = some (.int .i64 T.size) := hr.cell 1
  have c2 : w.cell? ⟨b, 2, none⟩ = some .nilIface := hr.cell 2
  go_enter Tryd.func27, Tryd.ntmps27
  go_wp2
  go_quiet (fail)
  go_wp2
  go_quiet (fail)
  go_wp2
  go_ret2
  exact ⟨rfl, below_drewN (below_drewN (Below.refl _ _) _) _⟩

set_option maxHeartbeats 1000000 in
theorem end_left (E : Nat → Addr) (B : Nat) (T : ByteArray) (b p : Nat) (hp : p < T.size) (_hT : T.size ≤ 1099511627776) (w : World) (hM : Met E B w) (hB : B ≤ b) (hr : Rd E T b (p, none) w) :
    Calls Tryd.prog 27 #[.pointer (some ⟨b, 0, none⟩)] w fun e w' => e = .returned (.tuple #[.int .i64 13, .int .i64 p]) ∧ Below w.heap.size w w' := by
  have c0 : w.cell? ⟨b, 0, none⟩ = some (.string T) := hr.cell 0
  have c1 : w.cell? ⟨b, 1, none⟩ = some (.int .i64 p) := hr.cell 1
  have c2 : w.cell? ⟨b, 2, none⟩ = some .nilIface := hr.cell 2
  have g4 := hM.g4
  go_enter Tryd.func27, Tryd.ntmps27
  go_wp2
  go_quiet (fail)
  go_wp2_with fail
  have hBw : B ≤ w.heap.size := by have := hr.lt; omega
  have d1 : (w.drewN nq).cell? ⟨b, 1, none⟩ = some (.int .i64 p) := c1
  have d4 : (w.drewN nq).cell? ⟨0, 0, none⟩ = some (.iface 101 (.pointer (some (E 4)))) := g4
  have hM2 : Met E B (w.drewN nq) := hM.below (below_drewN (Below.refl _ _) nq)
  have hb2 : Below w.heap.size w (w.drewN nq) := below_drewN (Below.refl _ _) nq
  have hz2 : w.heap.size = (w.drewN nq).heap.size := rfl
  generalize w.drewN nq = w2 at *
  clear c0 c1 c2 g4
  have hc : Calls Tryd.prog 36 #[.iface 53 (.agg #[.int .i64 p, .iface 101 (.pointer (some (E 4)))])] w2.drew fun e w' => e = .returned (.tuple #[.int .i64 13, .int .i64 p]) ∧ Below w.heap.size w w' :=
    (told_any E B p 4 (by decide) w2.drew (hM2.below (Below.refl _ _).drew) (by show B ≤ w2.heap.size; omega)).mono fun _ _ ⟨h1, h2⟩ => ⟨h1, hb2.drew.trans (h2.mono (by show w.heap.size ≤ w2.heap.size; omega))⟩
  have Hc := Lib.hid hc
  clear hc hM2
  go_region_with (go_at_call 36; refine Hc.out.mono ?_; rintro e w3 ⟨rfl, hb3⟩)
  all_goals (try go_wp2)
  all_goals (go_ret2; exact ⟨rfl, hb3⟩)

/-- What a call of End comes to. -/
theorem end_any (E : Nat → Addr) (B : Nat) (T : ByteArray) (b : Nat) (st : St) (hk : ∀ x, st.2 = some x → 1 ≤ x.2 ∧ x.2 ≤ 4) (hp : st.1 ≤ T.size) (hT : T.size ≤ 1099511627776) (w : World) (hM : Met E B w) (hB : B ≤ b) (hr : Rd E T b st w) :
    Calls Tryd.prog 27 #[.pointer (some ⟨b, 0, none⟩)] w fun e w' => e = .returned (.tuple #[.int .i64 ((endS T.data.toList st).1 : Nat), .int .i64 ((endS T.data.toList st).2 : Nat)]) ∧ Below w.heap.size w w' := by
  obtain ⟨q, x⟩ := st
  cases x with
  | some x => exact end_err E B T b q x.1 x.2 (hk x rfl) w hM hB hr
  | none =>
    have hl : T.data.toList.length = T.size := by simp
    by_cases h : q < T.size
    · have e : endS T.data.toList (q, none) = (13, q) := by
        simp only [endS]
        rw [if_pos (by omega)]
      rw [e]
      exact end_left E B T b q h hT w hM hB hr
    · have e : endS T.data.toList (q, none) = (0, q) := by
        simp only [endS]
        rw [if_neg (by omega)]
      rw [e]
      have hp' : q ≤ T.size := hp
      exact end_ok E T b q (by omega) hT w hr

end Wp
end Go.Proofs.YtcabbhiabhblfaaDoor
