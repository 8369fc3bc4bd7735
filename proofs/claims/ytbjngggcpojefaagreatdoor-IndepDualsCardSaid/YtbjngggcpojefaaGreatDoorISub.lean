/- The document's Subset, walked: a set of numbers below n. -/
import Derived.Test.YtbjngggcpojefaaGreatDoorIKeep
namespace Go.Proofs.YtbjngggcpojefaaGreatDoor
open Go.RowKit
namespace Wp

theorem inN_snoc {k : Nat} {L : List Int} (hk : k ≤ 64) (h : InN k L) : InN (k + 1) (L ++ [(k : Int)]) := by
  refine ⟨⟨List.pairwise_append.2 ⟨h.1.1, by simp, fun x hx y hy => ?_⟩, fun x hx => ?_⟩, fun x hx => ?_⟩
  · rw [List.mem_singleton.1 hy]
    exact (h.2 x hx).2
  · rcases List.mem_append.1 hx with h1 | h1
    · exact h.1.2 x h1
    · rw [List.mem_singleton.1 h1]; exact ⟨by omega, by omega⟩
  · rcases List.mem_append.1 hx with h1 | h1
    · have := h.2 x h1; omega
    · rw [List.mem_singleton.1 h1]; omega
theorem inN_more {k n : Nat} {L : List Int} (hk : k ≤ n) (h : InN k L) : InN n L := ⟨h.1, fun x hx => by have := h.2 x hx; omega⟩
def GivesIn (n : Nat) (w : World) (e : Ending) (w' : World) : Prop := ∃ (L : List Int) (v : Value), InN n L ∧ L.length ≤ n ∧ e = .returned v ∧ Row w' w'.heap.size v L ∧ Below w.heap.size w w'
set_option maxHeartbeats 4000000 in
set_option maxRecDepth 100000 in
theorem subset_any (n B : Nat) (w : World) (hn : n ≤ 3) (_hB : B < 8) : Calls Tryz.prog 18 #[.int .i64 (n : Int), .int .i64 (B : Int)] w (GivesIn n w) := by
  go_enter Tryz.func18, Tryz.ntmps18
  have hown0 : (w.alloc (.cells #[] 3)).ownsRow w.heap.size 3 1 (.slice (some ⟨w.heap.size, 0, none⟩) 0 0) 0 [] :=
    World.ownsRow_made w #[] 0 (Nat.le_refl _) (by unfold maxLen; omega) rfl
  have hB0 : Below w.heap.size w (w.alloc (.cells #[] 3)) := (Below.refl _ w).alloc (Nat.le_refl _) _
  go_wp2
  go_loopw [5, 6] (fun vl vk wr => ∃ (k : Nat) (L : List Int), vk = .int .i64 k ∧ k ≤ n ∧ InN k L ∧ L.length ≤ k ∧ wr.ownsRow w.heap.size 3 1 vl L.length (ints L) ∧ Below w.heap.size w wr) (fun _ vk _ => n - (intOf vk).toNat)
  case atStart => exact ⟨0, [], rfl, Nat.zero_le _, inN_nil 0, Nat.le_refl _, hown0, hB0⟩
  case round =>
    obtain ⟨k, L, rfl, hk, hin, hlen, hown, hbr⟩ := hrel
    have Hin := Lib.hid hin
    clear hin
    by_cases hlt : k < n
    · have hkI : (k : Int) < (n : Int) := by omega
      have hk0 : (0 : Int) ≤ (k : Int) := by omega
      have hk64 : (k : Int) < 64 := by omega
      rcases hq : (bits BinOp.and IntKind.i64 ((B : Int) / 2 ^ k) 1 == 1) with _ | _
      · go_wp2
        go_roundw
        case rel => exact ⟨k + 1, L, by go_num, by omega, inN_more (Nat.le_succ k) Hin.out, by omega, hown, hbr⟩
        case measure => simp [intOf]; omega
      · go_wp2_with (at_builtin; refine wpList_append_row rfl _ _ rfl w.heap.size _ _ _ L [(k : Int)] rfl rfl (hown.alloc _) (Row.lit1 _ (k : Int)) (by omega) (by simp) (by have := hbr.size; simp; omega) ?_)
        intro v' w4 hown' hgrow
        have hb4 : Below w.heap.size wr w4 := ((Below.refl _ wr).alloc hbr.size _).grown hgrow (by have := hbr.size; simp; omega) (fun i hi => (hown.lt i hi).1)
        go_wp2
        go_roundw
        case rel => exact ⟨k + 1, L ++ [(k : Int)], by go_num, by omega, inN_snoc (by omega) Hin.out, by rw [List.length_append]; simp; omega, by rw [List.length_append]; exact hown', hbr.trans hb4⟩
        case measure => simp [intOf]; omega
    · have hke : k = n := by omega
      subst hke
      have Hr := Lib.hid (Row.of_own hown rfl)
      go_wp2
      go_ret
      exact ⟨L, _, Hin.out, hlen, rfl, Hr.out, hbr⟩

end Wp
end Go.Proofs.YtbjngggcpojefaaGreatDoor
