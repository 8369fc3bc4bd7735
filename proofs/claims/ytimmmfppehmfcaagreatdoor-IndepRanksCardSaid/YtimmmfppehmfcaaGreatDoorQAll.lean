/- The program's Has and All, walked. -/
import Derived.Test.YtimmmfppehmfcaaGreatDoorQPart
namespace Go.Proofs.YtimmmfppehmfcaaGreatDoor
open Go.RowKit
namespace Wp

/-- The first k numbers of n cells, and zeros. -/
def upTo (k : Nat) : List Int := (List.range k).map Int.ofNat
theorem upTo_succ (k : Nat) : upTo (k + 1) = upTo k ++ [(k : Int)] := by
  unfold upTo
  rw [List.range_succ, List.map_append]
  rfl
theorem upTo_length (k : Nat) : (upTo k).length = k := by simp [upTo]
theorem all_no {n : Int} (h : n < 1 ∨ 100000 < n) : allL n = [] := if_pos h
theorem all_yes {n : Nat} (h1 : 1 ≤ n) (h2 : n ≤ 100000) : allL n = upTo n := by
  unfold allL upTo
  rw [if_neg (by omega)]
  rfl

/-- The cells of make([]int, n), the first k of them filled. -/
def filled (n k : Nat) : Array Value := (ints (upTo k ++ List.replicate (n - k) 0)).toArray
theorem filled_size {n k : Nat} (h : k ≤ n) : (filled n k).size = n := by
  simp [filled, ints_length, upTo_length]
  omega
theorem filled_set {n k : Nat} (h : k < n) : (filled n k).setIfInBounds k (.int .i64 (k : Int)) = filled n (k + 1) := by
  unfold filled
  rw [List.setIfInBounds_toArray]
  congr 1
  rw [upTo_succ, ints_append, ints_append, ints_append, List.append_assoc]
  have e : List.replicate (n - k) (0 : Int) = 0 :: List.replicate (n - (k + 1)) 0 := by
    rw [show n - k = (n - (k + 1)) + 1 from by omega, List.replicate_succ]
  rw [e, List.set_append_right _ _ (by rw [ints_length, upTo_length]; exact Nat.le_refl _), ints_length, upTo_length, Nat.sub_self]
  rfl
theorem filled_all (n : Nat) : filled n n = (ints (upTo n)).toArray := by
  unfold filled
  rw [Nat.sub_self, List.replicate_zero, List.append_nil]
theorem row_filled {w : World} {g n : Nat} (h : Blk w g 3 (filled n n)) (hn : n ≤ maxLen) : Row w w.heap.size (.slice (some ⟨g, 0, none⟩) n n) (upTo n) := by
  rw [filled_all] at h
  refine ⟨_, n, by rw [upTo_length], ⟨by rw [upTo_length]; exact Nat.le_refl _, hn, fun e => by cases e⟩, fun k hk => ⟨_, rfl, h.lt, ?_⟩⟩
  have e : (⟨g, 0, none⟩ : Addr).add k = ⟨g, k, none⟩ := by unfold Addr.add; split <;> simp_all
  rw [e, h.cell]
  simp [ints, List.getD, hk]

theorem made_filled (w : World) (g n : Nat) (h : w.ownsRow g 3 1 (.slice (some ⟨g, 0, none⟩) n n) n (madeCells (Value.int .i64 0).cells (n * 1)).toList) : Blk w g 3 (filled n 0) := by
  rcases h.2 with ⟨e, _⟩ | ⟨g', cap, cur, hv, hb, hg, h1, h2, h3, h4⟩
  · cases e
  · injection hv with e1 _ e3
    injection e1 with e1
    injection e1 with e1
    subst e1 e3
    unfold Blk
    rw [hg]
    have hm : (madeCells (Value.int IntKind.i64 0).cells (n * 1)).toList = (filled n 0).toList := by
      unfold madeCells filled
      simp only [upTo, List.range_zero, List.map_nil, List.nil_append, Nat.sub_zero, Nat.mul_one]
      apply List.ext_getElem
      · simp [ints]
      · intro i h1 h2
        simp [ints, Value.cells, Nat.mod_one]
    have hc : cur.toList = (filled n 0).toList := by
      rw [← hm, ← h4, List.take_of_length_le]
      rw [Array.length_toList, h3]
      exact Nat.le_refl _
    rw [Array.toList_inj.1 hc]

set_option maxHeartbeats 2000000 in
set_option maxRecDepth 100000 in
theorem all_in (n : Nat) (w : World) (h1 : 1 ≤ n) (h2 : n ≤ 100000) :
    Calls Tryz.prog 36 #[.int .i64 n] w (Gives w (allL n)) := by
  have Hall := Lib.hid (all_yes h1 h2)
  have h1' : ¬ (n : Int) < 1 := by omega
  have h2' : ¬ (100000 : Int) < (n : Int) := by omega
  obtain ⟨i0, hi, hz0, hz1, hz2⟩ := info_parts info3
  go_enter Tryz.func36, Tryz.ntmps36
  go_wp2_with (at_make; refine wpList_make_full w rfl _ _ 26 rfl w.heap.size 3 i0 (.int .i64 0) 1 (by kernel_rfl) hi hz0 hz1 .i64 .i64 _ _ n rfl rfl (by rfl) (by rfl) (by rw [hz2]; omega) (by unfold maxLen; omega) (Nat.le_refl _) ?_)
  intro w1 hown1 hg1
  have hblk := made_filled w1 w.heap.size n (by rw [Nat.mul_one]; exact hown1)
  have hb1 : Below w.heap.size w w1 := (Below.refl _ w).grown hg1 (Nat.le_refl _) (fun i hi => by cases hi)
  clear hown1 hg1
  go_wp2
  go_loopw [15] (fun vk wr => ∃ k : Nat, vk = .int .i64 k ∧ k ≤ n ∧ Blk wr w.heap.size 3 (filled n k) ∧ Below w.heap.size w wr) (fun vk _ => n - (intOf vk).toNat)
  case atStart => exact ⟨0, rfl, Nat.zero_le _, hblk, hb1⟩
  case round =>
    obtain ⟨k, rfl, hk, hblk, hbr⟩ := hrel
    by_cases hlt : k < n
    · have hs := filled_size hk
      have g1 : wr.cell? ⟨w.heap.size, k, none⟩ = some ((filled n k)[k]'(by omega)) := by rw [hblk.cell]; simp [hs, hlt]
      have g2 := hblk.frozen k
      have Hblk := Lib.hid hblk
      clear hblk
      go_wp2
      go_roundw
      case rel => exact ⟨k + 1, by go_num, by omega, by rw [← filled_set hlt]; exact Hblk.out.set_ k _, hbr.setCell (by exact Nat.le_refl _) _⟩
      case measure => simp [intOf]; omega
    · have hke : k = n := by omega
      subst hke
      go_wp2
      go_ret
      exact ⟨_, rfl, by rw [Hall.out]; exact row_filled hblk (by unfold maxLen; omega), hbr⟩

set_option maxHeartbeats 2000000 in
set_option maxRecDepth 100000 in
theorem all_any (n : Int) (w : World) : Calls Tryz.prog 36 #[.int .i64 n] w (Gives w (allL n)) := by
  by_cases h1 : n < 1
  · have Hf := Lib.hid (all_no (.inl h1))
    go_enter Tryz.func36, Tryz.ntmps36
    go_wp2
    go_ret
    exact gives_nil w (Below.refl _ _) Hf.out
  · by_cases h2 : 100000 < n
    · have Hf := Lib.hid (all_no (.inr h2))
      go_enter Tryz.func36, Tryz.ntmps36
      go_wp2
      go_ret
      exact gives_nil w (Below.refl _ _) Hf.out
    · obtain ⟨m, rfl⟩ : ∃ m : Nat, n = (m : Int) := ⟨n.toNat, by omega⟩
      exact all_in m w (by omega) (by omega)

end Wp
end Go.Proofs.YtimmmfppehmfcaaGreatDoor
