/- A made list of numbers, filled with places one by one. -/
import Derived.Test.YtcdfjhmlpdhelaaSKit
import Derived.Test.YtcdfjhmlpdhelaaOPlaces
namespace Go.Proofs.Ytcdfjhmlpdhelaa
open Go.RowKit
namespace Wp

/-- The cells of make([]int, n), the first k of them filled. -/
def filled (n k : Nat) : Array Value := (ints (idxs k ++ List.replicate (n - k) 0)).toArray
theorem filled_size {n k : Nat} (h : k ≤ n) : (filled n k).size = n := by
  simp [filled, ints_length, idxs_length]
  omega
theorem filled_set {n k : Nat} (h : k < n) : (filled n k).setIfInBounds k (.int .i64 (k : Int)) = filled n (k + 1) := by
  unfold filled
  rw [List.setIfInBounds_toArray]
  congr 1
  rw [idxs_succ, ints_append, ints_append, ints_append, List.append_assoc]
  have e : List.replicate (n - k) (0 : Int) = 0 :: List.replicate (n - (k + 1)) 0 := by
    rw [show n - k = (n - (k + 1)) + 1 from by omega, List.replicate_succ]
  rw [e, List.set_append_right _ _ (by rw [ints_length, idxs_length]; exact Nat.le_refl _), ints_length, idxs_length, Nat.sub_self]
  rfl
theorem filled_all (n : Nat) : filled n n = (ints (idxs n)).toArray := by
  unfold filled
  rw [Nat.sub_self, List.replicate_zero, List.append_nil]
theorem row_filled {w : World} {g n : Nat} (h : Blk w g 3 (filled n n)) (hn : n ≤ maxLen) : Row w w.heap.size (.slice (some ⟨g, 0, none⟩) n n) (idxs n) := by
  rw [filled_all] at h
  refine ⟨_, n, by rw [idxs_length], ⟨by rw [idxs_length]; exact Nat.le_refl _, hn, fun e => by cases e⟩, fun k hk => ⟨_, rfl, h.lt, ?_⟩⟩
  have e : (⟨g, 0, none⟩ : Addr).add k = ⟨g, k, none⟩ := by unfold Addr.add; split <;> simp_all
  rw [e, h.cell]
  simp [ints, List.getD, hk]

theorem made_filled (w : World) (base g n : Nat) (h : w.ownsRow base 3 1 (.slice (some ⟨g, 0, none⟩) n n) n (madeCells (Value.int .i64 0).cells (n * 1)).toList) : Blk w g 3 (filled n 0) := by
  rcases h.2 with ⟨e, _⟩ | ⟨g', cap, cur, hv, hb, hg, h1, h2, h3, h4⟩
  · cases e
  · injection hv with e1 _ e3
    injection e1 with e1
    injection e1 with e1
    subst e1 e3
    unfold Blk
    rw [hg]
    have hm : (madeCells (Value.int IntKind.i64 0).cells (n * 1)).toList = (filled n 0).toList := by
      unfold madeCells filled
      simp only [idxs, List.range_zero, List.map_nil, List.nil_append, Nat.sub_zero, Nat.mul_one]
      apply List.ext_getElem
      · simp [ints]
      · intro i h1 h2
        simp [ints, Value.cells, Nat.mod_one]
    have hc : cur.toList = (filled n 0).toList := by
      rw [← hm, ← h4, List.take_of_length_le]
      rw [Array.length_toList, h3]
      exact Nat.le_refl _
    rw [Array.toList_inj.1 hc]

end Wp
end Go.Proofs.Ytcdfjhmlpdhelaa
