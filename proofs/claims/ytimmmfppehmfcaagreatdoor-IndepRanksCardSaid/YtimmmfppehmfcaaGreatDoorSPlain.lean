/- Plain facts on sets as lists, for the walks: whether a list is a set, step by step; what both have, step by step. -/
import Derived.Test.YtimmmfppehmfcaaGreatDoorSKit
namespace Go.Proofs.YtimmmfppehmfcaaGreatDoor
open Go.RowKit
namespace Wp

theorem says_mk {w w' : World} {b b' : Bool} {e : Ending} (hb : b = b') (he : e = .returned (.bool b')) (h : Below w.heap.size w w') : Says w b e w' := ⟨by rw [hb]; exact he, h⟩

/-- The next number makes no set of what was one. -/
theorem may_step (l : List Int) (k : Nat) (hk : k < l.length) (h : IsSet (l.take k)) (hf : Fit (l.getD k 0)) (hp : k = 0 ∨ l.getD (k - 1) 0 < l.getD k 0) : IsSet (l.take (k + 1)) := by
  have e : l.take (k + 1) = l.take k ++ [l.getD k 0] := by
    rw [List.take_succ_eq_append_getElem hk]; simp [List.getD, hk]
  rw [e]
  refine ⟨?_, fun x hx => ?_⟩
  · rw [List.pairwise_append]
    refine ⟨h.1, by simp, fun x hx y hy => ?_⟩
    rw [List.mem_singleton] at hy
    subst hy
    obtain ⟨j, hj, rfl⟩ := List.mem_iff_getElem.1 hx
    rw [List.length_take] at hj
    rcases hp with h0 | hp
    · omega
    · have hl : l.getD (k - 1) 0 = (l.take k)[k - 1]'(by rw [List.length_take]; omega) := by
        simp [List.getD, show k - 1 < l.length from by omega]
      rw [hl] at hp
      rcases Nat.lt_or_ge j (k - 1) with hlt | hge
      · have := List.pairwise_iff_getElem.1 h.1 j (k - 1) (by rw [List.length_take]; omega) (by rw [List.length_take]; omega) hlt
        omega
      · have : j = k - 1 := by omega
        subst this
        exact hp
  · rw [List.mem_append, List.mem_singleton] at hx
    rcases hx with hx | hx
    · exact h.2 x hx
    · subst hx; exact hf
theorem may_fails (l : List Int) (k : Nat) (hk : k < l.length) (h : ¬ Fit (l.getD k 0) ∨ (0 < k ∧ l.getD k 0 ≤ l.getD (k - 1) 0)) : mayB l = false := by
  rw [← Bool.not_eq_true, mayB_iff]
  intro hs
  have hm : l.getD k 0 ∈ l := by simp [List.getD, hk]
  rcases h with h | ⟨h0, h⟩
  · exact h (hs.2 _ hm)
  · have := List.pairwise_iff_getElem.1 hs.1 (k - 1) k (by omega) hk (by omega)
    simp [List.getD, hk, show k - 1 < l.length from by omega] at h
    omega
theorem may_all (l : List Int) (k : Nat) (hk : k = l.length) (h : IsSet (l.take k)) : mayB l = true := by
  subst hk
  rw [List.take_length] at h
  exact mayB_of h

theorem gives_nil (w : World) {w' : World} (h : Below w.heap.size w w') {r : List Int} (hr : r = []) : Gives w r (.returned (.slice none 0 0)) w' := ⟨_, rfl, by rw [hr]; exact Row.nil_ _ _, h⟩
theorem union_yes {a b : List Int} (ha : mayB a = true) (hb : mayB b = true) : unionL a b = sortL (a ++ b) := by unfold unionL; rw [ha, hb]; rfl
theorem union_no1 {a b : List Int} (ha : mayB a = false) : unionL a b = [] := by unfold unionL; rw [ha]; rfl
theorem union_no2 {a b : List Int} (hb : mayB b = false) : unionL a b = [] := by unfold unionL; rw [hb, Bool.and_false]; rfl

/-- What part has of the first k numbers. -/
def partOf (a b : List Int) (w : Bool) (k : Nat) : List Int := (a.take k).filter fun x => b.contains x == w
theorem partOf_yes (a b : List Int) (w : Bool) (k : Nat) (h : k < a.length) (hf : b.contains (a.getD k 0) = w) : partOf a b w (k + 1) = partOf a b w k ++ [a.getD k 0] := by
  unfold partOf
  rw [List.take_succ_eq_append_getElem h, List.filter_append]
  have e : a[k] = a.getD k 0 := by simp [List.getD, h]
  rw [e]
  congr 1
  rw [List.filter_cons, if_pos (by simpa using hf)]
  rfl
theorem partOf_no (a b : List Int) (w : Bool) (k : Nat) (h : k < a.length) (hf : ¬ b.contains (a.getD k 0) = w) : partOf a b w (k + 1) = partOf a b w k := by
  unfold partOf
  rw [List.take_succ_eq_append_getElem h, List.filter_append]
  have e : a[k] = a.getD k 0 := by simp [List.getD, h]
  rw [e, List.filter_cons, if_neg (by simpa using hf)]
  simp
theorem partOf_length (a b : List Int) (w : Bool) (k : Nat) : (partOf a b w k).length ≤ a.length := by
  unfold partOf
  refine Nat.le_trans (List.length_filter_le _ _) ?_
  simp
  omega
theorem partOf_all (a b : List Int) (w : Bool) (ha : mayB a = true) (hb : mayB b = true) : partOf a b w a.length = partL a b w := by
  unfold partOf partL
  rw [List.take_length, ha, hb]
  rfl
theorem part_no1 {a b : List Int} {w : Bool} (ha : mayB a = false) : partL a b w = [] := by unfold partL; rw [ha]; rfl
theorem part_no2 {a b : List Int} {w : Bool} (hb : mayB b = false) : partL a b w = [] := by unfold partL; rw [hb, Bool.and_false]; rfl

theorem sub_no1 {a b : List Int} (ha : mayB a = false) : subB a b = false := by unfold subB; rw [ha]; rfl
theorem sub_no2 {a b : List Int} (hb : mayB b = false) : subB a b = false := by unfold subB; rw [hb, Bool.and_false]; rfl
theorem sub_yes {a b : List Int} (ha : mayB a = true) (hb : mayB b = true) : subB a b = decide (minusL a b = []) := by unfold subB; rw [ha, hb]; rfl

end Wp
end Go.Proofs.YtimmmfppehmfcaaGreatDoor
