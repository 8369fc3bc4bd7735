/- What the laws on sets share: each call told by what it comes to; plain facts. -/
import Derived.Test.YtakdcmibiondoaaSFixed
import Derived.Test.YtakdcmibiondoaaSRefMay
namespace Go.Proofs.Ytakdcmibiondoaa
open Go.RowKit
namespace Wp

theorem same_is (va vb : Value) (a b : List Int) (w : World) (ha : Row w w.heap.size va a) (hb : Row w w.heap.size vb b) (hla : a.length ≤ 1048576) (hlb : b.length ≤ 1048576) {x : Bool} (h : sameB a b = x) :
    Calls Try.prog 15 #[va, vb] w (Says w x) := by
  subst h
  exact same_says va vb a b w ha hb hla hlb
theorem may_is (v : Value) (l : List Int) (w : World) (hr : Row w w.heap.size v l) (hl : l.length ≤ 1048576) {x : Bool} (h : mayB l = x) : Calls Try.prog 9 #[v] w (Says w x) := by
  subst h
  exact may_any v l w hr hl
theorem refmay_is (v : Value) (l : List Int) (w : World) (hr : Row w w.heap.size v l) (hl : l.length ≤ 1048576) {x : Bool} (h : mayB l = x) : Calls Try.prog 10 #[v] w (Says w x) := by
  subst h
  exact refmay_any v l w hr hl
theorem has_is (v : Value) (l : List Int) (y : Int) (w : World) (hr : Row w w.heap.size v l) (hl : l.length ≤ 1048576) {x : Bool} (h : hasB l y = x) : Calls Try.prog 11 #[v, .int .i64 y] w (Says w x) := by
  subst h
  exact has_any v l y w hr hl
theorem sub_is (va vb : Value) (a b : List Int) (w : World) (ha : Row w w.heap.size va a) (hb : Row w w.heap.size vb b) (hla : a.length ≤ 1048576) (hlb : b.length ≤ 1048576) {x : Bool} (h : subB a b = x) :
    Calls Try.prog 13 #[va, vb] w (Says w x) := by
  subst h
  exact sub_any va vb a b w ha hb hla hlb

theorem has_union {a b : List Int} (ha : IsSet a) (hb : IsSet b) (x : Int) : hasB (unionL a b) x = (hasB a x || hasB b x) := by
  rw [Bool.eq_iff_iff, Bool.or_eq_true, has_iff (union_set a b), has_iff ha, has_iff hb, mem_union ha hb]
theorem has_meet {a b : List Int} (ha : IsSet a) (hb : IsSet b) (x : Int) : hasB (meetL a b) x = (hasB a x && hasB b x) := by
  rw [Bool.eq_iff_iff, Bool.and_eq_true, has_iff (meet_set a b), has_iff ha, has_iff hb, mem_meet ha hb]
theorem has_minus {a b : List Int} (ha : IsSet a) (hb : IsSet b) (x : Int) : hasB (minusL a b) x = (hasB a x && !hasB b x) := by
  rw [Bool.eq_iff_iff, Bool.and_eq_true, has_iff (minus_set a b), has_iff ha, mem_minus ha hb, Bool.not_eq_true', ← Bool.not_eq_true, has_iff hb]
theorem sub_one {a : List Int} (ha : IsSet a) (x : Int) : subB [x] a = hasB a x := by
  by_cases hx : Fit x
  · have hs : IsSet [x] := ⟨by simp, by simpa using hx⟩
    rw [Bool.eq_iff_iff, sub_iff hs ha, has_iff ha]
    simp
  · have h1 : mayB [x] = false := by
      rw [← Bool.not_eq_true, mayB_iff]
      intro h
      exact hx (h.2 x (by simp))
    rw [sub_no1 h1]
    symm
    rw [← Bool.not_eq_true, has_iff ha]
    intro h
    exact hx (ha.2 x h)
theorem meet_length (a b : List Int) : (meetL a b).length ≤ a.length := part_length a b true
theorem minus_length (a b : List Int) : (minusL a b).length ≤ a.length := part_length a b false
theorem all_len {n : Nat} (h : n ≤ 200) : (allL n).length = n := by
  have := all_length n
  by_cases h0 : n = 0
  · subst h0
    rfl
  · omega
theorem all_meet_minus {a s : List Int} (ha : IsSet a) (hs : IsSet s) : (meetL a s).length + (minusL a s).length = a.length := by
  have h := len_split (minus_set a s) (meet_set a s) ha (fun x hx hy => ((mem_minus ha hs x).1 hx).2 ((mem_meet ha hs x).1 hy).2) (fun x => by
    rw [mem_minus ha hs, mem_meet ha hs]
    constructor
    · intro h
      rcases Decidable.em (x ∈ s) with h' | h'
      · exact .inr ⟨h, h'⟩
      · exact .inl ⟨h, h'⟩
    · rintro (h | h) <;> exact h.1)
  omega
theorem all_apart {a s : List Int} (ha : IsSet a) (hs : IsSet s) : meetL (meetL a s) (minusL a s) = [] := by
  refine (meet_set _ _).ext isSet_nil fun x => ?_
  rw [mem_meet (meet_set a s) (minus_set a s), mem_meet ha hs, mem_minus ha hs]
  simp
  intro _ h1 _
  exact h1
theorem all_join {a s : List Int} (ha : IsSet a) (hs : IsSet s) : unionL (meetL a s) (minusL a s) = a := by
  rw [alg_union_comm (meet_set a s) (minus_set a s)]
  exact alg_split ha hs
theorem all_sub {a s : List Int} (ha : IsSet a) (hs : IsSet s) : subB s a = decide ((meetL a s).length = s.length) := by
  have h1 := all_meet_minus hs ha
  rw [alg_meet_comm hs ha] at h1
  unfold subB
  rw [mayB_of ha, mayB_of hs]
  simp only [Bool.and_self, Bool.true_and]
  rw [Bool.eq_iff_iff, decide_eq_true_iff, decide_eq_true_iff, ← List.length_eq_zero_iff]
  omega

end Wp
end Go.Proofs.Ytakdcmibiondoaa
