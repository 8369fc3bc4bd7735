/- Steps of what is taken off a column, one by one, and the bounds of what is reckoned there, plain. Nothing of the program here. -/
import Derived.Test.YtmnhpccdhefddaaDoorLAlgC
import Derived.Test.YtmnhpccdhefddaaDoorLMap
import Derived.WalkKit
namespace Go.Proofs.YtmnhpccdhefddaaDoor.Wp
open Go Go.RowKit
variable {p : Int} {R : Nat}

/-! ### No number is too great -/
theorem mul_in {a b : Int} (hp : p ≤ 2147483647) (ha : 0 ≤ a) (ha' : a < p) (hb : 0 ≤ b) (hb' : b < p) : 0 ≤ a * b ∧ a * b < 4611686018427387904 := by
  refine ⟨Int.mul_nonneg ha hb, ?_⟩
  have h1 : a * b ≤ 2147483646 * b := Int.mul_le_mul_of_nonneg_right (by omega) hb
  omega
theorem wrap_in {x : Int} (h1 : -9223372036854775808 ≤ x) (h2 : x < 9223372036854775808) : wrap64 x = x := by
  unfold wrap64
  omega
theorem wrap_mul_in {a b : Int} (hp : p ≤ 2147483647) (ha : 0 ≤ a) (ha' : a < p) (hb : 0 ≤ b) (hb' : b < p) : wrap64 (a * b) = a * b := by
  have := mul_in hp ha ha' hb hb'
  exact wrap_in (by omega) (by omega)
theorem wrap_sub_in {x a b : Int} (hp : p ≤ 2147483647) (hx : 0 ≤ x) (hx' : x < p) (ha : 0 ≤ a) (ha' : a < p) (hb : 0 ≤ b) (hb' : b < p) : wrap64 (x - a * b) = x - a * b := by
  have := mul_in hp ha ha' hb hb'
  exact wrap_in (by omega) (by omega)

/-! ### One step -/
theorem subU_start {left : List Int} {l : Line} {t : Int} : subU p left l t l.lead = left := by
  apply List.ext_getElem
  · exact subU_length
  · intro i h1 h2
    have := subU_getD (p := p) (l := l) (t := t) (k := l.lead) h2
    rw [if_neg (by omega)] at this
    simpa [List.getD, h1, h2] using this
theorem subU_at {left : List Int} {l : Line} {t : Int} {r : Nat} (h : r < left.length) : (subU p left l t r).getD r 0 = left.getD r 0 := by
  rw [subU_getD h, if_neg (by omega)]
theorem subU_step {left : List Int} {l : Line} {t : Int} {r : Nat} (h : l.lead ≤ r) : (subU p left l t r).set r ((left.getD r 0 - t * l.left.getD r 0) % p) = subU p left l t (r + 1) := by
  apply List.ext_getElem
  · simp [subU_length]
  · intro i h1 h2
    have hi : i < left.length := by simpa [subU_length] using h2
    have e1 := subU_getD (p := p) (left := left) (l := l) (t := t) (k := r + 1) hi
    have e2 := subU_getD (p := p) (left := left) (l := l) (t := t) (k := r) hi
    rw [List.getD_eq_getElem?_getD, List.getElem?_eq_getElem h2] at e1
    rw [List.getD_eq_getElem?_getD, List.getElem?_eq_getElem (by rw [subU_length]; exact hi)] at e2
    rw [show (subU p left l t (r + 1))[i] = _ from e1, List.getElem_set]
    by_cases h3 : r = i
    · subst h3
      rw [if_pos rfl, if_pos ⟨h, by omega⟩]
    · rw [if_neg h3, show (subU p left l t r)[i]'(by rw [subU_length]; exact hi) = _ from e2]
      by_cases h4 : l.lead ≤ i ∧ i < r
      · rw [if_pos h4, if_pos ⟨h4.1, by omega⟩]
      · rw [if_neg h4, if_neg (by omega)]
/-- So many lines have been taken off. -/
def takeN (p : Int) (ls : List Line) (col : List Int) (k : Nat) : List Int × (Nat → Int) := (ls.take k).foldl (stepT p) (col, fun _ => 0)
theorem takeN_zero {ls : List Line} {col : List Int} : takeN p ls col 0 = (col, fun _ => 0) := rfl
theorem takeN_succ {ls : List Line} {col : List Int} {k : Nat} (hk : k < ls.length) : takeN p ls col (k + 1) = stepT p (takeN p ls col k) ls[k] := by
  unfold takeN
  rw [List.take_succ_eq_append_getElem hk, List.foldl_append]
  rfl
theorem takeN_all {ls : List Line} {col : List Int} : takeN p ls col ls.length = takeT p ls col := by
  unfold takeN takeT
  rw [List.take_length]
theorem ech_take : ∀ {ls : List Line} {k : Nat}, Ech p R ls → Ech p R (ls.take k)
  | [], k, _ => by simp [Ech]
  | l :: ls, 0, _ => by simp [Ech]
  | l :: ls, k + 1, ⟨h1, h2, h3⟩ => ⟨h1, fun m hm => h2 m (List.mem_of_mem_take hm), ech_take h3⟩
theorem takeN_taken (hp : 0 < p) {ls : List Line} {col : List Int} {k : Nat} (h : Ech p R ls) (hc : InR p R col) : Taken p R (ls.take k) col (fun _ => 0) (takeN p ls col k) :=
  taken hp (ech_take h) hc (fun _ => ⟨by omega, hp⟩) fun _ _ => rfl
/-- Nothing is taken off by this line. -/
theorem stepT_none {s : List Int × (Nat → Int)} {l : Line} (h : (s.1.getD l.lead 0 * l.inv) % p = 0) : stepT p s l = s := if_pos h
theorem stepT_some {s : List Int × (Nat → Int)} {l : Line} {t : Int} (h : (s.1.getD l.lead 0 * l.inv) % p = t) (h0 : t ≠ 0) : stepT p s l = (subU p s.1 l t s.1.length, upd s.2 l.place t) := by
  subst h
  exact if_neg h0

end Go.Proofs.YtmnhpccdhefddaaDoor.Wp
