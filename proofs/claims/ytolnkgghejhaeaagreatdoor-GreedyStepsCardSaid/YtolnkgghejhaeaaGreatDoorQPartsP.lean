/- What is restricted or contracted, and which elements are told of it: plain. -/
import Derived.Test.YtolnkgghejhaeaaGreatDoorQPlain
namespace Go.Proofs.YtolnkgghejhaeaaGreatDoor.Wp
open Go Go.RowKit

/-- Those of the first k that are not in l. -/
def restK (l : List Int) (k : Nat) : List Int := (upTo k).filter fun x => l.contains x == false
theorem restK_yes {l : List Int} {k : Nat} (h : l.contains (k : Int) = true) : restK l (k + 1) = restK l k := by
  unfold restK
  rw [upTo_succ, List.filter_append]
  simp only [List.filter_cons, h, List.filter_nil]
  simp
theorem restK_no {l : List Int} {k : Nat} (h : l.contains (k : Int) = false) : restK l (k + 1) = restK l k ++ [(k : Int)] := by
  unfold restK
  rw [upTo_succ, List.filter_append]
  simp only [List.filter_cons, h, List.filter_nil]
  simp
theorem restK_len (l : List Int) (k : Nat) : (restK l k).length ≤ k := by
  unfold restK
  have := List.length_filter_le (fun x => l.contains x == false) (upTo k)
  rw [upTo_length] at this
  exact this
theorem allL_up {n : Nat} (h : n ≤ 100000) : allL n = upTo n := by
  by_cases h1 : 1 ≤ n
  · exact all_yes h1 h
  · have : n = 0 := by omega
    subst this
    rfl
theorem rest_is {l : List Int} {n : Nat} (hl : IsSet l) (h : n ≤ 100000) : restK l n = minusL (allL n) l := by
  unfold minusL partL
  rw [mayB_of (all_set _), mayB_of hl, allL_up h]
  rfl
theorem up_map (l : List Int) : (upTo l.length).map (fun x => l.getD x.toNat 0) = l := by
  unfold upTo
  rw [List.map_map]
  apply List.ext_getElem
  · simp
  · intro i h1 h2
    simp [List.getD, h2]

/-- A set of the first n, as the document asks it. -/
theorem okA_set {n : Int} {l : List Int} (h : okA n l = true) : IsSet l ∧ ∀ x ∈ l, 0 ≤ x ∧ x < n := by
  unfold okA at h
  rw [Bool.and_eq_true] at h
  have hs := mayB_iff.1 h.1
  refine ⟨hs, fun x hx => ⟨(hs.2 x hx).1, ?_⟩⟩
  obtain ⟨i, hi, rfl⟩ := List.mem_iff_getElem.1 hx
  rw [Bool.or_eq_true, decide_eq_true_iff, decide_eq_true_iff] at h
  rcases h.2 with h2 | h2
  · omega
  · have hl : l.length - 1 < l.length := by omega
    rw [show l.getD (l.length - 1) 0 = l[l.length - 1] by simp [List.getD, hl]] at h2
    by_cases e : i = l.length - 1
    · subst e
      exact h2
    · have := List.pairwise_iff_getElem.1 hs.1 i (l.length - 1) hi hl (by omega)
      omega
theorem sub_all {n : Int} {l : List Int} (hn : 0 ≤ n) (h64 : n ≤ 64) (hs : IsSet l) (h : ∀ x ∈ l, 0 ≤ x ∧ x < n) : subB l (allL n) = true :=
  subB_iff.2 ⟨hs, all_set n, fun x hx => (mem_all hn (by omega) x).2 (h x hx)⟩
theorem len_all {n : Int} {l : List Int} (hn : 0 ≤ n) (h64 : n ≤ 64) (hs : IsSet l) (h : ∀ x ∈ l, 0 ≤ x ∧ x < n) : n = (minusL (allL n) l).length + l.length := by
  have h1 := sub_len hs (all_set n) (subB_iff.1 (sub_all hn h64 hs h)).2.2
  have h2 := all_len_n hn h64
  omega
theorem dp_five (t n : Int) (r : List Int) (m : Mat) (ht : nest t) : dp 4 (.mk t n 0 0 [r] [m]) = 1 + dp 3 m := by
  show (if nest t then 1 + maxN [dp 3 m] else 1) = _
  rw [if_pos ht, maxN_one]

theorem parts_one {m : Mat} {l : List Int} (hc : chk m = 0) (h3 : dp 4 m ≤ 3) : chk (contOf ((minusL (allL m.n) l).length + 1) l m) = 90 := by
  obtain ⟨e1, e2⟩ := chk3.1 ⟨hc, h3⟩
  have hd : dp 4 (contOf ((minusL (allL m.n) l).length + 1) l m) ≤ 4 := by unfold contOf; rw [dp_five _ _ _ _ (by decide)]; omega
  have h0 : chk (contOf ((minusL (allL m.n) l).length + 1) l m) ≠ 0 := fun h => by
    have h1 := stay_len h (.inr rfl)
    have h2 : (stayL (contOf ((minusL (allL m.n) l).length + 1) l m)) = minusL (allL m.n) l := rfl
    rw [h2] at h1
    have h4 : ((minusL (allL m.n) l).length : Int) = (minusL (allL m.n) l).length + 1 := h1
    omega
  have h9 : chk (contOf ((minusL (allL m.n) l).length + 1) l m) ≠ 91 := fun h => by
    unfold chk at h
    rw [if_neg (by omega)] at h
    split at h <;> cases h
  rcases chk_three (contOf ((minusL (allL m.n) l).length + 1) l m) with h | h | h
  · exact absurd h h0
  · exact h
  · exact absurd h h9

section
variable {m : Mat} {l : List Int} (hc : chk m = 0) (h3 : dp 4 m ≤ 3) (hs : IsSet l) (hl : ∀ x ∈ l, 0 ≤ x ∧ x < m.n)
include hc h3 hs hl
theorem parts_rest : chk (restOf l.length l m) = 0 := by
  have hn := chk_n hc
  have hlen := len_all hn.1 hn.2 hs hl
  obtain ⟨e1, e2⟩ := chk3.1 ⟨hc, h3⟩
  refine chk_ok.2 ⟨by unfold restOf; rw [dp_five _ _ _ _ (by decide)]; omega, ok_mk (bad_of (by show (0 : Int) ≤ 5 ∧ (5 : Int) < 10; omega) ⟨by show (0 : Int) ≤ (l.length : Int); omega, by show (l.length : Int) ≤ 64; omega, by show (0 : Int) ≤ 0; decide, by show (0 : Int) ≤ 64; decide⟩ rfl ?_) fun x hx => ?_⟩
  · show (partB (restOf l.length l m) && decide ((l.length : Int) = l.length)) = true
    rw [show partB (restOf l.length l m) = subB l (allL m.n) from rfl, sub_all hn.1 hn.2 hs hl]
    simp
  · have : x = m := by simpa using (show x ∈ [m] from hx)
    subst this
    exact e2
theorem parts_cont : chk (contOf (minusL (allL m.n) l).length l m) = 0 := by
  have hn := chk_n hc
  have hlen := len_all hn.1 hn.2 hs hl
  obtain ⟨e1, e2⟩ := chk3.1 ⟨hc, h3⟩
  refine chk_ok.2 ⟨by unfold contOf; rw [dp_five _ _ _ _ (by decide)]; omega, ok_mk (bad_of (by show (0 : Int) ≤ 6 ∧ (6 : Int) < 10; omega) ⟨by show (0 : Int) ≤ ((minusL (allL m.n) l).length : Int); omega, by show ((minusL (allL m.n) l).length : Int) ≤ 64; omega, by show (0 : Int) ≤ 0; decide, by show (0 : Int) ≤ 64; decide⟩ rfl ?_) fun x hx => ?_⟩
  · show (partB (contOf (minusL (allL m.n) l).length l m) && decide (IntKind.i64.wrap (((minusL (allL m.n) l).length : Int) + l.length) = m.n)) = true
    rw [show partB (contOf (minusL (allL m.n) l).length l m) = subB l (allL m.n) from rfl, sub_all hn.1 hn.2 hs hl, wrap_le (by omega) (by omega)]
    simp
    omega
  · have : x = m := by simpa using (show x ∈ [m] from hx)
    subst this
    exact e2
theorem parts_img1 : imgB (restOf l.length l m) (upTo l.length) = true ∧ imgL (restOf l.length l m) (upTo l.length) = l := by
  have hn := chk_n hc
  have hlen := len_all hn.1 hn.2 hs hl
  have h1 : imgB (restOf l.length l m) (upTo l.length) = true := by
    unfold imgB
    rw [parts_rest hc h3 hs hl, show (restOf l.length l m).n = (l.length : Int) from rfl, allL_up (by omega), ← allL_up (by omega), subB_iff.2 ⟨all_set _, all_set _, fun _ h => h⟩]
    show (decide ((5 : Int) = 5 ∨ (5 : Int) = 6) && decide ((0 : Int) = 0) && true) = true
    decide
  refine ⟨h1, ?_⟩
  unfold imgL
  rw [h1, if_pos rfl]
  exact up_map l
theorem parts_img2 : imgB (contOf (minusL (allL m.n) l).length l m) (upTo (minusL (allL m.n) l).length) = true ∧ imgL (contOf (minusL (allL m.n) l).length l m) (upTo (minusL (allL m.n) l).length) = minusL (allL m.n) l := by
  have hn := chk_n hc
  have hlen := len_all hn.1 hn.2 hs hl
  have h1 : imgB (contOf (minusL (allL m.n) l).length l m) (upTo (minusL (allL m.n) l).length) = true := by
    unfold imgB
    rw [parts_cont hc h3 hs hl, show (contOf (minusL (allL m.n) l).length l m).n = ((minusL (allL m.n) l).length : Int) from rfl, allL_up (by omega), ← allL_up (by omega), subB_iff.2 ⟨all_set _, all_set _, fun _ h => h⟩]
    show (decide ((6 : Int) = 5 ∨ (6 : Int) = 6) && decide ((0 : Int) = 0) && true) = true
    decide
  refine ⟨h1, ?_⟩
  unfold imgL
  rw [h1, if_pos rfl]
  exact up_map (minusL (allL m.n) l)
end

end Go.Proofs.YtolnkgghejhaeaaGreatDoor.Wp
