/- A family of rows that the call itself makes: one more; two change places; a number stored; the row of rows itself grown. -/
import Derived.Test.YtmnhpccdhefddaaDoorLRows
import Derived.Test.YtmnhpccdhefddaaDoorLRankP
namespace Go.Proofs.YtmnhpccdhefddaaDoor
open Go.RowKit
namespace Wp

/-- One row more, in a block of its own. -/
theorem Fam.push {w : World} {B : Nat} {vs : List Value} {pp : List (List Int)} (h : Fam w B vs pp) {u : Value} {q : List Int} (ho : w.ownsRow B 3 1 u q.length (ints q)) (hd : ∀ v ∈ vs, v.ownBlock = none ∨ v.ownBlock ≠ u.ownBlock) : Fam w B (vs ++ [u]) (pp ++ [q]) := by
  have hlast : ∀ (i : Nat) (v : Value), ¬ i < vs.length → (vs ++ [u])[i]? = some v → i = vs.length ∧ v = u := by
    intro i v hi hv
    have hi2 : i = vs.length := by
      have := (List.getElem?_eq_some_iff.1 hv).1
      simp at this
      omega
    subst hi2
    rw [List.getElem?_append_right (Nat.le_refl _)] at hv
    simp at hv
    exact ⟨rfl, hv.symm⟩
  refine ⟨by simp [h.1], fun i v p hv hp => ?_, fun i j v z hv hz hij => ?_⟩
  · by_cases hi : i < vs.length
    · rw [List.getElem?_append_left hi] at hv
      rw [List.getElem?_append_left (by rw [← h.1]; exact hi)] at hp
      exact h.2.1 i v p hv hp
    · obtain ⟨rfl, rfl⟩ := hlast i v hi hv
      rw [h.1, List.getElem?_append_right (Nat.le_refl _)] at hp
      simp at hp
      subst hp
      exact ho
  · by_cases hi : i < vs.length
    · rw [List.getElem?_append_left hi] at hv
      by_cases hj : j < vs.length
      · rw [List.getElem?_append_left hj] at hz
        exact h.2.2 i j v z hv hz hij
      · obtain ⟨rfl, rfl⟩ := hlast j z hj hz
        exact hd v (List.mem_of_getElem? hv)
    · obtain ⟨rfl, rfl⟩ := hlast i v hi hv
      by_cases hj : j < vs.length
      · rw [List.getElem?_append_left hj] at hz
        rcases hd z (List.mem_of_getElem? hz) with h0 | h0
        · rcases hb : v.ownBlock with _ | k
          · exact .inl rfl
          · right
            rw [h0]
            simp
        · exact .inr fun e => h0 e.symm
      · have := hlast j z hj hz
        omega
theorem Fam.lt {w : World} {B : Nat} {vs : List Value} {pp : List (List Int)} (h : Fam w B vs pp) {v : Value} (hv : v ∈ vs) {k : Nat} (hk : v.ownBlock = some k) : k < w.heap.size := by
  obtain ⟨i, hi, rfl⟩ := List.mem_iff_getElem.1 hv
  have hip : i < pp.length := by rw [← h.1]; exact hi
  exact ((h.2.1 i _ _ (List.getElem?_eq_getElem hi) (List.getElem?_eq_getElem hip)).lt k hk).2
theorem Fam.outer {w w' : World} {B : Nat} {vs : List Value} {pp : List (List Int)} (h : Fam w B vs pp) {vo : Value} {b n : Nat} {xs : List Value} (ho : w.ownsRow b 26 1 vo n xs) (hg : w.grownBy w' vo.ownBlock) : Fam w' B vs pp := by
  refine h.kept hg ?_
  intro v hv
  obtain ⟨i, hi, rfl⟩ := List.mem_iff_getElem.1 hv
  have hip : i < pp.length := by rw [← h.1]; exact hi
  exact own_ne (h.2.1 i _ _ (List.getElem?_eq_getElem hi) (List.getElem?_eq_getElem hip)) ho (by decide)

/-- Two change places. -/
def swapV (vs : List Value) (n a : Nat) : List Value := (vs.set a (vs.getD n undef)).set n (vs.getD a undef)
theorem swapV_length {vs : List Value} {n a : Nat} : (swapV vs n a).length = vs.length := by simp [swapV]
def sigma (n a i : Nat) : Nat := if i = n then a else if i = a then n else i
theorem sigma_ne {n a i j : Nat} (h : i ≠ j) : sigma n a i ≠ sigma n a j := by
  unfold sigma
  repeat' split
  all_goals omega
theorem swapV_at {vs : List Value} {n a i : Nat} (hn : n < vs.length) (ha : a < vs.length) : (swapV vs n a)[i]? = vs[sigma n a i]? := by
  unfold swapV sigma
  by_cases h1 : i = n
  · subst h1
    rw [if_pos rfl, List.getElem?_set_self (by simpa using hn)]
    simp [List.getD, ha]
  · rw [if_neg h1, List.getElem?_set_ne (fun e => h1 e.symm)]
    by_cases h2 : i = a
    · subst h2
      rw [if_pos rfl, List.getElem?_set_self ha]
      simp [List.getD, hn]
    · rw [if_neg h2, List.getElem?_set_ne (fun e => h2 e.symm)]
theorem swapM_at {m : List (List Int)} {n a i : Nat} (hn : n < m.length) (ha : a < m.length) : (swapM m n a)[i]? = m[sigma n a i]? := by
  unfold swapM sigma
  by_cases h1 : i = n
  · subst h1
    rw [if_pos rfl, List.getElem?_set_self (by simpa using hn)]
    simp [List.getD, ha]
  · rw [if_neg h1, List.getElem?_set_ne (fun e => h1 e.symm)]
    by_cases h2 : i = a
    · subst h2
      rw [if_pos rfl, List.getElem?_set_self ha]
      simp [List.getD, hn]
    · rw [if_neg h2, List.getElem?_set_ne (fun e => h2 e.symm)]
theorem Fam.swap {w : World} {B : Nat} {vs : List Value} {pp : List (List Int)} (h : Fam w B vs pp) {n a : Nat} (hn : n < vs.length) (ha : a < vs.length) : Fam w B (swapV vs n a) (swapM pp n a) := by
  have hn' : n < pp.length := by rw [← h.1]; exact hn
  have ha' : a < pp.length := by rw [← h.1]; exact ha
  refine ⟨by rw [swapV_length, swapM_length, h.1], fun i v p hv hp => ?_, fun i j v u hv hu hij => ?_⟩
  · rw [swapV_at hn ha] at hv
    rw [swapM_at hn' ha'] at hp
    exact h.2.1 _ v p hv hp
  · rw [swapV_at hn ha] at hv hu
    exact h.2.2 _ _ v u hv hu (sigma_ne hij)
/-- A number stored in one row. -/
theorem Fam.stored {w : World} {B : Nat} {vs : List Value} {pp : List (List Int)} (h : Fam w B vs pp) {at_ g c j : Nat} {q : List Int} (hu : vs[at_]? = some (.slice (some ⟨g, 0, none⟩) q.length c)) (hq : pp[at_]? = some q) (x : Int) :
    Fam (w.setCell ⟨g, j, none⟩ (.int .i64 x)) B vs (pp.set at_ (q.set j x)) := by
  have ho := h.2.1 at_ _ _ hu hq
  have hs := ho.stored j (.int .i64 x)
  have := h.grow hu hs.2 (u' := .slice (some ⟨g, 0, none⟩) q.length c) (q := q.set j x) (by
    rw [List.length_set, show ints (q.set j x) = (ints q).set j (.int .i64 x) by unfold ints; rw [List.map_set]]
    exact hs.1) (.inl rfl)
  have hat : at_ < vs.length := (List.getElem?_eq_some_iff.1 hu).1
  have e : vs.set at_ (.slice (some ⟨g, 0, none⟩) q.length c) = vs := by
    apply List.ext_getElem?
    intro i
    by_cases hi : i = at_
    · subst hi
      rw [List.getElem?_set_self hat, hu]
    · rw [List.getElem?_set_ne (fun e => hi e.symm)]
  rwa [e] at this

end Wp
end Go.Proofs.YtmnhpccdhefddaaDoor
