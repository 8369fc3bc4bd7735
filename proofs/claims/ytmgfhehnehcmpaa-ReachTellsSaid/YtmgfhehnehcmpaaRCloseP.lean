/- What is told of a way: where it begins and ends, what lies on it. -/
import Derived.Test.YtmgfhehnehcmpaaRJoinP
import Derived.Test.YtmgfhehnehcmpaaRFix
import Derived.Test.YtmgfhehnehcmpaaRWayP
namespace Go.Proofs.Ytmgfhehnehcmpaa
open Go.RowKit
namespace Wp

/-- All that the law asks of a way. -/
structure PF (adj : List (List Int)) (src dst l : List Int) (b : Bool) : Prop where
  len : l.length ≤ adj.length
  pos : b = true ↔ 0 < l.length
  meet : b = true ↔ 0 < (meetL (fromL adj src) dst).length
  pt : ∀ i, i < l.length → 0 ≤ l.getD i 0 ∧ l.getD i 0 < (adj.length : Int)
  arc : ∀ i, i + 1 < l.length → l.getD (i + 1) 0 ∈ adj.getD (l.getD i 0).toNat []
  nsrc : ∀ i, 0 < i → i < l.length → l.getD i 0 ∉ src
  ndst : ∀ i, i + 1 < l.length → l.getD i 0 ∉ dst
  head : b = true → l.getD 0 0 ∈ src
  last : b = true → l.getD (l.length - 1) 0 ∈ dst
theorem path_pf {adj : List (List Int)} {src dst l : List Int} {b : Bool} (hd : digB adj = true) (hs : okL adj.length src = true) (ht : okL adj.length dst = true) (h : PathOK adj src dst l b) : PF adj src dst l b := by
  have hgood : (goodB adj src && okL adj.length dst) = true := by rw [good_yes hd hs, ht]; rfl
  have hmeet : ∀ x, x ∈ meetL (fromL adj src) dst ↔ x ∈ fromL adj src ∧ x ∈ dst := fun x => mem_meet from_set (ok_set ht) x
  rcases h with ⟨h0, _⟩ | ⟨_, ⟨rfl, rfl, hno⟩ | ⟨rfl, j, hj, hin, hno, par, hdone, hw⟩⟩
  · rw [hgood] at h0; cases h0
  · have hm : meetL (fromL adj src) dst = [] := List.eq_nil_iff_forall_not_mem.2 fun x hx => by
      obtain ⟨h1, h2⟩ := (hmeet x).1 hx
      exact hno x ((mem_from hd hs x).1 h1) h2
    exact ⟨by simp, by simp, by rw [hm]; simp, fun i hi => by simp at hi, fun i hi => by simp at hi, fun i _ hi => by simp at hi, fun i hi => by simp at hi, fun h => (by cases h), fun h => (by cases h)⟩
  · have hf := way_facts hdone hw hj
    have hlen := way_len hw (fun j h1 h2 => (hdone.old j h1 h2).1) hj
    have hcl := hdone.len
    have hmem : 0 < (meetL (fromL adj src) dst).length := List.length_pos_of_mem ((hmeet _).2 ⟨(mem_from hd hs _).2 (cAt_mem hj), hin⟩)
    have hval : ∀ i, i < l.length → ∃ m, m ≤ j ∧ m < (finS adj src).1.length ∧ l.getD i 0 = cAt (finS adj src).1 m ∧ (i + 1 < l.length → m < j) ∧ (0 < i → src.length ≤ m) := fun i hi => by
      obtain ⟨m, h1, h2, h3, h4⟩ := hf.each i hi
      exact ⟨m, h1, by omega, h2, h3, h4⟩
    refine ⟨by omega, ⟨fun _ => hf.pos, fun _ => rfl⟩, ⟨fun _ => hmem, fun _ => rfl⟩, fun i hi => ?_, hf.arc, fun i h0 hi => ?_, fun i hi => ?_, fun _ => hf.head, fun _ => by rw [hf.last]; exact hin⟩
    · obtain ⟨m, _, h2, h3, _⟩ := hval i hi
      rw [h3]
      exact hdone.pt _ (cAt_mem h2)
    · obtain ⟨m, _, h2, h3, _, h5⟩ := hval i hi
      rw [h3]
      exact cAt_not hdone h2 (h5 h0)
    · obtain ⟨m, _, h2, h3, h4, _⟩ := hval i (by omega)
      rw [h3]
      exact hno m (h4 hi)

theorem path_ex {adj : List (List Int)} {src dst : List Int} (hd : digB adj = true) (hs : okL adj.length src = true) (ht : okL adj.length dst = true) : ∃ l b, pathC adj src dst = (l, b) ∧ PF adj src dst l b := by
  have hgood : (goodB adj src && okL adj.length dst) = true := by rw [good_yes hd hs, ht]; rfl
  obtain ⟨par, hdone⟩ := fin_done (digB_dig hd).1 (ok_pts hs)
  have key : ∃ l b, PathOK adj src dst l b := by
    rcases hq : (finS adj src).1.find? (fun x => decide (x ∈ dst)) with _ | p
    · rw [List.find?_eq_none] at hq
      exact ⟨[], false, .inr ⟨hgood, .inl ⟨rfl, rfl, fun x hx hc => hq x hx (decide_eq_true hc)⟩⟩⟩
    · rw [List.find?_eq_some_iff_getElem] at hq
      obtain ⟨h1, j, hj, rfl, hn⟩ := hq
      have e : ∀ i (hi : i < (finS adj src).1.length), cAt (finS adj src).1 i = (finS adj src).1[i] := fun i hi => by unfold cAt; simp [List.getD, hi]
      obtain ⟨l, hw⟩ := way_ex hdone j hj
      exact ⟨l, true, .inr ⟨hgood, .inr ⟨rfl, j, hj, by rw [e j hj]; exact of_decide_eq_true h1, fun i hi hc => (by
        have := hn i hi
        rw [e i (by omega)] at hc
        rw [decide_eq_true hc] at this
        cases this), par, hdone, hw⟩⟩⟩
  obtain ⟨l, b, h⟩ := key
  exact ⟨l, b, (path_eq h).symm, path_pf hd hs ht h⟩

end Wp
end Go.Proofs.Ytmgfhehnehcmpaa
