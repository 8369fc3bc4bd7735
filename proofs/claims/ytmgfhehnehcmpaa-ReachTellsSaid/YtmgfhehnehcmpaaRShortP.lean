/- What is told of a shortest way: no shortcut on it; behind its first point the shortest way from the next one. -/
import Derived.Test.YtmgfhehnehcmpaaRCloseP
import Derived.Test.YtmgfhehnehcmpaaRGreedy
namespace Go.Proofs.Ytmgfhehnehcmpaa
open Go.RowKit
namespace Wp

section
variable {adj : List (List Int)} {src dst l : List Int}
theorem path_greedy (hs : okL adj.length src = true) {l : List Int} (h : PathOK adj src dst l true) : ∃ n, Greedy adj dst src n l := by
  rcases h with ⟨_, h, _⟩ | ⟨_, ⟨h, _⟩ | ⟨_, j, hj, hin, hno, par, hdone, hw⟩⟩
  · cases h
  · cases h
  · exact greedy_first hdone (ok_pts hs).up hj hin hno hw
theorem near_come {come : List Int} {ah : Nat → Int} {par : Nat → Nat} (h : Done adj src come ah par) : ∀ n x, x ∈ come → Near adj dst n x → ∃ y ∈ come, y ∈ dst
  | 0, x, hx, hn => ⟨x, hx, hn⟩
  | n + 1, x, hx, hn => by
    rcases hn with hn | ⟨y, hy, hn⟩
    · exact near_come h n x hx hn
    · exact near_come h n y (h.closed hx hy) hn
theorem path_ok_ex (hd : digB adj = true) (hs : okL adj.length src = true) (ht : okL adj.length dst = true) : ∃ l b, pathC adj src dst = (l, b) ∧ PathOK adj src dst l b := by
  have hgood : (goodB adj src && okL adj.length dst) = true := by rw [good_yes hd hs, ht]; rfl
  obtain ⟨par, hdone⟩ := fin_done (digB_dig hd).1 (ok_pts hs)
  have key : ∃ l b, PathOK adj src dst l b := by
    rcases hq : (finS adj src).1.find? (fun x => decide (x ∈ dst)) with _ | p
    · rw [List.find?_eq_none] at hq
      exact ⟨[], false, .inr ⟨hgood, .inl ⟨rfl, rfl, fun x hx hc => hq x hx (decide_eq_true hc)⟩⟩⟩
    · rw [List.find?_eq_some_iff_getElem] at hq
      obtain ⟨h1, j, hj, rfl, hn⟩ := hq
      have e : ∀ i (hi : i < (finS adj src).1.length), cAt (finS adj src).1 i = (finS adj src).1[i] := fun i hi => by unfold cAt; simp [List.getD, hi]
      obtain ⟨l, hw⟩ := way_ex hdone j hj
      exact ⟨l, true, .inr ⟨hgood, .inr ⟨rfl, j, hj, by rw [e j hj]; exact of_decide_eq_true h1, fun i hi hc => (by
        have := hn i hi
        rw [e i (by omega)] at hc
        rw [decide_eq_true hc] at this
        cases this), par, hdone, hw⟩⟩⟩
  obtain ⟨l, b, h⟩ := key
  exact ⟨l, b, (path_eq h).symm, h⟩
/-- All that the law asks. -/
structure SF (adj : List (List Int)) (dst l : List Int) : Prop where
  len : l.length ≤ adj.length
  pos : 0 < l.length
  pt : ∀ i, i < l.length → 0 ≤ l.getD i 0 ∧ l.getD i 0 < (adj.length : Int)
  straight : ∀ i k, i + 2 ≤ k → k < l.length → l.getD k 0 ∉ adj.getD (l.getD i 0).toNat []
  second : 2 ≤ l.length → pathC adj [l.getD 1 0] dst = (l.drop 1, true)
theorem short_facts (hd : digB adj = true) (hs : okL adj.length src = true) (ht : okL adj.length dst = true) (h : PathOK adj src dst l true) : SF adj dst l := by
  have hf := path_pf hd hs ht h
  obtain ⟨n, hg⟩ := path_greedy hs h
  refine ⟨hf.len, hf.pos.1 rfl, hf.pt, hg.straight, fun h2 => ?_⟩
  match l, h2 with
  | x :: p :: l, _ =>
    obtain ⟨m, _, hg2⟩ := hg.tail (by simp)
    have hp1 : okL adj.length [p] = true := pts_ok (digB_dig hd).2 ⟨by simp, fun y hy => by
      rw [List.mem_singleton] at hy
      rw [hy]
      exact hf.pt 1 (by simp)⟩
    show pathC adj [p] dst = (p :: l, true)
    obtain ⟨l2, b2, e, hok⟩ := path_ok_ex hd hp1 ht
    rw [e]
    cases b2 with
    | true =>
      obtain ⟨n2, hg3⟩ := path_greedy hp1 hok
      rw [hg3.unique hg2.one]
    | false =>
      exfalso
      rcases hok with ⟨h0, _⟩ | ⟨_, ⟨_, _, hno⟩ | ⟨h, _⟩⟩
      · rw [good_yes hd hp1, ht] at h0
        cases h0
      · obtain ⟨par, hdone⟩ := fin_done (digB_dig hd).1 (ok_pts hp1)
        have hn := hg2.near 0 (by simp)
        obtain ⟨y, h1, h2⟩ := near_come hdone _ p (hdone.has (by simp)) hn
        exact hno y h1 h2
      · cases h
end
/-- What stands behind the first of a list, as a list. -/
theorem Row.behind {w : World} {B : Nat} {ad : Addr} {n c : Nat} {l : List Int} (h : Row w B (.slice (some ad) n c) l) (k c' : Nat) (hk : 1 + k ≤ l.length) (hc' : k ≤ c' ∧ c' ≤ maxLen) : Row w B (.slice (some (ad.add 1)) k c') ((l.drop 1).take k) := by
  obtain ⟨A, c0, e, _, hcell⟩ := h
  injection e with e1 e2 e3
  subst e1
  have hlen : ((l.drop 1).take k).length = k := by rw [List.length_take, List.length_drop]; omega
  refine ⟨some (ad.add 1), c', by rw [hlen], ⟨by rw [hlen]; exact hc'.1, hc'.2, fun e => by cases e⟩, fun i hi => ?_⟩
  rw [hlen] at hi
  obtain ⟨ad', e', hb, hcc⟩ := hcell (i + 1) (by omega)
  injection e' with e'
  subst e'
  refine ⟨ad.add 1, rfl, by rw [add_block]; exact hb, ?_⟩
  rw [Go.Deep.add_add, Nat.add_comm 1 i, hcc]
  congr 2
  rw [List.getD_eq_getElem?_getD, List.getD_eq_getElem?_getD, List.getElem?_take, if_pos hi, List.getElem?_drop, Nat.add_comm 1 i]

end Wp
end Go.Proofs.Ytmgfhehnehcmpaa
