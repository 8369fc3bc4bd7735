/- What the two laws of the heaviest hold of what is taken, and of its weights, plain. -/
import Derived.Test.YtolnkgghejhaeaaGreatDoorGPure
namespace Go.Proofs.YtolnkgghejhaeaaGreatDoor.Wp
open Go Go.RowKit

/-! ### What the laws hold -/
def sumUp (w : List Int) (k : Nat) : Int := sumP (fun i => w.getD i 0) allP k
theorem sumUp_succ (w : List Int) (k : Nat) : sumUp w (k + 1) = sumUp w k + w.getD k 0 := rfl
theorem at_bound {w : List Int} {c : Int} (hc : 0 ≤ c) (hw : ∀ x ∈ w, -c ≤ x ∧ x ≤ c) (i : Nat) : -c ≤ w.getD i 0 ∧ w.getD i 0 ≤ c := by
  by_cases h : i < w.length
  · exact hw _ (getD_of 0 h)
  · rw [List.getD_eq_getElem?_getD, List.getElem?_eq_none (by omega)]
    simp
    omega
theorem sumUp_bound {w : List Int} (hw : ∀ x ∈ w, -1099511627776 ≤ x ∧ x ≤ 1099511627776) : ∀ k : Nat, -(1099511627776 * (k : Int)) ≤ sumUp w k ∧ sumUp w k ≤ 1099511627776 * (k : Int)
  | 0 => by simp [sumUp, sumP]
  | k + 1 => by
    have ih := sumUp_bound hw k
    have h := at_bound (c := 1099511627776) (by omega) hw k
    rw [sumUp_succ]
    omega
theorem sumUp_all {n : Nat} {w : List Int} (hn : n ≤ 64) : sumW w (allL n) = sumUp w n := by
  have h0 : (0 : Int) ≤ (n : Int) := by omega
  have h1 : (n : Int) ≤ 64 := by omega
  have hA := inN_all h0 h1
  rw [Int.toNat_natCast] at hA
  rw [sumW_sumP w hA]
  exact sumP_ext (fun i hi => memP_all h0 h1 (by omega)) fun _ _ => rfl
theorem weight_set {n : Nat} {w s : List Int} (hn : n ≤ 64) (hl : w.length = n) (hw : ∀ x ∈ w, -1099511627776 ≤ x ∧ x ≤ 1099511627776) (hs : InN n s) : weightT w s = sumW w s ∧ -70368744177664 ≤ sumW w s ∧ sumW w s ≤ 70368744177664 := by
  have h64 : s.length ≤ 64 := by have := inN_len hs; omega
  obtain ⟨h1, h2, h3⟩ := addW_any w (c := 1099511627776) (by omega) hw s 0 (by omega) (by omega)
  refine ⟨?_, by omega, by omega⟩
  unfold weightT
  rw [if_pos ⟨mayB_of hs.1, fun x hx => by have := hs.2 x hx; omega⟩]
  unfold addW
  rw [h1]
  omega
theorem mayW_dual {m : Mat} {w : List Int} (h : mayW m w = true) (h3 : dp 4 m ≤ 3) : mayW (dualOf m) (negL w) = true := by
  obtain ⟨hc, hl, hw⟩ := mayW_iff.1 h
  refine mayW_iff.2 ⟨dual_less hc h3, by rw [negL_len, hl]; rfl, fun x hx => ?_⟩
  obtain ⟨y, hy, rfl⟩ := List.mem_map.1 hx
  have := hw y hy
  omega
theorem dual_fact {m : Mat} {w : List Int} (h : mayW m w = true) (h3 : dp 4 m ≤ 3) : ∃ (a b : List Int) (x y : Int), takeT m w (lessB m.n) = a ∧ takeT (dualOf m) (negL w) (lessB m.n) = b ∧ InN (nN m) a ∧ InN (nN m) b ∧ (a.length : Int) + (b.length : Int) = m.n ∧
    weightT w a = x ∧ weightT (negL w) b = y ∧ y = x - sumUp w w.length ∧ -70368744177664 ≤ x ∧ x ≤ 70368744177664 := by
  obtain ⟨hc, hl, hw⟩ := mayW_iff.1 h
  obtain ⟨hcd, hld, hwd⟩ := mayW_iff.1 (mayW_dual h h3)
  have hn := nN_cast hc
  obtain ⟨d1, d2⟩ := take_dual hc h3 hl
  have e1 : takeT m w (lessB m.n) = takeK m (fun _ _ => true) [] (greatL w) := by
    unfold takeT
    rw [if_pos h, take_free]
    rw [(great_places w).length]
    simp
    omega
  have e2 : takeT (dualOf m) (negL w) (lessB m.n) = takeK (dualOf m) (fun _ _ => true) [] (greatL (negL w)) := by
    unfold takeT
    rw [if_pos (mayW_dual h h3), take_free]
    rw [(great_places (negL w)).length, negL_len]
    simp
    omega
  have ha : InN (nN m) (takeK m (fun _ _ => true) [] (greatL w)) := takeK_in hn.2 (inN_nil _) (great_ele hl)
  have hb : InN (nN m) (takeK (dualOf m) (fun _ _ => true) [] (greatL (negL w))) := takeK_in (m := dualOf m) hn.2 (inN_nil _) (great_ele hld)
  obtain ⟨f1, f2, f3⟩ := weight_set hn.2 hl hw ha
  obtain ⟨g1, _, _⟩ := weight_set hn.2 (show (negL w).length = nN m by rw [negL_len]; exact hl) hwd hb
  refine ⟨_, _, _, _, e1, e2, ha, hb, by omega, f1, g1, ?_, f2, f3⟩
  rw [sumUp_all hn.2] at d2
  rw [sumW_neg hb, hl]
  omega
theorem take_in {m : Mat} {w : List Int} (h : mayW m w = true) (on : Int → Nat → Bool) : InN (nN m) (takeT m w on) := by
  obtain ⟨hc, hl, _⟩ := mayW_iff.1 h
  unfold takeT
  rw [if_pos h]
  exact takeK_in (nN_cast hc).2 (inN_nil _) (great_ele hl)
theorem steps_fact {m : Mat} {w s : List Int} {k : Int} (h : mayW m w = true) (hw : ∀ x ∈ w, -1073741824 ≤ x ∧ x ≤ 1073741824) (hk : 0 ≤ k ∧ k ≤ 20) (hs : InN (nN m) s) :
    ∃ (a b : List Int) (x y z t : Int), takeT m w (lessB k) = a ∧ takeT m w (lessB (k + 1)) = b ∧ takeT m (moreL w (k * 1000)) (lessB k) = a ∧ InN (nN m) a ∧ InN (nN m) b ∧ subB a b = true ∧ b.length ≤ a.length + 1 ∧
    weightT w (unionL a s) = x ∧ weightT w (meetL a s) = y ∧ weightT w a = z ∧ weightT w s = t ∧ x + y = z + t ∧ (-70368744177664 ≤ x ∧ x ≤ 70368744177664) ∧ (-70368744177664 ≤ y ∧ y ≤ 70368744177664) ∧ (-70368744177664 ≤ z ∧ z ≤ 70368744177664) ∧ (-70368744177664 ≤ t ∧ t ≤ 70368744177664) := by
  obtain ⟨hc, hl, hw1⟩ := mayW_iff.1 h
  have hn := nN_cast hc
  have ha := take_in h (lessB k)
  have hb := take_in h (lessB (k + 1))
  obtain ⟨m1, m2⟩ := take_more (m := m) hn.2 k (inN_nil _) (great_ele hl)
  have e1 : takeT m w (lessB k) = takeK m (lessB k) [] (greatL w) := if_pos h
  have e2 : takeT m w (lessB (k + 1)) = takeK m (lessB (k + 1)) [] (greatL w) := if_pos h
  have hm : mayW m (moreL w (k * 1000)) = true := mayW_iff.2 ⟨hc, by rw [moreL_len]; exact hl, fun x hx => by
    obtain ⟨y, hy, rfl⟩ := List.mem_map.1 hx
    have := hw y hy
    omega⟩
  have e3 : takeT m (moreL w (k * 1000)) (lessB k) = takeT m w (lessB k) := by
    unfold takeT
    rw [if_pos hm, if_pos h, great_more]
  rw [← e1, ← e2] at m1 m2
  obtain ⟨f1, f2⟩ := weight_set hn.2 hl hw1 (inN_union ha hs)
  obtain ⟨g1, g2⟩ := weight_set hn.2 hl hw1 (inN_meet ha hs)
  obtain ⟨h1, h2⟩ := weight_set hn.2 hl hw1 ha
  obtain ⟨i1, i2⟩ := weight_set hn.2 hl hw1 hs
  exact ⟨_, _, _, _, _, _, rfl, rfl, e3, ha, hb, (sub_iff ha.1 hb.1).2 m1, m2, f1, g1, h1, i1, sumW_or w ha hs, f2, g2, h2, i2⟩

end Go.Proofs.YtolnkgghejhaeaaGreatDoor.Wp
