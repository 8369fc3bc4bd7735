/- What the two laws of the heaviest hold of what is taken, and of its weights, plain. -/
import Derived.Test.YtolnkgghejhaeaaGreatDoorGPure
namespace Go.Proofs.YtolnkgghejhaeaaGreatDoor.Wp
open Go Go.RowKit

/-! ### What the laws hold -/
def sumUp (w : List Int) (k : Nat) : Int := sumP (fun i => w.getD i 0) allP k
theorem weight_set {n : Nat} {w s : List Int} (hn : n ≤ 64) (hl : w.length = n) (hw : ∀ x ∈ w, -1099511627776 ≤ x ∧ x ≤ 1099511627776) (hs : InN n s) : weightT w s = sumW w s ∧ -70368744177664 ≤ sumW w s ∧ sumW w s ≤ 70368744177664 := by
  have h64 : s.length ≤ 64 := by have := inN_len hs; omega
  obtain ⟨h1, h2, h3⟩ := addW_any w (c := 1099511627776) (by omega) hw s 0 (by omega) (by omega)
  refine ⟨?_, by omega, by omega⟩
  unfold weightT
  rw [if_pos ⟨mayB_of hs.1, fun x hx => by have := hs.2 x hx; omega⟩]
  unfold addW
  rw [h1]
  omega
theorem take_in {m : Mat} {w : List Int} (h : mayW m w = true) (on : Int → Nat → Bool) : InN (nN m) (takeT m w on) := by
  obtain ⟨hc, hl, _⟩ := mayW_iff.1 h
  unfold takeT
  rw [if_pos h]
  exact takeK_in (nN_cast hc).2 (inN_nil _) (great_ele hl)
theorem steps_fact {m : Mat} {w s : List Int} {k : Int} (h : mayW m w = true) (hw : ∀ x ∈ w, -1073741824 ≤ x ∧ x ≤ 1073741824) (hk : 0 ≤ k ∧ k ≤ 20) (hs : InN (nN m) s) :
    ∃ (a b : List Int) (x y z t : Int), takeT m w (lessB k) = a ∧ takeT m w (lessB (k + 1)) = b ∧ takeT m (moreL w (k * 1000)) (lessB k) = a ∧ InN (nN m) a ∧ InN (nN m) b ∧ subB a b = true ∧ b.length ≤ a.length + 1 ∧
    weightT w (unionL a s) = x ∧ weightT w (meetL a s) = y ∧ weightT w a = z ∧ weightT w s = t ∧ x + y = z + t ∧ (-70368744177664 ≤ x ∧ x ≤ 70368744177664) ∧ (-70368744177664 ≤ y ∧ y ≤ 70368744177664) ∧ (-70368744177664 ≤ z ∧ z ≤ 70368744177664) ∧ (-70368744177664 ≤ t ∧ t ≤ 70368744177664) := by
  obtain ⟨hc, hl, hw1⟩ := mayW_iff.1 h
  have hn := nN_cast hc
  have ha := take_in h (lessB k)
  have hb := take_in h (lessB (k + 1))
  obtain ⟨m1, m2⟩ := take_more (m := m) hn.2 k (inN_nil _) (great_ele hl)
  have e1 : takeT m w (lessB k) = takeK m (lessB k) [] (greatL w) := if_pos h
  have e2 : takeT m w (lessB (k + 1)) = takeK m (lessB (k + 1)) [] (greatL w) := if_pos h
  have hm : mayW m (moreL w (k * 1000)) = true := mayW_iff.2 ⟨hc, by rw [moreL_len]; exact hl, fun x hx => by
    obtain ⟨y, hy, rfl⟩ := List.mem_map.1 hx
    have := hw y hy
    omega⟩
  have e3 : takeT m (moreL w (k * 1000)) (lessB k) = takeT m w (lessB k) := by
    unfold takeT
    rw [if_pos hm, if_pos h, great_more]
  rw [← e1, ← e2] at m1 m2
  obtain ⟨f1, f2⟩ := weight_set hn.2 hl hw1 (inN_union ha hs)
  obtain ⟨g1, g2⟩ := weight_set hn.2 hl hw1 (inN_meet ha hs)
  obtain ⟨h1, h2⟩ := weight_set hn.2 hl hw1 ha
  obtain ⟨i1, i2⟩ := weight_set hn.2 hl hw1 hs
  exact ⟨_, _, _, _, _, _, rfl, rfl, e3, ha, hb, (sub_iff ha.1 hb.1).2 m1, m2, f1, g1, h1, i1, sumW_or w ha hs, f2, g2, h2, i2⟩

end Go.Proofs.YtolnkgghejhaeaaGreatDoor.Wp
