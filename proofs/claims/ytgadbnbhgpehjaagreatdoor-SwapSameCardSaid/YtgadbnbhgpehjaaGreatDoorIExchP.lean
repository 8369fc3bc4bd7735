/- Of two independent sets the larger one has an element that may be added to the other one: plain. -/
import Derived.Test.YtgadbnbhgpehjaaGreatDoorZF
namespace Go.Proofs.YtgadbnbhgpehjaaGreatDoor.Wp
open Go Go.RowKit
theorem Rk.closed {n : Nat} {f : (Nat → Bool) → Nat} (h : Rk n f) (P S : Nat → Bool) (hs : ∀ x, x < n → S x = true → f (insP P x) = f P) : ∀ k, k ≤ n → f (addK P S k) = f P
 | 0, _ => by rw [E6_]
 | k + 1, hk => by
  have ih := h.closed P S hs k (by omega)
  cases e : S k
  ·rw [M8_ e]; exact ih
  ·have h1 := h.dim_add P S (x := k) (by omega) k (by omega)
   have h2 := hs k (by omega) e
   have h3 := h.up' (addK P S k) (x := k) (by omega)
   rw [H5_ e]
   omega
theorem L6_ {m : Mat} {s : List Int} (h : mayI m s = true) : indT m s = true ↔ rkP 4 m (memP s) = s.length := by
 unfold indT
 rw [show rankT m s = _ from if_pos h, decide_eq_true_iff]
 omega
theorem Xf2 {m : Mat} {a s : List Int} (ha : mayI m a = true) (hs : mayI m s = true) (hsub : ∀ x ∈ s, x ∈ a) (h : indT m a = true) : indT m s = true := by
 obtain ⟨hc, hA⟩ := mayI_iff.1 ha
 obtain ⟨_, hS⟩ := mayI_iff.1 hs
 have hk := rk_ok 4 m hc (chk_ok.1 hc).1
 rw [L6_ ha] at h
 rw [L6_ hs, V1_ hS]
 rw [V1_ hA] at h
 have h1 := hk.le_cnt (memP s)
 have h2 := hk.submod (memP s) (fun i => memP a i && !memP s i)
 have h3 := hk.le_cnt (fun i => memP a i && !memP s i)
 have e : ∀ i, i < nN m → orP (memP s) (fun i => memP a i && !memP s i) i = memP a i := fun i _ => by
  unfold orP
  cases e1 : memP s i
  ·simp [e1]
  ·have : memP a i = true := memP_iff.2 (hsub _ (memP_iff.1 e1))
   simp [this]
 rw [hk.ext e] at h2
 have h4 : cnt (memP a) (nN m) = cnt (memP s) (nN m) + cnt (fun i => memP a i && !memP s i) (nN m) := by
  have := K.cntP_split (memP a) (memP s) (nN m)
  have e5 : K.cntP (nN m) (fun i => memP a i && memP s i) = cnt (memP s) (nN m) := (K0_ fun i _ => by
   cases e1 : memP s i
   ·simp
   ·have : memP a i = true := memP_iff.2 (hsub _ (memP_iff.1 e1))
    simp [this])
  have e6 : K.cntP (nN m) (memP a) = cnt (memP a) (nN m) := rfl
  have e7 : K.cntP (nN m) (fun i => memP a i && !memP s i) = cnt (fun i => memP a i && !memP s i) (nN m) := rfl
  omega
 omega
theorem Zg5 {x : Int} (h : 0 ≤ x) (P : Nat → Bool) : orP P (memP [x]) = insP P x.toNat := by
 funext i
 unfold orP insP
 have : memP [x] i = (i == x.toNat) := by rw [Bool.eq_iff_iff, memP_iff, beq_iff_eq, List.mem_singleton]; omega
 rw [this, Bool.or_comm]
end Go.Proofs.YtgadbnbhgpehjaaGreatDoor.Wp
