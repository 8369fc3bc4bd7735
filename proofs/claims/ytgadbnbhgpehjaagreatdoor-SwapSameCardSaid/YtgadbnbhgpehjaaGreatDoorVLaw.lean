/- What the six laws of exchange hold, plain. -/
import Derived.Test.YtgadbnbhgpehjaaGreatDoorZN
import Derived.Test.YtgadbnbhgpehjaaGreatDoorVReach
namespace Go.Proofs.YtgadbnbhgpehjaaGreatDoor.Wp
open Go Go.RowKit
theorem W8_ {k : Nat} (h : k ≤ 64) : IsSet (upTo k) := by
 by_cases h0 : k = 0
 ·subst h0; exact V4_
 ·rw [← Zp4 (by omega) (by omega)]
  exact F6_ _
section
variable {a b m : Mat} {s : List Int}
theorem S4_ (hn : nN m ≤ 64) : InN (nN m) (addG m s) := ⟨(W8_ hn).filter _, fun _ hx => mem_upTo.1 (List.mem_filter.1 hx).1⟩
theorem Common.n64 (h : Common a b s) : nN a ≤ 64 := (Z8_ (mayI_iff.1 (D4_ h.ia)).1).2
theorem Common.set (h : Common a b s) : InN (nN a) s := (mayI_iff.1 (D4_ h.ia)).2
theorem Yw1 (hn : nN b = nN a) {x y : Nat} (hx : x < nN a) (hy : y < nN a) : (y : Int) ∈ (adjG a b s).getD x [] ↔ (x : Int) ∈ (adjG b a s).getD y [] := by
 rw [Xk4 hx, Xk4 (by rw [hn]; exact hy)]
 unfold arcsG
 rw [List.mem_filter, List.mem_filter, mem_upTo, mem_upTo, Bool.or_eq_true, Bool.or_eq_true, hn]
 exact ⟨fun h => ⟨⟨by omega, by omega⟩, h.2.symm⟩, fun h => ⟨⟨by omega, by omega⟩, h.2.symm⟩⟩
theorem Xf5 (hi : indT m s = true) : 0 < (addG m s).length ↔ (s.length : Int) < rankT m (allL m.n) := by
 obtain ⟨hc, hS⟩ := mayI_iff.1 (D4_ hi)
 have hn := chk_n hc
 have hr := rk_of hc
 have hA := Zx6 hn.1 hn.2
 have si := Xt3 hi
 have eA : rkP 4 m (memP (allL m.n)) = rkP 4 m allP := hr.ext fun i hi => Zf4 hn.1 hn.2 hi
 rw [Xf1 (mayI_iff.2 ⟨hc, hA⟩), eA, V1_ hS]
 constructor
 ·intro h
  obtain ⟨x, hx⟩ := List.exists_mem_of_length_pos h
  have hb := (S4_ (Z8_ hc).2).2 x hx
  have hxn : ((x.toNat : Nat) : Int) = x := by omega
  rw [← hxn] at hx
  obtain ⟨h1, h2, h3⟩ := (Yu4 hi).1 hx
  have h4 := hr.mono (P := insP (memP s) x.toNat) (Q := allP) fun _ _ _ => rfl
  omega
 ·intro h
  refine Classical.byContradiction fun h0 => ?_
  have hnil : addG m s = [] := List.eq_nil_of_length_eq_zero (by omega)
  have hcl := hr.closed (memP s) allP (fun x hx _ => by
   cases hs : memP s x
   ·have u1 := hr.up' (memP s) hx
    have u2 := hr.one' (memP s) hx
    refine Classical.byContradiction fun hne => ?_
    have : (x : Int) ∈ addG m s := (Yu4 hi).2 ⟨hx, hs, by omega⟩
    rw [hnil] at this
    cases this
   ·rw [I9_ hs]) (nN m) (Nat.le_refl _)
  rw [E9_ hr, hr.ext (P := orP (memP s) allP) (Q := allP) fun i _ => by simp [orP, allP]] at hcl
  omega
end
end Go.Proofs.YtgadbnbhgpehjaaGreatDoor.Wp
