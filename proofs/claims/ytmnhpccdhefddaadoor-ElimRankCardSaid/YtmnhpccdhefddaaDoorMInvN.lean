/- Inverses modulo a prime, plain. -/
import Derived.Test.YtmnhpccdhefddaaDoorMInv
namespace Go.Proofs.YtmnhpccdhefddaaDoor
open Go.RowKit
namespace Wp

theorem inv_nat {P x : Nat} (hp : Pr P) (hx : ¬ P ∣ x) : x ^ (P - 2) % P * x % P = 1 := by
  have h2 := hp.1
  rw [cm_mul (cm_self (x ^ (P - 2)) P) rfl, ← Nat.pow_succ, show (P - 2).succ = P - 1 by omega]
  exact fermat hp hx
theorem not_dvd {P x : Nat} (h0 : x ≠ 0) (hx : x < P) : ¬ P ∣ x := fun hd => by
  have := Nat.le_of_dvd (by omega) hd
  omega
theorem powI_inv {a : Int} {P x : Nat} (h2 : 2 ≤ P) (hM : P ≤ 2147483647) (ha : a % (P : Int) = x) : powI a ((P : Int) - 2) P = ((x ^ (P - 2) % P : Nat) : Int) := by
  unfold powI
  rw [if_pos ⟨⟨by omega, by omega⟩, by omega⟩, ha, Int.toNat_natCast, Int.toNat_natCast, show ((P : Int) - 2).toNat = P - 2 by omega]
theorem inv_at {a : Int} {P x : Nat} (hpr : prB (P : Int) = true) (h2 : 2 ≤ P) (hM : P ≤ 2147483647) (ha : a % (P : Int) = x) (h0 : x ≠ 0) :
    invB a P = true ∧ invI a P = ((x ^ (P - 2) % P : Nat) : Int) := by
  have hm : modI a P = x := (if_pos ⟨by omega, by omega⟩ : modI a P = a % P).trans ha
  have hb := invB_yes hpr (a := a) (by rw [hm]; omega)
  exact ⟨hb, by rw [invI_yes hb, powI_inv h2 hM ha]⟩
theorem inv_none {a : Int} {P : Nat} (hpr : prB (P : Int) = true) (h2 : 2 ≤ P) (hM : P ≤ 2147483647) (ha : a % (P : Int) = 0) : invB a P = false ∧ invI a P = 0 := by
  have hm : modI a P = 0 := (if_pos ⟨by omega, by omega⟩ : modI a P = a % P).trans ha
  have hb := invB_zero hpr (a := a) hm
  exact ⟨hb, invI_no hb⟩

end Wp
end Go.Proofs.YtmnhpccdhefddaaDoor
