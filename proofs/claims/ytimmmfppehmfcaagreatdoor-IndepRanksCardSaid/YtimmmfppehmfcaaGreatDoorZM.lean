/- The program's Inv, walked. Inverses modulo a prime, plain. -/
import Derived.Test.YtimmmfppehmfcaaGreatDoorMPrime
namespace Go.Proofs.YtimmmfppehmfcaaGreatDoor
open Go.RowKit
namespace Wp

theorem invB_no {a p : Int} (h : prB p = false) : invB a p = false := by unfold invB; rw [h]; rfl
theorem invB_zero {a p : Int} (h : prB p = true) (h0 : modI a p = 0) : invB a p = false := by unfold invB; rw [h, h0]; rfl
theorem invB_yes {a p : Int} (h : prB p = true) (h0 : modI a p ≠ 0) : invB a p = true := by unfold invB; rw [h, decide_eq_false h0]; rfl
theorem invI_no {a p : Int} (h : invB a p = false) : invI a p = 0 := by unfold invI; rw [h]; rfl
theorem invI_yes {a p : Int} (h : invB a p = true) : invI a p = powI a (p - 2) p := by unfold invI; rw [h]; rfl

set_option maxHeartbeats 2000000 in
set_option maxRecDepth 100000 in
theorem inv_any (a p : Int) (w : World) (hM : Met w) : Calls Tryz.prog 85 #[.int .i64 a, .int .i64 p] w (Gets w (.tuple #[.int .i64 (invI a p), .bool (invB a p)])) := by
  have HM := Lib.hid hM
  clear hM
  rcases hp : prB p with _ | _
  · have hB := invB_no (a := a) hp
    rw [invI_no hB, hB]
    have Hp := Lib.hid (fun w hM => prime_any p w hM)
    rw [hp] at Hp
    clear hB hp
    go_enter Tryz.func85, Tryz.ntmps85
    go_wp2_with fail
    refine (Hp.out _ HM.out).mono ?_
    rintro e w1 ⟨rfl, hb1⟩
    go_wp2
    go_ret2
    exact ⟨rfl, hb1⟩
  · have Hp := Lib.hid (fun w hM => prime_any p w hM)
    rw [hp] at Hp
    have hpi := prB_iff.1 hp
    have hpl : p ≤ 2147483647 := hpi.2.1
    by_cases h0 : modI a p = 0
    · have hB := invB_zero hp h0
      rw [invI_no hB, hB]
      have Hm := Lib.hid (fun w => mod_any a p w)
      rw [h0] at Hm
      clear hB hp h0 hpi
      go_enter Tryz.func85, Tryz.ntmps85
      go_wp2_with fail
      refine (Hp.out _ HM.out).mono ?_
      rintro e w1 ⟨rfl, hb1⟩
      go_wp2_with fail
      refine (Hm.out _).mono ?_
      rintro e w2 ⟨rfl, rfl⟩
      go_wp2
      go_ret2
      exact ⟨rfl, hb1⟩
    · have hB := invB_yes hp h0
      rw [invI_yes hB, hB]
      have Hm := Lib.hid (fun w => mod_any a p w)
      have Hw := Lib.hid (fun w => pow_any a (p - 2) p w (by omega))
      have h2 := hpi.1
      have hw : wrap64 (p - 2) = p - 2 := by unfold wrap64; omega
      generalize modI a p = m at *
      generalize powI a (p - 2) p = y at *
      clear hB hp hpi
      go_enter Tryz.func85, Tryz.ntmps85
      go_wp2_with fail
      refine (Hp.out _ HM.out).mono ?_
      rintro e w1 ⟨rfl, hb1⟩
      go_wp2_with fail
      refine (Hm.out _).mono ?_
      rintro e w2 ⟨rfl, rfl⟩
      go_wp2_with fail
      refine (Hw.out _).mono ?_
      rintro e w3 ⟨rfl, hb3⟩
      have hB3 := below_next hb1 (Nat.le_refl _) hb3
      go_wp2
      go_ret2
      exact ⟨rfl, hB3⟩

end Wp
end Go.Proofs.YtimmmfppehmfcaaGreatDoor

namespace Go.Proofs.YtimmmfppehmfcaaGreatDoor
open Go.RowKit
namespace Wp

theorem inv_nat {P x : Nat} (hp : Pr P) (hx : ¬ P ∣ x) : x ^ (P - 2) % P * x % P = 1 := by
  have h2 := hp.1
  rw [cm_mul (cm_self (x ^ (P - 2)) P) rfl, ← Nat.pow_succ, show (P - 2).succ = P - 1 by omega]
  exact fermat hp hx
theorem not_dvd {P x : Nat} (h0 : x ≠ 0) (hx : x < P) : ¬ P ∣ x := fun hd => by
  have := Nat.le_of_dvd (by omega) hd
  omega
theorem powI_inv {a : Int} {P x : Nat} (h2 : 2 ≤ P) (hM : P ≤ 2147483647) (ha : a % (P : Int) = x) : powI a ((P : Int) - 2) P = ((x ^ (P - 2) % P : Nat) : Int) := by
  unfold powI
  rw [if_pos ⟨⟨by omega, by omega⟩, by omega⟩, ha, Int.toNat_natCast, Int.toNat_natCast, show ((P : Int) - 2).toNat = P - 2 by omega]
theorem inv_at {a : Int} {P x : Nat} (hpr : prB (P : Int) = true) (h2 : 2 ≤ P) (hM : P ≤ 2147483647) (ha : a % (P : Int) = x) (h0 : x ≠ 0) :
    invB a P = true ∧ invI a P = ((x ^ (P - 2) % P : Nat) : Int) := by
  have hm : modI a P = x := (if_pos ⟨by omega, by omega⟩ : modI a P = a % P).trans ha
  have hb := invB_yes hpr (a := a) (by rw [hm]; omega)
  exact ⟨hb, by rw [invI_yes hb, powI_inv h2 hM ha]⟩
theorem inv_none {a : Int} {P : Nat} (hpr : prB (P : Int) = true) (h2 : 2 ≤ P) (hM : P ≤ 2147483647) (ha : a % (P : Int) = 0) : invB a P = false ∧ invI a P = 0 := by
  have hm : modI a P = 0 := (if_pos ⟨by omega, by omega⟩ : modI a P = a % P).trans ha
  have hb := invB_zero hpr (a := a) hm
  exact ⟨hb, invI_no hb⟩

end Wp
end Go.Proofs.YtimmmfppehmfcaaGreatDoor
