/- The document's Prime, Mod, Pow, Inv, walked. -/
import Derived.Test.YtmnhpccdhefddaaDoorMInv
namespace Go.Proofs.YtmnhpccdhefddaaDoor
open Go.RowKit
namespace Wp

/-! ### Prime: by trying divisors -/
/-- Nothing from 2 on, below d, divides n. -/
def NoneTo (n d : Nat) : Prop := ∀ x, 2 ≤ x → x < d → ¬ x ∣ n
theorem none_prime {n d : Nat} (h2 : 2 ≤ n) (h : NoneTo n d) (hd : n < d * d) : Pr n := by
  refine ⟨h2, fun c hc => ?_⟩
  obtain ⟨k, hk⟩ := hc
  have hc0 : c ≠ 0 := by rintro rfl; omega
  have hk0 : k ≠ 0 := by rintro rfl; omega
  by_cases h1 : c = 1
  · exact .inl h1
  · right
    by_cases hk1 : k = 1
    · rw [hk, hk1, Nat.mul_one]
    · exfalso
      have hcd : d ≤ c := by
        rcases Nat.lt_or_ge c d with hl | hl
        · exact absurd ⟨k, hk⟩ (h c (by omega) hl)
        · exact hl
      have hkd : d ≤ k := by
        rcases Nat.lt_or_ge k d with hl | hl
        · exact absurd ⟨c, by rw [hk, Nat.mul_comm]⟩ (h k (by omega) hl)
        · exact hl
      have := Nat.mul_le_mul hcd hkd
      omega
theorem found_not {n d : Nat} (h2 : 2 ≤ d) (hd : d * d ≤ n) (h : n % d = 0) : ¬ Pr n := by
  intro hp
  have : d < n := by
    have := Nat.mul_le_mul_left d h2
    omega
  rcases hp.2 d (Nat.dvd_of_mod_eq_zero h) with e | e <;> omega

set_option maxHeartbeats 2000000 in
set_option maxRecDepth 100000 in
theorem refprime_same (P : Nat) (w : World) (h2 : 2 ≤ P) (hp2 : P ≤ 2147483647) :
    Calls Tryd.prog 23 #[.int .i64 P] w fun e w' => e = .returned (.bool (prB P)) ∧ w' = w := by
  obtain ⟨b, hb⟩ : ∃ b, b = prB P := ⟨_, rfl⟩
  have hyes : Pr P → b = true := fun h => hb.trans (prB_true ⟨by omega, by omega, by rw [Int.toNat_natCast]; exact h⟩)
  have hno : ¬ Pr P → b = false := fun h => hb.trans (prB_false fun k => h (by have := k.2.2; rwa [Int.toNat_natCast] at this))
  have Hyes := Lib.hid hyes
  have Hno := Lib.hid hno
  rw [← hb]
  clear hb hyes hno
  have h2i : ¬ (P : Int) < 2 := by omega
  have hpi : ¬ (2147483647 : Int) < (P : Int) := by omega
  go_enter Tryd.func23, Tryd.ntmps23
  go_wp2
  go_loopw [3] (fun vd wr => ∃ d : Nat, vd = .int .i64 d ∧ 2 ≤ d ∧ d ≤ 46341 ∧ NoneTo P d ∧ wr = w) (fun vd _ => 46342 - (intOf vd).toNat)
  case atStart => exact ⟨2, rfl, Nat.le_refl _, by decide, fun x h1 h2 => by omega, rfl⟩
  case round =>
    obtain ⟨d, rfl, hd2, hdl, hn, rfl⟩ := hrel
    have Hn := Lib.hid hn
    clear hn
    have hsq : wrap64 ((d : Int) * (d : Int)) = ((d * d : Nat) : Int) := by
      have := Nat.mul_le_mul hdl hdl
      rw [← Int.natCast_mul]
      unfold wrap64
      omega
    have hd0 : ¬ (d : Int) = 0 := by omega
    have htm := tm_nat P d
    by_cases hle : d * d ≤ P
    · have hdl' : d < 46341 := by
        rcases Nat.lt_or_ge d 46341 with h | h
        · exact h
        · have := Nat.mul_le_mul h h
          omega
      obtain ⟨q, hq⟩ : ∃ q, q = d * d := ⟨_, rfl⟩
      rw [← hq] at hsq
      have hqi : (q : Int) ≤ (P : Int) := by omega
      by_cases hz : P % d = 0
      · have hb := Hno.out (found_not hd2 hle hz)
        subst hb
        rw [hz] at htm
        clear hq hle hz
        go_wp2
        go_ret
        exact ⟨rfl, rfl⟩
      · obtain ⟨m, hm⟩ : ∃ m, m = P % d := ⟨_, rfl⟩
        rw [← hm] at htm
        have hm0 : ¬ (m : Int) = 0 := by omega
        have Hnext : Hid (NoneTo P (d + 1)) := Lib.hid (by
          intro x h1 h3 hx
          by_cases hxd : x = d
          · subst hxd
            exact hz (Nat.mod_eq_zero_of_dvd hx)
          · exact Hn.out x h1 (by omega) hx)
        clear hq hle hz hm
        go_wp2
        go_roundw
        case rel => exact ⟨d + 1, by go_num, by omega, by omega, Hnext.out, trivial⟩
        case measure => simp [intOf]; omega
    · have hb := Hyes.out (none_prime h2 Hn.out (by omega))
      subst hb
      obtain ⟨q, hq⟩ : ∃ q, q = d * d := ⟨_, rfl⟩
      rw [← hq] at hsq
      have hqi : ¬ (q : Int) ≤ (P : Int) := by omega
      clear hq hle
      go_wp2
      go_ret
      exact ⟨rfl, rfl⟩

set_option maxHeartbeats 2000000 in
set_option maxRecDepth 100000 in
theorem refprime_all (p : Int) (w : World) : Calls Tryd.prog 23 #[.int .i64 p] w fun e w' => e = .returned (.bool (prB p)) ∧ w' = w := by
  by_cases h2 : p < 2
  · have hf : prB p = false := prB_false fun h => by have := h.1; omega
    rw [hf]
    clear hf
    go_enter Tryd.func23, Tryd.ntmps23
    go_wp2
    go_ret
    exact ⟨rfl, rfl⟩
  · by_cases h3 : 2147483647 < p
    · have hf : prB p = false := prB_false fun h => by have := h.2.1; omega
      rw [hf]
      clear hf
      go_enter Tryd.func23, Tryd.ntmps23
      go_wp2
      go_ret
      exact ⟨rfl, rfl⟩
    · obtain ⟨P, rfl⟩ : ∃ P : Nat, p = P := ⟨p.toNat, by omega⟩
      exact refprime_same P w (by omega) (by omega)
theorem refprime_any (p : Int) (w : World) : Calls Tryd.prog 23 #[.int .i64 p] w (Gets w (.bool (prB p))) :=
  (refprime_all p w).mono fun _ _ ⟨h1, h2⟩ => ⟨h1, by rw [h2]; exact Below.refl _ _⟩

end Wp
end Go.Proofs.YtmnhpccdhefddaaDoor
