/- The law on products, and primes, walked: it answers true. -/
import Derived.Test.YtcfaomadhnbjkaaDoorMLinear
namespace Go.Proofs.YtcfaomadhnbjkaaDoor
open Go.RowKit
namespace Wp

set_option maxHeartbeats 8000000 in
set_option maxRecDepth 100000 in
theorem primes_out (a b : Int) (w : World) (hM : Met w) (ho : a < 2 ∨ b < 2 ∨ (1073741824 : Int) < a ∨ (1073741824 : Int) < b ∨ (2147483647 : Int) < a * b) :
    Calls Tryd.prog 7 #[.int .i64 a, .int .i64 b] w (Truly w) := by
  have HM0 := Lib.hid hM
  clear hM
  unfold Truly
  by_cases g0 : a < 2
  · clear ho
    go_enter Tryd.func7, Tryd.ntmps7
    go_wp2_with fail
    refine (fixed_any _ HM0.out).mono ?_
    rintro e w1 ⟨rfl, hb1⟩
    have HB1 := Lib.hid hb1
    have HM1 := Lib.hid (HM0.out.up hb1)
    clear hb1 HM0
    go_wp2_with fail
    refine (fixed_any _ HM1.out).mono ?_
    rintro e w2 ⟨rfl, hb2⟩
    have HB2 := Lib.hid (below_next HB1.out (Nat.le_refl _) hb2)
    have HM2 := Lib.hid (HM1.out.up hb2)
    clear hb2 HM1 HB1
    go_wp2
    go_ret
    exact ⟨rfl, HB2.out⟩
  have n0 : ¬ (a < 2) := g0
  clear g0
  by_cases g1 : b < 2
  · clear ho
    go_enter Tryd.func7, Tryd.ntmps7
    go_wp2_with fail
    refine (fixed_any _ HM0.out).mono ?_
    rintro e w1 ⟨rfl, hb1⟩
    have HB1 := Lib.hid hb1
    have HM1 := Lib.hid (HM0.out.up hb1)
    clear hb1 HM0
    go_wp2_with fail
    refine (fixed_any _ HM1.out).mono ?_
    rintro e w2 ⟨rfl, hb2⟩
    have HB2 := Lib.hid (below_next HB1.out (Nat.le_refl _) hb2)
    have HM2 := Lib.hid (HM1.out.up hb2)
    clear hb2 HM1 HB1
    go_wp2
    go_ret
    exact ⟨rfl, HB2.out⟩
  have n1 : ¬ (b < 2) := g1
  clear g1
  by_cases g2 : (1073741824 : Int) < a
  · clear ho
    go_enter Tryd.func7, Tryd.ntmps7
    go_wp2_with fail
    refine (fixed_any _ HM0.out).mono ?_
    rintro e w1 ⟨rfl, hb1⟩
    have HB1 := Lib.hid hb1
    have HM1 := Lib.hid (HM0.out.up hb1)
    clear hb1 HM0
    go_wp2_with fail
    refine (fixed_any _ HM1.out).mono ?_
    rintro e w2 ⟨rfl, hb2⟩
    have HB2 := Lib.hid (below_next HB1.out (Nat.le_refl _) hb2)
    have HM2 := Lib.hid (HM1.out.up hb2)
    clear hb2 HM1 HB1
    go_wp2
    go_ret
    exact ⟨rfl, HB2.out⟩
  have n2 : ¬ ((1073741824 : Int) < a) := g2
  clear g2
  by_cases g3 : (1073741824 : Int) < b
  · clear ho
    go_enter Tryd.func7, Tryd.ntmps7
    go_wp2_with fail
    refine (fixed_any _ HM0.out).mono ?_
    rintro e w1 ⟨rfl, hb1⟩
    have HB1 := Lib.hid hb1
    have HM1 := Lib.hid (HM0.out.up hb1)
    clear hb1 HM0
    go_wp2_with fail
    refine (fixed_any _ HM1.out).mono ?_
    rintro e w2 ⟨rfl, hb2⟩
    have HB2 := Lib.hid (below_next HB1.out (Nat.le_refl _) hb2)
    have HM2 := Lib.hid (HM1.out.up hb2)
    clear hb2 HM1 HB1
    go_wp2
    go_ret
    exact ⟨rfl, HB2.out⟩
  have n3 : ¬ ((1073741824 : Int) < b) := g3
  clear g3
  have n4 : (2147483647 : Int) < a * b := by omega
  have hm := mul_small (a := a) (b := b) (by omega) (by omega) (by omega) (by omega)
  have ab : wrap64 (a * b) = a * b := by unfold wrap64; omega
  clear ho hm
  go_enter Tryd.func7, Tryd.ntmps7
  go_wp2_with fail
  refine (fixed_any _ HM0.out).mono ?_
  rintro e w1 ⟨rfl, hb1⟩
  have HB1 := Lib.hid hb1
  have HM1 := Lib.hid (HM0.out.up hb1)
  clear hb1 HM0
  go_wp2_with fail
  refine (fixed_any _ HM1.out).mono ?_
  rintro e w2 ⟨rfl, hb2⟩
  have HB2 := Lib.hid (below_next HB1.out (Nat.le_refl _) hb2)
  have HM2 := Lib.hid (HM1.out.up hb2)
  clear hb2 HM1 HB1
  go_wp2
  go_ret
  exact ⟨rfl, HB2.out⟩

theorem not_product {a b : Int} (ha : 2 ≤ a) (hb : 2 ≤ b) : prB (a * b) = false := prB_false fun h => by
  obtain ⟨A, rfl⟩ : ∃ A : Nat, a = A := ⟨a.toNat, by omega⟩
  obtain ⟨B, rfl⟩ : ∃ B : Nat, b = B := ⟨b.toNat, by omega⟩
  have hp := h.2.2
  rw [← Int.natCast_mul, Int.toNat_natCast] at hp
  rcases hp.2 A (Nat.dvd_mul_right A B) with e | e
  · omega
  · have := Nat.mul_le_mul_left A (show 2 ≤ B by omega)
    omega

set_option maxHeartbeats 8000000 in
set_option maxRecDepth 100000 in
theorem primes_no (a b i : Int) (w : World) (hM : Met w) (n0 : ¬ a < 2) (n1 : ¬ b < 2) (n2 : ¬ (1073741824 : Int) < a) (n3 : ¬ (1073741824 : Int) < b) (n4 : ¬ (2147483647 : Int) < a * b) (ab : wrap64 (a * b) = a * b)
    (hf : prB (a * b) = false) (hi : invI b a = i) (hok : invB b a = false) (hpa : prB a = false)  :
    Calls Tryd.prog 7 #[.int .i64 a, .int .i64 b] w (Truly w) := by
  have HM0 := Lib.hid hM
  clear hM
  unfold Truly
  have ha0 : ¬ a = 0 := by omega
  go_enter Tryd.func7, Tryd.ntmps7
  go_wp2_with fail
  refine (fixed_any _ HM0.out).mono ?_
  rintro e w1 ⟨rfl, hb1⟩
  have HB1 := Lib.hid hb1
  have HM1 := Lib.hid (HM0.out.up hb1)
  clear hb1 HM0
  go_wp2_with fail
  refine (prime_is (a * b) false hf _ HM1.out).mono ?_
  rintro e w2 ⟨rfl, hb2⟩
  have HB2 := Lib.hid (below_next HB1.out (Nat.le_refl _) hb2)
  have HM2 := Lib.hid (HM1.out.up hb2)
  clear hb2 HM1 HB1
  go_wp2_with fail
  refine (inv_is b a i false hi hok _ HM2.out).mono ?_
  rintro e w3 ⟨rfl, hb3⟩
  have HB3 := Lib.hid (below_next HB2.out (Nat.le_refl _) hb3)
  have HM3 := Lib.hid (HM2.out.up hb3)
  clear hb3 HM2 HB2
  go_wp2_with fail
  refine (prime_is a false hpa _ HM3.out).mono ?_
  rintro e w4 ⟨rfl, hb4⟩
  have HB4 := Lib.hid (below_next HB3.out (Nat.le_refl _) hb4)
  have HM4 := Lib.hid (HM3.out.up hb4)
  clear hb4 HM3 HB3
  go_wp2
  go_ret
  exact ⟨rfl, HB4.out⟩

set_option maxHeartbeats 8000000 in
set_option maxRecDepth 100000 in
theorem primes_zero (a b i : Int) (w : World) (hM : Met w) (n0 : ¬ a < 2) (n1 : ¬ b < 2) (n2 : ¬ (1073741824 : Int) < a) (n3 : ¬ (1073741824 : Int) < b) (n4 : ¬ (2147483647 : Int) < a * b) (ab : wrap64 (a * b) = a * b)
    (hf : prB (a * b) = false) (hi : invI b a = i) (hok : invB b a = false) (hpa : prB a = true) (hm : b.tmod a = 0) :
    Calls Tryd.prog 7 #[.int .i64 a, .int .i64 b] w (Truly w) := by
  have HM0 := Lib.hid hM
  clear hM
  unfold Truly
  have ha0 : ¬ a = 0 := by omega
  go_enter Tryd.func7, Tryd.ntmps7
  go_wp2_with fail
  refine (fixed_any _ HM0.out).mono ?_
  rintro e w1 ⟨rfl, hb1⟩
  have HB1 := Lib.hid hb1
  have HM1 := Lib.hid (HM0.out.up hb1)
  clear hb1 HM0
  go_wp2_with fail
  refine (prime_is (a * b) false hf _ HM1.out).mono ?_
  rintro e w2 ⟨rfl, hb2⟩
  have HB2 := Lib.hid (below_next HB1.out (Nat.le_refl _) hb2)
  have HM2 := Lib.hid (HM1.out.up hb2)
  clear hb2 HM1 HB1
  go_wp2_with fail
  refine (inv_is b a i false hi hok _ HM2.out).mono ?_
  rintro e w3 ⟨rfl, hb3⟩
  have HB3 := Lib.hid (below_next HB2.out (Nat.le_refl _) hb3)
  have HM3 := Lib.hid (HM2.out.up hb3)
  clear hb3 HM2 HB2
  go_wp2_with fail
  refine (prime_is a true hpa _ HM3.out).mono ?_
  rintro e w4 ⟨rfl, hb4⟩
  have HB4 := Lib.hid (below_next HB3.out (Nat.le_refl _) hb4)
  have HM4 := Lib.hid (HM3.out.up hb4)
  clear hb4 HM3 HB3
  go_wp2
  go_ret
  exact ⟨rfl, HB4.out⟩

set_option maxHeartbeats 8000000 in
set_option maxRecDepth 100000 in
theorem primes_some (a b i m : Int) (w : World) (hM : Met w) (n0 : ¬ a < 2) (n1 : ¬ b < 2) (n2 : ¬ (1073741824 : Int) < a) (n3 : ¬ (1073741824 : Int) < b) (n4 : ¬ (2147483647 : Int) < a * b) (ab : wrap64 (a * b) = a * b)
    (hf : prB (a * b) = false) (hi : invI b a = i) (hok : invB b a = true) (hpa : prB a = true) (hm : b.tmod a = m) (hm1 : ¬ m = 0) :
    Calls Tryd.prog 7 #[.int .i64 a, .int .i64 b] w (Truly w) := by
  have HM0 := Lib.hid hM
  clear hM
  unfold Truly
  have ha0 : ¬ a = 0 := by omega
  have Hm2 := Lib.hid (show (m != 0) = true from by simpa using hm1)
  go_enter Tryd.func7, Tryd.ntmps7
  go_wp2_with fail
  refine (fixed_any _ HM0.out).mono ?_
  rintro e w1 ⟨rfl, hb1⟩
  have HB1 := Lib.hid hb1
  have HM1 := Lib.hid (HM0.out.up hb1)
  clear hb1 HM0
  go_wp2_with fail
  refine (prime_is (a * b) false hf _ HM1.out).mono ?_
  rintro e w2 ⟨rfl, hb2⟩
  have HB2 := Lib.hid (below_next HB1.out (Nat.le_refl _) hb2)
  have HM2 := Lib.hid (HM1.out.up hb2)
  clear hb2 HM1 HB1
  go_wp2_with fail
  refine (inv_is b a i true hi hok _ HM2.out).mono ?_
  rintro e w3 ⟨rfl, hb3⟩
  have HB3 := Lib.hid (below_next HB2.out (Nat.le_refl _) hb3)
  have HM3 := Lib.hid (HM2.out.up hb3)
  clear hb3 HM2 HB2
  go_wp2_with fail
  refine (prime_is a true hpa _ HM3.out).mono ?_
  rintro e w4 ⟨rfl, hb4⟩
  have HB4 := Lib.hid (below_next HB3.out (Nat.le_refl _) hb4)
  have HM4 := Lib.hid (HM3.out.up hb4)
  clear hb4 HM3 HB3
  go_wp2
  go_ret
  exact ⟨congrArg (fun x => Ending.returned (.bool x)) Hm2.out, HB4.out⟩

theorem primes_any (a b : Int) (w : World) (hM : Met w) : Calls Tryd.prog 7 #[.int .i64 a, .int .i64 b] w (Truly w) := by
  by_cases ho : a < 2 ∨ b < 2 ∨ (1073741824 : Int) < a ∨ (1073741824 : Int) < b ∨ (2147483647 : Int) < a * b
  · exact primes_out a b w hM ho
  · have hm := mul_small (a := a) (b := b) (by omega) (by omega) (by omega) (by omega)
    have ab : wrap64 (a * b) = a * b := by unfold wrap64; omega
    have hf := not_product (a := a) (b := b) (by omega) (by omega)
    have hin : In31 a := ⟨by omega, by omega⟩
    have hmod : modI b a = b % a := if_pos hin
    have htm : b.tmod a = b % a := emod_tm (by omega) (by omega)
    rcases hpa : prB a with _ | _
    · exact primes_no a b _ w hM (by omega) (by omega) (by omega) (by omega) (by omega) ab hf rfl (invB_no hpa) hpa
    · by_cases hz : b % a = 0
      · exact primes_zero a b _ w hM (by omega) (by omega) (by omega) (by omega) (by omega) ab hf rfl (invB_zero hpa (hmod.trans hz)) hpa (htm.trans hz)
      · exact primes_some a b _ (b % a) w hM (by omega) (by omega) (by omega) (by omega) (by omega) ab hf rfl (invB_yes hpa (by rw [hmod]; exact hz)) hpa htm hz

end Wp
end Go.Proofs.YtcfaomadhnbjkaaDoor
