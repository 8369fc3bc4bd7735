/- The program's Pow, walked. -/
import Derived.Test.YtimmmfppehmfcaaGreatDoorMA
import Derived.Lib.RabinKarpLaws
namespace Go.Proofs.YtimmmfppehmfcaaGreatDoor
open Go.RowKit
namespace Wp

theorem tm_nat (a b : Nat) : (a : Int).tmod (b : Int) = ((a % b : Nat) : Int) := (Int.ofNat_tmod a b).symm
theorem mul_lt {a b p : Nat} (ha : a < p) (hb : b < p) (hp : p ≤ 2147483647) : a * b < 4611686018427387904 := by
  have := Nat.mul_le_mul (show a ≤ 2147483647 by omega) (show b ≤ 2147483647 by omega)
  omega
theorem wrap_mul {a b p : Nat} (ha : a < p) (hb : b < p) (hp : p ≤ 2147483647) : wrap64 ((a : Int) * (b : Int)) = ((a * b : Nat) : Int) := by
  have := mul_lt ha hb hp
  rw [← Int.natCast_mul]
  unfold wrap64
  omega

theorem bitLenAux_lt : ∀ (f x : Nat), x < 2 ^ f → x < 2 ^ Lib.bitLenAux f x
  | 0, x, h => h
  | f + 1, x, h => by
    unfold Lib.bitLenAux
    by_cases h0 : x = 0
    · rw [if_pos h0, h0]; decide
    · rw [if_neg h0, Nat.pow_add, Nat.pow_one]
      have := bitLenAux_lt f (x / 2) (by rw [Nat.pow_succ] at h; omega)
      omega
theorem bitLenAux_le : ∀ (f x : Nat), Lib.bitLenAux f x ≤ f
  | 0, _ => Nat.le_refl _
  | f + 1, x => by
    unfold Lib.bitLenAux
    have := bitLenAux_le f (x / 2)
    split <;> omega
theorem bitLen_lt (n : Nat) (h : n < 2 ^ 64) : n < 2 ^ Lib.bitLen n := bitLenAux_lt 64 n h
theorem bitLen_le (n : Nat) : Lib.bitLen n ≤ 64 := bitLenAux_le 64 n

theorem odd_bit {n k : Nat} (hn : n < 9223372036854775808) (h : n / 2 ^ k % 2 = 1) : (bits BinOp.and IntKind.i64 ((n : Int) / 2 ^ k) 1 == 1) = true := by
  have e : ((n : Int) / 2 ^ k) = ((n / 2 ^ k : Nat) : Int) := by simp
  rw [e, and_one _ (Nat.lt_of_le_of_lt (Nat.div_le_self _ _) hn), h]
  rfl
theorem even_bit {n k : Nat} (hn : n < 9223372036854775808) (h : n / 2 ^ k % 2 = 0) : (bits BinOp.and IntKind.i64 ((n : Int) / 2 ^ k) 1 == 1) = false := by
  have e : ((n : Int) / 2 ^ k) = ((n / 2 ^ k : Nat) : Int) := by simp
  rw [e, and_one _ (Nat.lt_of_le_of_lt (Nat.div_le_self _ _) hn), h]
  rfl
theorem mul_tm {a b p c : Nat} (ha : a < p) (hb : b < p) (hp : p ≤ 2147483647) (h : a * b % p = c) : (wrap64 ((a : Int) * (b : Int))).tmod (p : Int) = (c : Int) := by
  rw [wrap_mul ha hb hp, tm_nat, h]

/-- By squares: after the first k digits of n. -/
def pwK (x n p k : Nat) : Nat := x ^ (n % 2 ^ k) % p
def sqK (x p k : Nat) : Nat := x ^ 2 ^ k % p
theorem sqK_succ (x p k : Nat) : sqK x p k * sqK x p k % p = sqK x p (k + 1) := by
  unfold sqK
  rw [← Nat.mul_mod, ← Nat.pow_add, Nat.pow_succ, Nat.mul_two]
theorem pwK_odd {x n p k : Nat} (h : n / 2 ^ k % 2 = 1) : pwK x n p k * sqK x p k % p = pwK x n p (k + 1) := by
  unfold sqK pwK
  rw [← Nat.mul_mod, ← Nat.pow_add, Nat.mod_pow_succ, h, Nat.mul_one]
theorem pwK_even {x n p k : Nat} (h : n / 2 ^ k % 2 = 0) : pwK x n p k = pwK x n p (k + 1) := by
  unfold pwK
  rw [Nat.mod_pow_succ, h, Nat.mul_zero, Nat.add_zero]

set_option maxHeartbeats 2000000 in
set_option maxRecDepth 100000 in
theorem pow_same (a : Int) (n P : Nat) (w : World) (hp1 : 1 ≤ P) (hp2 : P ≤ 2147483647) (hn : n ≤ 9223372036854775807) :
    Calls Tryz.prog 106 #[.int .i64 a, .int .i64 n, .int .i64 P] w fun e w' => e = .returned (.int .i64 ((a % P).toNat ^ n % P : Nat)) ∧ w' = w := by
  obtain ⟨x, hx⟩ : ∃ x : Nat, a % (P : Int) = x := ⟨(a % P).toNat, by have := em_lt (a := a) (p := P) (by omega); omega⟩
  have hxp : x < P := by have := em_lt (a := a) (p := P) (by omega); omega
  rw [hx, Int.toNat_natCast]
  have hin : In31 (P : Int) := ⟨by omega, by omega⟩
  have Hm := Lib.hid (fun w => mod_yes a P w hin)
  have Ho := Lib.hid (fun w => mod_yes 1 P w hin)
  rw [hx] at Hm
  rw [show (1 : Int) % (P : Int) = ((1 % P : Nat) : Int) from rfl] at Ho
  clear hx
  obtain ⟨L, hL⟩ : ∃ L, L = Lib.bitLen n := ⟨_, rfl⟩
  have Hc := Lib.hid (Tryz.bits_Len (n : Int))
  rw [Int.toNat_natCast, ← hL] at Hc
  have hLn : n < 2 ^ L := by rw [hL]; exact bitLen_lt n (by omega)
  have hL64 : L ≤ 64 := by rw [hL]; exact bitLen_le n
  have HLn := Lib.hid hLn
  clear hL hLn
  have hn0 : ¬ (n : Int) < 0 := by omega
  obtain ⟨r, hr⟩ : ∃ r, r = x ^ n % P := ⟨_, rfl⟩
  rw [← hr]
  have Hr := Lib.hid hr
  clear hr
  obtain ⟨u0, hu0⟩ : ∃ u0, u0 = 1 % P := ⟨_, rfl⟩
  rw [← hu0] at Ho
  have Hu0 := Lib.hid hu0
  clear hu0
  go_enter Tryz.func106, Tryz.ntmps106
  go_wp2_with fail
  refine (divides_yes _ _ hin).mono ?_
  rintro e w1 ⟨rfl, rfl⟩
  go_wp2_with fail
  refine (Ho.out _).mono ?_
  rintro e w2 ⟨rfl, rfl⟩
  go_wp2_with fail
  refine (Hm.out _).mono ?_
  rintro e w3 ⟨rfl, rfl⟩
  go_wp2_with fail
  refine (Hc.out _ (by omega) (by omega)).mono ?_
  rintro e w4 ⟨rfl, rfl⟩
  go_wp2
  go_loopw [7, 8, 25] (fun vp vs vk wr => ∃ k : Nat, vk = .int .i64 k ∧ k ≤ L ∧ vp = .int .i64 (pwK x n P k : Nat) ∧ vs = .int .i64 (sqK x P k : Nat) ∧ wr = w4) (fun _ _ vk _ => L - (intOf vk).toNat)
  case atStart =>
    exact ⟨0, rfl, Nat.zero_le _, by rw [Hu0.out]; simp [pwK, Nat.mod_one], by simp [sqK, Nat.mod_eq_of_lt hxp], rfl⟩
  case round =>
    obtain ⟨k, rfl, hk, rfl, rfl, rfl⟩ := hrel
    by_cases hlt : k < L
    · have hu : pwK x n P k < P := Nat.mod_lt _ (by omega)
      have hs : sqK x P k < P := Nat.mod_lt _ (by omega)
      obtain ⟨s', hs'⟩ : ∃ s', s' = sqK x P (k + 1) := ⟨_, rfl⟩
      have m2 := mul_tm hs hs hp2 ((sqK_succ x P k).trans hs'.symm)
      have Hs' := Lib.hid hs'
      clear hs'
      by_cases hb : n / 2 ^ k % 2 = 1
      · obtain ⟨u', hu'⟩ : ∃ u', u' = pwK x n P (k + 1) := ⟨_, rfl⟩
        have m1 := mul_tm hu hs hp2 ((pwK_odd (x := x) (p := P) hb).trans hu'.symm)
        have hbit := odd_bit (by omega) hb
        have Hu' := Lib.hid hu'
        clear hu' hb
        generalize pwK x n P k = u at *
        generalize sqK x P k = s at *
        go_wp2
        go_roundw
        case rel => exact ⟨k + 1, by go_num, by omega, by rw [Hu'.out], by rw [Hs'.out], trivial⟩
        case measure => simp [intOf]; omega
      · have hbit := even_bit (n := n) (k := k) (by omega) (by omega)
        have he := pwK_even (x := x) (p := P) (n := n) (k := k) (by omega)
        have He := Lib.hid he
        clear hb he
        generalize sqK x P k = s at *
        go_wp2
        go_roundw
        case rel => exact ⟨k + 1, by go_num, by omega, by rw [← He.out], by rw [Hs'.out], trivial⟩
        case measure => simp [intOf]; omega
    · obtain rfl : k = L := by omega
      have hfin : pwK x n P k = r := by
        rw [Hr.out]
        unfold pwK
        rw [Nat.mod_eq_of_lt HLn.out]
      rw [hfin]
      go_wp2
      go_ret
      exact ⟨rfl, rfl⟩

theorem pow_in (a : Int) (n P : Nat) (w : World) (hp1 : 1 ≤ P) (hp2 : P ≤ 2147483647) (hn : n ≤ 9223372036854775807) :
    Calls Tryz.prog 106 #[.int .i64 a, .int .i64 n, .int .i64 P] w (Gets w (.int .i64 ((a % P).toNat ^ n % P : Nat))) :=
  (pow_same a n P w hp1 hp2 hn).mono fun _ _ ⟨h1, h2⟩ => ⟨h1, by rw [h2]; exact Below.refl _ _⟩

theorem pow_no (a n p : Int) (w : World) (h : ¬ (In31 p ∧ 0 ≤ n)) : Calls Tryz.prog 106 #[.int .i64 a, .int .i64 n, .int .i64 p] w fun e w' => e = .returned (.int .i64 0) ∧ w' = w := by
  by_cases hn : n < 0
  · go_enter Tryz.func106, Tryz.ntmps106
    go_wp2
    go_ret
    exact ⟨rfl, rfl⟩
  · have hp : ¬ In31 p := fun hp => h ⟨hp, by omega⟩
    go_enter Tryz.func106, Tryz.ntmps106
    go_wp2_with fail
    refine (divides_no p _ hp).mono ?_
    rintro e w' ⟨rfl, rfl⟩
    go_wp2
    go_ret
    exact ⟨rfl, rfl⟩
theorem pow_all (a n p : Int) (w : World) (hn : n ≤ 9223372036854775807) : Calls Tryz.prog 106 #[.int .i64 a, .int .i64 n, .int .i64 p] w fun e w' => e = .returned (.int .i64 (powI a n p)) ∧ w' = w := by
  unfold powI
  by_cases h : In31 p ∧ 0 ≤ n
  · rw [if_pos h]
    obtain ⟨⟨h1, h2⟩, h0⟩ := h
    obtain ⟨P, rfl⟩ : ∃ P : Nat, p = P := ⟨p.toNat, by omega⟩
    obtain ⟨N, rfl⟩ : ∃ N : Nat, n = N := ⟨n.toNat, by omega⟩
    exact pow_same a N P w (by omega) (by omega) (by omega)
  · rw [if_neg h]
    exact pow_no a n p w h
theorem pow_any (a n p : Int) (w : World) (hn : n ≤ 9223372036854775807) : Calls Tryz.prog 106 #[.int .i64 a, .int .i64 n, .int .i64 p] w (Gets w (.int .i64 (powI a n p))) :=
  (pow_all a n p w hn).mono fun _ _ ⟨h1, h2⟩ => ⟨h1, by rw [h2]; exact Below.refl _ _⟩

end Wp
end Go.Proofs.YtimmmfppehmfcaaGreatDoor
