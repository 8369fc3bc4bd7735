/- The law on what sums, products, multiples leave, walked: it answers true. -/
import Derived.Test.YtcfaomadhnbjkaaDoorMFixed
namespace Go.Proofs.YtcfaomadhnbjkaaDoor
open Go.RowKit
namespace Wp

set_option maxHeartbeats 8000000 in
set_option maxRecDepth 100000 in
theorem linear_out (a b p : Int) (w : World) (hM : Met w) (ho : p < 1 ∨ (2147483647 : Int) < p ∨ a < -1073741824 ∨ (1073741824 : Int) < a ∨ b < -1073741824 ∨ (1073741824 : Int) < b) :
    Calls Tryd.prog 6 #[.int .i64 a, .int .i64 b, .int .i64 p] w (Truly w) := by
  have HM0 := Lib.hid hM
  clear hM
  unfold Truly
  by_cases g0 : p < 1
  · clear ho
    go_enter Tryd.func6, Tryd.ntmps6
    go_wp2_with fail
    refine (fixed_any _ HM0.out).mono ?_
    rintro e w1 ⟨rfl, hb1⟩
    have HB1 := Lib.hid hb1
    have HM1 := Lib.hid (HM0.out.up hb1)
    clear hb1 HM0
    go_wp2_with fail
    refine (fixed_any _ HM1.out).mono ?_
    rintro e w2 ⟨rfl, hb2⟩
    have HB2 := Lib.hid (below_next HB1.out (Nat.le_refl _) hb2)
    have HM2 := Lib.hid (HM1.out.up hb2)
    clear hb2 HM1 HB1
    go_wp2
    go_ret
    exact ⟨rfl, HB2.out⟩
  have n0 : ¬ (p < 1) := g0
  clear g0
  by_cases g1 : (2147483647 : Int) < p
  · clear ho
    go_enter Tryd.func6, Tryd.ntmps6
    go_wp2_with fail
    refine (fixed_any _ HM0.out).mono ?_
    rintro e w1 ⟨rfl, hb1⟩
    have HB1 := Lib.hid hb1
    have HM1 := Lib.hid (HM0.out.up hb1)
    clear hb1 HM0
    go_wp2_with fail
    refine (fixed_any _ HM1.out).mono ?_
    rintro e w2 ⟨rfl, hb2⟩
    have HB2 := Lib.hid (below_next HB1.out (Nat.le_refl _) hb2)
    have HM2 := Lib.hid (HM1.out.up hb2)
    clear hb2 HM1 HB1
    go_wp2
    go_ret
    exact ⟨rfl, HB2.out⟩
  have n1 : ¬ ((2147483647 : Int) < p) := g1
  clear g1
  by_cases g2 : a < -1073741824
  · clear ho
    go_enter Tryd.func6, Tryd.ntmps6
    go_wp2_with fail
    refine (fixed_any _ HM0.out).mono ?_
    rintro e w1 ⟨rfl, hb1⟩
    have HB1 := Lib.hid hb1
    have HM1 := Lib.hid (HM0.out.up hb1)
    clear hb1 HM0
    go_wp2_with fail
    refine (fixed_any _ HM1.out).mono ?_
    rintro e w2 ⟨rfl, hb2⟩
    have HB2 := Lib.hid (below_next HB1.out (Nat.le_refl _) hb2)
    have HM2 := Lib.hid (HM1.out.up hb2)
    clear hb2 HM1 HB1
    go_wp2
    go_ret
    exact ⟨rfl, HB2.out⟩
  have n2 : ¬ (a < -1073741824) := g2
  clear g2
  by_cases g3 : (1073741824 : Int) < a
  · clear ho
    go_enter Tryd.func6, Tryd.ntmps6
    go_wp2_with fail
    refine (fixed_any _ HM0.out).mono ?_
    rintro e w1 ⟨rfl, hb1⟩
    have HB1 := Lib.hid hb1
    have HM1 := Lib.hid (HM0.out.up hb1)
    clear hb1 HM0
    go_wp2_with fail
    refine (fixed_any _ HM1.out).mono ?_
    rintro e w2 ⟨rfl, hb2⟩
    have HB2 := Lib.hid (below_next HB1.out (Nat.le_refl _) hb2)
    have HM2 := Lib.hid (HM1.out.up hb2)
    clear hb2 HM1 HB1
    go_wp2
    go_ret
    exact ⟨rfl, HB2.out⟩
  have n3 : ¬ ((1073741824 : Int) < a) := g3
  clear g3
  by_cases g4 : b < -1073741824
  · clear ho
    go_enter Tryd.func6, Tryd.ntmps6
    go_wp2_with fail
    refine (fixed_any _ HM0.out).mono ?_
    rintro e w1 ⟨rfl, hb1⟩
    have HB1 := Lib.hid hb1
    have HM1 := Lib.hid (HM0.out.up hb1)
    clear hb1 HM0
    go_wp2_with fail
    refine (fixed_any _ HM1.out).mono ?_
    rintro e w2 ⟨rfl, hb2⟩
    have HB2 := Lib.hid (below_next HB1.out (Nat.le_refl _) hb2)
    have HM2 := Lib.hid (HM1.out.up hb2)
    clear hb2 HM1 HB1
    go_wp2
    go_ret
    exact ⟨rfl, HB2.out⟩
  have n4 : ¬ (b < -1073741824) := g4
  clear g4
  by_cases g5 : (1073741824 : Int) < b
  · clear ho
    go_enter Tryd.func6, Tryd.ntmps6
    go_wp2_with fail
    refine (fixed_any _ HM0.out).mono ?_
    rintro e w1 ⟨rfl, hb1⟩
    have HB1 := Lib.hid hb1
    have HM1 := Lib.hid (HM0.out.up hb1)
    clear hb1 HM0
    go_wp2_with fail
    refine (fixed_any _ HM1.out).mono ?_
    rintro e w2 ⟨rfl, hb2⟩
    have HB2 := Lib.hid (below_next HB1.out (Nat.le_refl _) hb2)
    have HM2 := Lib.hid (HM1.out.up hb2)
    clear hb2 HM1 HB1
    go_wp2
    go_ret
    exact ⟨rfl, HB2.out⟩
  have n5 : ¬ ((1073741824 : Int) < b) := g5
  clear g5
  exfalso
  omega

theorem neg_mod {a p : Int} : (-a) % p = (p - a % p) % p := by
  rw [Int.sub_emod, Int.emod_emod, ← Int.sub_emod, show p - a = -a + p by omega, Int.add_emod_right]
theorem emod_tm {x p : Int} (h1 : 1 ≤ p) (h0 : 0 ≤ x) : x.tmod p = x % p := tm_pos h1 (by rw [Int.tmod_eq_emod, if_pos (.inl h0)]; have := Int.emod_nonneg x (show p ≠ 0 by omega); omega)
theorem mul_bound {x y p : Int} (hx : 0 ≤ x) (hxp : x < p) (hy : 0 ≤ y) (hyp : y < p) (hp : p ≤ 2147483647) : 0 ≤ x * y ∧ x * y ≤ 4611686018427387904 := by
  refine ⟨Int.mul_nonneg hx hy, ?_⟩
  have := Int.mul_le_mul (show x ≤ 2147483648 by omega) (show y ≤ 2147483648 by omega) hy (by decide)
  omega
theorem mul_small {a b : Int} (ha1 : -1073741824 ≤ a) (ha2 : a ≤ 1073741824) (hb1 : -1073741824 ≤ b) (hb2 : b ≤ 1073741824) : -1152921504606846976 ≤ a * b ∧ a * b ≤ 1152921504606846976 := by
  have h1 : (a * b).natAbs ≤ 1073741824 * 1073741824 := by
    rw [Int.natAbs_mul]
    exact Nat.mul_le_mul (by omega) (by omega)
  omega
theorem pow_two_is {a p : Int} (h : In31 p) : powI a 2 p = (a % p) * (a % p) % p := by
  have hb := em_lt (a := a) h.1
  unfold powI
  rw [if_pos ⟨h, by decide⟩]
  obtain ⟨x, hx⟩ : ∃ x : Nat, a % p = x := ⟨(a % p).toNat, by omega⟩
  obtain ⟨P, hP⟩ : ∃ P : Nat, p = P := ⟨p.toNat, by have := h.1; omega⟩
  rw [hx, hP, Int.toNat_natCast, Int.toNat_natCast, show (2 : Int).toNat = 2 from rfl, Nat.pow_two, Int.natCast_emod, Int.natCast_mul]

set_option maxHeartbeats 8000000 in
set_option maxRecDepth 100000 in
theorem linear_in (a b p x y s m c q : Int) (w : World) (hM : Met w) (h1 : 1 ≤ p) (h2 : p ≤ 2147483647) (ha1 : -1073741824 ≤ a) (ha2 : a ≤ 1073741824) (hb1 : -1073741824 ≤ b) (hb2 : b ≤ 1073741824)
    (hx : modI a p = x) (hy : modI b p = y) (hs : modI (a + b) p = s) (hm : modI (a * b) p = m) (hap : modI (a + p) p = x) (hc : modI (-a) p = c) (hq : powI a 2 p = q)
    (hx0 : 0 ≤ x) (hxp : x < p) (hy0 : 0 ≤ y) (hyp : y < p) (es : (x + y).tmod p = s) (em : (wrap64 (x * y)).tmod p = m) (ec : (p - x).tmod p = c) (eq : (wrap64 (x * x)).tmod p = q) (ab : wrap64 (a * b) = a * b) :
    Calls Tryd.prog 6 #[.int .i64 a, .int .i64 b, .int .i64 p] w (Truly w) := by
  have HM0 := Lib.hid hM
  clear hM
  unfold Truly
  have hp0 : ¬ p = 0 := by omega
  have Hmod := Lib.hid (fun z w => mod_any z p w)
  have Hpow := Lib.hid (fun w => pow_all a 2 p w (by decide))
  rw [hq] at Hpow
  go_enter Tryd.func6, Tryd.ntmps6
  go_wp2_with fail
  refine (fixed_any _ HM0.out).mono ?_
  rintro e w1 ⟨rfl, hb1⟩
  have HB1 := Lib.hid hb1
  have HM1 := Lib.hid (HM0.out.up hb1)
  clear hb1 HM0
  go_wp2_with fail
  refine (mod_is a p x hx _).mono ?_
  rintro e w2 ⟨rfl, hb2⟩
  have HB2 := Lib.hid (below_next HB1.out (Nat.le_refl _) hb2)
  have HM2 := Lib.hid (HM1.out.up hb2)
  clear hb2 HM1 HB1
  go_wp2_with fail
  refine (mod_is b p y hy _).mono ?_
  rintro e w3 ⟨rfl, hb3⟩
  have HB3 := Lib.hid (below_next HB2.out (Nat.le_refl _) hb3)
  have HM3 := Lib.hid (HM2.out.up hb3)
  clear hb3 HM2 HB2
  go_wp2_with fail
  simp only [List.append_eq, List.cons_append, List.nil_append]
  go_quiet (first | (go_at_call 13; exact Calls.quiet_of_same (Hmod.out _ _)) | (go_at_call 15; exact Calls.quiet_of_same (Hpow.out _)))
  go_wp2
  go_ret
  exact ⟨rfl, below_drewN HB3.out _⟩

theorem linear_any (a b p : Int) (w : World) (hM : Met w) : Calls Tryd.prog 6 #[.int .i64 a, .int .i64 b, .int .i64 p] w (Truly w) := by
  by_cases ho : p < 1 ∨ (2147483647 : Int) < p ∨ a < -1073741824 ∨ (1073741824 : Int) < a ∨ b < -1073741824 ∨ (1073741824 : Int) < b
  · exact linear_out a b p w hM ho
  · have hin : In31 p := ⟨by omega, by omega⟩
    have h1 := hin.1
    have h2 := hin.2
    have hx := em_lt (a := a) h1
    have hy := em_lt (a := b) h1
    have e : ∀ z, modI z p = z % p := fun z => if_pos hin
    have hab := mul_small (a := a) (b := b) (by omega) (by omega) (by omega) (by omega)
    have hxy := mul_bound hx.1 hx.2 hy.1 hy.2 h2
    have hxx := mul_bound hx.1 hx.2 hx.1 hx.2 h2
    refine linear_in a b p (a % p) (b % p) ((a + b) % p) (a * b % p) (-a % p) ((a % p) * (a % p) % p) w hM h1 h2 (by omega) (by omega) (by omega) (by omega) (e a) (e b) (e (a + b)) (e (a * b)) ((e (a + p)).trans (Int.add_emod_right a p)) (e (-a)) (pow_two_is hin) hx.1 hx.2 hy.1 hy.2 ?_ ?_ ?_ ?_ ?_
    · rw [emod_tm h1 (by omega), ← Int.add_emod]
    · rw [show wrap64 (a % p * (b % p)) = a % p * (b % p) from by unfold wrap64; omega, emod_tm h1 hxy.1, ← Int.mul_emod]
    · rw [emod_tm h1 (by omega), neg_mod]
    · rw [show wrap64 (a % p * (a % p)) = a % p * (a % p) from by unfold wrap64; omega, emod_tm h1 hxx.1]
    · unfold wrap64
      omega

end Wp
end Go.Proofs.YtcfaomadhnbjkaaDoor
