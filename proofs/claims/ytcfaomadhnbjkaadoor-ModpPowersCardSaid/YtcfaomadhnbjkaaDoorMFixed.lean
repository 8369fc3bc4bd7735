/- The calls whose answers the document fixes, walked: they are as it fixes them. -/
import Derived.Test.YtcfaomadhnbjkaaDoorMRefI
namespace Go.Proofs.YtcfaomadhnbjkaaDoor
open Go.RowKit
namespace Wp

theorem inv_is (a p i : Int) (b : Bool) (h1 : invI a p = i) (h2 : invB a p = b) (w : World) (hM : Met w) : Calls Tryd.prog 8 #[.int .i64 a, .int .i64 p] w (Gets w (.tuple #[.int .i64 i, .bool b])) := by
  subst h1 h2
  exact inv_any a p w hM
theorem refinv_is (a p i : Int) (b : Bool) (h1 : invI a p = i) (h2 : invB a p = b) (w : World) : Calls Tryd.prog 9 #[.int .i64 a, .int .i64 p] w (Gets w (.tuple #[.int .i64 i, .bool b])) := by
  subst h1 h2
  exact refinv_any a p w
theorem prime_is (p : Int) (b : Bool) (h : prB p = b) (w : World) (hM : Met w) : Calls Tryd.prog 11 #[.int .i64 p] w (Gets w (.bool b)) := by
  subst h
  exact prime_any p w hM
theorem refprime_is (p : Int) (b : Bool) (h : prB p = b) (w : World) : Calls Tryd.prog 12 #[.int .i64 p] w (Gets w (.bool b)) := by
  subst h
  exact refprime_any p w
theorem mod_is (a p x : Int) (h : modI a p = x) (w : World) : Calls Tryd.prog 13 #[.int .i64 a, .int .i64 p] w (Gets w (.int .i64 x)) := by
  subst h
  exact (mod_any a p w).mono fun e w' ⟨h1, h2⟩ => ⟨h1, by rw [h2]; exact Below.refl _ _⟩
theorem refmod_is (a p x : Int) (h : modI a p = x) (w : World) : Calls Tryd.prog 14 #[.int .i64 a, .int .i64 p] w (Gets w (.int .i64 x)) := by
  subst h
  exact (refmod_any a p w).mono fun e w' ⟨h1, h2⟩ => ⟨h1, by rw [h2]; exact Below.refl _ _⟩
theorem pow_is (a n p x : Int) (hn : n ≤ 9223372036854775807) (h : powI a n p = x) (w : World) : Calls Tryd.prog 15 #[.int .i64 a, .int .i64 n, .int .i64 p] w (Gets w (.int .i64 x)) := by
  subst h
  exact pow_any a n p w hn
theorem refpow_is (a n p x : Int) (hn : n ≤ 9223372036854775807) (h : powI a n p = x) (w : World) : Calls Tryd.prog 16 #[.int .i64 a, .int .i64 n, .int .i64 p] w (Gets w (.int .i64 x)) := by
  subst h
  exact refpow_any a n p w hn

set_option maxHeartbeats 8000000 in
set_option maxRecDepth 100000 in
theorem fixed_any (w : World) (hM : Met w) : Calls Tryd.prog 10 #[] w (Truly w) := by
  have HM0 := Lib.hid hM
  clear hM
  unfold Truly
  go_enter Tryd.func10, Tryd.ntmps10
  go_wp2_with fail
  refine (inv_is 3 7 5 true (by decide +kernel) (by decide +kernel) _ HM0.out).mono ?_
  rintro e w1 ⟨rfl, hb1⟩
  have HB1 := Lib.hid hb1
  have HM1 := Lib.hid (HM0.out.up hb1)
  clear hb1 HM0
  go_wp2_with fail
  refine (inv_is 7 7 0 false (by decide +kernel) (by decide +kernel) _ HM1.out).mono ?_
  rintro e w2 ⟨rfl, hb2⟩
  have HB2 := Lib.hid (below_next HB1.out (Nat.le_refl _) hb2)
  have HM2 := Lib.hid (HM1.out.up hb2)
  clear hb2 HM1 HB1
  go_wp2_with fail
  refine (inv_is 3 8 0 false (by decide +kernel) (by decide +kernel) _ HM2.out).mono ?_
  rintro e w3 ⟨rfl, hb3⟩
  have HB3 := Lib.hid (below_next HB2.out (Nat.le_refl _) hb3)
  have HM3 := Lib.hid (HM2.out.up hb3)
  clear hb3 HM2 HB2
  go_wp2_with fail
  refine (prime_is 2 true (by decide +kernel) _ HM3.out).mono ?_
  rintro e w4 ⟨rfl, hb4⟩
  have HB4 := Lib.hid (below_next HB3.out (Nat.le_refl _) hb4)
  have HM4 := Lib.hid (HM3.out.up hb4)
  clear hb4 HM3 HB3
  go_wp2_with fail
  refine (prime_is 2147483647 true (by decide +kernel) _ HM4.out).mono ?_
  rintro e w5 ⟨rfl, hb5⟩
  have HB5 := Lib.hid (below_next HB4.out (Nat.le_refl _) hb5)
  have HM5 := Lib.hid (HM4.out.up hb5)
  clear hb5 HM4 HB4
  go_wp2_with fail
  refine (prime_is 1 false (by decide +kernel) _ HM5.out).mono ?_
  rintro e w6 ⟨rfl, hb6⟩
  have HB6 := Lib.hid (below_next HB5.out (Nat.le_refl _) hb6)
  have HM6 := Lib.hid (HM5.out.up hb6)
  clear hb6 HM5 HB5
  go_wp2_with fail
  refine (prime_is 49 false (by decide +kernel) _ HM6.out).mono ?_
  rintro e w7 ⟨rfl, hb7⟩
  have HB7 := Lib.hid (below_next HB6.out (Nat.le_refl _) hb7)
  have HM7 := Lib.hid (HM6.out.up hb7)
  clear hb7 HM6 HB6
  go_wp2_with fail
  refine (prime_is 25326001 false (by decide +kernel) _ HM7.out).mono ?_
  rintro e w8 ⟨rfl, hb8⟩
  have HB8 := Lib.hid (below_next HB7.out (Nat.le_refl _) hb8)
  have HM8 := Lib.hid (HM7.out.up hb8)
  clear hb8 HM7 HB7
  go_wp2_with fail
  refine (mod_is (-1) 7 6 (by decide +kernel) _).mono ?_
  rintro e w9 ⟨rfl, hb9⟩
  have HB9 := Lib.hid (below_next HB8.out (Nat.le_refl _) hb9)
  have HM9 := Lib.hid (HM8.out.up hb9)
  clear hb9 HM8 HB8
  go_wp2_with fail
  refine (pow_is 2 10 1000 24 (by decide) (by decide +kernel) _).mono ?_
  rintro e w10 ⟨rfl, hb10⟩
  have HB10 := Lib.hid (below_next HB9.out (Nat.le_refl _) hb10)
  have HM10 := Lib.hid (HM9.out.up hb10)
  clear hb10 HM9 HB9
  go_wp2_with fail
  refine (pow_is 5 0 1 0 (by decide) (by decide +kernel) _).mono ?_
  rintro e w11 ⟨rfl, hb11⟩
  have HB11 := Lib.hid (below_next HB10.out (Nat.le_refl _) hb11)
  have HM11 := Lib.hid (HM10.out.up hb11)
  clear hb11 HM10 HB10
  go_wp2_with fail
  refine (mod_is 5 0 0 (by decide +kernel) _).mono ?_
  rintro e w12 ⟨rfl, hb12⟩
  have HB12 := Lib.hid (below_next HB11.out (Nat.le_refl _) hb12)
  have HM12 := Lib.hid (HM11.out.up hb12)
  clear hb12 HM11 HB11
  go_wp2
  go_ret
  exact ⟨rfl, HB12.out⟩

end Wp
end Go.Proofs.YtcfaomadhnbjkaaDoor
