/- The law on what modp tells, walked: it answers true. -/
import Derived.Test.YtcfaomadhnbjkaaDoorMFixed
namespace Go.Proofs.YtcfaomadhnbjkaaDoor
open Go.RowKit
namespace Wp

set_option maxHeartbeats 8000000 in
set_option maxRecDepth 100000 in
theorem tells_in (a n p i m q : Int) (ok b : Bool) (hn : n ≤ 9223372036854775807) (hi : invI a p = i) (hok : invB a p = ok) (hb : prB p = b) (hm : modI a p = m) (hq : powI a n p = q) (w : World) (hM : Met w) :
    Calls Tryd.prog 3 #[.int .i64 a, .int .i64 n, .int .i64 p] w (Truly w) := by
  have HM0 := Lib.hid hM
  clear hM
  unfold Truly
  go_enter Tryd.func3, Tryd.ntmps3
  go_wp2_with fail
  refine (inv_is a p i ok hi hok _ HM0.out).mono ?_
  rintro e w1 ⟨rfl, hb1⟩
  have HB1 := Lib.hid hb1
  have HM1 := Lib.hid (HM0.out.up hb1)
  clear hb1 HM0
  go_wp2_with fail
  refine (refinv_is a p i ok hi hok _).mono ?_
  rintro e w2 ⟨rfl, hb2⟩
  have HB2 := Lib.hid (below_next HB1.out (Nat.le_refl _) hb2)
  have HM2 := Lib.hid (HM1.out.up hb2)
  clear hb2 HM1 HB1
  go_wp2_with fail
  refine (fixed_any _ HM2.out).mono ?_
  rintro e w3 ⟨rfl, hb3⟩
  have HB3 := Lib.hid (below_next HB2.out (Nat.le_refl _) hb3)
  have HM3 := Lib.hid (HM2.out.up hb3)
  clear hb3 HM2 HB2
  go_wp2_with fail
  refine (prime_is p b hb _ HM3.out).mono ?_
  rintro e w4 ⟨rfl, hb4⟩
  have HB4 := Lib.hid (below_next HB3.out (Nat.le_refl _) hb4)
  have HM4 := Lib.hid (HM3.out.up hb4)
  clear hb4 HM3 HB3
  go_wp2_with fail
  refine (refprime_is p b hb _).mono ?_
  rintro e w5 ⟨rfl, hb5⟩
  have HB5 := Lib.hid (below_next HB4.out (Nat.le_refl _) hb5)
  have HM5 := Lib.hid (HM4.out.up hb5)
  clear hb5 HM4 HB4
  go_wp2_with fail
  refine (mod_is a p m hm _).mono ?_
  rintro e w6 ⟨rfl, hb6⟩
  have HB6 := Lib.hid (below_next HB5.out (Nat.le_refl _) hb6)
  have HM6 := Lib.hid (HM5.out.up hb6)
  clear hb6 HM5 HB5
  go_wp2_with fail
  refine (refmod_is a p m hm _).mono ?_
  rintro e w7 ⟨rfl, hb7⟩
  have HB7 := Lib.hid (below_next HB6.out (Nat.le_refl _) hb7)
  have HM7 := Lib.hid (HM6.out.up hb7)
  clear hb7 HM6 HB6
  go_wp2_with fail
  refine (pow_is a n p q hn hq _).mono ?_
  rintro e w8 ⟨rfl, hb8⟩
  have HB8 := Lib.hid (below_next HB7.out (Nat.le_refl _) hb8)
  have HM8 := Lib.hid (HM7.out.up hb8)
  clear hb8 HM7 HB7
  go_wp2_with fail
  refine (refpow_is a n p q hn hq _).mono ?_
  rintro e w9 ⟨rfl, hb9⟩
  have HB9 := Lib.hid (below_next HB8.out (Nat.le_refl _) hb9)
  have HM9 := Lib.hid (HM8.out.up hb9)
  clear hb9 HM8 HB8
  go_wp2
  go_ret
  exact ⟨rfl, HB9.out⟩

theorem tells_any (a n p : Int) (hn : n ≤ 9223372036854775807) (w : World) (hM : Met w) : Calls Tryd.prog 3 #[.int .i64 a, .int .i64 n, .int .i64 p] w (Truly w) :=
  tells_in a n p _ _ _ _ _ hn rfl rfl rfl rfl rfl w hM

end Wp
end Go.Proofs.YtcfaomadhnbjkaaDoor
