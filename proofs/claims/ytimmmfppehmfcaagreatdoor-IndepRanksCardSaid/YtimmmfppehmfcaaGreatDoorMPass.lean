/- The program's passes, walked. -/
import Derived.Test.YtimmmfppehmfcaaGreatDoorMPow
namespace Go.Proofs.YtimmmfppehmfcaaGreatDoor
open Go.RowKit
namespace Wp

theorem tz_any (x : Nat) (hx : x < 18446744073709551616) (w : World) (hM : Met w) :
    Calls Tryz.prog 116 #[.int .u64 x] w fun e w' => e = .returned (.int .i64 (Lib.ctz 64 x)) ∧ w' = w :=
  Any7.bits_TrailingZeros Tryz.tz27 x hx w fun _ => hM.tab

theorem sl_zero (n r : Nat) : sl n 0 r = false := rfl
theorem sl_last (n s : Nat) : sl n (s + 1) (n - 1) = true := by
  unfold sl
  rw [beq_eq, decide_eq_true (show n - 1 = Nat.sub n 1 from rfl)]
  rfl
theorem sl_next {n s r : Nat} (h : r ≠ n - 1) : sl n (s + 1) r = sl n s (r * r % n) := by
  rw [show sl n (s + 1) r = cond (Nat.beq r (n - 1)) true (sl n s (r * r % n)) from rfl, beq_eq, decide_eq_false h]
  rfl
theorem stB_one {n w r : Nat} (h : w ^ ((n - 1) / 2 ^ Lib.ctz 64 (n - 1)) % n = r) (h1 : r = 1) : stB n w = true := by
  unfold stB
  rw [pw_eq, beq_eq]
  rw [show w ^ Nat.div (Nat.sub n 1) (Nat.pow 2 (Lib.ctz 64 (Nat.sub n 1))) % n = 1 from h.trans h1]
  rfl
theorem stB_more {n w r : Nat} (h : w ^ ((n - 1) / 2 ^ Lib.ctz 64 (n - 1)) % n = r) (h1 : r ≠ 1) : stB n w = sl n (Lib.ctz 64 (n - 1)) r := by
  unfold stB
  rw [pw_eq, beq_eq]
  rw [show w ^ Nat.div (Nat.sub n 1) (Nat.pow 2 (Lib.ctz 64 (Nat.sub n 1))) % n = r from h, decide_eq_false h1]
  rfl

set_option maxHeartbeats 2000000 in
set_option maxRecDepth 100000 in
theorem passes_any (P W : Nat) (w : World) (hM : Met w) (h3 : 3 ≤ P) (hp2 : P ≤ 2147483647) :
    Calls Tryz.prog 101 #[.int .i64 P, .int .i64 W] w (Gets w (.bool (stB P W))) := by
  obtain ⟨s, hs⟩ : ∃ s, s = Lib.ctz 64 (P - 1) := ⟨_, rfl⟩
  have Ht := Lib.hid (tz_any (P - 1) (by omega) w hM)
  rw [← hs] at Ht
  obtain ⟨d, hd⟩ : ∃ d, d = (P - 1) / 2 ^ s := ⟨_, rfl⟩
  have hdl : d ≤ P := by rw [hd]; exact Nat.le_trans (Nat.div_le_self _ _) (by omega)
  have hdi : ((P - 1 : Nat) : Int) / 2 ^ s = (d : Int) := by
    rw [hd]
    simp
  obtain ⟨r, hr⟩ : ∃ r, r = W ^ d % P := ⟨_, rfl⟩
  have Hp := Lib.hid (fun w => pow_in W d P w (by omega) hp2 (by omega))
  have e0 : ((W : Int) % (P : Int)).toNat ^ d % P = r := by
    rw [hr, show (W : Int) % (P : Int) = ((W % P : Nat) : Int) from rfl, Int.toNat_natCast]
    exact cm_pow (cm_self W P)
  rw [e0] at Hp
  have hrp : r < P := by rw [hr]; exact Nat.mod_lt _ (by omega)
  have hone : r = 1 → stB P W = true := fun h => stB_one (r := r) (by rw [hr, hd, hs]) h
  have hmore : r ≠ 1 → stB P W = sl P s r := fun h => by rw [stB_more (r := r) (by rw [hr, hd, hs]) h, hs]
  have hs64 : s ≤ 64 := by rw [hs]; exact Nat.le_of_lt (Lib.lowest_bit 64 (P - 1) (by omega) (by omega)).2
  clear e0 hr hd hs
  generalize stB P W = b at *
  have hP1 : ((P : Int) - 1) = ((P - 1 : Nat) : Int) := by omega
  by_cases h1 : r = 1
  · have hb := hone h1
    subst hb h1
    clear hone hmore
    go_enter Tryz.func101, Tryz.ntmps101
    go_wp2_with fail
    refine Ht.out.mono ?_
    rintro e w1 ⟨rfl, rfl⟩
    go_wp2_with fail
    refine (Hp.out _).mono ?_
    rintro e w2 ⟨rfl, hb2⟩
    go_wp2
    go_ret
    exact ⟨rfl, hb2⟩
  · have hb := hmore h1
    subst hb
    clear hone hmore
    obtain ⟨b, hb⟩ : ∃ b, b = sl P s r := ⟨_, rfl⟩
    rw [← hb]
    have Hb := Lib.hid hb
    clear hb
    have h1i : ¬ (r : Int) = 1 := by omega
    go_enter Tryz.func101, Tryz.ntmps101
    go_wp2_with fail
    refine Ht.out.mono ?_
    rintro e w1 ⟨rfl, rfl⟩
    go_wp2_with fail
    refine (Hp.out _).mono ?_
    rintro e w2 ⟨rfl, hb2⟩
    have Hb2 := Lib.hid hb2
    clear hb2
    go_wp2
    go_loopw [6, 21] (fun vr vk wr => ∃ k r' : Nat, vk = .int .i64 k ∧ k ≤ s ∧ vr = .int .i64 r' ∧ r' < P ∧ b = sl P (s - k) r' ∧ wr = w2) (fun _ vk _ => s - (intOf vk).toNat)
    case atStart => exact ⟨0, r, rfl, Nat.zero_le _, rfl, hrp, Hb.out, rfl⟩
    case round =>
      obtain ⟨k, r', rfl, hk, rfl, hr', hsl, rfl⟩ := hrel
      by_cases hlt : k < s
      · obtain ⟨j, hj⟩ : ∃ j, s - k = j + 1 := ⟨s - k - 1, by omega⟩
        rw [hj] at hsl
        by_cases he : r' = P - 1
        · subst he
          rw [sl_last] at hsl
          subst hsl
          go_wp2
          go_ret
          exact ⟨rfl, Hb2.out⟩
        · rw [sl_next he] at hsl
          have hne : ¬ (r' : Int) = ((P - 1 : Nat) : Int) := by omega
          obtain ⟨r2, hr2⟩ : ∃ r2, r2 = r' * r' % P := ⟨_, rfl⟩
          have m1 := mul_tm hr' hr' hp2 hr2.symm
          rw [← hr2] at hsl
          have hlt2 : r2 < P := by rw [hr2]; exact Nat.mod_lt _ (by omega)
          have Hsl := Lib.hid hsl
          have Hj := Lib.hid hj
          clear hr2 hsl hj
          go_wp2
          go_roundw
          case rel => exact ⟨k + 1, r2, by go_num, by omega, rfl, hlt2, by rw [show s - (k + 1) = j by have := Hj.out; omega]; exact Hsl.out, trivial⟩
          case measure => simp [intOf]; omega
      · obtain rfl : k = s := by omega
        rw [Nat.sub_self, sl_zero] at hsl
        subst hsl
        go_wp2
        go_ret
        exact ⟨rfl, Hb2.out⟩

end Wp
end Go.Proofs.YtimmmfppehmfcaaGreatDoor
