/- The document's Mod, Pow, walked. -/
import Derived.Test.YtmnhpccdhefddaaDoorMRef
import Derived.Deep.RegionWith
namespace Go.Proofs.YtmnhpccdhefddaaDoor
open Go.RowKit
namespace Wp

theorem refmod_step {a p : Int} (h1 : 1 ≤ p) (h2 : p ≤ 2147483647) : (wrap64 (a.tmod p + p)).tmod p = a % p := by
  have hb := em_lt (a := a) h1
  by_cases h0 : a.tmod p < 0
  · rw [tm_neg h1 h0, show wrap64 (a % p) = a % p from by unfold wrap64; omega, tm_pos h1 (by rw [Int.tmod_eq_emod, if_pos (.inl hb.1), Int.emod_emod]; omega), Int.emod_emod]
  · have ht := tm_pos h1 (Int.not_lt.1 h0)
    rw [ht, show wrap64 (a % p + p) = a % p + p from by unfold wrap64; omega, tm_pos h1 (by rw [Int.tmod_eq_emod, if_pos (.inl (by omega))]; have := em_lt (a := a % p + p) h1; omega), Int.add_emod_right, Int.emod_emod]

set_option maxHeartbeats 1000000 in
set_option maxRecDepth 100000 in
theorem refmod_any (a p : Int) (w : World) : Calls Tryd.prog 36 #[.int .i64 a, .int .i64 p] w fun e w' => e = .returned (.int .i64 (modI a p)) ∧ w' = w := by
  unfold modI
  by_cases h : In31 p
  · rw [if_pos h]
    obtain ⟨h1, h2⟩ := h
    have hs := refmod_step (a := a) h1 h2
    have hn1 : ¬ p < 1 := by omega
    have hn2 : ¬ (2147483647 : Int) < p := by omega
    have hn0 : ¬ p = 0 := by omega
    go_enter Tryd.func36, Tryd.ntmps36
    go_wp2
    go_ret
    exact ⟨rfl, rfl⟩
  · rw [if_neg h]
    by_cases h1 : p < 1
    · clear h
      go_enter Tryd.func36, Tryd.ntmps36
      go_wp2
      go_ret
      exact ⟨rfl, rfl⟩
    · have h2 : 2147483647 < p := by unfold In31 at h; omega
      clear h
      go_enter Tryd.func36, Tryd.ntmps36
      go_wp2
      go_ret
      exact ⟨rfl, rfl⟩

/-- By squares, the lowest digit first: nothing changes of u * s ^ m. -/
theorem refpow_odd {u s m p : Nat} (h : m % 2 = 1) : (u * s % p) * (s * s % p) ^ (m / 2) % p = u * s ^ m % p := by
  have e : m = 2 * (m / 2) + 1 := by omega
  rw [cm_mul (cm_self (u * s) p) (cm_pow (cm_self (s * s) p))]
  congr 1
  conv => rhs; rw [e, Nat.pow_succ, Nat.pow_mul, Nat.pow_two]
  rw [Nat.mul_assoc, Nat.mul_comm s]
theorem refpow_even {u s m p : Nat} (h : m % 2 = 0) : u * (s * s % p) ^ (m / 2) % p = u * s ^ m % p := by
  have e : m = 2 * (m / 2) := by omega
  rw [cm_mul rfl (cm_pow (cm_self (s * s) p))]
  congr 1
  conv => rhs; rw [e, Nat.pow_mul, Nat.pow_two]

set_option maxHeartbeats 2000000 in
set_option maxRecDepth 100000 in
theorem refpow_in (a : Int) (n P : Nat) (w : World) (hp1 : 1 ≤ P) (hp2 : P ≤ 2147483647) (hn : n ≤ 9223372036854775807) :
    Calls Tryd.prog 42 #[.int .i64 a, .int .i64 n, .int .i64 P] w (Gets w (.int .i64 ((a % P).toNat ^ n % P : Nat))) := by
  obtain ⟨x, hx⟩ : ∃ x : Nat, a % (P : Int) = x := ⟨(a % P).toNat, by have := em_lt (a := a) (p := P) (by omega); omega⟩
  have hxp : x < P := by have := em_lt (a := a) (p := P) (by omega); omega
  rw [hx, Int.toNat_natCast]
  have Hm := Lib.hid (fun w => refmod_any a P w)
  have em : modI a (P : Int) = x := by unfold modI; rw [if_pos ⟨by omega, by omega⟩, hx]
  rw [em] at Hm
  clear hx em
  obtain ⟨r, hr⟩ : ∃ r, r = x ^ n % P := ⟨_, rfl⟩
  rw [← hr]
  obtain ⟨u0, hu0⟩ : ∃ u0, u0 = 1 % P := ⟨_, rfl⟩
  have ht0 : (1 : Int).tmod (P : Int) = (u0 : Int) := by rw [hu0]; exact tm_nat 1 P
  have hup : u0 < P := by rw [hu0]; exact Nat.mod_lt _ hp1
  have Hr := Lib.hid (show r = u0 * x ^ n % P from by
    have e := cm_mul (n := P) (cm_self 1 P) (show x ^ n % P = x ^ n % P from rfl)
    rw [Nat.one_mul] at e
    rw [hr, hu0, e])
  clear hr hu0
  have h1 : ¬ (P : Int) < 1 := by omega
  have h2 : ¬ (2147483647 : Int) < (P : Int) := by omega
  have h3 : ¬ (n : Int) < 0 := by omega
  have h4 : ¬ (P : Int) = 0 := by omega
  have h5 : ¬ P = 0 := by omega
  go_enter Tryd.func42, Tryd.ntmps42
  go_wp2_with fail
  go_region_with (go_at_call 36; refine (Hm.out _).mono ?_; rintro e w1 ⟨rfl, rfl⟩)
  all_goals (clear ht0; go_simp)
  all_goals go_wp2
  all_goals
    go_loopw [1, 7, 8] (fun vn vu vs wr => ∃ m u s : Nat, vn = .int .i64 m ∧ vu = .int .i64 u ∧ vs = .int .i64 s ∧ m ≤ n ∧ u < P ∧ s < P ∧ r = u * s ^ m % P ∧ Below w.heap.size w wr) (fun vn _ _ _ => (intOf vn).toNat)
    case atStart => exact ⟨n, u0, x, rfl, rfl, rfl, Nat.le_refl _, hup, hxp, Hr.out, (Below.refl _ _).drew⟩
    case round =>
      obtain ⟨m, u, s, rfl, rfl, rfl, hm, hu, hs, hr, hbr⟩ := hrel
      have Hbr := Lib.hid hbr
      clear hbr
      by_cases h0 : m = 0
      · subst h0
        have hru : u = r := by rw [hr, Nat.pow_zero, Nat.mul_one, Nat.mod_eq_of_lt hu]
        subst hru
        clear hr
        go_wp2
        go_ret
        exact ⟨rfl, Hbr.out⟩
      · have hm0 : 0 < (m : Int) := by omega
        have hml : m / 2 < m := Nat.div_lt_self (by omega) (by decide)
        have htm : (m : Int).tmod 2 = ((m % 2 : Nat) : Int) := tm_nat m 2
        have hdv : (m : Int).tdiv 2 = ((m / 2 : Nat) : Int) := rfl
        obtain ⟨h, hh⟩ : ∃ h, h = m / 2 := ⟨_, rfl⟩
        obtain ⟨s', hs'⟩ : ∃ s', s' = s * s % P := ⟨_, rfl⟩
        have m2 := mul_tm hs hs hp2 hs'.symm
        have hsl : s' < P := by rw [hs']; exact Nat.mod_lt _ hp1
        rcases Nat.mod_two_eq_zero_or_one m with heven | hodd
        rotate_left
        · obtain ⟨u', hu'⟩ : ∃ u', u' = u * s % P := ⟨_, rfl⟩
          have m1 := mul_tm hu hs hp2 hu'.symm
          have hul : u' < P := by rw [hu']; exact Nat.mod_lt _ hp1
          have hnext := refpow_odd (u := u) (s := s) (p := P) hodd
          rw [← hu', ← hs', ← hh] at hnext
          have Hnext := Lib.hid (hr.trans hnext.symm)
          rw [hodd, show ((1 : Nat) : Int) = 1 from rfl] at htm
          rw [← hh] at hdv hml
          clear hnext hr hu' hs' hh hodd
          go_wp2
          go_roundw
          case rel => exact ⟨h, u', s', rfl, rfl, rfl, Nat.le_trans (Nat.le_of_lt hml) hm, hul, hsl, Hnext.out, Hbr.out⟩
          case measure => simpa [intOf] using hml
        · have hnext := refpow_even (u := u) (s := s) (p := P) heven
          rw [← hs', ← hh] at hnext
          have Hnext := Lib.hid (hr.trans hnext.symm)
          rw [heven, show ((0 : Nat) : Int) = 0 from rfl] at htm
          rw [← hh] at hdv hml
          clear hnext hr hs' hh heven
          go_wp2
          go_roundw
          case rel => exact ⟨h, u, s', rfl, rfl, rfl, Nat.le_trans (Nat.le_of_lt hml) hm, hu, hsl, Hnext.out, Hbr.out⟩
          case measure => simpa [intOf] using hml

theorem refpow_no (a n p : Int) (w : World) (h : ¬ (In31 p ∧ 0 ≤ n)) : Calls Tryd.prog 42 #[.int .i64 a, .int .i64 n, .int .i64 p] w (Gets w (.int .i64 0)) := by
  by_cases h1 : p < 1
  · go_enter Tryd.func42, Tryd.ntmps42
    go_wp2
    go_ret
    exact gets_same _ _
  · by_cases h2 : 2147483647 < p
    · go_enter Tryd.func42, Tryd.ntmps42
      go_wp2
      go_ret
      exact gets_same _ _
    · have hn : n < 0 := by unfold In31 at h; omega
      clear h
      go_enter Tryd.func42, Tryd.ntmps42
      go_wp2
      go_ret
      exact gets_same _ _
theorem refpow_any (a n p : Int) (w : World) (hn : n ≤ 9223372036854775807) : Calls Tryd.prog 42 #[.int .i64 a, .int .i64 n, .int .i64 p] w (Gets w (.int .i64 (powI a n p))) := by
  unfold powI
  by_cases h : In31 p ∧ 0 ≤ n
  · rw [if_pos h]
    obtain ⟨⟨h1, h2⟩, h0⟩ := h
    obtain ⟨P, rfl⟩ : ∃ P : Nat, p = P := ⟨p.toNat, by omega⟩
    obtain ⟨N, rfl⟩ : ∃ N : Nat, n = N := ⟨n.toNat, by omega⟩
    exact refpow_in a N P w (by omega) (by omega) (by omega)
  · rw [if_neg h]
    exact refpow_no a n p w h

end Wp
end Go.Proofs.YtmnhpccdhefddaaDoor
