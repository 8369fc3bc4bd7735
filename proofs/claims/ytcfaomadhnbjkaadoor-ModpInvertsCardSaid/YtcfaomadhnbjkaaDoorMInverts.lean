/- The law on inverses, walked: it answers true. -/
import Derived.Test.YtcfaomadhnbjkaaDoorMPowers
namespace Go.Proofs.YtcfaomadhnbjkaaDoor
open Go.RowKit
namespace Wp

theorem inv_nat {P x : Nat} (hp : Pr P) (hx : ¬ P ∣ x) : x ^ (P - 2) % P * x % P = 1 := by
  have h2 := hp.1
  rw [cm_mul (cm_self (x ^ (P - 2)) P) rfl, ← Nat.pow_succ, show (P - 2).succ = P - 1 by omega]
  exact fermat hp hx
theorem not_dvd {P x : Nat} (h0 : x ≠ 0) (hx : x < P) : ¬ P ∣ x := fun hd => by
  have := Nat.le_of_dvd (by omega) hd
  omega
theorem powI_inv {a : Int} {P x : Nat} (h2 : 2 ≤ P) (hM : P ≤ 2147483647) (ha : a % (P : Int) = x) : powI a ((P : Int) - 2) P = ((x ^ (P - 2) % P : Nat) : Int) := by
  unfold powI
  rw [if_pos ⟨⟨by omega, by omega⟩, by omega⟩, ha, Int.toNat_natCast, Int.toNat_natCast, show ((P : Int) - 2).toNat = P - 2 by omega]
theorem inv_at {a : Int} {P x : Nat} (hpr : prB (P : Int) = true) (h2 : 2 ≤ P) (hM : P ≤ 2147483647) (ha : a % (P : Int) = x) (h0 : x ≠ 0) :
    invB a P = true ∧ invI a P = ((x ^ (P - 2) % P : Nat) : Int) := by
  have hm : modI a P = x := (if_pos ⟨by omega, by omega⟩ : modI a P = a % P).trans ha
  have hb := invB_yes hpr (a := a) (by rw [hm]; omega)
  exact ⟨hb, by rw [invI_yes hb, powI_inv h2 hM ha]⟩
theorem inv_none {a : Int} {P : Nat} (hpr : prB (P : Int) = true) (h2 : 2 ≤ P) (hM : P ≤ 2147483647) (ha : a % (P : Int) = 0) : invB a P = false ∧ invI a P = 0 := by
  have hm : modI a P = 0 := (if_pos ⟨by omega, by omega⟩ : modI a P = a % P).trans ha
  have hb := invB_zero hpr (a := a) hm
  exact ⟨hb, invI_no hb⟩

set_option maxHeartbeats 8000000 in
set_option maxRecDepth 100000 in
theorem inverts_no (a b p : Int) (w : World) (hM : Met w) (hpr : prB p = false) : Calls Tryd.prog 4 #[.int .i64 a, .int .i64 b, .int .i64 p] w (Truly w) := by
  have HM0 := Lib.hid hM
  clear hM
  unfold Truly
  go_enter Tryd.func4, Tryd.ntmps4
  go_wp2_with fail
  refine (fixed_any _ HM0.out).mono ?_
  rintro e w1 ⟨rfl, hb1⟩
  have HB1 := Lib.hid hb1
  have HM1 := Lib.hid (HM0.out.up hb1)
  clear hb1 HM0
  go_wp2_with fail
  refine (refprime_is p false hpr _).mono ?_
  rintro e w2 ⟨rfl, hb2⟩
  have HB2 := Lib.hid (below_next HB1.out (Nat.le_refl _) hb2)
  have HM2 := Lib.hid (HM1.out.up hb2)
  clear hb2 HM1 HB1
  go_wp2_with fail
  refine (fixed_any _ HM2.out).mono ?_
  rintro e w3 ⟨rfl, hb3⟩
  have HB3 := Lib.hid (below_next HB2.out (Nat.le_refl _) hb3)
  have HM3 := Lib.hid (HM2.out.up hb3)
  clear hb3 HM2 HB2
  go_wp2
  go_ret
  exact ⟨rfl, HB3.out⟩

set_option maxHeartbeats 8000000 in
set_option maxRecDepth 100000 in
theorem inverts_zz (a b p : Int) (w : World) (hM : Met w) (hpr : prB p = true) (hx : modI a p = 0) (hy : modI b p = 0) (hi : invI a p = 0) (hiB : invB a p = false) (hk : invI b p = 0) (hkB : invB b p = false) :
    Calls Tryd.prog 4 #[.int .i64 a, .int .i64 b, .int .i64 p] w (Truly w) := by
  have HM0 := Lib.hid hM
  clear hM
  unfold Truly
  go_enter Tryd.func4, Tryd.ntmps4
  go_wp2_with fail
  refine (fixed_any _ HM0.out).mono ?_
  rintro e w1 ⟨rfl, hb1⟩
  have HB1 := Lib.hid hb1
  have HM1 := Lib.hid (HM0.out.up hb1)
  clear hb1 HM0
  go_wp2_with fail
  refine (refprime_is p true hpr _).mono ?_
  rintro e w2 ⟨rfl, hb2⟩
  have HB2 := Lib.hid (below_next HB1.out (Nat.le_refl _) hb2)
  have HM2 := Lib.hid (HM1.out.up hb2)
  clear hb2 HM1 HB1
  go_wp2_with fail
  refine (refmod_is a p 0 hx _).mono ?_
  rintro e w3 ⟨rfl, hb3⟩
  have HB3 := Lib.hid (below_next HB2.out (Nat.le_refl _) hb3)
  have HM3 := Lib.hid (HM2.out.up hb3)
  clear hb3 HM2 HB2
  go_wp2_with fail
  refine (refmod_is b p 0 hy _).mono ?_
  rintro e w4 ⟨rfl, hb4⟩
  have HB4 := Lib.hid (below_next HB3.out (Nat.le_refl _) hb4)
  have HM4 := Lib.hid (HM3.out.up hb4)
  clear hb4 HM3 HB3
  go_wp2_with fail
  refine (inv_is a p 0 false hi hiB _ HM4.out).mono ?_
  rintro e w5 ⟨rfl, hb5⟩
  have HB5 := Lib.hid (below_next HB4.out (Nat.le_refl _) hb5)
  have HM5 := Lib.hid (HM4.out.up hb5)
  clear hb5 HM4 HB4
  go_wp2_with fail
  refine (inv_is b p 0 false hk hkB _ HM5.out).mono ?_
  rintro e w6 ⟨rfl, hb6⟩
  have HB6 := Lib.hid (below_next HB5.out (Nat.le_refl _) hb6)
  have HM6 := Lib.hid (HM5.out.up hb6)
  clear hb6 HM5 HB5
  go_wp2
  go_ret
  exact ⟨rfl, HB6.out⟩

set_option maxHeartbeats 8000000 in
set_option maxRecDepth 100000 in
theorem inverts_zy (a b p y k : Int) (w : World) (hM : Met w) (hpr : prB p = true) (hx : modI a p = 0) (hy : modI b p = y) (hi : invI a p = 0) (hiB : invB a p = false) (hk : invI b p = k) (hkB : invB b p = true) (hy2 : (y != 0) = true) :
    Calls Tryd.prog 4 #[.int .i64 a, .int .i64 b, .int .i64 p] w (Truly w) := by
  have HM0 := Lib.hid hM
  clear hM
  unfold Truly
  go_enter Tryd.func4, Tryd.ntmps4
  go_wp2_with fail
  refine (fixed_any _ HM0.out).mono ?_
  rintro e w1 ⟨rfl, hb1⟩
  have HB1 := Lib.hid hb1
  have HM1 := Lib.hid (HM0.out.up hb1)
  clear hb1 HM0
  go_wp2_with fail
  refine (refprime_is p true hpr _).mono ?_
  rintro e w2 ⟨rfl, hb2⟩
  have HB2 := Lib.hid (below_next HB1.out (Nat.le_refl _) hb2)
  have HM2 := Lib.hid (HM1.out.up hb2)
  clear hb2 HM1 HB1
  go_wp2_with fail
  refine (refmod_is a p 0 hx _).mono ?_
  rintro e w3 ⟨rfl, hb3⟩
  have HB3 := Lib.hid (below_next HB2.out (Nat.le_refl _) hb3)
  have HM3 := Lib.hid (HM2.out.up hb3)
  clear hb3 HM2 HB2
  go_wp2_with fail
  refine (refmod_is b p y hy _).mono ?_
  rintro e w4 ⟨rfl, hb4⟩
  have HB4 := Lib.hid (below_next HB3.out (Nat.le_refl _) hb4)
  have HM4 := Lib.hid (HM3.out.up hb4)
  clear hb4 HM3 HB3
  go_wp2_with fail
  refine (inv_is a p 0 false hi hiB _ HM4.out).mono ?_
  rintro e w5 ⟨rfl, hb5⟩
  have HB5 := Lib.hid (below_next HB4.out (Nat.le_refl _) hb5)
  have HM5 := Lib.hid (HM4.out.up hb5)
  clear hb5 HM4 HB4
  go_wp2_with fail
  refine (inv_is b p k true hk hkB _ HM5.out).mono ?_
  rintro e w6 ⟨rfl, hb6⟩
  have HB6 := Lib.hid (below_next HB5.out (Nat.le_refl _) hb6)
  have HM6 := Lib.hid (HM5.out.up hb6)
  clear hb6 HM5 HB5
  go_wp2
  go_ret
  exact ⟨rfl, HB6.out⟩

set_option maxHeartbeats 8000000 in
set_option maxRecDepth 100000 in
theorem inverts_xz (a b p x i : Int) (w : World) (hM : Met w) (hpr : prB p = true) (hx : modI a p = x) (hy : modI b p = 0) (hi : invI a p = i) (hiB : invB a p = true) (hk : invI b p = 0) (hkB : invB b p = false) (hx0 : (x == 0) = false) (hx2 : (x != 0) = true) :
    Calls Tryd.prog 4 #[.int .i64 a, .int .i64 b, .int .i64 p] w (Truly w) := by
  have HM0 := Lib.hid hM
  clear hM
  unfold Truly
  go_enter Tryd.func4, Tryd.ntmps4
  go_wp2_with fail
  refine (fixed_any _ HM0.out).mono ?_
  rintro e w1 ⟨rfl, hb1⟩
  have HB1 := Lib.hid hb1
  have HM1 := Lib.hid (HM0.out.up hb1)
  clear hb1 HM0
  go_wp2_with fail
  refine (refprime_is p true hpr _).mono ?_
  rintro e w2 ⟨rfl, hb2⟩
  have HB2 := Lib.hid (below_next HB1.out (Nat.le_refl _) hb2)
  have HM2 := Lib.hid (HM1.out.up hb2)
  clear hb2 HM1 HB1
  go_wp2_with fail
  refine (refmod_is a p x hx _).mono ?_
  rintro e w3 ⟨rfl, hb3⟩
  have HB3 := Lib.hid (below_next HB2.out (Nat.le_refl _) hb3)
  have HM3 := Lib.hid (HM2.out.up hb3)
  clear hb3 HM2 HB2
  go_wp2_with fail
  refine (refmod_is b p 0 hy _).mono ?_
  rintro e w4 ⟨rfl, hb4⟩
  have HB4 := Lib.hid (below_next HB3.out (Nat.le_refl _) hb4)
  have HM4 := Lib.hid (HM3.out.up hb4)
  clear hb4 HM3 HB3
  go_wp2_with fail
  refine (inv_is a p i true hi hiB _ HM4.out).mono ?_
  rintro e w5 ⟨rfl, hb5⟩
  have HB5 := Lib.hid (below_next HB4.out (Nat.le_refl _) hb5)
  have HM5 := Lib.hid (HM4.out.up hb5)
  clear hb5 HM4 HB4
  go_wp2_with fail
  refine (inv_is b p 0 false hk hkB _ HM5.out).mono ?_
  rintro e w6 ⟨rfl, hb6⟩
  have HB6 := Lib.hid (below_next HB5.out (Nat.le_refl _) hb6)
  have HM6 := Lib.hid (HM5.out.up hb6)
  clear hb6 HM5 HB5
  go_wp2
  go_ret
  exact ⟨rfl, HB6.out⟩

set_option maxHeartbeats 8000000 in
set_option maxRecDepth 100000 in
theorem inverts_xy (a b p x i y k m z : Int) (w : World) (hM : Met w) (hpr : prB p = true) (hx : modI a p = x) (hy : modI b p = y) (hi : invI a p = i) (hiB : invB a p = true) (hk : invI b p = k) (hkB : invB b p = true)
    (hx0 : (x == 0) = false) (hx2 : (x != 0) = true) (hy0 : (y == 0) = false) (hy2 : (y != 0) = true)
    (hp0 : ¬ p = 0) (exy : (wrap64 (x * y)).tmod p = m) (hz : invI m p = z) (hzB : invB m p = true) (hb : invI i p = x) (hbB : invB i p = true)
    (hi1 : 1 ≤ i) (hip : i < p) (eix : (wrap64 (i * x)).tmod p = 1) (eik : (wrap64 (i * k)).tmod p = z) :
    Calls Tryd.prog 4 #[.int .i64 a, .int .i64 b, .int .i64 p] w (Truly w) := by
  have HM0 := Lib.hid hM
  clear hM
  unfold Truly
  go_enter Tryd.func4, Tryd.ntmps4
  go_wp2_with fail
  refine (fixed_any _ HM0.out).mono ?_
  rintro e w1 ⟨rfl, hb1⟩
  have HB1 := Lib.hid hb1
  have HM1 := Lib.hid (HM0.out.up hb1)
  clear hb1 HM0
  go_wp2_with fail
  refine (refprime_is p true hpr _).mono ?_
  rintro e w2 ⟨rfl, hb2⟩
  have HB2 := Lib.hid (below_next HB1.out (Nat.le_refl _) hb2)
  have HM2 := Lib.hid (HM1.out.up hb2)
  clear hb2 HM1 HB1
  go_wp2_with fail
  refine (refmod_is a p x hx _).mono ?_
  rintro e w3 ⟨rfl, hb3⟩
  have HB3 := Lib.hid (below_next HB2.out (Nat.le_refl _) hb3)
  have HM3 := Lib.hid (HM2.out.up hb3)
  clear hb3 HM2 HB2
  go_wp2_with fail
  refine (refmod_is b p y hy _).mono ?_
  rintro e w4 ⟨rfl, hb4⟩
  have HB4 := Lib.hid (below_next HB3.out (Nat.le_refl _) hb4)
  have HM4 := Lib.hid (HM3.out.up hb4)
  clear hb4 HM3 HB3
  go_wp2_with fail
  refine (inv_is a p i true hi hiB _ HM4.out).mono ?_
  rintro e w5 ⟨rfl, hb5⟩
  have HB5 := Lib.hid (below_next HB4.out (Nat.le_refl _) hb5)
  have HM5 := Lib.hid (HM4.out.up hb5)
  clear hb5 HM4 HB4
  go_wp2_with fail
  refine (inv_is b p k true hk hkB _ HM5.out).mono ?_
  rintro e w6 ⟨rfl, hb6⟩
  have HB6 := Lib.hid (below_next HB5.out (Nat.le_refl _) hb6)
  have HM6 := Lib.hid (HM5.out.up hb6)
  clear hb6 HM5 HB5
  go_wp2_with fail
  refine (inv_is m p z true hz hzB _ HM6.out).mono ?_
  rintro e w7 ⟨rfl, hb7⟩
  have HB7 := Lib.hid (below_next HB6.out (Nat.le_refl _) hb7)
  have HM7 := Lib.hid (HM6.out.up hb7)
  clear hb7 HM6 HB6
  go_wp2_with fail
  refine (inv_is i p x true hb hbB _ HM7.out).mono ?_
  rintro e w8 ⟨rfl, hb8⟩
  have HB8 := Lib.hid (below_next HB7.out (Nat.le_refl _) hb8)
  have HM8 := Lib.hid (HM7.out.up hb8)
  clear hb8 HM7 HB7
  go_wp2
  go_ret
  exact ⟨rfl, HB8.out⟩

theorem inverts_any (a b p : Int) (w : World) (hM : Met w) : Calls Tryd.prog 4 #[.int .i64 a, .int .i64 b, .int .i64 p] w (Truly w) := by
  rcases hpr : prB p with _ | _
  · exact inverts_no a b p w hM hpr
  obtain ⟨h2, hMx, hp⟩ := prB_iff.1 hpr
  obtain ⟨P, rfl⟩ : ∃ P : Nat, p = P := ⟨p.toNat, by omega⟩
  rw [Int.toNat_natCast] at hp
  have h2' : 2 ≤ P := by omega
  have hM' : P ≤ 2147483647 := by omega
  have hP0 : 0 < P := by omega
  have hin : In31 (P : Int) := ⟨by omega, hMx⟩
  have e : ∀ z, modI z P = z % P := fun z => if_pos hin
  have ha := em_lt (a := a) hin.1
  have hb := em_lt (a := b) hin.1
  obtain ⟨x, hx⟩ : ∃ x : Nat, a % (P : Int) = x := ⟨(a % P).toNat, by omega⟩
  obtain ⟨y, hy⟩ : ∃ y : Nat, b % (P : Int) = y := ⟨(b % P).toNat, by omega⟩
  have hxP : x < P := by omega
  have hyP : y < P := by omega
  have ne : ∀ {z : Nat}, z ≠ 0 → (((z : Int) == 0) = false ∧ ((z : Int) != 0) = true) := fun {z} h => by
    have : ¬ (z : Int) = 0 := by omega
    exact ⟨by simpa using this, by simpa using this⟩
  by_cases hx0 : x = 0
  · subst hx0
    obtain ⟨i1, i2⟩ := inv_none hpr h2' hM' hx
    by_cases hy0 : y = 0
    · subst hy0
      obtain ⟨k1, k2⟩ := inv_none hpr h2' hM' hy
      exact inverts_zz a b P w hM hpr ((e a).trans hx) ((e b).trans hy) i2 i1 k2 k1
    · obtain ⟨k1, k2⟩ := inv_at hpr h2' hM' hy hy0
      obtain ⟨_, n3⟩ := ne hy0
      exact inverts_zy a b P _ _ w hM hpr ((e a).trans hx) ((e b).trans hy) i2 i1 k2 k1 n3
  · obtain ⟨i1, i2⟩ := inv_at hpr h2' hM' hx hx0
    obtain ⟨n1, n3⟩ := ne hx0
    by_cases hy0 : y = 0
    · subst hy0
      obtain ⟨k1, k2⟩ := inv_none hpr h2' hM' hy
      exact inverts_xz a b P _ _ w hM hpr ((e a).trans hx) ((e b).trans hy) i2 i1 k2 k1 n1 n3
    · obtain ⟨k1, k2⟩ := inv_at hpr h2' hM' hy hy0
      obtain ⟨o1, o3⟩ := ne hy0
      have dx := not_dvd hx0 hxP
      have dy := not_dvd hy0 hyP
      have eI := inv_nat hp dx
      obtain ⟨I, hI⟩ : ∃ I, I = x ^ (P - 2) % P := ⟨_, rfl⟩
      obtain ⟨K, hK⟩ : ∃ K, K = y ^ (P - 2) % P := ⟨_, rfl⟩
      have hIP : I < P := by rw [hI]; exact Nat.mod_lt _ hP0
      have hKP : K < P := by rw [hK]; exact Nat.mod_lt _ hP0
      rw [← hI] at eI i2
      rw [← hK] at k2
      have hI0 : I ≠ 0 := by
        rintro rfl
        rw [Nat.zero_mul, Nat.zero_mod] at eI
        omega
      have hm0 : x * y % P ≠ 0 := fun h => by
        rcases hp.mul (Nat.dvd_of_mod_eq_zero h) with h | h
        · exact dx h
        · exact dy h
      obtain ⟨z1, z2⟩ := inv_at (a := ((x * y % P : Nat) : Int)) (x := x * y % P) hpr h2' hM' (by rw [← Int.natCast_emod, Nat.mod_mod]) hm0
      obtain ⟨b1, b2⟩ := inv_at (a := (I : Int)) (x := I) hpr h2' hM' (by rw [← Int.natCast_emod, Nat.mod_eq_of_lt hIP]) hI0
      have hz : (x * y % P) ^ (P - 2) % P = I * K % P := by
        rw [cm_pow (cm_self (x * y) P), Nat.mul_pow, hI, hK, ← Nat.mul_mod]
      have hback : I ^ (P - 2) % P = x := by
        have h1 := inv_nat hp (not_dvd hI0 hIP)
        have h3 := hp.cancel (a := I ^ (P - 2) % P) (b := x) (not_dvd hI0 hIP) (by rw [h1, Nat.mul_comm x, eI])
        rw [Nat.mod_mod, Nat.mod_eq_of_lt hxP] at h3
        exact h3
      rw [hz] at z2
      rw [hback] at b2
      exact inverts_xy a b P x I y K _ _ w hM hpr ((e a).trans hx) ((e b).trans hy) i2 i1 k2 k1 n1 n3 o1 o3 (by omega) (mul_tm hxP hyP hM' rfl) z2 z1 b2 b1 (by omega) (by omega) (mul_tm hIP hxP hM' eI) (mul_tm hIP hKP hM' rfl)

end Wp
end Go.Proofs.YtcfaomadhnbjkaaDoor
