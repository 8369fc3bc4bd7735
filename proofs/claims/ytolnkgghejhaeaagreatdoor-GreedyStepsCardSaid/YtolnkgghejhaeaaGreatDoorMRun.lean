/- Strong witnesses below 2 to the 31: what the kernel's reckoning tells: what passes with 2, 3, 5 and 7 is a prime. Nothing of the program here. -/
import Derived.Test.YtolnkgghejhaeaaGreatDoorMRunA
import Derived.Test.YtolnkgghejhaeaaGreatDoorMRunB
import Derived.Test.YtolnkgghejhaeaaGreatDoorMRunC
import Derived.Test.YtolnkgghejhaeaaGreatDoorMRunD
namespace Go.Proofs.YtolnkgghejhaeaaGreatDoor.Wp
set_option maxRecDepth 100000

theorem chkm_all {m : Nat} (h : m < 32768) : chkm great m = true :=
  rng_spec (rng_two (rng_two (rng_two m0 m1 rfl) (rng_two m2 m3 rfl) rfl) (rng_two (rng_two m4 m5 rfl) (rng_two m6 m7 rfl) rfl) rfl) m (Nat.zero_le _) (by simpa using h)
theorem chkq_all {q : Nat} (h : q < 65536) : chkq q = true :=
  rng_spec (rng_two (rng_two (rng_two (rng_two q0 q1 rfl) (rng_two q2 q3 rfl) rfl) (rng_two (rng_two q4 q5 rfl) (rng_two q6 q7 rfl) rfl) rfl) (rng_two (rng_two (rng_two q8 q9 rfl) (rng_two q10 q11 rfl) rfl) (rng_two (rng_two q12 q13 rfl) (rng_two q14 q15 rfl) rfl) rfl) rfl) q (Nat.zero_le _) (by simpa using h)
theorem top_low : top low = true := top_of fun i hi => by
  rw [low_len] at hi
  by_cases h0 : i < 32
  · exact rng_spec top0 i (by omega) (by omega)
  by_cases h1 : i < 64
  · exact rng_spec top1 i (by omega) (by omega)
  by_cases h2 : i < 96
  · exact rng_spec top2 i (by omega) (by omega)
  by_cases h3 : i < 128
  · exact rng_spec top3 i (by omega) (by omega)
  by_cases h4 : i < 160
  · exact rng_spec top4 i (by omega) (by omega)
  · exact rng_spec top5 i (by omega) (by omega)

theorem low_mem {x : Nat} (hx : Pr x) (h1 : 11 ≤ x) (h2 : x < 1000) : ∃ l, (x, l) ∈ low := by
  have h := rng_spec low_all x (Nat.zero_le _) (by omega)
  unfold lowIn at h
  rw [show Nat.ble 11 x = true from Nat.ble_eq_true_of_le h1, cond_true, show Nat.blt x 1000 = true from Nat.ble_eq_true_of_le h2, cond_true] at h
  rcases h3 : smallDiv x with _ | _
  · rw [h3, cond_false] at h
    obtain ⟨⟨p, l⟩, hm, he⟩ := List.any_eq_true.1 h
    obtain rfl : p = x := Nat.eq_of_beq_eq_true he
    exact ⟨l, hm⟩
  · exact absurd hx (smallDiv_spec h3)

theorem ge_11 {x : Nat} (hx : Pr x) (hg : Nat.gcd x 210 = 1) : 11 ≤ x := by
  have h2 := hx.1
  rcases Nat.lt_or_ge x 11 with h | h
  · have : x = 2 ∨ x = 3 ∨ x = 4 ∨ x = 5 ∨ x = 6 ∨ x = 7 ∨ x = 8 ∨ x = 9 ∨ x = 10 := by omega
    rcases this with rfl | rfl | rfl | rfl | rfl | rfl | rfl | rfl | rfl <;> revert hg <;> decide
  · exact h

/-- **What passes below 2 to the 31 is a prime.** -/
theorem psi {n : Nat} (hn : Passes n) (hg : Nat.gcd n 210 = 1) : Pr n := by
  apply Classical.byContradiction
  intro hc
  have hn2 := hn.two
  have hlt := hn.lt
  have alone : ∀ {x : Nat}, Pr x → x ∣ n → ¬ Alone x := by
    intro x hx hd ha
    have h := ha n hlt hd (by rintro rfl; exact hc hx) (by omega) hn.sq
    rw [hn.tst] at h
    cases h
  refine top_spec hn hc top_low low_ok fun x hx hd => ?_
  have hgx := gcd_low hg hd
  have hx2 := hx.1
  by_cases h1 : x < 1000
  · exact low_mem hx (ge_11 hx hgx) h1
  · exfalso
    by_cases h2 : x < 65536
    · exact alone hx hd (chkq_alone hx (by omega) (chkq_all h2))
    · have hne : x ≠ 65536 := by
        rintro rfl
        have := hx.2 2 (by decide)
        omega
      obtain ⟨m, hm⟩ := hd
      have hm0 : 1 ≤ m := by
        rcases Nat.eq_zero_or_pos m with e | e
        · subst e; omega
        · exact e
      have hm1 : m ≠ 1 := by
        rintro rfl
        rw [Nat.mul_one] at hm
        exact hc (hm ▸ hx)
      have hgm : Nat.gcd m 210 = 1 := gcd_low hg ⟨x, by rw [hm, Nat.mul_comm]⟩
      have hm11 : 11 ≤ m := by
        obtain ⟨y, hy, hyd⟩ := has_pr (n := m) (by omega)
        have := ge_11 hy (gcd_low hgm hyd)
        have := Nat.le_of_dvd hm0 hyd
        omega
      have hml : m < 32768 := by
        rcases Nat.lt_or_ge m 32768 with h | h
        · exact h
        · have := Nat.mul_le_mul (show 65537 ≤ x by omega) h
          omega
      have hs : SQ x (m - 1) := by
        refine SQ.cofactor hx hgx hm0 ?_
        rw [← hm]
        exact hn.sq
      have hf := great_far hx (by omega) (chkm_dvd hx2 hm11 hgm hs (chkm_all hml))
      exact alone hx ⟨m, hm⟩ (alone_of hx hgx (far_ok x hf))

end Go.Proofs.YtolnkgghejhaeaaGreatDoor.Wp
