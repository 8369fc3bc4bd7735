/- The law on all numbers below n, walked: it answers true. -/
import Derived.Test.YtakdcmibiondoaaSLaw
namespace Go.Proofs.Ytakdcmibiondoaa
open Go.RowKit
namespace Wp

set_option maxHeartbeats 2000000 in
set_option maxRecDepth 100000 in
theorem setall_out (vs : Value) (n : Int) (s : List Int) (w : World) (r_s : Row w w.heap.size vs s) (h : n < 0 ∨ 200 < n ∨ 100 < s.length ∨ mayB s = false) : Calls Try.prog 7 #[.int .i64 n, vs] w (Truly w) := by
  have q_s := r_s
  obtain ⟨A1, c1, rfl, _⟩ := q_s
  by_cases h1 : n < 0
  · clear h
    go_enter Try.func7, Try.ntmps7
    go_wp2_with fail
    refine (fixed_any w).mono ?_
    rintro e w1 ⟨rfl, hb1⟩
    have hB1 : Below w.heap.size w w1 := below_next (Below.refl _ _) (Nat.le_refl _) hb1
    have r_s' := r_s.up hb1
    clear r_s
    have r_s := r_s'
    clear r_s'
    clear hb1
    go_wp2_with fail
    refine (fixed_any w1).mono ?_
    rintro e w2 ⟨rfl, hb2⟩
    have hB2 : Below w.heap.size w w2 := below_next hB1 (Nat.le_refl _) hb2
    go_wp2
    go_ret
    exact ⟨rfl, hB2⟩
  · have h1' : 0 ≤ n := by omega
    clear h1
    by_cases h2 : 200 < n
    · clear h
      go_enter Try.func7, Try.ntmps7
      go_wp2_with fail
      refine (fixed_any w).mono ?_
      rintro e w1 ⟨rfl, hb1⟩
      have hB1 : Below w.heap.size w w1 := below_next (Below.refl _ _) (Nat.le_refl _) hb1
      have r_s' := r_s.up hb1
      clear r_s
      have r_s := r_s'
      clear r_s'
      clear hb1
      go_wp2_with fail
      refine (fixed_any w1).mono ?_
      rintro e w2 ⟨rfl, hb2⟩
      have hB2 : Below w.heap.size w w2 := below_next hB1 (Nat.le_refl _) hb2
      go_wp2
      go_ret
      exact ⟨rfl, hB2⟩
    · have h2' : n ≤ 200 := by omega
      clear h2
      by_cases h3 : 100 < s.length
      · have hc : (100 : Int) < (s.length : Int) := by omega
        clear h h3
        go_enter Try.func7, Try.ntmps7
        go_wp2_with fail
        refine (fixed_any w).mono ?_
        rintro e w1 ⟨rfl, hb1⟩
        have hB1 : Below w.heap.size w w1 := below_next (Below.refl _ _) (Nat.le_refl _) hb1
        have r_s' := r_s.up hb1
        clear r_s
        have r_s := r_s'
        clear r_s'
        clear hb1
        go_wp2_with fail
        refine (fixed_any w1).mono ?_
        rintro e w2 ⟨rfl, hb2⟩
        have hB2 : Below w.heap.size w w2 := below_next hB1 (Nat.le_refl _) hb2
        go_wp2
        go_ret
        exact ⟨rfl, hB2⟩
      · have h3' : (s.length : Int) ≤ 100 := by omega
        have hms : mayB s = false := by
          rcases h with h | h | h | h
          · omega
          · omega
          · exact absurd h h3
          · exact h
        have Hms := Lib.hid hms
        clear h h3 hms
        go_enter Try.func7, Try.ntmps7
        go_wp2_with fail
        refine (fixed_any w).mono ?_
        rintro e w1 ⟨rfl, hb1⟩
        have hB1 : Below w.heap.size w w1 := below_next (Below.refl _ _) (Nat.le_refl _) hb1
        have r_s' := r_s.up hb1
        clear r_s
        have r_s := r_s'
        clear r_s'
        clear hb1
        go_wp2_with fail
        refine (refmay_is _ s _ r_s (by omega) Hms.out).mono ?_
        rintro e w2 ⟨rfl, hb2⟩
        have hB2 : Below w.heap.size w w2 := below_next hB1 (Nat.le_refl _) hb2
        have r_s' := r_s.up hb2
        clear r_s
        have r_s := r_s'
        clear r_s'
        clear hb2 hB1
        go_wp2_with fail
        refine (fixed_any w2).mono ?_
        rintro e w3 ⟨rfl, hb3⟩
        have hB3 : Below w.heap.size w w3 := below_next hB2 (Nat.le_refl _) hb3
        go_wp2
        go_ret
        exact ⟨rfl, hB3⟩

set_option maxHeartbeats 2000000 in
set_option maxRecDepth 100000 in
theorem setall_in (vs : Value) (n : Nat) (s : List Int) (w : World) (r_s : Row w w.heap.size vs s) (hn : n ≤ 200) (hls : s.length ≤ 100) (hms : mayB s = true) : Calls Try.prog 7 #[.int .i64 n, vs] w (Truly w) := by
  have q_s := r_s
  obtain ⟨A1, c1, rfl, _⟩ := q_s
  have hls' : (s.length : Int) ≤ 100 := by omega
  have hn' : (n : Int) ≤ 200 := by omega
  have ss := mayB_iff.1 hms
  have sa := all_set (n : Int)
  have hal := all_len hn
  have hmm := all_meet_minus sa ss
  have Hap := Lib.hid (all_apart sa ss)
  have Hjo := Lib.hid (all_join sa ss)
  have hsu := all_sub sa ss
  have Hms := Lib.hid hms
  clear hms
  go_enter Try.func7, Try.ntmps7
  go_wp2_with fail
  refine (fixed_any w).mono ?_
  rintro e w1 ⟨rfl, hb1⟩
  have hB1 : Below w.heap.size w w1 := below_next (Below.refl _ _) (Nat.le_refl _) hb1
  have r_s' := r_s.up hb1
  clear r_s
  have r_s := r_s'
  clear r_s'
  clear hb1
  go_wp2_with fail
  refine (refmay_is _ s _ r_s (by omega) Hms.out).mono ?_
  rintro e w2 ⟨rfl, hb2⟩
  have hB2 : Below w.heap.size w w2 := below_next hB1 (Nat.le_refl _) hb2
  have r_s' := r_s.up hb2
  clear r_s
  have r_s := r_s'
  clear r_s'
  clear hb2 hB1
  go_wp2_with fail
  refine (all_any (n : Int) _).mono ?_
  rintro e w3 ⟨v_a, rfl, r_a, hb3⟩
  have hB3 : Below w.heap.size w w3 := below_next hB2 (Nat.le_refl _) hb3
  have r_s' := r_s.up hb3
  clear r_s
  have r_s := r_s'
  clear r_s'
  clear hb3 hB2
  generalize allL (n : Int) = a at *
  subst hal
  go_wp2_with fail
  refine (meet_any _ _ _ _ _ r_a r_s (by omega) (by omega)).mono ?_
  rintro e w4 ⟨v_i, rfl, r_i, hb4⟩
  have hB4 : Below w.heap.size w w4 := below_next hB3 (Nat.le_refl _) hb4
  have r_s' := r_s.up hb4
  clear r_s
  have r_s := r_s'
  clear r_s'
  have r_a' := r_a.up hb4
  clear r_a
  have r_a := r_a'
  clear r_a'
  clear hb4 hB3
  go_wp2_with fail
  refine (minus_any _ _ _ _ _ r_a r_s (by omega) (by omega)).mono ?_
  rintro e w5 ⟨v_d, rfl, r_d, hb5⟩
  have hB5 : Below w.heap.size w w5 := below_next hB4 (Nat.le_refl _) hb5
  have r_s' := r_s.up hb5
  clear r_s
  have r_s := r_s'
  clear r_s'
  have r_a' := r_a.up hb5
  clear r_a
  have r_a := r_a'
  clear r_a'
  have r_i' := r_i.up hb5
  clear r_i
  have r_i := r_i'
  clear r_i'
  clear hb5 hB4
  have hli := meet_length a s
  generalize meetL a s = i at *
  generalize minusL a s = d at *
  obtain ⟨Aa, ca, rfl, _⟩ := id r_a
  obtain ⟨Ai, ci, rfl, _⟩ := id r_i
  obtain ⟨Ad, cd, rfl, _⟩ := id r_d
  have hmm' : (i.length : Int) + (d.length : Int) = (a.length : Int) := by omega
  have hil : (i.length : Int) ≤ 200 := by omega
  have hdl : (d.length : Int) ≤ 200 := by omega
  go_wp2_with fail
  refine (union_any _ _ _ _ _ r_i r_d (by omega) (by omega)).mono ?_
  rintro e w6 ⟨v_x, rfl, r_x, hb6⟩
  have hB6 : Below w.heap.size w w6 := below_next hB5 (Nat.le_refl _) hb6
  have r_s' := r_s.up hb6
  clear r_s
  have r_s := r_s'
  clear r_s'
  have r_a' := r_a.up hb6
  clear r_a
  have r_a := r_a'
  clear r_a'
  have r_i' := r_i.up hb6
  clear r_i
  have r_i := r_i'
  clear r_i'
  have r_d' := r_d.up hb6
  clear r_d
  have r_d := r_d'
  clear r_d'
  clear hb6 hB5
  go_wp2_with fail
  refine (same_is _ _ _ _ _ r_x r_a (by have := union_length i d; omega) (by omega) (same_true Hjo.out)).mono ?_
  rintro e w7 ⟨rfl, hb7⟩
  have hB7 : Below w.heap.size w w7 := below_next hB6 (Nat.le_refl _) hb7
  have r_s' := r_s.up hb7
  clear r_s
  have r_s := r_s'
  clear r_s'
  have r_a' := r_a.up hb7
  clear r_a
  have r_a := r_a'
  clear r_a'
  have r_i' := r_i.up hb7
  clear r_i
  have r_i := r_i'
  clear r_i'
  have r_d' := r_d.up hb7
  clear r_d
  have r_d := r_d'
  clear r_d'
  have r_x' := r_x.up hb7
  clear r_x
  have r_x := r_x'
  clear r_x'
  clear hb7 hB6
  clear r_x
  go_wp2_with fail
  refine (meet_any _ _ _ _ _ r_i r_d (by omega) (by omega)).mono ?_
  rintro e w8 ⟨v_x, rfl, r_x, hb8⟩
  have hB8 : Below w.heap.size w w8 := below_next hB7 (Nat.le_refl _) hb8
  have r_s' := r_s.up hb8
  clear r_s
  have r_s := r_s'
  clear r_s'
  have r_a' := r_a.up hb8
  clear r_a
  have r_a := r_a'
  clear r_a'
  have r_i' := r_i.up hb8
  clear r_i
  have r_i := r_i'
  clear r_i'
  have r_d' := r_d.up hb8
  clear r_d
  have r_d := r_d'
  clear r_d'
  clear hb8 hB7
  clear r_d
  rw [Hap.out] at r_x
  obtain ⟨Ax, cx, rfl, _⟩ := id r_x
  clear r_x
  by_cases hdec : i.length = s.length
  ·
    have hx : subB s a = true := by rw [hsu, hdec]; simp
    have Hx := Lib.hid hx
    clear hx hsu
    have he : ((i.length : Int) == (s.length : Int)) = true := by rw [hdec]; simp
    go_wp2_with fail
    refine (sub_is _ _ s a _ r_s r_a (by omega) (by omega) Hx.out).mono ?_
    rintro e w9 ⟨rfl, hb9⟩
    have hB9 : Below w.heap.size w w9 := below_next hB8 (Nat.le_refl _) hb9
    have r_s' := r_s.up hb9
    clear r_s
    have r_s := r_s'
    clear r_s'
    have r_a' := r_a.up hb9
    clear r_a
    have r_a := r_a'
    clear r_a'
    have r_i' := r_i.up hb9
    clear r_i
    have r_i := r_i'
    clear r_i'
    clear hb9 hB8
    go_wp2
    go_ret
    exact ⟨rfl, hB9⟩
  ·
    have hx : subB s a = false := by rw [hsu]; simp [hdec]
    have Hx := Lib.hid hx
    clear hx hsu
    have he : ((i.length : Int) == (s.length : Int)) = false := by simp; omega
    go_wp2_with fail
    refine (sub_is _ _ s a _ r_s r_a (by omega) (by omega) Hx.out).mono ?_
    rintro e w9 ⟨rfl, hb9⟩
    have hB9 : Below w.heap.size w w9 := below_next hB8 (Nat.le_refl _) hb9
    have r_s' := r_s.up hb9
    clear r_s
    have r_s := r_s'
    clear r_s'
    have r_a' := r_a.up hb9
    clear r_a
    have r_a := r_a'
    clear r_a'
    have r_i' := r_i.up hb9
    clear r_i
    have r_i := r_i'
    clear r_i'
    clear hb9 hB8
    go_wp2
    go_ret
    exact ⟨rfl, hB9⟩

theorem setall_any (vs : Value) (n : Int) (s : List Int) (w : World) (r_s : Row w w.heap.size vs s) : Calls Try.prog 7 #[.int .i64 n, vs] w (Truly w) := by
  by_cases h : n < 0 ∨ 200 < n ∨ 100 < s.length ∨ mayB s = false
  · exact setall_out vs n s w r_s h
  · obtain ⟨m, rfl⟩ : ∃ m : Nat, n = (m : Int) := ⟨n.toNat, by omega⟩
    exact setall_in vs m s w r_s (by omega) (by omega) (by simpa using fun e => h (.inr (.inr (.inr e))))

end Wp
end Go.Proofs.Ytakdcmibiondoaa
