/- The algebra of sets, walked: it answers true. -/
import Derived.Test.YtakdcmibiondoaaSLaw
namespace Go.Proofs.Ytakdcmibiondoaa
open Go.RowKit
namespace Wp

set_option maxHeartbeats 8000000 in
set_option maxRecDepth 100000 in
theorem algebra_out1 (va vb vc : Value) (a b c : List Int) (w : World) (r_a : Row w w.heap.size va a) (r_b : Row w w.heap.size vb b) (r_c : Row w w.heap.size vc c) (h : 100 < a.length ∨ 100 < b.length ∨ 100 < c.length) : Calls Try.prog 4 #[va, vb, vc] w (Truly w) := by
  have q_a := r_a
  have q_b := r_b
  have q_c := r_c
  obtain ⟨A1, c1, rfl, _⟩ := q_a
  obtain ⟨A2, c2, rfl, _⟩ := q_b
  obtain ⟨A3, c3, rfl, _⟩ := q_c
  by_cases h1 : 100 < a.length
  · have hc : (100 : Int) < (a.length : Int) := by omega
    clear h h1
    go_enter Try.func4, Try.ntmps4
    go_wp2_with fail
    refine (fixed_any w).mono ?_
    rintro e w1 ⟨rfl, hb1⟩
    have hB1 : Below w.heap.size w w1 := below_next (Below.refl _ _) (Nat.le_refl _) hb1
    have r_a' := r_a.up hb1
    clear r_a
    have r_a := r_a'
    clear r_a'
    have r_b' := r_b.up hb1
    clear r_b
    have r_b := r_b'
    clear r_b'
    have r_c' := r_c.up hb1
    clear r_c
    have r_c := r_c'
    clear r_c'
    clear hb1
    go_wp2_with fail
    refine (fixed_any w1).mono ?_
    rintro e w2 ⟨rfl, hb2⟩
    have hB2 : Below w.heap.size w w2 := below_next hB1 (Nat.le_refl _) hb2
    go_wp2
    go_ret
    exact ⟨rfl, hB2⟩
  · have h1' : (a.length : Int) ≤ 100 := by omega
    by_cases h2 : 100 < b.length
    · have hc : (100 : Int) < (b.length : Int) := by omega
      clear h h1 h2
      go_enter Try.func4, Try.ntmps4
      go_wp2_with fail
      refine (fixed_any w).mono ?_
      rintro e w1 ⟨rfl, hb1⟩
      have hB1 : Below w.heap.size w w1 := below_next (Below.refl _ _) (Nat.le_refl _) hb1
      have r_a' := r_a.up hb1
      clear r_a
      have r_a := r_a'
      clear r_a'
      have r_b' := r_b.up hb1
      clear r_b
      have r_b := r_b'
      clear r_b'
      have r_c' := r_c.up hb1
      clear r_c
      have r_c := r_c'
      clear r_c'
      clear hb1
      go_wp2_with fail
      refine (fixed_any w1).mono ?_
      rintro e w2 ⟨rfl, hb2⟩
      have hB2 : Below w.heap.size w w2 := below_next hB1 (Nat.le_refl _) hb2
      go_wp2
      go_ret
      exact ⟨rfl, hB2⟩
    · have h2' : (b.length : Int) ≤ 100 := by omega
      have hc : (100 : Int) < (c.length : Int) := by omega
      clear h h1 h2
      go_enter Try.func4, Try.ntmps4
      go_wp2_with fail
      refine (fixed_any w).mono ?_
      rintro e w1 ⟨rfl, hb1⟩
      have hB1 : Below w.heap.size w w1 := below_next (Below.refl _ _) (Nat.le_refl _) hb1
      have r_a' := r_a.up hb1
      clear r_a
      have r_a := r_a'
      clear r_a'
      have r_b' := r_b.up hb1
      clear r_b
      have r_b := r_b'
      clear r_b'
      have r_c' := r_c.up hb1
      clear r_c
      have r_c := r_c'
      clear r_c'
      clear hb1
      go_wp2_with fail
      refine (fixed_any w1).mono ?_
      rintro e w2 ⟨rfl, hb2⟩
      have hB2 : Below w.heap.size w w2 := below_next hB1 (Nat.le_refl _) hb2
      go_wp2
      go_ret
      exact ⟨rfl, hB2⟩

set_option maxHeartbeats 8000000 in
set_option maxRecDepth 100000 in
theorem algebra_out2 (va vb vc : Value) (a b c : List Int) (w : World) (r_a : Row w w.heap.size va a) (r_b : Row w w.heap.size vb b) (r_c : Row w w.heap.size vc c) (hla : a.length ≤ 100) (hlb : b.length ≤ 100) (hlc : c.length ≤ 100) (h : mayB a = false ∨ mayB b = false ∨ mayB c = false) : Calls Try.prog 4 #[va, vb, vc] w (Truly w) := by
  have q_a := r_a
  have q_b := r_b
  have q_c := r_c
  obtain ⟨A1, c1, rfl, _⟩ := q_a
  obtain ⟨A2, c2, rfl, _⟩ := q_b
  obtain ⟨A3, c3, rfl, _⟩ := q_c
  have hla' : (a.length : Int) ≤ 100 := by omega
  have hlb' : (b.length : Int) ≤ 100 := by omega
  have hlc' : (c.length : Int) ≤ 100 := by omega
  rcases hma : mayB a with _ | _
  · clear h
    have Hma := Lib.hid hma
    clear hma
    go_enter Try.func4, Try.ntmps4
    go_wp2_with fail
    refine (fixed_any w).mono ?_
    rintro e w1 ⟨rfl, hb1⟩
    have hB1 : Below w.heap.size w w1 := below_next (Below.refl _ _) (Nat.le_refl _) hb1
    have r_a' := r_a.up hb1
    clear r_a
    have r_a := r_a'
    clear r_a'
    have r_b' := r_b.up hb1
    clear r_b
    have r_b := r_b'
    clear r_b'
    have r_c' := r_c.up hb1
    clear r_c
    have r_c := r_c'
    clear r_c'
    clear hb1
    go_wp2_with fail
    refine (refmay_is _ a _ r_a (by omega) Hma.out).mono ?_
    rintro e w2 ⟨rfl, hb2⟩
    have hB2 : Below w.heap.size w w2 := below_next hB1 (Nat.le_refl _) hb2
    have r_a' := r_a.up hb2
    clear r_a
    have r_a := r_a'
    clear r_a'
    have r_b' := r_b.up hb2
    clear r_b
    have r_b := r_b'
    clear r_b'
    have r_c' := r_c.up hb2
    clear r_c
    have r_c := r_c'
    clear r_c'
    clear hb2 hB1
    go_wp2_with fail
    refine (fixed_any w2).mono ?_
    rintro e w3 ⟨rfl, hb3⟩
    have hB3 : Below w.heap.size w w3 := below_next hB2 (Nat.le_refl _) hb3
    go_wp2
    go_ret
    exact ⟨rfl, hB3⟩
  · rcases hmb : mayB b with _ | _
    · clear h
      have Hma := Lib.hid hma
      have Hmb := Lib.hid hmb
      clear hma hmb
      go_enter Try.func4, Try.ntmps4
      go_wp2_with fail
      refine (fixed_any w).mono ?_
      rintro e w1 ⟨rfl, hb1⟩
      have hB1 : Below w.heap.size w w1 := below_next (Below.refl _ _) (Nat.le_refl _) hb1
      have r_a' := r_a.up hb1
      clear r_a
      have r_a := r_a'
      clear r_a'
      have r_b' := r_b.up hb1
      clear r_b
      have r_b := r_b'
      clear r_b'
      have r_c' := r_c.up hb1
      clear r_c
      have r_c := r_c'
      clear r_c'
      clear hb1
      go_wp2_with fail
      refine (refmay_is _ a _ r_a (by omega) Hma.out).mono ?_
      rintro e w2 ⟨rfl, hb2⟩
      have hB2 : Below w.heap.size w w2 := below_next hB1 (Nat.le_refl _) hb2
      have r_a' := r_a.up hb2
      clear r_a
      have r_a := r_a'
      clear r_a'
      have r_b' := r_b.up hb2
      clear r_b
      have r_b := r_b'
      clear r_b'
      have r_c' := r_c.up hb2
      clear r_c
      have r_c := r_c'
      clear r_c'
      clear hb2 hB1
      go_wp2_with fail
      refine (refmay_is _ b _ r_b (by omega) Hmb.out).mono ?_
      rintro e w3 ⟨rfl, hb3⟩
      have hB3 : Below w.heap.size w w3 := below_next hB2 (Nat.le_refl _) hb3
      have r_a' := r_a.up hb3
      clear r_a
      have r_a := r_a'
      clear r_a'
      have r_b' := r_b.up hb3
      clear r_b
      have r_b := r_b'
      clear r_b'
      have r_c' := r_c.up hb3
      clear r_c
      have r_c := r_c'
      clear r_c'
      clear hb3 hB2
      go_wp2_with fail
      refine (fixed_any w3).mono ?_
      rintro e w4 ⟨rfl, hb4⟩
      have hB4 : Below w.heap.size w w4 := below_next hB3 (Nat.le_refl _) hb4
      go_wp2
      go_ret
      exact ⟨rfl, hB4⟩
    · have hmc : mayB c = false := by
        rcases h with h | h | h
        · rw [hma] at h; cases h
        · rw [hmb] at h; cases h
        · exact h
      clear h
      have Hma := Lib.hid hma
      have Hmb := Lib.hid hmb
      have Hmc := Lib.hid hmc
      clear hma hmb hmc
      go_enter Try.func4, Try.ntmps4
      go_wp2_with fail
      refine (fixed_any w).mono ?_
      rintro e w1 ⟨rfl, hb1⟩
      have hB1 : Below w.heap.size w w1 := below_next (Below.refl _ _) (Nat.le_refl _) hb1
      have r_a' := r_a.up hb1
      clear r_a
      have r_a := r_a'
      clear r_a'
      have r_b' := r_b.up hb1
      clear r_b
      have r_b := r_b'
      clear r_b'
      have r_c' := r_c.up hb1
      clear r_c
      have r_c := r_c'
      clear r_c'
      clear hb1
      go_wp2_with fail
      refine (refmay_is _ a _ r_a (by omega) Hma.out).mono ?_
      rintro e w2 ⟨rfl, hb2⟩
      have hB2 : Below w.heap.size w w2 := below_next hB1 (Nat.le_refl _) hb2
      have r_a' := r_a.up hb2
      clear r_a
      have r_a := r_a'
      clear r_a'
      have r_b' := r_b.up hb2
      clear r_b
      have r_b := r_b'
      clear r_b'
      have r_c' := r_c.up hb2
      clear r_c
      have r_c := r_c'
      clear r_c'
      clear hb2 hB1
      go_wp2_with fail
      refine (refmay_is _ b _ r_b (by omega) Hmb.out).mono ?_
      rintro e w3 ⟨rfl, hb3⟩
      have hB3 : Below w.heap.size w w3 := below_next hB2 (Nat.le_refl _) hb3
      have r_a' := r_a.up hb3
      clear r_a
      have r_a := r_a'
      clear r_a'
      have r_b' := r_b.up hb3
      clear r_b
      have r_b := r_b'
      clear r_b'
      have r_c' := r_c.up hb3
      clear r_c
      have r_c := r_c'
      clear r_c'
      clear hb3 hB2
      go_wp2_with fail
      refine (refmay_is _ c _ r_c (by omega) Hmc.out).mono ?_
      rintro e w4 ⟨rfl, hb4⟩
      have hB4 : Below w.heap.size w w4 := below_next hB3 (Nat.le_refl _) hb4
      have r_a' := r_a.up hb4
      clear r_a
      have r_a := r_a'
      clear r_a'
      have r_b' := r_b.up hb4
      clear r_b
      have r_b := r_b'
      clear r_b'
      have r_c' := r_c.up hb4
      clear r_c
      have r_c := r_c'
      clear r_c'
      clear hb4 hB3
      go_wp2_with fail
      refine (fixed_any w4).mono ?_
      rintro e w5 ⟨rfl, hb5⟩
      have hB5 : Below w.heap.size w w5 := below_next hB4 (Nat.le_refl _) hb5
      go_wp2
      go_ret
      exact ⟨rfl, hB5⟩

set_option maxHeartbeats 16000000 in
set_option maxRecDepth 100000 in
theorem algebra_in (va vb vc : Value) (a b c : List Int) (w : World) (r_a : Row w w.heap.size va a) (r_b : Row w w.heap.size vb b) (r_c : Row w w.heap.size vc c) (hla : a.length ≤ 100) (hlb : b.length ≤ 100) (hlc : c.length ≤ 100) (hma : mayB a = true) (hmb : mayB b = true) (hmc : mayB c = true) : Calls Try.prog 4 #[va, vb, vc] w (Truly w) := by
  have q_a := r_a
  have q_b := r_b
  have q_c := r_c
  obtain ⟨A1, c1, rfl, _⟩ := q_a
  obtain ⟨A2, c2, rfl, _⟩ := q_b
  obtain ⟨A3, c3, rfl, _⟩ := q_c
  have hla' : (a.length : Int) ≤ 100 := by omega
  have hlb' : (b.length : Int) ≤ 100 := by omega
  have hlc' : (c.length : Int) ≤ 100 := by omega
  have Sa := Lib.hid (mayB_iff.1 hma)
  have Sb := Lib.hid (mayB_iff.1 hmb)
  have Sc := Lib.hid (mayB_iff.1 hmc)
  have Hma := Lib.hid hma
  have Hmb := Lib.hid hmb
  have Hmc := Lib.hid hmc
  clear hma hmb hmc
  go_enter Try.func4, Try.ntmps4
  go_wp2_with fail
  refine (fixed_any w).mono ?_
  rintro e w1 ⟨rfl, hb1⟩
  have hB1 : Below w.heap.size w w1 := below_next (Below.refl _ _) (Nat.le_refl _) hb1
  have r_a' := r_a.up hb1
  clear r_a
  have r_a := r_a'
  clear r_a'
  have r_b' := r_b.up hb1
  clear r_b
  have r_b := r_b'
  clear r_b'
  have r_c' := r_c.up hb1
  clear r_c
  have r_c := r_c'
  clear r_c'
  clear hb1
  go_wp2_with fail
  refine (refmay_is _ a _ r_a (by omega) Hma.out).mono ?_
  rintro e w2 ⟨rfl, hb2⟩
  have hB2 : Below w.heap.size w w2 := below_next hB1 (Nat.le_refl _) hb2
  have r_a' := r_a.up hb2
  clear r_a
  have r_a := r_a'
  clear r_a'
  have r_b' := r_b.up hb2
  clear r_b
  have r_b := r_b'
  clear r_b'
  have r_c' := r_c.up hb2
  clear r_c
  have r_c := r_c'
  clear r_c'
  clear hb2 hB1
  go_wp2_with fail
  refine (refmay_is _ b _ r_b (by omega) Hmb.out).mono ?_
  rintro e w3 ⟨rfl, hb3⟩
  have hB3 : Below w.heap.size w w3 := below_next hB2 (Nat.le_refl _) hb3
  have r_a' := r_a.up hb3
  clear r_a
  have r_a := r_a'
  clear r_a'
  have r_b' := r_b.up hb3
  clear r_b
  have r_b := r_b'
  clear r_b'
  have r_c' := r_c.up hb3
  clear r_c
  have r_c := r_c'
  clear r_c'
  clear hb3 hB2
  go_wp2_with fail
  refine (refmay_is _ c _ r_c (by omega) Hmc.out).mono ?_
  rintro e w4 ⟨rfl, hb4⟩
  have hB4 : Below w.heap.size w w4 := below_next hB3 (Nat.le_refl _) hb4
  have r_a' := r_a.up hb4
  clear r_a
  have r_a := r_a'
  clear r_a'
  have r_b' := r_b.up hb4
  clear r_b
  have r_b := r_b'
  clear r_b'
  have r_c' := r_c.up hb4
  clear r_c
  have r_c := r_c'
  clear r_c'
  clear hb4 hB3
  go_wp2_with fail
  refine (union_any _ _ _ _ _ r_a r_b (by omega) (by omega)).mono ?_
  rintro e w5 ⟨v_u, rfl, r_u, hb5⟩
  have hB5 : Below w.heap.size w w5 := below_next hB4 (Nat.le_refl _) hb5
  have r_a' := r_a.up hb5
  clear r_a
  have r_a := r_a'
  clear r_a'
  have r_b' := r_b.up hb5
  clear r_b
  have r_b := r_b'
  clear r_b'
  have r_c' := r_c.up hb5
  clear r_c
  have r_c := r_c'
  clear r_c'
  clear hb5 hB4
  go_wp2_with fail
  refine (meet_any _ _ _ _ _ r_a r_b (by omega) (by omega)).mono ?_
  rintro e w6 ⟨v_m, rfl, r_m, hb6⟩
  have hB6 : Below w.heap.size w w6 := below_next hB5 (Nat.le_refl _) hb6
  have r_a' := r_a.up hb6
  clear r_a
  have r_a := r_a'
  clear r_a'
  have r_b' := r_b.up hb6
  clear r_b
  have r_b := r_b'
  clear r_b'
  have r_c' := r_c.up hb6
  clear r_c
  have r_c := r_c'
  clear r_c'
  have r_u' := r_u.up hb6
  clear r_u
  have r_u := r_u'
  clear r_u'
  clear hb6 hB5
  go_wp2_with fail
  refine (union_any _ _ _ _ _ r_b r_a (by omega) (by omega)).mono ?_
  rintro e w7 ⟨v_x, rfl, r_x, hb7⟩
  have hB7 : Below w.heap.size w w7 := below_next hB6 (Nat.le_refl _) hb7
  have r_a' := r_a.up hb7
  clear r_a
  have r_a := r_a'
  clear r_a'
  have r_b' := r_b.up hb7
  clear r_b
  have r_b := r_b'
  clear r_b'
  have r_c' := r_c.up hb7
  clear r_c
  have r_c := r_c'
  clear r_c'
  have r_u' := r_u.up hb7
  clear r_u
  have r_u := r_u'
  clear r_u'
  have r_m' := r_m.up hb7
  clear r_m
  have r_m := r_m'
  clear r_m'
  clear hb7 hB6
  go_wp2_with fail
  refine (same_is _ _ _ _ _ r_u r_x (by have := union_length a b; omega) (by have := union_length b a; omega) (same_true (alg_union_comm Sa.out Sb.out))).mono ?_
  rintro e w8 ⟨rfl, hb8⟩
  have hB8 : Below w.heap.size w w8 := below_next hB7 (Nat.le_refl _) hb8
  have r_a' := r_a.up hb8
  clear r_a
  have r_a := r_a'
  clear r_a'
  have r_b' := r_b.up hb8
  clear r_b
  have r_b := r_b'
  clear r_b'
  have r_c' := r_c.up hb8
  clear r_c
  have r_c := r_c'
  clear r_c'
  have r_u' := r_u.up hb8
  clear r_u
  have r_u := r_u'
  clear r_u'
  have r_m' := r_m.up hb8
  clear r_m
  have r_m := r_m'
  clear r_m'
  have r_x' := r_x.up hb8
  clear r_x
  have r_x := r_x'
  clear r_x'
  clear hb8 hB7
  clear r_x
  go_wp2_with fail
  refine (meet_any _ _ _ _ _ r_b r_a (by omega) (by omega)).mono ?_
  rintro e w9 ⟨v_x, rfl, r_x, hb9⟩
  have hB9 : Below w.heap.size w w9 := below_next hB8 (Nat.le_refl _) hb9
  have r_a' := r_a.up hb9
  clear r_a
  have r_a := r_a'
  clear r_a'
  have r_b' := r_b.up hb9
  clear r_b
  have r_b := r_b'
  clear r_b'
  have r_c' := r_c.up hb9
  clear r_c
  have r_c := r_c'
  clear r_c'
  have r_u' := r_u.up hb9
  clear r_u
  have r_u := r_u'
  clear r_u'
  have r_m' := r_m.up hb9
  clear r_m
  have r_m := r_m'
  clear r_m'
  clear hb9 hB8
  go_wp2_with fail
  refine (same_is _ _ _ _ _ r_m r_x (by have := meet_length a b; omega) (by have := meet_length b a; omega) (same_true (alg_meet_comm Sa.out Sb.out))).mono ?_
  rintro e w10 ⟨rfl, hb10⟩
  have hB10 : Below w.heap.size w w10 := below_next hB9 (Nat.le_refl _) hb10
  have r_a' := r_a.up hb10
  clear r_a
  have r_a := r_a'
  clear r_a'
  have r_b' := r_b.up hb10
  clear r_b
  have r_b := r_b'
  clear r_b'
  have r_c' := r_c.up hb10
  clear r_c
  have r_c := r_c'
  clear r_c'
  have r_u' := r_u.up hb10
  clear r_u
  have r_u := r_u'
  clear r_u'
  have r_m' := r_m.up hb10
  clear r_m
  have r_m := r_m'
  clear r_m'
  have r_x' := r_x.up hb10
  clear r_x
  have r_x := r_x'
  clear r_x'
  clear hb10 hB9
  clear r_x
  go_wp2_with fail
  refine (union_any _ _ _ _ _ r_u r_c (by have := union_length a b; omega) (by omega)).mono ?_
  rintro e w11 ⟨v_x, rfl, r_x, hb11⟩
  have hB11 : Below w.heap.size w w11 := below_next hB10 (Nat.le_refl _) hb11
  have r_a' := r_a.up hb11
  clear r_a
  have r_a := r_a'
  clear r_a'
  have r_b' := r_b.up hb11
  clear r_b
  have r_b := r_b'
  clear r_b'
  have r_c' := r_c.up hb11
  clear r_c
  have r_c := r_c'
  clear r_c'
  have r_u' := r_u.up hb11
  clear r_u
  have r_u := r_u'
  clear r_u'
  have r_m' := r_m.up hb11
  clear r_m
  have r_m := r_m'
  clear r_m'
  clear hb11 hB10
  go_wp2_with fail
  refine (union_any _ _ _ _ _ r_b r_c (by omega) (by omega)).mono ?_
  rintro e w12 ⟨v_y, rfl, r_y, hb12⟩
  have hB12 : Below w.heap.size w w12 := below_next hB11 (Nat.le_refl _) hb12
  have r_a' := r_a.up hb12
  clear r_a
  have r_a := r_a'
  clear r_a'
  have r_b' := r_b.up hb12
  clear r_b
  have r_b := r_b'
  clear r_b'
  have r_c' := r_c.up hb12
  clear r_c
  have r_c := r_c'
  clear r_c'
  have r_u' := r_u.up hb12
  clear r_u
  have r_u := r_u'
  clear r_u'
  have r_m' := r_m.up hb12
  clear r_m
  have r_m := r_m'
  clear r_m'
  have r_x' := r_x.up hb12
  clear r_x
  have r_x := r_x'
  clear r_x'
  clear hb12 hB11
  go_wp2_with fail
  refine (union_any _ _ _ _ _ r_a r_y (by omega) (by have := union_length b c; omega)).mono ?_
  rintro e w13 ⟨v_z, rfl, r_z, hb13⟩
  have hB13 : Below w.heap.size w w13 := below_next hB12 (Nat.le_refl _) hb13
  have r_a' := r_a.up hb13
  clear r_a
  have r_a := r_a'
  clear r_a'
  have r_b' := r_b.up hb13
  clear r_b
  have r_b := r_b'
  clear r_b'
  have r_c' := r_c.up hb13
  clear r_c
  have r_c := r_c'
  clear r_c'
  have r_u' := r_u.up hb13
  clear r_u
  have r_u := r_u'
  clear r_u'
  have r_m' := r_m.up hb13
  clear r_m
  have r_m := r_m'
  clear r_m'
  have r_x' := r_x.up hb13
  clear r_x
  have r_x := r_x'
  clear r_x'
  have r_y' := r_y.up hb13
  clear r_y
  have r_y := r_y'
  clear r_y'
  clear hb13 hB12
  go_wp2_with fail
  refine (same_is _ _ _ _ _ r_x r_z (by have := union_length a b; have := union_length (unionL a b) c; omega) (by have := union_length b c; have := union_length a (unionL b c); omega) (same_true (alg_union_assoc Sa.out Sb.out Sc.out))).mono ?_
  rintro e w14 ⟨rfl, hb14⟩
  have hB14 : Below w.heap.size w w14 := below_next hB13 (Nat.le_refl _) hb14
  have r_a' := r_a.up hb14
  clear r_a
  have r_a := r_a'
  clear r_a'
  have r_b' := r_b.up hb14
  clear r_b
  have r_b := r_b'
  clear r_b'
  have r_c' := r_c.up hb14
  clear r_c
  have r_c := r_c'
  clear r_c'
  have r_u' := r_u.up hb14
  clear r_u
  have r_u := r_u'
  clear r_u'
  have r_m' := r_m.up hb14
  clear r_m
  have r_m := r_m'
  clear r_m'
  have r_x' := r_x.up hb14
  clear r_x
  have r_x := r_x'
  clear r_x'
  have r_y' := r_y.up hb14
  clear r_y
  have r_y := r_y'
  clear r_y'
  have r_z' := r_z.up hb14
  clear r_z
  have r_z := r_z'
  clear r_z'
  clear hb14 hB13
  clear r_x
  clear r_y
  clear r_z
  go_wp2_with fail
  refine (meet_any _ _ _ _ _ r_m r_c (by have := meet_length a b; omega) (by omega)).mono ?_
  rintro e w15 ⟨v_x, rfl, r_x, hb15⟩
  have hB15 : Below w.heap.size w w15 := below_next hB14 (Nat.le_refl _) hb15
  have r_a' := r_a.up hb15
  clear r_a
  have r_a := r_a'
  clear r_a'
  have r_b' := r_b.up hb15
  clear r_b
  have r_b := r_b'
  clear r_b'
  have r_c' := r_c.up hb15
  clear r_c
  have r_c := r_c'
  clear r_c'
  have r_u' := r_u.up hb15
  clear r_u
  have r_u := r_u'
  clear r_u'
  have r_m' := r_m.up hb15
  clear r_m
  have r_m := r_m'
  clear r_m'
  clear hb15 hB14
  go_wp2_with fail
  refine (meet_any _ _ _ _ _ r_b r_c (by omega) (by omega)).mono ?_
  rintro e w16 ⟨v_y, rfl, r_y, hb16⟩
  have hB16 : Below w.heap.size w w16 := below_next hB15 (Nat.le_refl _) hb16
  have r_a' := r_a.up hb16
  clear r_a
  have r_a := r_a'
  clear r_a'
  have r_b' := r_b.up hb16
  clear r_b
  have r_b := r_b'
  clear r_b'
  have r_c' := r_c.up hb16
  clear r_c
  have r_c := r_c'
  clear r_c'
  have r_u' := r_u.up hb16
  clear r_u
  have r_u := r_u'
  clear r_u'
  have r_m' := r_m.up hb16
  clear r_m
  have r_m := r_m'
  clear r_m'
  have r_x' := r_x.up hb16
  clear r_x
  have r_x := r_x'
  clear r_x'
  clear hb16 hB15
  go_wp2_with fail
  refine (meet_any _ _ _ _ _ r_a r_y (by omega) (by have := meet_length b c; omega)).mono ?_
  rintro e w17 ⟨v_z, rfl, r_z, hb17⟩
  have hB17 : Below w.heap.size w w17 := below_next hB16 (Nat.le_refl _) hb17
  have r_a' := r_a.up hb17
  clear r_a
  have r_a := r_a'
  clear r_a'
  have r_b' := r_b.up hb17
  clear r_b
  have r_b := r_b'
  clear r_b'
  have r_c' := r_c.up hb17
  clear r_c
  have r_c := r_c'
  clear r_c'
  have r_u' := r_u.up hb17
  clear r_u
  have r_u := r_u'
  clear r_u'
  have r_m' := r_m.up hb17
  clear r_m
  have r_m := r_m'
  clear r_m'
  have r_x' := r_x.up hb17
  clear r_x
  have r_x := r_x'
  clear r_x'
  have r_y' := r_y.up hb17
  clear r_y
  have r_y := r_y'
  clear r_y'
  clear hb17 hB16
  go_wp2_with fail
  refine (same_is _ _ _ _ _ r_x r_z (by have := meet_length a b; have := meet_length (meetL a b) c; omega) (by have := meet_length b c; have := meet_length a (meetL b c); omega) (same_true (alg_meet_assoc Sa.out Sb.out Sc.out))).mono ?_
  rintro e w18 ⟨rfl, hb18⟩
  have hB18 : Below w.heap.size w w18 := below_next hB17 (Nat.le_refl _) hb18
  have r_a' := r_a.up hb18
  clear r_a
  have r_a := r_a'
  clear r_a'
  have r_b' := r_b.up hb18
  clear r_b
  have r_b := r_b'
  clear r_b'
  have r_c' := r_c.up hb18
  clear r_c
  have r_c := r_c'
  clear r_c'
  have r_u' := r_u.up hb18
  clear r_u
  have r_u := r_u'
  clear r_u'
  have r_m' := r_m.up hb18
  clear r_m
  have r_m := r_m'
  clear r_m'
  have r_x' := r_x.up hb18
  clear r_x
  have r_x := r_x'
  clear r_x'
  have r_y' := r_y.up hb18
  clear r_y
  have r_y := r_y'
  clear r_y'
  have r_z' := r_z.up hb18
  clear r_z
  have r_z := r_z'
  clear r_z'
  clear hb18 hB17
  clear r_x
  clear r_y
  clear r_z
  go_wp2_with fail
  refine (meet_any _ _ _ _ _ r_u r_c (by have := union_length a b; omega) (by omega)).mono ?_
  rintro e w19 ⟨v_x, rfl, r_x, hb19⟩
  have hB19 : Below w.heap.size w w19 := below_next hB18 (Nat.le_refl _) hb19
  have r_a' := r_a.up hb19
  clear r_a
  have r_a := r_a'
  clear r_a'
  have r_b' := r_b.up hb19
  clear r_b
  have r_b := r_b'
  clear r_b'
  have r_c' := r_c.up hb19
  clear r_c
  have r_c := r_c'
  clear r_c'
  have r_u' := r_u.up hb19
  clear r_u
  have r_u := r_u'
  clear r_u'
  have r_m' := r_m.up hb19
  clear r_m
  have r_m := r_m'
  clear r_m'
  clear hb19 hB18
  go_wp2_with fail
  refine (meet_any _ _ _ _ _ r_a r_c (by omega) (by omega)).mono ?_
  rintro e w20 ⟨v_y, rfl, r_y, hb20⟩
  have hB20 : Below w.heap.size w w20 := below_next hB19 (Nat.le_refl _) hb20
  have r_a' := r_a.up hb20
  clear r_a
  have r_a := r_a'
  clear r_a'
  have r_b' := r_b.up hb20
  clear r_b
  have r_b := r_b'
  clear r_b'
  have r_c' := r_c.up hb20
  clear r_c
  have r_c := r_c'
  clear r_c'
  have r_u' := r_u.up hb20
  clear r_u
  have r_u := r_u'
  clear r_u'
  have r_m' := r_m.up hb20
  clear r_m
  have r_m := r_m'
  clear r_m'
  have r_x' := r_x.up hb20
  clear r_x
  have r_x := r_x'
  clear r_x'
  clear hb20 hB19
  go_wp2_with fail
  refine (meet_any _ _ _ _ _ r_b r_c (by omega) (by omega)).mono ?_
  rintro e w21 ⟨v_z, rfl, r_z, hb21⟩
  have hB21 : Below w.heap.size w w21 := below_next hB20 (Nat.le_refl _) hb21
  have r_a' := r_a.up hb21
  clear r_a
  have r_a := r_a'
  clear r_a'
  have r_b' := r_b.up hb21
  clear r_b
  have r_b := r_b'
  clear r_b'
  have r_c' := r_c.up hb21
  clear r_c
  have r_c := r_c'
  clear r_c'
  have r_u' := r_u.up hb21
  clear r_u
  have r_u := r_u'
  clear r_u'
  have r_m' := r_m.up hb21
  clear r_m
  have r_m := r_m'
  clear r_m'
  have r_x' := r_x.up hb21
  clear r_x
  have r_x := r_x'
  clear r_x'
  have r_y' := r_y.up hb21
  clear r_y
  have r_y := r_y'
  clear r_y'
  clear hb21 hB20
  go_wp2_with fail
  refine (union_any _ _ _ _ _ r_y r_z (by have := meet_length a c; omega) (by have := meet_length b c; omega)).mono ?_
  rintro e w22 ⟨v_t, rfl, r_t, hb22⟩
  have hB22 : Below w.heap.size w w22 := below_next hB21 (Nat.le_refl _) hb22
  have r_a' := r_a.up hb22
  clear r_a
  have r_a := r_a'
  clear r_a'
  have r_b' := r_b.up hb22
  clear r_b
  have r_b := r_b'
  clear r_b'
  have r_c' := r_c.up hb22
  clear r_c
  have r_c := r_c'
  clear r_c'
  have r_u' := r_u.up hb22
  clear r_u
  have r_u := r_u'
  clear r_u'
  have r_m' := r_m.up hb22
  clear r_m
  have r_m := r_m'
  clear r_m'
  have r_x' := r_x.up hb22
  clear r_x
  have r_x := r_x'
  clear r_x'
  have r_y' := r_y.up hb22
  clear r_y
  have r_y := r_y'
  clear r_y'
  have r_z' := r_z.up hb22
  clear r_z
  have r_z := r_z'
  clear r_z'
  clear hb22 hB21
  go_wp2_with fail
  refine (same_is _ _ _ _ _ r_x r_t (by have := union_length a b; have := meet_length (unionL a b) c; omega) (by have := meet_length a c; have := meet_length b c; have := union_length (meetL a c) (meetL b c); omega) (same_true (alg_dist Sa.out Sb.out Sc.out))).mono ?_
  rintro e w23 ⟨rfl, hb23⟩
  have hB23 : Below w.heap.size w w23 := below_next hB22 (Nat.le_refl _) hb23
  have r_a' := r_a.up hb23
  clear r_a
  have r_a := r_a'
  clear r_a'
  have r_b' := r_b.up hb23
  clear r_b
  have r_b := r_b'
  clear r_b'
  have r_c' := r_c.up hb23
  clear r_c
  have r_c := r_c'
  clear r_c'
  have r_u' := r_u.up hb23
  clear r_u
  have r_u := r_u'
  clear r_u'
  have r_m' := r_m.up hb23
  clear r_m
  have r_m := r_m'
  clear r_m'
  have r_x' := r_x.up hb23
  clear r_x
  have r_x := r_x'
  clear r_x'
  have r_y' := r_y.up hb23
  clear r_y
  have r_y := r_y'
  clear r_y'
  have r_z' := r_z.up hb23
  clear r_z
  have r_z := r_z'
  clear r_z'
  have r_t' := r_t.up hb23
  clear r_t
  have r_t := r_t'
  clear r_t'
  clear hb23 hB22
  clear r_x
  clear r_y
  clear r_z
  clear r_t
  go_wp2_with fail
  refine (minus_any _ _ _ _ _ r_u r_c (by have := union_length a b; omega) (by omega)).mono ?_
  rintro e w24 ⟨v_x, rfl, r_x, hb24⟩
  have hB24 : Below w.heap.size w w24 := below_next hB23 (Nat.le_refl _) hb24
  have r_a' := r_a.up hb24
  clear r_a
  have r_a := r_a'
  clear r_a'
  have r_b' := r_b.up hb24
  clear r_b
  have r_b := r_b'
  clear r_b'
  have r_c' := r_c.up hb24
  clear r_c
  have r_c := r_c'
  clear r_c'
  have r_u' := r_u.up hb24
  clear r_u
  have r_u := r_u'
  clear r_u'
  have r_m' := r_m.up hb24
  clear r_m
  have r_m := r_m'
  clear r_m'
  clear hb24 hB23
  go_wp2_with fail
  refine (minus_any _ _ _ _ _ r_a r_c (by omega) (by omega)).mono ?_
  rintro e w25 ⟨v_y, rfl, r_y, hb25⟩
  have hB25 : Below w.heap.size w w25 := below_next hB24 (Nat.le_refl _) hb25
  have r_a' := r_a.up hb25
  clear r_a
  have r_a := r_a'
  clear r_a'
  have r_b' := r_b.up hb25
  clear r_b
  have r_b := r_b'
  clear r_b'
  have r_c' := r_c.up hb25
  clear r_c
  have r_c := r_c'
  clear r_c'
  have r_u' := r_u.up hb25
  clear r_u
  have r_u := r_u'
  clear r_u'
  have r_m' := r_m.up hb25
  clear r_m
  have r_m := r_m'
  clear r_m'
  have r_x' := r_x.up hb25
  clear r_x
  have r_x := r_x'
  clear r_x'
  clear hb25 hB24
  go_wp2_with fail
  refine (minus_any _ _ _ _ _ r_b r_c (by omega) (by omega)).mono ?_
  rintro e w26 ⟨v_z, rfl, r_z, hb26⟩
  have hB26 : Below w.heap.size w w26 := below_next hB25 (Nat.le_refl _) hb26
  have r_a' := r_a.up hb26
  clear r_a
  have r_a := r_a'
  clear r_a'
  have r_b' := r_b.up hb26
  clear r_b
  have r_b := r_b'
  clear r_b'
  have r_c' := r_c.up hb26
  clear r_c
  have r_c := r_c'
  clear r_c'
  have r_u' := r_u.up hb26
  clear r_u
  have r_u := r_u'
  clear r_u'
  have r_m' := r_m.up hb26
  clear r_m
  have r_m := r_m'
  clear r_m'
  have r_x' := r_x.up hb26
  clear r_x
  have r_x := r_x'
  clear r_x'
  have r_y' := r_y.up hb26
  clear r_y
  have r_y := r_y'
  clear r_y'
  clear hb26 hB25
  go_wp2_with fail
  refine (union_any _ _ _ _ _ r_y r_z (by have := minus_length a c; omega) (by have := minus_length b c; omega)).mono ?_
  rintro e w27 ⟨v_t, rfl, r_t, hb27⟩
  have hB27 : Below w.heap.size w w27 := below_next hB26 (Nat.le_refl _) hb27
  have r_a' := r_a.up hb27
  clear r_a
  have r_a := r_a'
  clear r_a'
  have r_b' := r_b.up hb27
  clear r_b
  have r_b := r_b'
  clear r_b'
  have r_c' := r_c.up hb27
  clear r_c
  have r_c := r_c'
  clear r_c'
  have r_u' := r_u.up hb27
  clear r_u
  have r_u := r_u'
  clear r_u'
  have r_m' := r_m.up hb27
  clear r_m
  have r_m := r_m'
  clear r_m'
  have r_x' := r_x.up hb27
  clear r_x
  have r_x := r_x'
  clear r_x'
  have r_y' := r_y.up hb27
  clear r_y
  have r_y := r_y'
  clear r_y'
  have r_z' := r_z.up hb27
  clear r_z
  have r_z := r_z'
  clear r_z'
  clear hb27 hB26
  go_wp2_with fail
  refine (same_is _ _ _ _ _ r_x r_t (by have := union_length a b; have := minus_length (unionL a b) c; omega) (by have := minus_length a c; have := minus_length b c; have := union_length (minusL a c) (minusL b c); omega) (same_true (alg_minus Sa.out Sb.out Sc.out))).mono ?_
  rintro e w28 ⟨rfl, hb28⟩
  have hB28 : Below w.heap.size w w28 := below_next hB27 (Nat.le_refl _) hb28
  have r_a' := r_a.up hb28
  clear r_a
  have r_a := r_a'
  clear r_a'
  have r_b' := r_b.up hb28
  clear r_b
  have r_b := r_b'
  clear r_b'
  have r_c' := r_c.up hb28
  clear r_c
  have r_c := r_c'
  clear r_c'
  have r_u' := r_u.up hb28
  clear r_u
  have r_u := r_u'
  clear r_u'
  have r_m' := r_m.up hb28
  clear r_m
  have r_m := r_m'
  clear r_m'
  have r_x' := r_x.up hb28
  clear r_x
  have r_x := r_x'
  clear r_x'
  have r_y' := r_y.up hb28
  clear r_y
  have r_y := r_y'
  clear r_y'
  have r_z' := r_z.up hb28
  clear r_z
  have r_z := r_z'
  clear r_z'
  have r_t' := r_t.up hb28
  clear r_t
  have r_t := r_t'
  clear r_t'
  clear hb28 hB27
  clear r_x
  clear r_y
  clear r_z
  clear r_t
  clear r_c
  go_wp2_with fail
  refine (minus_any _ _ _ _ _ r_a r_b (by omega) (by omega)).mono ?_
  rintro e w29 ⟨v_x, rfl, r_x, hb29⟩
  have hB29 : Below w.heap.size w w29 := below_next hB28 (Nat.le_refl _) hb29
  have r_a' := r_a.up hb29
  clear r_a
  have r_a := r_a'
  clear r_a'
  have r_b' := r_b.up hb29
  clear r_b
  have r_b := r_b'
  clear r_b'
  have r_u' := r_u.up hb29
  clear r_u
  have r_u := r_u'
  clear r_u'
  have r_m' := r_m.up hb29
  clear r_m
  have r_m := r_m'
  clear r_m'
  clear hb29 hB28
  go_wp2_with fail
  refine (union_any _ _ _ _ _ r_x r_m (by have := minus_length a b; omega) (by have := meet_length a b; omega)).mono ?_
  rintro e w30 ⟨v_y, rfl, r_y, hb30⟩
  have hB30 : Below w.heap.size w w30 := below_next hB29 (Nat.le_refl _) hb30
  have r_a' := r_a.up hb30
  clear r_a
  have r_a := r_a'
  clear r_a'
  have r_b' := r_b.up hb30
  clear r_b
  have r_b := r_b'
  clear r_b'
  have r_u' := r_u.up hb30
  clear r_u
  have r_u := r_u'
  clear r_u'
  have r_m' := r_m.up hb30
  clear r_m
  have r_m := r_m'
  clear r_m'
  have r_x' := r_x.up hb30
  clear r_x
  have r_x := r_x'
  clear r_x'
  clear hb30 hB29
  go_wp2_with fail
  refine (same_is _ _ _ _ _ r_y r_a (by have := minus_length a b; have := meet_length a b; have := union_length (minusL a b) (meetL a b); omega) (by omega) (same_true (alg_split Sa.out Sb.out))).mono ?_
  rintro e w31 ⟨rfl, hb31⟩
  have hB31 : Below w.heap.size w w31 := below_next hB30 (Nat.le_refl _) hb31
  have r_a' := r_a.up hb31
  clear r_a
  have r_a := r_a'
  clear r_a'
  have r_b' := r_b.up hb31
  clear r_b
  have r_b := r_b'
  clear r_b'
  have r_u' := r_u.up hb31
  clear r_u
  have r_u := r_u'
  clear r_u'
  have r_m' := r_m.up hb31
  clear r_m
  have r_m := r_m'
  clear r_m'
  have r_x' := r_x.up hb31
  clear r_x
  have r_x := r_x'
  clear r_x'
  have r_y' := r_y.up hb31
  clear r_y
  have r_y := r_y'
  clear r_y'
  clear hb31 hB30
  clear r_x
  clear r_y
  clear r_b
  go_wp2_with fail
  refine (sub_is _ _ _ _ _ r_m r_a (by have := meet_length a b; omega) (by omega) (alg_sub1 Sa.out Sb.out)).mono ?_
  rintro e w32 ⟨rfl, hb32⟩
  have hB32 : Below w.heap.size w w32 := below_next hB31 (Nat.le_refl _) hb32
  have r_a' := r_a.up hb32
  clear r_a
  have r_a := r_a'
  clear r_a'
  have r_u' := r_u.up hb32
  clear r_u
  have r_u := r_u'
  clear r_u'
  have r_m' := r_m.up hb32
  clear r_m
  have r_m := r_m'
  clear r_m'
  clear hb32 hB31
  go_wp2_with fail
  refine (sub_is _ _ _ _ _ r_a r_u (by omega) (by have := union_length a b; omega) (alg_sub2 Sa.out Sb.out)).mono ?_
  rintro e w33 ⟨rfl, hb33⟩
  have hB33 : Below w.heap.size w w33 := below_next hB32 (Nat.le_refl _) hb33
  have r_a' := r_a.up hb33
  clear r_a
  have r_a := r_a'
  clear r_a'
  have r_u' := r_u.up hb33
  clear r_u
  have r_u := r_u'
  clear r_u'
  have r_m' := r_m.up hb33
  clear r_m
  have r_m := r_m'
  clear r_m'
  clear hb33 hB32
  clear r_a
  have hlen := alg_len Sa.out Sb.out
  have hlu := union_length a b
  have hlm := meet_length a b
  have Hmu := Lib.hid (mayB_of (union_set a b))
  generalize unionL a b = u at *
  generalize meetL a b = m at *
  obtain ⟨Au, cu, rfl, _⟩ := id r_u
  obtain ⟨Am, cm, rfl, _⟩ := id r_m
  have hlu' : (u.length : Int) ≤ 200 := by omega
  have hlm' : (m.length : Int) ≤ 100 := by omega
  have hsum : (u.length : Int) + (m.length : Int) = (a.length : Int) + (b.length : Int) := by omega
  clear r_m
  go_wp2_with fail
  refine (may_is _ u _ r_u (by omega) Hmu.out).mono ?_
  rintro e w34 ⟨rfl, hb34⟩
  have hB34 : Below w.heap.size w w34 := below_next hB33 (Nat.le_refl _) hb34
  have r_u' := r_u.up hb34
  clear r_u
  have r_u := r_u'
  clear r_u'
  clear hb34 hB33
  go_wp2
  go_ret
  exact ⟨rfl, hB34⟩

theorem algebra_any (va vb vc : Value) (a b c : List Int) (w : World) (r_a : Row w w.heap.size va a) (r_b : Row w w.heap.size vb b) (r_c : Row w w.heap.size vc c) : Calls Try.prog 4 #[va, vb, vc] w (Truly w) := by
  by_cases h : 100 < a.length ∨ 100 < b.length ∨ 100 < c.length
  · exact algebra_out1 va vb vc a b c w r_a r_b r_c h
  · by_cases h2 : mayB a = false ∨ mayB b = false ∨ mayB c = false
    · exact algebra_out2 va vb vc a b c w r_a r_b r_c (by omega) (by omega) (by omega) h2
    · exact algebra_in va vb vc a b c w r_a r_b r_c (by omega) (by omega) (by omega) (by simpa using fun h => h2 (.inl h)) (by simpa using fun h => h2 (.inr (.inl h))) (by simpa using fun h => h2 (.inr (.inr h)))

end Wp
end Go.Proofs.Ytakdcmibiondoaa
