/- The law on members, walked: it answers true. -/
import Derived.Test.YtakdcmibiondoaaSLaw
namespace Go.Proofs.Ytakdcmibiondoaa
open Go.RowKit
namespace Wp

set_option maxHeartbeats 8000000 in
set_option maxRecDepth 100000 in
theorem members_out1 (va vb : Value) (a b : List Int) (x : Int) (w : World) (r_a : Row w w.heap.size va a) (r_b : Row w w.heap.size vb b) (h : 100 < a.length ∨ 100 < b.length) : Calls Try.prog 5 #[va, vb, .int .i64 x] w (Truly w) := by
  have q_a := r_a
  have q_b := r_b
  obtain ⟨A1, c1, rfl, _⟩ := q_a
  obtain ⟨A2, c2, rfl, _⟩ := q_b
  by_cases h1 : 100 < a.length
  · have hc : (100 : Int) < (a.length : Int) := by omega
    clear h h1
    go_enter Try.func5, Try.ntmps5
    go_wp2_with fail
    refine (fixed_any w).mono ?_
    rintro e w1 ⟨rfl, hb1⟩
    have hB1 : Below w.heap.size w w1 := below_next (Below.refl _ _) (Nat.le_refl _) hb1
    have r_a' := r_a.up hb1
    clear r_a
    have r_a := r_a'
    clear r_a'
    have r_b' := r_b.up hb1
    clear r_b
    have r_b := r_b'
    clear r_b'
    clear hb1
    go_wp2_with fail
    refine (fixed_any w1).mono ?_
    rintro e w2 ⟨rfl, hb2⟩
    have hB2 : Below w.heap.size w w2 := below_next hB1 (Nat.le_refl _) hb2
    go_wp2
    go_ret
    exact ⟨rfl, hB2⟩
  · have h1' : (a.length : Int) ≤ 100 := by omega
    have hc : (100 : Int) < (b.length : Int) := by omega
    clear h h1
    go_enter Try.func5, Try.ntmps5
    go_wp2_with fail
    refine (fixed_any w).mono ?_
    rintro e w1 ⟨rfl, hb1⟩
    have hB1 : Below w.heap.size w w1 := below_next (Below.refl _ _) (Nat.le_refl _) hb1
    have r_a' := r_a.up hb1
    clear r_a
    have r_a := r_a'
    clear r_a'
    have r_b' := r_b.up hb1
    clear r_b
    have r_b := r_b'
    clear r_b'
    clear hb1
    go_wp2_with fail
    refine (fixed_any w1).mono ?_
    rintro e w2 ⟨rfl, hb2⟩
    have hB2 : Below w.heap.size w w2 := below_next hB1 (Nat.le_refl _) hb2
    go_wp2
    go_ret
    exact ⟨rfl, hB2⟩

set_option maxHeartbeats 8000000 in
set_option maxRecDepth 100000 in
theorem members_out2 (va vb : Value) (a b : List Int) (x : Int) (w : World) (r_a : Row w w.heap.size va a) (r_b : Row w w.heap.size vb b) (hla : a.length ≤ 100) (hlb : b.length ≤ 100) (h : mayB a = false ∨ mayB b = false) : Calls Try.prog 5 #[va, vb, .int .i64 x] w (Truly w) := by
  have q_a := r_a
  have q_b := r_b
  obtain ⟨A1, c1, rfl, _⟩ := q_a
  obtain ⟨A2, c2, rfl, _⟩ := q_b
  have hla' : (a.length : Int) ≤ 100 := by omega
  have hlb' : (b.length : Int) ≤ 100 := by omega
  rcases hma : mayB a with _ | _
  · clear h
    have Hma := Lib.hid hma
    clear hma
    go_enter Try.func5, Try.ntmps5
    go_wp2_with fail
    refine (fixed_any w).mono ?_
    rintro e w1 ⟨rfl, hb1⟩
    have hB1 : Below w.heap.size w w1 := below_next (Below.refl _ _) (Nat.le_refl _) hb1
    have r_a' := r_a.up hb1
    clear r_a
    have r_a := r_a'
    clear r_a'
    have r_b' := r_b.up hb1
    clear r_b
    have r_b := r_b'
    clear r_b'
    clear hb1
    go_wp2_with fail
    refine (refmay_is _ a _ r_a (by omega) Hma.out).mono ?_
    rintro e w2 ⟨rfl, hb2⟩
    have hB2 : Below w.heap.size w w2 := below_next hB1 (Nat.le_refl _) hb2
    have r_a' := r_a.up hb2
    clear r_a
    have r_a := r_a'
    clear r_a'
    have r_b' := r_b.up hb2
    clear r_b
    have r_b := r_b'
    clear r_b'
    clear hb2 hB1
    go_wp2_with fail
    refine (fixed_any w2).mono ?_
    rintro e w3 ⟨rfl, hb3⟩
    have hB3 : Below w.heap.size w w3 := below_next hB2 (Nat.le_refl _) hb3
    go_wp2
    go_ret
    exact ⟨rfl, hB3⟩
  · have hmb : mayB b = false := by
      rcases h with h | h
      · rw [hma] at h; cases h
      · exact h
    clear h
    have Hma := Lib.hid hma
    have Hmb := Lib.hid hmb
    clear hma hmb
    go_enter Try.func5, Try.ntmps5
    go_wp2_with fail
    refine (fixed_any w).mono ?_
    rintro e w1 ⟨rfl, hb1⟩
    have hB1 : Below w.heap.size w w1 := below_next (Below.refl _ _) (Nat.le_refl _) hb1
    have r_a' := r_a.up hb1
    clear r_a
    have r_a := r_a'
    clear r_a'
    have r_b' := r_b.up hb1
    clear r_b
    have r_b := r_b'
    clear r_b'
    clear hb1
    go_wp2_with fail
    refine (refmay_is _ a _ r_a (by omega) Hma.out).mono ?_
    rintro e w2 ⟨rfl, hb2⟩
    have hB2 : Below w.heap.size w w2 := below_next hB1 (Nat.le_refl _) hb2
    have r_a' := r_a.up hb2
    clear r_a
    have r_a := r_a'
    clear r_a'
    have r_b' := r_b.up hb2
    clear r_b
    have r_b := r_b'
    clear r_b'
    clear hb2 hB1
    go_wp2_with fail
    refine (refmay_is _ b _ r_b (by omega) Hmb.out).mono ?_
    rintro e w3 ⟨rfl, hb3⟩
    have hB3 : Below w.heap.size w w3 := below_next hB2 (Nat.le_refl _) hb3
    have r_a' := r_a.up hb3
    clear r_a
    have r_a := r_a'
    clear r_a'
    have r_b' := r_b.up hb3
    clear r_b
    have r_b := r_b'
    clear r_b'
    clear hb3 hB2
    go_wp2_with fail
    refine (fixed_any w3).mono ?_
    rintro e w4 ⟨rfl, hb4⟩
    have hB4 : Below w.heap.size w w4 := below_next hB3 (Nat.le_refl _) hb4
    go_wp2
    go_ret
    exact ⟨rfl, hB4⟩

set_option maxHeartbeats 8000000 in
set_option maxRecDepth 100000 in
theorem members_in (va vb : Value) (a b : List Int) (x : Int) (w : World) (r_a : Row w w.heap.size va a) (r_b : Row w w.heap.size vb b) (hla : a.length ≤ 100) (hlb : b.length ≤ 100) (hma : mayB a = true) (hmb : mayB b = true) (p q : Bool) (hp : hasB a x = p) (hq : hasB b x = q) : Calls Try.prog 5 #[va, vb, .int .i64 x] w (Truly w) := by
  have q_a := r_a
  have q_b := r_b
  obtain ⟨A1, c1, rfl, _⟩ := q_a
  obtain ⟨A2, c2, rfl, _⟩ := q_b
  have hla' : (a.length : Int) ≤ 100 := by omega
  have hlb' : (b.length : Int) ≤ 100 := by omega
  have sa := mayB_iff.1 hma
  have sb := mayB_iff.1 hmb
  have hu := has_union sa sb x
  have hm := has_meet sa sb x
  have hd := has_minus sa sb x
  have hs := sub_one sa x
  rw [hp] at hs
  rw [hp, hq] at hu hm hd
  have Hma := Lib.hid hma
  have Hmb := Lib.hid hmb
  have Hp := Lib.hid hp
  have Hq := Lib.hid hq
  have Hu := Lib.hid hu
  have Hm := Lib.hid hm
  have Hd := Lib.hid hd
  have Hs := Lib.hid hs
  clear hma hmb hp hq hu hm hd hs sa sb
  cases p <;> cases q
  ·
    go_enter Try.func5, Try.ntmps5
    go_wp2_with fail
    refine (fixed_any w).mono ?_
    rintro e w1 ⟨rfl, hb1⟩
    have hB1 : Below w.heap.size w w1 := below_next (Below.refl _ _) (Nat.le_refl _) hb1
    have r_a' := r_a.up hb1
    clear r_a
    have r_a := r_a'
    clear r_a'
    have r_b' := r_b.up hb1
    clear r_b
    have r_b := r_b'
    clear r_b'
    clear hb1
    go_wp2_with fail
    refine (refmay_is _ a _ r_a (by omega) Hma.out).mono ?_
    rintro e w2 ⟨rfl, hb2⟩
    have hB2 : Below w.heap.size w w2 := below_next hB1 (Nat.le_refl _) hb2
    have r_a' := r_a.up hb2
    clear r_a
    have r_a := r_a'
    clear r_a'
    have r_b' := r_b.up hb2
    clear r_b
    have r_b := r_b'
    clear r_b'
    clear hb2 hB1
    go_wp2_with fail
    refine (refmay_is _ b _ r_b (by omega) Hmb.out).mono ?_
    rintro e w3 ⟨rfl, hb3⟩
    have hB3 : Below w.heap.size w w3 := below_next hB2 (Nat.le_refl _) hb3
    have r_a' := r_a.up hb3
    clear r_a
    have r_a := r_a'
    clear r_a'
    have r_b' := r_b.up hb3
    clear r_b
    have r_b := r_b'
    clear r_b'
    clear hb3 hB2
    go_wp2_with fail
    refine (has_is _ a x _ r_a (by omega) Hp.out).mono ?_
    rintro e w4 ⟨rfl, hb4⟩
    have hB4 : Below w.heap.size w w4 := below_next hB3 (Nat.le_refl _) hb4
    have r_a' := r_a.up hb4
    clear r_a
    have r_a := r_a'
    clear r_a'
    have r_b' := r_b.up hb4
    clear r_b
    have r_b := r_b'
    clear r_b'
    clear hb4 hB3
    go_wp2_with fail
    refine (has_is _ b x _ r_b (by omega) Hq.out).mono ?_
    rintro e w5 ⟨rfl, hb5⟩
    have hB5 : Below w.heap.size w w5 := below_next hB4 (Nat.le_refl _) hb5
    have r_a' := r_a.up hb5
    clear r_a
    have r_a := r_a'
    clear r_a'
    have r_b' := r_b.up hb5
    clear r_b
    have r_b := r_b'
    clear r_b'
    clear hb5 hB4
    go_wp2_with fail
    refine (union_any _ _ _ _ _ r_a r_b (by omega) (by omega)).mono ?_
    rintro e w6 ⟨v_u, rfl, r_u, hb6⟩
    have hB6 : Below w.heap.size w w6 := below_next hB5 (Nat.le_refl _) hb6
    have r_a' := r_a.up hb6
    clear r_a
    have r_a := r_a'
    clear r_a'
    have r_b' := r_b.up hb6
    clear r_b
    have r_b := r_b'
    clear r_b'
    clear hb6 hB5
    go_wp2_with fail
    refine (has_is _ _ x _ r_u (by have := union_length a b; omega) Hu.out).mono ?_
    rintro e w7 ⟨rfl, hb7⟩
    have hB7 : Below w.heap.size w w7 := below_next hB6 (Nat.le_refl _) hb7
    have r_a' := r_a.up hb7
    clear r_a
    have r_a := r_a'
    clear r_a'
    have r_b' := r_b.up hb7
    clear r_b
    have r_b := r_b'
    clear r_b'
    have r_u' := r_u.up hb7
    clear r_u
    have r_u := r_u'
    clear r_u'
    clear hb7 hB6
    clear r_u
    go_wp2_with fail
    refine (meet_any _ _ _ _ _ r_a r_b (by omega) (by omega)).mono ?_
    rintro e w8 ⟨v_u, rfl, r_u, hb8⟩
    have hB8 : Below w.heap.size w w8 := below_next hB7 (Nat.le_refl _) hb8
    have r_a' := r_a.up hb8
    clear r_a
    have r_a := r_a'
    clear r_a'
    have r_b' := r_b.up hb8
    clear r_b
    have r_b := r_b'
    clear r_b'
    clear hb8 hB7
    go_wp2_with fail
    refine (has_is _ _ x _ r_u (by have := meet_length a b; omega) Hm.out).mono ?_
    rintro e w9 ⟨rfl, hb9⟩
    have hB9 : Below w.heap.size w w9 := below_next hB8 (Nat.le_refl _) hb9
    have r_a' := r_a.up hb9
    clear r_a
    have r_a := r_a'
    clear r_a'
    have r_b' := r_b.up hb9
    clear r_b
    have r_b := r_b'
    clear r_b'
    have r_u' := r_u.up hb9
    clear r_u
    have r_u := r_u'
    clear r_u'
    clear hb9 hB8
    clear r_u
    go_wp2_with fail
    refine (minus_any _ _ _ _ _ r_a r_b (by omega) (by omega)).mono ?_
    rintro e w10 ⟨v_u, rfl, r_u, hb10⟩
    have hB10 : Below w.heap.size w w10 := below_next hB9 (Nat.le_refl _) hb10
    have r_a' := r_a.up hb10
    clear r_a
    have r_a := r_a'
    clear r_a'
    have r_b' := r_b.up hb10
    clear r_b
    have r_b := r_b'
    clear r_b'
    clear hb10 hB9
    go_wp2_with fail
    refine (has_is _ _ x _ r_u (by have := minus_length a b; omega) Hd.out).mono ?_
    rintro e w11 ⟨rfl, hb11⟩
    have hB11 : Below w.heap.size w w11 := below_next hB10 (Nat.le_refl _) hb11
    have r_a' := r_a.up hb11
    clear r_a
    have r_a := r_a'
    clear r_a'
    have r_b' := r_b.up hb11
    clear r_b
    have r_b := r_b'
    clear r_b'
    have r_u' := r_u.up hb11
    clear r_u
    have r_u := r_u'
    clear r_u'
    clear hb11 hB10
    clear r_u
    clear r_b
    go_wp2_with fail
    refine (sub_is _ _ [x] a _ (Row.lit1 _ x).here (r_a.upA _) (by simp) (by omega) Hs.out).mono ?_
    rintro e w12 ⟨rfl, hb12⟩
    have hB12 : Below w.heap.size w w12 := below_next (hB11.alloc hB11.size _) (Nat.le_refl _) hb12
    have r_a' := (r_a.upA _).up hb12
    clear r_a
    have r_a := r_a'
    clear r_a'
    clear hb12 hB11
    go_wp2
    go_ret
    exact ⟨rfl, hB12⟩
  ·
    go_enter Try.func5, Try.ntmps5
    go_wp2_with fail
    refine (fixed_any w).mono ?_
    rintro e w1 ⟨rfl, hb1⟩
    have hB1 : Below w.heap.size w w1 := below_next (Below.refl _ _) (Nat.le_refl _) hb1
    have r_a' := r_a.up hb1
    clear r_a
    have r_a := r_a'
    clear r_a'
    have r_b' := r_b.up hb1
    clear r_b
    have r_b := r_b'
    clear r_b'
    clear hb1
    go_wp2_with fail
    refine (refmay_is _ a _ r_a (by omega) Hma.out).mono ?_
    rintro e w2 ⟨rfl, hb2⟩
    have hB2 : Below w.heap.size w w2 := below_next hB1 (Nat.le_refl _) hb2
    have r_a' := r_a.up hb2
    clear r_a
    have r_a := r_a'
    clear r_a'
    have r_b' := r_b.up hb2
    clear r_b
    have r_b := r_b'
    clear r_b'
    clear hb2 hB1
    go_wp2_with fail
    refine (refmay_is _ b _ r_b (by omega) Hmb.out).mono ?_
    rintro e w3 ⟨rfl, hb3⟩
    have hB3 : Below w.heap.size w w3 := below_next hB2 (Nat.le_refl _) hb3
    have r_a' := r_a.up hb3
    clear r_a
    have r_a := r_a'
    clear r_a'
    have r_b' := r_b.up hb3
    clear r_b
    have r_b := r_b'
    clear r_b'
    clear hb3 hB2
    go_wp2_with fail
    refine (has_is _ a x _ r_a (by omega) Hp.out).mono ?_
    rintro e w4 ⟨rfl, hb4⟩
    have hB4 : Below w.heap.size w w4 := below_next hB3 (Nat.le_refl _) hb4
    have r_a' := r_a.up hb4
    clear r_a
    have r_a := r_a'
    clear r_a'
    have r_b' := r_b.up hb4
    clear r_b
    have r_b := r_b'
    clear r_b'
    clear hb4 hB3
    go_wp2_with fail
    refine (has_is _ b x _ r_b (by omega) Hq.out).mono ?_
    rintro e w5 ⟨rfl, hb5⟩
    have hB5 : Below w.heap.size w w5 := below_next hB4 (Nat.le_refl _) hb5
    have r_a' := r_a.up hb5
    clear r_a
    have r_a := r_a'
    clear r_a'
    have r_b' := r_b.up hb5
    clear r_b
    have r_b := r_b'
    clear r_b'
    clear hb5 hB4
    go_wp2_with fail
    refine (union_any _ _ _ _ _ r_a r_b (by omega) (by omega)).mono ?_
    rintro e w6 ⟨v_u, rfl, r_u, hb6⟩
    have hB6 : Below w.heap.size w w6 := below_next hB5 (Nat.le_refl _) hb6
    have r_a' := r_a.up hb6
    clear r_a
    have r_a := r_a'
    clear r_a'
    have r_b' := r_b.up hb6
    clear r_b
    have r_b := r_b'
    clear r_b'
    clear hb6 hB5
    go_wp2_with fail
    refine (has_is _ _ x _ r_u (by have := union_length a b; omega) Hu.out).mono ?_
    rintro e w7 ⟨rfl, hb7⟩
    have hB7 : Below w.heap.size w w7 := below_next hB6 (Nat.le_refl _) hb7
    have r_a' := r_a.up hb7
    clear r_a
    have r_a := r_a'
    clear r_a'
    have r_b' := r_b.up hb7
    clear r_b
    have r_b := r_b'
    clear r_b'
    have r_u' := r_u.up hb7
    clear r_u
    have r_u := r_u'
    clear r_u'
    clear hb7 hB6
    clear r_u
    go_wp2_with fail
    refine (meet_any _ _ _ _ _ r_a r_b (by omega) (by omega)).mono ?_
    rintro e w8 ⟨v_u, rfl, r_u, hb8⟩
    have hB8 : Below w.heap.size w w8 := below_next hB7 (Nat.le_refl _) hb8
    have r_a' := r_a.up hb8
    clear r_a
    have r_a := r_a'
    clear r_a'
    have r_b' := r_b.up hb8
    clear r_b
    have r_b := r_b'
    clear r_b'
    clear hb8 hB7
    go_wp2_with fail
    refine (has_is _ _ x _ r_u (by have := meet_length a b; omega) Hm.out).mono ?_
    rintro e w9 ⟨rfl, hb9⟩
    have hB9 : Below w.heap.size w w9 := below_next hB8 (Nat.le_refl _) hb9
    have r_a' := r_a.up hb9
    clear r_a
    have r_a := r_a'
    clear r_a'
    have r_b' := r_b.up hb9
    clear r_b
    have r_b := r_b'
    clear r_b'
    have r_u' := r_u.up hb9
    clear r_u
    have r_u := r_u'
    clear r_u'
    clear hb9 hB8
    clear r_u
    go_wp2_with fail
    refine (minus_any _ _ _ _ _ r_a r_b (by omega) (by omega)).mono ?_
    rintro e w10 ⟨v_u, rfl, r_u, hb10⟩
    have hB10 : Below w.heap.size w w10 := below_next hB9 (Nat.le_refl _) hb10
    have r_a' := r_a.up hb10
    clear r_a
    have r_a := r_a'
    clear r_a'
    have r_b' := r_b.up hb10
    clear r_b
    have r_b := r_b'
    clear r_b'
    clear hb10 hB9
    go_wp2_with fail
    refine (has_is _ _ x _ r_u (by have := minus_length a b; omega) Hd.out).mono ?_
    rintro e w11 ⟨rfl, hb11⟩
    have hB11 : Below w.heap.size w w11 := below_next hB10 (Nat.le_refl _) hb11
    have r_a' := r_a.up hb11
    clear r_a
    have r_a := r_a'
    clear r_a'
    have r_b' := r_b.up hb11
    clear r_b
    have r_b := r_b'
    clear r_b'
    have r_u' := r_u.up hb11
    clear r_u
    have r_u := r_u'
    clear r_u'
    clear hb11 hB10
    clear r_u
    clear r_b
    go_wp2_with fail
    refine (sub_is _ _ [x] a _ (Row.lit1 _ x).here (r_a.upA _) (by simp) (by omega) Hs.out).mono ?_
    rintro e w12 ⟨rfl, hb12⟩
    have hB12 : Below w.heap.size w w12 := below_next (hB11.alloc hB11.size _) (Nat.le_refl _) hb12
    have r_a' := (r_a.upA _).up hb12
    clear r_a
    have r_a := r_a'
    clear r_a'
    clear hb12 hB11
    go_wp2
    go_ret
    exact ⟨rfl, hB12⟩
  ·
    go_enter Try.func5, Try.ntmps5
    go_wp2_with fail
    refine (fixed_any w).mono ?_
    rintro e w1 ⟨rfl, hb1⟩
    have hB1 : Below w.heap.size w w1 := below_next (Below.refl _ _) (Nat.le_refl _) hb1
    have r_a' := r_a.up hb1
    clear r_a
    have r_a := r_a'
    clear r_a'
    have r_b' := r_b.up hb1
    clear r_b
    have r_b := r_b'
    clear r_b'
    clear hb1
    go_wp2_with fail
    refine (refmay_is _ a _ r_a (by omega) Hma.out).mono ?_
    rintro e w2 ⟨rfl, hb2⟩
    have hB2 : Below w.heap.size w w2 := below_next hB1 (Nat.le_refl _) hb2
    have r_a' := r_a.up hb2
    clear r_a
    have r_a := r_a'
    clear r_a'
    have r_b' := r_b.up hb2
    clear r_b
    have r_b := r_b'
    clear r_b'
    clear hb2 hB1
    go_wp2_with fail
    refine (refmay_is _ b _ r_b (by omega) Hmb.out).mono ?_
    rintro e w3 ⟨rfl, hb3⟩
    have hB3 : Below w.heap.size w w3 := below_next hB2 (Nat.le_refl _) hb3
    have r_a' := r_a.up hb3
    clear r_a
    have r_a := r_a'
    clear r_a'
    have r_b' := r_b.up hb3
    clear r_b
    have r_b := r_b'
    clear r_b'
    clear hb3 hB2
    go_wp2_with fail
    refine (has_is _ a x _ r_a (by omega) Hp.out).mono ?_
    rintro e w4 ⟨rfl, hb4⟩
    have hB4 : Below w.heap.size w w4 := below_next hB3 (Nat.le_refl _) hb4
    have r_a' := r_a.up hb4
    clear r_a
    have r_a := r_a'
    clear r_a'
    have r_b' := r_b.up hb4
    clear r_b
    have r_b := r_b'
    clear r_b'
    clear hb4 hB3
    go_wp2_with fail
    refine (has_is _ b x _ r_b (by omega) Hq.out).mono ?_
    rintro e w5 ⟨rfl, hb5⟩
    have hB5 : Below w.heap.size w w5 := below_next hB4 (Nat.le_refl _) hb5
    have r_a' := r_a.up hb5
    clear r_a
    have r_a := r_a'
    clear r_a'
    have r_b' := r_b.up hb5
    clear r_b
    have r_b := r_b'
    clear r_b'
    clear hb5 hB4
    go_wp2_with fail
    refine (union_any _ _ _ _ _ r_a r_b (by omega) (by omega)).mono ?_
    rintro e w6 ⟨v_u, rfl, r_u, hb6⟩
    have hB6 : Below w.heap.size w w6 := below_next hB5 (Nat.le_refl _) hb6
    have r_a' := r_a.up hb6
    clear r_a
    have r_a := r_a'
    clear r_a'
    have r_b' := r_b.up hb6
    clear r_b
    have r_b := r_b'
    clear r_b'
    clear hb6 hB5
    go_wp2_with fail
    refine (has_is _ _ x _ r_u (by have := union_length a b; omega) Hu.out).mono ?_
    rintro e w7 ⟨rfl, hb7⟩
    have hB7 : Below w.heap.size w w7 := below_next hB6 (Nat.le_refl _) hb7
    have r_a' := r_a.up hb7
    clear r_a
    have r_a := r_a'
    clear r_a'
    have r_b' := r_b.up hb7
    clear r_b
    have r_b := r_b'
    clear r_b'
    have r_u' := r_u.up hb7
    clear r_u
    have r_u := r_u'
    clear r_u'
    clear hb7 hB6
    clear r_u
    go_wp2_with fail
    refine (meet_any _ _ _ _ _ r_a r_b (by omega) (by omega)).mono ?_
    rintro e w8 ⟨v_u, rfl, r_u, hb8⟩
    have hB8 : Below w.heap.size w w8 := below_next hB7 (Nat.le_refl _) hb8
    have r_a' := r_a.up hb8
    clear r_a
    have r_a := r_a'
    clear r_a'
    have r_b' := r_b.up hb8
    clear r_b
    have r_b := r_b'
    clear r_b'
    clear hb8 hB7
    go_wp2_with fail
    refine (has_is _ _ x _ r_u (by have := meet_length a b; omega) Hm.out).mono ?_
    rintro e w9 ⟨rfl, hb9⟩
    have hB9 : Below w.heap.size w w9 := below_next hB8 (Nat.le_refl _) hb9
    have r_a' := r_a.up hb9
    clear r_a
    have r_a := r_a'
    clear r_a'
    have r_b' := r_b.up hb9
    clear r_b
    have r_b := r_b'
    clear r_b'
    have r_u' := r_u.up hb9
    clear r_u
    have r_u := r_u'
    clear r_u'
    clear hb9 hB8
    clear r_u
    go_wp2_with fail
    refine (minus_any _ _ _ _ _ r_a r_b (by omega) (by omega)).mono ?_
    rintro e w10 ⟨v_u, rfl, r_u, hb10⟩
    have hB10 : Below w.heap.size w w10 := below_next hB9 (Nat.le_refl _) hb10
    have r_a' := r_a.up hb10
    clear r_a
    have r_a := r_a'
    clear r_a'
    have r_b' := r_b.up hb10
    clear r_b
    have r_b := r_b'
    clear r_b'
    clear hb10 hB9
    go_wp2_with fail
    refine (has_is _ _ x _ r_u (by have := minus_length a b; omega) Hd.out).mono ?_
    rintro e w11 ⟨rfl, hb11⟩
    have hB11 : Below w.heap.size w w11 := below_next hB10 (Nat.le_refl _) hb11
    have r_a' := r_a.up hb11
    clear r_a
    have r_a := r_a'
    clear r_a'
    have r_b' := r_b.up hb11
    clear r_b
    have r_b := r_b'
    clear r_b'
    have r_u' := r_u.up hb11
    clear r_u
    have r_u := r_u'
    clear r_u'
    clear hb11 hB10
    clear r_u
    clear r_b
    go_wp2_with fail
    refine (sub_is _ _ [x] a _ (Row.lit1 _ x).here (r_a.upA _) (by simp) (by omega) Hs.out).mono ?_
    rintro e w12 ⟨rfl, hb12⟩
    have hB12 : Below w.heap.size w w12 := below_next (hB11.alloc hB11.size _) (Nat.le_refl _) hb12
    have r_a' := (r_a.upA _).up hb12
    clear r_a
    have r_a := r_a'
    clear r_a'
    clear hb12 hB11
    go_wp2
    go_ret
    exact ⟨rfl, hB12⟩
  ·
    go_enter Try.func5, Try.ntmps5
    go_wp2_with fail
    refine (fixed_any w).mono ?_
    rintro e w1 ⟨rfl, hb1⟩
    have hB1 : Below w.heap.size w w1 := below_next (Below.refl _ _) (Nat.le_refl _) hb1
    have r_a' := r_a.up hb1
    clear r_a
    have r_a := r_a'
    clear r_a'
    have r_b' := r_b.up hb1
    clear r_b
    have r_b := r_b'
    clear r_b'
    clear hb1
    go_wp2_with fail
    refine (refmay_is _ a _ r_a (by omega) Hma.out).mono ?_
    rintro e w2 ⟨rfl, hb2⟩
    have hB2 : Below w.heap.size w w2 := below_next hB1 (Nat.le_refl _) hb2
    have r_a' := r_a.up hb2
    clear r_a
    have r_a := r_a'
    clear r_a'
    have r_b' := r_b.up hb2
    clear r_b
    have r_b := r_b'
    clear r_b'
    clear hb2 hB1
    go_wp2_with fail
    refine (refmay_is _ b _ r_b (by omega) Hmb.out).mono ?_
    rintro e w3 ⟨rfl, hb3⟩
    have hB3 : Below w.heap.size w w3 := below_next hB2 (Nat.le_refl _) hb3
    have r_a' := r_a.up hb3
    clear r_a
    have r_a := r_a'
    clear r_a'
    have r_b' := r_b.up hb3
    clear r_b
    have r_b := r_b'
    clear r_b'
    clear hb3 hB2
    go_wp2_with fail
    refine (has_is _ a x _ r_a (by omega) Hp.out).mono ?_
    rintro e w4 ⟨rfl, hb4⟩
    have hB4 : Below w.heap.size w w4 := below_next hB3 (Nat.le_refl _) hb4
    have r_a' := r_a.up hb4
    clear r_a
    have r_a := r_a'
    clear r_a'
    have r_b' := r_b.up hb4
    clear r_b
    have r_b := r_b'
    clear r_b'
    clear hb4 hB3
    go_wp2_with fail
    refine (has_is _ b x _ r_b (by omega) Hq.out).mono ?_
    rintro e w5 ⟨rfl, hb5⟩
    have hB5 : Below w.heap.size w w5 := below_next hB4 (Nat.le_refl _) hb5
    have r_a' := r_a.up hb5
    clear r_a
    have r_a := r_a'
    clear r_a'
    have r_b' := r_b.up hb5
    clear r_b
    have r_b := r_b'
    clear r_b'
    clear hb5 hB4
    go_wp2_with fail
    refine (union_any _ _ _ _ _ r_a r_b (by omega) (by omega)).mono ?_
    rintro e w6 ⟨v_u, rfl, r_u, hb6⟩
    have hB6 : Below w.heap.size w w6 := below_next hB5 (Nat.le_refl _) hb6
    have r_a' := r_a.up hb6
    clear r_a
    have r_a := r_a'
    clear r_a'
    have r_b' := r_b.up hb6
    clear r_b
    have r_b := r_b'
    clear r_b'
    clear hb6 hB5
    go_wp2_with fail
    refine (has_is _ _ x _ r_u (by have := union_length a b; omega) Hu.out).mono ?_
    rintro e w7 ⟨rfl, hb7⟩
    have hB7 : Below w.heap.size w w7 := below_next hB6 (Nat.le_refl _) hb7
    have r_a' := r_a.up hb7
    clear r_a
    have r_a := r_a'
    clear r_a'
    have r_b' := r_b.up hb7
    clear r_b
    have r_b := r_b'
    clear r_b'
    have r_u' := r_u.up hb7
    clear r_u
    have r_u := r_u'
    clear r_u'
    clear hb7 hB6
    clear r_u
    go_wp2_with fail
    refine (meet_any _ _ _ _ _ r_a r_b (by omega) (by omega)).mono ?_
    rintro e w8 ⟨v_u, rfl, r_u, hb8⟩
    have hB8 : Below w.heap.size w w8 := below_next hB7 (Nat.le_refl _) hb8
    have r_a' := r_a.up hb8
    clear r_a
    have r_a := r_a'
    clear r_a'
    have r_b' := r_b.up hb8
    clear r_b
    have r_b := r_b'
    clear r_b'
    clear hb8 hB7
    go_wp2_with fail
    refine (has_is _ _ x _ r_u (by have := meet_length a b; omega) Hm.out).mono ?_
    rintro e w9 ⟨rfl, hb9⟩
    have hB9 : Below w.heap.size w w9 := below_next hB8 (Nat.le_refl _) hb9
    have r_a' := r_a.up hb9
    clear r_a
    have r_a := r_a'
    clear r_a'
    have r_b' := r_b.up hb9
    clear r_b
    have r_b := r_b'
    clear r_b'
    have r_u' := r_u.up hb9
    clear r_u
    have r_u := r_u'
    clear r_u'
    clear hb9 hB8
    clear r_u
    go_wp2_with fail
    refine (minus_any _ _ _ _ _ r_a r_b (by omega) (by omega)).mono ?_
    rintro e w10 ⟨v_u, rfl, r_u, hb10⟩
    have hB10 : Below w.heap.size w w10 := below_next hB9 (Nat.le_refl _) hb10
    have r_a' := r_a.up hb10
    clear r_a
    have r_a := r_a'
    clear r_a'
    have r_b' := r_b.up hb10
    clear r_b
    have r_b := r_b'
    clear r_b'
    clear hb10 hB9
    go_wp2_with fail
    refine (has_is _ _ x _ r_u (by have := minus_length a b; omega) Hd.out).mono ?_
    rintro e w11 ⟨rfl, hb11⟩
    have hB11 : Below w.heap.size w w11 := below_next hB10 (Nat.le_refl _) hb11
    have r_a' := r_a.up hb11
    clear r_a
    have r_a := r_a'
    clear r_a'
    have r_b' := r_b.up hb11
    clear r_b
    have r_b := r_b'
    clear r_b'
    have r_u' := r_u.up hb11
    clear r_u
    have r_u := r_u'
    clear r_u'
    clear hb11 hB10
    clear r_u
    clear r_b
    go_wp2_with fail
    refine (sub_is _ _ [x] a _ (Row.lit1 _ x).here (r_a.upA _) (by simp) (by omega) Hs.out).mono ?_
    rintro e w12 ⟨rfl, hb12⟩
    have hB12 : Below w.heap.size w w12 := below_next (hB11.alloc hB11.size _) (Nat.le_refl _) hb12
    have r_a' := (r_a.upA _).up hb12
    clear r_a
    have r_a := r_a'
    clear r_a'
    clear hb12 hB11
    go_wp2
    go_ret
    exact ⟨rfl, hB12⟩

theorem members_any (va vb : Value) (a b : List Int) (x : Int) (w : World) (r_a : Row w w.heap.size va a) (r_b : Row w w.heap.size vb b) : Calls Try.prog 5 #[va, vb, .int .i64 x] w (Truly w) := by
  by_cases h : 100 < a.length ∨ 100 < b.length
  · exact members_out1 va vb a b x w r_a r_b h
  · by_cases h2 : mayB a = false ∨ mayB b = false
    · exact members_out2 va vb a b x w r_a r_b (by omega) (by omega) h2
    · exact members_in va vb a b x w r_a r_b (by omega) (by omega) (by simpa using fun h => h2 (.inl h)) (by simpa using fun h => h2 (.inr h)) _ _ rfl rfl

end Wp
end Go.Proofs.Ytakdcmibiondoaa
