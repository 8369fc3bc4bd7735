/- What each call on sets tells, as the document says, walked: it answers true. -/
import Derived.Test.YtakdcmibiondoaaSRefC
namespace Go.Proofs.Ytakdcmibiondoaa
open Go.RowKit
namespace Wp

set_option maxHeartbeats 8000000 in
set_option maxRecDepth 100000 in
theorem tells_out (va vb : Value) (a b : List Int) (x : Int) (w : World) (r_a : Row w w.heap.size va a) (r_b : Row w w.heap.size vb b) (h : 100 < a.length ∨ 100 < b.length ∨ (1000 < x ∧ x ≤ 100000)) : Calls Try.prog 3 #[va, vb, .int .i64 x] w (Truly w) := by
  have q_a := r_a
  have q_b := r_b
  obtain ⟨A1, c1, rfl, _⟩ := q_a
  obtain ⟨A2, c2, rfl, _⟩ := q_b
  by_cases h1 : 100 < a.length
  · have hc : (100 : Int) < (a.length : Int) := by omega
    clear h h1
    go_enter Try.func3, Try.ntmps3
    go_wp2_with fail
    refine (fixed_any w).mono ?_
    rintro e w1 ⟨rfl, hb1⟩
    have hB1 : Below w.heap.size w w1 := below_next (Below.refl _ _) (Nat.le_refl _) hb1
    go_wp2
    go_ret
    exact ⟨rfl, hB1⟩
  · have h1' : (a.length : Int) ≤ 100 := by omega
    by_cases h2 : 100 < b.length
    · have hc : (100 : Int) < (b.length : Int) := by omega
      clear h h1 h2
      go_enter Try.func3, Try.ntmps3
      go_wp2_with fail
      refine (fixed_any w).mono ?_
      rintro e w1 ⟨rfl, hb1⟩
      have hB1 : Below w.heap.size w w1 := below_next (Below.refl _ _) (Nat.le_refl _) hb1
      go_wp2
      go_ret
      exact ⟨rfl, hB1⟩
    · have h2' : (b.length : Int) ≤ 100 := by omega
      have hx0 : 1000 < x := by omega
      have hx1 : x ≤ 100000 := by omega
      clear h h1 h2
      go_enter Try.func3, Try.ntmps3
      go_wp2_with fail
      refine (fixed_any w).mono ?_
      rintro e w1 ⟨rfl, hb1⟩
      have hB1 : Below w.heap.size w w1 := below_next (Below.refl _ _) (Nat.le_refl _) hb1
      go_wp2
      go_ret
      exact ⟨rfl, hB1⟩

theorem refhas_is (v : Value) (l : List Int) (y : Int) (w : World) (hr : Row w w.heap.size v l) (hl : l.length ≤ 1048576) {x : Bool} (h : hasB l y = x) : Calls Try.prog 12 #[v, .int .i64 y] w (Says w x) := by
  subst h
  exact refhas_any v l y w hr hl
theorem refsub_is (va vb : Value) (a b : List Int) (w : World) (ha : Row w w.heap.size va a) (hb : Row w w.heap.size vb b) (hla : a.length ≤ 1048576) (hlb : b.length ≤ 1048576) {x : Bool} (h : subB a b = x) :
    Calls Try.prog 14 #[va, vb] w (Says w x) := by
  subst h
  exact refsub_any va vb a b w ha hb hla hlb

set_option maxHeartbeats 8000000 in
set_option maxRecDepth 100000 in
theorem tells_in (va vb : Value) (a b : List Int) (x : Int) (w : World) (r_a : Row w w.heap.size va a) (r_b : Row w w.heap.size vb b) (hla : a.length ≤ 100) (hlb : b.length ≤ 100) (hx : x ≤ 1000 ∨ 100000 < x) (m h s : Bool) (hm : mayB a = m) (hh : hasB a x = h) (hs : subB a b = s) : Calls Try.prog 3 #[va, vb, .int .i64 x] w (Truly w) := by
  have q_a := r_a
  have q_b := r_b
  obtain ⟨A1, c1, rfl, _⟩ := q_a
  obtain ⟨A2, c2, rfl, _⟩ := q_b
  have hla' : (a.length : Int) ≤ 100 := by omega
  have hlb' : (b.length : Int) ≤ 100 := by omega
  have hsl := sortL_length a
  have hal := (all_length x).1
  have Hm := Lib.hid hm
  have Hh := Lib.hid hh
  have Hs := Lib.hid hs
  clear hm hh hs
  by_cases h1 : x ≤ 1000
  · clear hx
    go_enter Try.func3, Try.ntmps3
    go_wp2_with fail
    refine (may_is _ a _ r_a (by omega) Hm.out).mono ?_
    rintro e w1 ⟨rfl, hb1⟩
    have hB1 : Below w.heap.size w w1 := below_next (Below.refl _ _) (Nat.le_refl _) hb1
    have r_a' := r_a.up hb1
    clear r_a
    have r_a := r_a'
    clear r_a'
    have r_b' := r_b.up hb1
    clear r_b
    have r_b := r_b'
    clear r_b'
    clear hb1
    go_wp2_with fail
    refine (refmay_is _ a _ r_a (by omega) Hm.out).mono ?_
    rintro e w2 ⟨rfl, hb2⟩
    have hB2 : Below w.heap.size w w2 := below_next hB1 (Nat.le_refl _) hb2
    have r_a' := r_a.up hb2
    clear r_a
    have r_a := r_a'
    clear r_a'
    have r_b' := r_b.up hb2
    clear r_b
    have r_b := r_b'
    clear r_b'
    clear hb2 hB1
    go_wp2_with fail
    refine (has_is _ a x _ r_a (by omega) Hh.out).mono ?_
    rintro e w3 ⟨rfl, hb3⟩
    have hB3 : Below w.heap.size w w3 := below_next hB2 (Nat.le_refl _) hb3
    have r_a' := r_a.up hb3
    clear r_a
    have r_a := r_a'
    clear r_a'
    have r_b' := r_b.up hb3
    clear r_b
    have r_b := r_b'
    clear r_b'
    clear hb3 hB2
    go_wp2_with fail
    refine (refhas_is _ a x _ r_a (by omega) Hh.out).mono ?_
    rintro e w4 ⟨rfl, hb4⟩
    have hB4 : Below w.heap.size w w4 := below_next hB3 (Nat.le_refl _) hb4
    have r_a' := r_a.up hb4
    clear r_a
    have r_a := r_a'
    clear r_a'
    have r_b' := r_b.up hb4
    clear r_b
    have r_b := r_b'
    clear r_b'
    clear hb4 hB3
    go_wp2_with fail
    refine (sub_is _ _ a b _ r_a r_b (by omega) (by omega) Hs.out).mono ?_
    rintro e w5 ⟨rfl, hb5⟩
    have hB5 : Below w.heap.size w w5 := below_next hB4 (Nat.le_refl _) hb5
    have r_a' := r_a.up hb5
    clear r_a
    have r_a := r_a'
    clear r_a'
    have r_b' := r_b.up hb5
    clear r_b
    have r_b := r_b'
    clear r_b'
    clear hb5 hB4
    go_wp2_with fail
    refine (refsub_is _ _ a b _ r_a r_b (by omega) (by omega) Hs.out).mono ?_
    rintro e w6 ⟨rfl, hb6⟩
    have hB6 : Below w.heap.size w w6 := below_next hB5 (Nat.le_refl _) hb6
    have r_a' := r_a.up hb6
    clear r_a
    have r_a := r_a'
    clear r_a'
    have r_b' := r_b.up hb6
    clear r_b
    have r_b := r_b'
    clear r_b'
    clear hb6 hB5
    go_wp2_with fail
    refine (sort_any _ a _ r_a (by omega)).mono ?_
    rintro e w7 ⟨v_s, rfl, r_s, hb7⟩
    have hB7 : Below w.heap.size w w7 := below_next hB6 (Nat.le_refl _) hb7
    have r_a' := r_a.up hb7
    clear r_a
    have r_a := r_a'
    clear r_a'
    have r_b' := r_b.up hb7
    clear r_b
    have r_b := r_b'
    clear r_b'
    clear hb7 hB6
    go_wp2_with fail
    refine (refsort_any _ a _ r_a (by omega)).mono ?_
    rintro e w8 ⟨v_t, rfl, r_t, hb8⟩
    have hB8 : Below w.heap.size w w8 := below_next hB7 (Nat.le_refl _) hb8
    have r_a' := r_a.up hb8
    clear r_a
    have r_a := r_a'
    clear r_a'
    have r_b' := r_b.up hb8
    clear r_b
    have r_b := r_b'
    clear r_b'
    have r_s' := r_s.up hb8
    clear r_s
    have r_s := r_s'
    clear r_s'
    clear hb8 hB7
    go_wp2_with fail
    refine (same_is _ _ _ _ _ r_s r_t (by omega) (by omega) (same_true rfl)).mono ?_
    rintro e w9 ⟨rfl, hb9⟩
    have hB9 : Below w.heap.size w w9 := below_next hB8 (Nat.le_refl _) hb9
    have r_a' := r_a.up hb9
    clear r_a
    have r_a := r_a'
    clear r_a'
    have r_b' := r_b.up hb9
    clear r_b
    have r_b := r_b'
    clear r_b'
    have r_s' := r_s.up hb9
    clear r_s
    have r_s := r_s'
    clear r_s'
    have r_t' := r_t.up hb9
    clear r_t
    have r_t := r_t'
    clear r_t'
    clear hb9 hB8
    clear r_s
    clear r_t
    go_wp2_with fail
    refine (all_any x _).mono ?_
    rintro e w10 ⟨v_s, rfl, r_s, hb10⟩
    have hB10 : Below w.heap.size w w10 := below_next hB9 (Nat.le_refl _) hb10
    have r_a' := r_a.up hb10
    clear r_a
    have r_a := r_a'
    clear r_a'
    have r_b' := r_b.up hb10
    clear r_b
    have r_b := r_b'
    clear r_b'
    clear hb10 hB9
    go_wp2_with fail
    refine (refall_any x _).mono ?_
    rintro e w11 ⟨v_t, rfl, r_t, hb11⟩
    have hB11 : Below w.heap.size w w11 := below_next hB10 (Nat.le_refl _) hb11
    have r_a' := r_a.up hb11
    clear r_a
    have r_a := r_a'
    clear r_a'
    have r_b' := r_b.up hb11
    clear r_b
    have r_b := r_b'
    clear r_b'
    have r_s' := r_s.up hb11
    clear r_s
    have r_s := r_s'
    clear r_s'
    clear hb11 hB10
    go_wp2_with fail
    refine (same_is _ _ _ _ _ r_s r_t (by omega) (by omega) (same_true rfl)).mono ?_
    rintro e w12 ⟨rfl, hb12⟩
    have hB12 : Below w.heap.size w w12 := below_next hB11 (Nat.le_refl _) hb12
    have r_a' := r_a.up hb12
    clear r_a
    have r_a := r_a'
    clear r_a'
    have r_b' := r_b.up hb12
    clear r_b
    have r_b := r_b'
    clear r_b'
    have r_s' := r_s.up hb12
    clear r_s
    have r_s := r_s'
    clear r_s'
    have r_t' := r_t.up hb12
    clear r_t
    have r_t := r_t'
    clear r_t'
    clear hb12 hB11
    clear r_s
    clear r_t
    go_wp2_with fail
    refine (fixed_any w12).mono ?_
    rintro e w13 ⟨rfl, hb13⟩
    have hB13 : Below w.heap.size w w13 := below_next hB12 (Nat.le_refl _) hb13
    have r_a' := r_a.up hb13
    clear r_a
    have r_a := r_a'
    clear r_a'
    have r_b' := r_b.up hb13
    clear r_b
    have r_b := r_b'
    clear r_b'
    clear hb13 hB12
    go_wp2_with fail
    refine (union_any _ _ a b _ r_a r_b (by omega) (by omega)).mono ?_
    rintro e w14 ⟨v_s, rfl, r_s, hb14⟩
    have hB14 : Below w.heap.size w w14 := below_next hB13 (Nat.le_refl _) hb14
    have r_a' := r_a.up hb14
    clear r_a
    have r_a := r_a'
    clear r_a'
    have r_b' := r_b.up hb14
    clear r_b
    have r_b := r_b'
    clear r_b'
    clear hb14 hB13
    go_wp2_with fail
    refine (refunion_any _ _ a b _ r_a r_b (by omega) (by omega)).mono ?_
    rintro e w15 ⟨v_t, rfl, r_t, hb15⟩
    have hB15 : Below w.heap.size w w15 := below_next hB14 (Nat.le_refl _) hb15
    have r_a' := r_a.up hb15
    clear r_a
    have r_a := r_a'
    clear r_a'
    have r_b' := r_b.up hb15
    clear r_b
    have r_b := r_b'
    clear r_b'
    have r_s' := r_s.up hb15
    clear r_s
    have r_s := r_s'
    clear r_s'
    clear hb15 hB14
    go_wp2_with fail
    refine (same_is _ _ _ _ _ r_s r_t (by have := union_length a b; omega) (by have := union_length a b; omega) (same_true rfl)).mono ?_
    rintro e w16 ⟨rfl, hb16⟩
    have hB16 : Below w.heap.size w w16 := below_next hB15 (Nat.le_refl _) hb16
    have r_a' := r_a.up hb16
    clear r_a
    have r_a := r_a'
    clear r_a'
    have r_b' := r_b.up hb16
    clear r_b
    have r_b := r_b'
    clear r_b'
    have r_s' := r_s.up hb16
    clear r_s
    have r_s := r_s'
    clear r_s'
    have r_t' := r_t.up hb16
    clear r_t
    have r_t := r_t'
    clear r_t'
    clear hb16 hB15
    clear r_s
    clear r_t
    go_wp2_with fail
    refine (meet_any _ _ a b _ r_a r_b (by omega) (by omega)).mono ?_
    rintro e w17 ⟨v_s, rfl, r_s, hb17⟩
    have hB17 : Below w.heap.size w w17 := below_next hB16 (Nat.le_refl _) hb17
    have r_a' := r_a.up hb17
    clear r_a
    have r_a := r_a'
    clear r_a'
    have r_b' := r_b.up hb17
    clear r_b
    have r_b := r_b'
    clear r_b'
    clear hb17 hB16
    go_wp2_with fail
    refine (refmeet_any _ _ a b _ r_a r_b (by omega) (by omega)).mono ?_
    rintro e w18 ⟨v_t, rfl, r_t, hb18⟩
    have hB18 : Below w.heap.size w w18 := below_next hB17 (Nat.le_refl _) hb18
    have r_a' := r_a.up hb18
    clear r_a
    have r_a := r_a'
    clear r_a'
    have r_b' := r_b.up hb18
    clear r_b
    have r_b := r_b'
    clear r_b'
    have r_s' := r_s.up hb18
    clear r_s
    have r_s := r_s'
    clear r_s'
    clear hb18 hB17
    go_wp2_with fail
    refine (same_is _ _ _ _ _ r_s r_t (by have := meet_length a b; omega) (by have := meet_length a b; omega) (same_true rfl)).mono ?_
    rintro e w19 ⟨rfl, hb19⟩
    have hB19 : Below w.heap.size w w19 := below_next hB18 (Nat.le_refl _) hb19
    have r_a' := r_a.up hb19
    clear r_a
    have r_a := r_a'
    clear r_a'
    have r_b' := r_b.up hb19
    clear r_b
    have r_b := r_b'
    clear r_b'
    have r_s' := r_s.up hb19
    clear r_s
    have r_s := r_s'
    clear r_s'
    have r_t' := r_t.up hb19
    clear r_t
    have r_t := r_t'
    clear r_t'
    clear hb19 hB18
    clear r_s
    clear r_t
    go_wp2_with fail
    refine (minus_any _ _ a b _ r_a r_b (by omega) (by omega)).mono ?_
    rintro e w20 ⟨v_s, rfl, r_s, hb20⟩
    have hB20 : Below w.heap.size w w20 := below_next hB19 (Nat.le_refl _) hb20
    have r_a' := r_a.up hb20
    clear r_a
    have r_a := r_a'
    clear r_a'
    have r_b' := r_b.up hb20
    clear r_b
    have r_b := r_b'
    clear r_b'
    clear hb20 hB19
    go_wp2_with fail
    refine (refminus_any _ _ a b _ r_a r_b (by omega) (by omega)).mono ?_
    rintro e w21 ⟨v_t, rfl, r_t, hb21⟩
    have hB21 : Below w.heap.size w w21 := below_next hB20 (Nat.le_refl _) hb21
    have r_a' := r_a.up hb21
    clear r_a
    have r_a := r_a'
    clear r_a'
    have r_b' := r_b.up hb21
    clear r_b
    have r_b := r_b'
    clear r_b'
    have r_s' := r_s.up hb21
    clear r_s
    have r_s := r_s'
    clear r_s'
    clear hb21 hB20
    go_wp2_with fail
    refine (same_is _ _ _ _ _ r_s r_t (by have := minus_length a b; omega) (by have := minus_length a b; omega) (same_true rfl)).mono ?_
    rintro e w22 ⟨rfl, hb22⟩
    have hB22 : Below w.heap.size w w22 := below_next hB21 (Nat.le_refl _) hb22
    have r_a' := r_a.up hb22
    clear r_a
    have r_a := r_a'
    clear r_a'
    have r_b' := r_b.up hb22
    clear r_b
    have r_b := r_b'
    clear r_b'
    have r_s' := r_s.up hb22
    clear r_s
    have r_s := r_s'
    clear r_s'
    have r_t' := r_t.up hb22
    clear r_t
    have r_t := r_t'
    clear r_t'
    clear hb22 hB21
    clear r_s
    clear r_t
    go_wp2
    go_ret
    exact ⟨rfl, hB22⟩
  · have h2 : 1000 < x := by omega
    have h3 : 100000 < x := by omega
    clear hx h1
    go_enter Try.func3, Try.ntmps3
    go_wp2_with fail
    refine (may_is _ a _ r_a (by omega) Hm.out).mono ?_
    rintro e w1 ⟨rfl, hb1⟩
    have hB1 : Below w.heap.size w w1 := below_next (Below.refl _ _) (Nat.le_refl _) hb1
    have r_a' := r_a.up hb1
    clear r_a
    have r_a := r_a'
    clear r_a'
    have r_b' := r_b.up hb1
    clear r_b
    have r_b := r_b'
    clear r_b'
    clear hb1
    go_wp2_with fail
    refine (refmay_is _ a _ r_a (by omega) Hm.out).mono ?_
    rintro e w2 ⟨rfl, hb2⟩
    have hB2 : Below w.heap.size w w2 := below_next hB1 (Nat.le_refl _) hb2
    have r_a' := r_a.up hb2
    clear r_a
    have r_a := r_a'
    clear r_a'
    have r_b' := r_b.up hb2
    clear r_b
    have r_b := r_b'
    clear r_b'
    clear hb2 hB1
    go_wp2_with fail
    refine (has_is _ a x _ r_a (by omega) Hh.out).mono ?_
    rintro e w3 ⟨rfl, hb3⟩
    have hB3 : Below w.heap.size w w3 := below_next hB2 (Nat.le_refl _) hb3
    have r_a' := r_a.up hb3
    clear r_a
    have r_a := r_a'
    clear r_a'
    have r_b' := r_b.up hb3
    clear r_b
    have r_b := r_b'
    clear r_b'
    clear hb3 hB2
    go_wp2_with fail
    refine (refhas_is _ a x _ r_a (by omega) Hh.out).mono ?_
    rintro e w4 ⟨rfl, hb4⟩
    have hB4 : Below w.heap.size w w4 := below_next hB3 (Nat.le_refl _) hb4
    have r_a' := r_a.up hb4
    clear r_a
    have r_a := r_a'
    clear r_a'
    have r_b' := r_b.up hb4
    clear r_b
    have r_b := r_b'
    clear r_b'
    clear hb4 hB3
    go_wp2_with fail
    refine (sub_is _ _ a b _ r_a r_b (by omega) (by omega) Hs.out).mono ?_
    rintro e w5 ⟨rfl, hb5⟩
    have hB5 : Below w.heap.size w w5 := below_next hB4 (Nat.le_refl _) hb5
    have r_a' := r_a.up hb5
    clear r_a
    have r_a := r_a'
    clear r_a'
    have r_b' := r_b.up hb5
    clear r_b
    have r_b := r_b'
    clear r_b'
    clear hb5 hB4
    go_wp2_with fail
    refine (refsub_is _ _ a b _ r_a r_b (by omega) (by omega) Hs.out).mono ?_
    rintro e w6 ⟨rfl, hb6⟩
    have hB6 : Below w.heap.size w w6 := below_next hB5 (Nat.le_refl _) hb6
    have r_a' := r_a.up hb6
    clear r_a
    have r_a := r_a'
    clear r_a'
    have r_b' := r_b.up hb6
    clear r_b
    have r_b := r_b'
    clear r_b'
    clear hb6 hB5
    go_wp2_with fail
    refine (sort_any _ a _ r_a (by omega)).mono ?_
    rintro e w7 ⟨v_s, rfl, r_s, hb7⟩
    have hB7 : Below w.heap.size w w7 := below_next hB6 (Nat.le_refl _) hb7
    have r_a' := r_a.up hb7
    clear r_a
    have r_a := r_a'
    clear r_a'
    have r_b' := r_b.up hb7
    clear r_b
    have r_b := r_b'
    clear r_b'
    clear hb7 hB6
    go_wp2_with fail
    refine (refsort_any _ a _ r_a (by omega)).mono ?_
    rintro e w8 ⟨v_t, rfl, r_t, hb8⟩
    have hB8 : Below w.heap.size w w8 := below_next hB7 (Nat.le_refl _) hb8
    have r_a' := r_a.up hb8
    clear r_a
    have r_a := r_a'
    clear r_a'
    have r_b' := r_b.up hb8
    clear r_b
    have r_b := r_b'
    clear r_b'
    have r_s' := r_s.up hb8
    clear r_s
    have r_s := r_s'
    clear r_s'
    clear hb8 hB7
    go_wp2_with fail
    refine (same_is _ _ _ _ _ r_s r_t (by omega) (by omega) (same_true rfl)).mono ?_
    rintro e w9 ⟨rfl, hb9⟩
    have hB9 : Below w.heap.size w w9 := below_next hB8 (Nat.le_refl _) hb9
    have r_a' := r_a.up hb9
    clear r_a
    have r_a := r_a'
    clear r_a'
    have r_b' := r_b.up hb9
    clear r_b
    have r_b := r_b'
    clear r_b'
    have r_s' := r_s.up hb9
    clear r_s
    have r_s := r_s'
    clear r_s'
    have r_t' := r_t.up hb9
    clear r_t
    have r_t := r_t'
    clear r_t'
    clear hb9 hB8
    clear r_s
    clear r_t
    go_wp2_with fail
    refine (all_any x _).mono ?_
    rintro e w10 ⟨v_s, rfl, r_s, hb10⟩
    have hB10 : Below w.heap.size w w10 := below_next hB9 (Nat.le_refl _) hb10
    have r_a' := r_a.up hb10
    clear r_a
    have r_a := r_a'
    clear r_a'
    have r_b' := r_b.up hb10
    clear r_b
    have r_b := r_b'
    clear r_b'
    clear hb10 hB9
    go_wp2_with fail
    refine (refall_any x _).mono ?_
    rintro e w11 ⟨v_t, rfl, r_t, hb11⟩
    have hB11 : Below w.heap.size w w11 := below_next hB10 (Nat.le_refl _) hb11
    have r_a' := r_a.up hb11
    clear r_a
    have r_a := r_a'
    clear r_a'
    have r_b' := r_b.up hb11
    clear r_b
    have r_b := r_b'
    clear r_b'
    have r_s' := r_s.up hb11
    clear r_s
    have r_s := r_s'
    clear r_s'
    clear hb11 hB10
    go_wp2_with fail
    refine (same_is _ _ _ _ _ r_s r_t (by omega) (by omega) (same_true rfl)).mono ?_
    rintro e w12 ⟨rfl, hb12⟩
    have hB12 : Below w.heap.size w w12 := below_next hB11 (Nat.le_refl _) hb12
    have r_a' := r_a.up hb12
    clear r_a
    have r_a := r_a'
    clear r_a'
    have r_b' := r_b.up hb12
    clear r_b
    have r_b := r_b'
    clear r_b'
    have r_s' := r_s.up hb12
    clear r_s
    have r_s := r_s'
    clear r_s'
    have r_t' := r_t.up hb12
    clear r_t
    have r_t := r_t'
    clear r_t'
    clear hb12 hB11
    clear r_s
    clear r_t
    go_wp2_with fail
    refine (fixed_any w12).mono ?_
    rintro e w13 ⟨rfl, hb13⟩
    have hB13 : Below w.heap.size w w13 := below_next hB12 (Nat.le_refl _) hb13
    have r_a' := r_a.up hb13
    clear r_a
    have r_a := r_a'
    clear r_a'
    have r_b' := r_b.up hb13
    clear r_b
    have r_b := r_b'
    clear r_b'
    clear hb13 hB12
    go_wp2_with fail
    refine (union_any _ _ a b _ r_a r_b (by omega) (by omega)).mono ?_
    rintro e w14 ⟨v_s, rfl, r_s, hb14⟩
    have hB14 : Below w.heap.size w w14 := below_next hB13 (Nat.le_refl _) hb14
    have r_a' := r_a.up hb14
    clear r_a
    have r_a := r_a'
    clear r_a'
    have r_b' := r_b.up hb14
    clear r_b
    have r_b := r_b'
    clear r_b'
    clear hb14 hB13
    go_wp2_with fail
    refine (refunion_any _ _ a b _ r_a r_b (by omega) (by omega)).mono ?_
    rintro e w15 ⟨v_t, rfl, r_t, hb15⟩
    have hB15 : Below w.heap.size w w15 := below_next hB14 (Nat.le_refl _) hb15
    have r_a' := r_a.up hb15
    clear r_a
    have r_a := r_a'
    clear r_a'
    have r_b' := r_b.up hb15
    clear r_b
    have r_b := r_b'
    clear r_b'
    have r_s' := r_s.up hb15
    clear r_s
    have r_s := r_s'
    clear r_s'
    clear hb15 hB14
    go_wp2_with fail
    refine (same_is _ _ _ _ _ r_s r_t (by have := union_length a b; omega) (by have := union_length a b; omega) (same_true rfl)).mono ?_
    rintro e w16 ⟨rfl, hb16⟩
    have hB16 : Below w.heap.size w w16 := below_next hB15 (Nat.le_refl _) hb16
    have r_a' := r_a.up hb16
    clear r_a
    have r_a := r_a'
    clear r_a'
    have r_b' := r_b.up hb16
    clear r_b
    have r_b := r_b'
    clear r_b'
    have r_s' := r_s.up hb16
    clear r_s
    have r_s := r_s'
    clear r_s'
    have r_t' := r_t.up hb16
    clear r_t
    have r_t := r_t'
    clear r_t'
    clear hb16 hB15
    clear r_s
    clear r_t
    go_wp2_with fail
    refine (meet_any _ _ a b _ r_a r_b (by omega) (by omega)).mono ?_
    rintro e w17 ⟨v_s, rfl, r_s, hb17⟩
    have hB17 : Below w.heap.size w w17 := below_next hB16 (Nat.le_refl _) hb17
    have r_a' := r_a.up hb17
    clear r_a
    have r_a := r_a'
    clear r_a'
    have r_b' := r_b.up hb17
    clear r_b
    have r_b := r_b'
    clear r_b'
    clear hb17 hB16
    go_wp2_with fail
    refine (refmeet_any _ _ a b _ r_a r_b (by omega) (by omega)).mono ?_
    rintro e w18 ⟨v_t, rfl, r_t, hb18⟩
    have hB18 : Below w.heap.size w w18 := below_next hB17 (Nat.le_refl _) hb18
    have r_a' := r_a.up hb18
    clear r_a
    have r_a := r_a'
    clear r_a'
    have r_b' := r_b.up hb18
    clear r_b
    have r_b := r_b'
    clear r_b'
    have r_s' := r_s.up hb18
    clear r_s
    have r_s := r_s'
    clear r_s'
    clear hb18 hB17
    go_wp2_with fail
    refine (same_is _ _ _ _ _ r_s r_t (by have := meet_length a b; omega) (by have := meet_length a b; omega) (same_true rfl)).mono ?_
    rintro e w19 ⟨rfl, hb19⟩
    have hB19 : Below w.heap.size w w19 := below_next hB18 (Nat.le_refl _) hb19
    have r_a' := r_a.up hb19
    clear r_a
    have r_a := r_a'
    clear r_a'
    have r_b' := r_b.up hb19
    clear r_b
    have r_b := r_b'
    clear r_b'
    have r_s' := r_s.up hb19
    clear r_s
    have r_s := r_s'
    clear r_s'
    have r_t' := r_t.up hb19
    clear r_t
    have r_t := r_t'
    clear r_t'
    clear hb19 hB18
    clear r_s
    clear r_t
    go_wp2_with fail
    refine (minus_any _ _ a b _ r_a r_b (by omega) (by omega)).mono ?_
    rintro e w20 ⟨v_s, rfl, r_s, hb20⟩
    have hB20 : Below w.heap.size w w20 := below_next hB19 (Nat.le_refl _) hb20
    have r_a' := r_a.up hb20
    clear r_a
    have r_a := r_a'
    clear r_a'
    have r_b' := r_b.up hb20
    clear r_b
    have r_b := r_b'
    clear r_b'
    clear hb20 hB19
    go_wp2_with fail
    refine (refminus_any _ _ a b _ r_a r_b (by omega) (by omega)).mono ?_
    rintro e w21 ⟨v_t, rfl, r_t, hb21⟩
    have hB21 : Below w.heap.size w w21 := below_next hB20 (Nat.le_refl _) hb21
    have r_a' := r_a.up hb21
    clear r_a
    have r_a := r_a'
    clear r_a'
    have r_b' := r_b.up hb21
    clear r_b
    have r_b := r_b'
    clear r_b'
    have r_s' := r_s.up hb21
    clear r_s
    have r_s := r_s'
    clear r_s'
    clear hb21 hB20
    go_wp2_with fail
    refine (same_is _ _ _ _ _ r_s r_t (by have := minus_length a b; omega) (by have := minus_length a b; omega) (same_true rfl)).mono ?_
    rintro e w22 ⟨rfl, hb22⟩
    have hB22 : Below w.heap.size w w22 := below_next hB21 (Nat.le_refl _) hb22
    have r_a' := r_a.up hb22
    clear r_a
    have r_a := r_a'
    clear r_a'
    have r_b' := r_b.up hb22
    clear r_b
    have r_b := r_b'
    clear r_b'
    have r_s' := r_s.up hb22
    clear r_s
    have r_s := r_s'
    clear r_s'
    have r_t' := r_t.up hb22
    clear r_t
    have r_t := r_t'
    clear r_t'
    clear hb22 hB21
    clear r_s
    clear r_t
    go_wp2
    go_ret
    exact ⟨rfl, hB22⟩

theorem tells_any (va vb : Value) (a b : List Int) (x : Int) (w : World) (r_a : Row w w.heap.size va a) (r_b : Row w w.heap.size vb b) : Calls Try.prog 3 #[va, vb, .int .i64 x] w (Truly w) := by
  by_cases h : 100 < a.length ∨ 100 < b.length ∨ (1000 < x ∧ x ≤ 100000)
  · exact tells_out va vb a b x w r_a r_b h
  · exact tells_in va vb a b x w r_a r_b (by omega) (by omega) (by omega) _ _ _ rfl rfl rfl

end Wp
end Go.Proofs.Ytakdcmibiondoaa
