/- Plain facts on numbers that are written as bytes, seven bits at a time; nothing of the program is used here. -/
import Derived.Lib.Varint
namespace Go.Proofs.YtcabbhiabhblfaaDoor.Wp
open Go

/-- What stands ahead in the bytes: the number, how many bytes it has, and 0; or 1: cut off, 2: too long. -/
def dec : Nat → Nat → Nat → List UInt8 → Nat × Nat × Nat
  | 0, _, _, _ => (0, 0, 2)
  | _ + 1, _, _, [] => (0, 0, 1)
  | k + 1, i, n, b :: r =>
    if 128 ≤ b.toNat then dec k (i + 1) (n + (b.toNat - 128) * 128 ^ i) r
    else if (b.toNat = 0 ∧ 0 < i) ∨ 1125899906842624 < n + b.toNat * 128 ^ i then (0, 0, 2)
    else (n + b.toNat * 128 ^ i, i + 1, 0)

theorem toNat_small {n : Nat} (h : n < 128) : (n.toUInt8).toNat = n := by
  simp; omega

theorem toNat_big (n : Nat) : ((n % 128 + 128).toUInt8).toNat = n % 128 + 128 := by
  simp; omega

theorem dec_high (k i n : Nat) (b : UInt8) (r : List UInt8) (h : 128 ≤ b.toNat) :
    dec (k + 1) i n (b :: r) = dec k (i + 1) (n + (b.toNat - 128) * 128 ^ i) r := by
  simp [dec, h]

theorem dec_low (k i n : Nat) (b : UInt8) (r : List UInt8) (h : b.toNat < 128) (h0 : ¬ (b.toNat = 0 ∧ 0 < i)) (h1 : n + b.toNat * 128 ^ i ≤ 1125899906842624) :
    dec (k + 1) i n (b :: r) = (n + b.toNat * 128 ^ i, i + 1, 0) := by
  have a : ¬ 128 ≤ b.toNat := by omega
  have c : ¬ ((b.toNat = 0 ∧ 0 < i) ∨ 1125899906842624 < n + b.toNat * 128 ^ i) := by
    rintro (h | h)
    · exact h0 h
    · omega
  simp only [dec]
  rw [if_neg a, if_neg c]

/-- What is written is taken. -/
theorem dec_enc : ∀ (k i n m : Nat) (r : List UInt8), m < 128 ^ (k + 1) → n + m * 128 ^ i ≤ 1125899906842624 → (m = 0 → i = 0) →
    dec (k + 1) i n (Lib.uvarint m ++ r) = (n + m * 128 ^ i, i + (Lib.uvarint m).length, 0) := by
  intro k
  induction k with
  | zero =>
    intro i n m r hm hb h0
    have hs : m < 128 := by simpa using hm
    rw [Lib.uvarint_small hs]
    have ht := toNat_small hs
    show dec 1 i n (m.toUInt8 :: r) = _
    rw [dec_low 0 i n _ r (by omega) (by omega) (by rw [ht]; exact hb), ht]
    rfl
  | succ k ih =>
    intro i n m r hm hb h0
    by_cases hs : m < 128
    · rw [Lib.uvarint_small hs]
      have ht := toNat_small hs
      show dec (k + 2) i n (m.toUInt8 :: r) = _
      rw [dec_low (k + 1) i n _ r (by omega) (by omega) (by rw [ht]; exact hb), ht]
      rfl
    · rw [Lib.uvarint_big (by omega)]
      have ht := toNat_big m
      show dec (k + 2) i n ((m % 128 + 128).toUInt8 :: (Lib.uvarint (m / 128) ++ r)) = _
      rw [dec_high (k + 1) i n _ _ (by omega), ht]
      have e : n + (m % 128 + 128 - 128) * 128 ^ i + m / 128 * 128 ^ (i + 1) = n + m * 128 ^ i := by
        have h2 : m / 128 * 128 ^ (i + 1) = (m / 128 * 128) * 128 ^ i := by rw [Nat.pow_succ]; ac_rfl
        have h3 : m = m % 128 + m / 128 * 128 := by omega
        have h4 : (m % 128) * 128 ^ i + (m / 128 * 128) * 128 ^ i = m * 128 ^ i := by rw [← Nat.add_mul, ← h3]
        rw [h2, show m % 128 + 128 - 128 = m % 128 from by omega]
        omega
      rw [ih (i + 1) _ (m / 128) r (by rw [Nat.pow_succ] at hm; omega) (by rw [e]; exact hb) (by omega), e]
      have e2 : i + 1 + (Lib.uvarint (m / 128)).length = i + ((m % 128 + 128).toUInt8 :: Lib.uvarint (m / 128)).length := by
        rw [List.length_cons]; omega
      rw [e2]

/-- Of a number's bytes each beginning is cut off. -/
theorem dec_cut : ∀ (k i n m c : Nat), c < (Lib.uvarint m).length → m < 128 ^ (k + 1) → dec (k + 1) i n ((Lib.uvarint m).take c) = (0, 0, 1) := by
  intro k
  induction k with
  | zero =>
    intro i n m c hc hm
    have hs : m < 128 := by simpa using hm
    rw [Lib.uvarint_small hs] at hc ⊢
    have : c = 0 := by simpa using hc
    subst this
    rfl
  | succ k ih =>
    intro i n m c hc hm
    by_cases hs : m < 128
    · rw [Lib.uvarint_small hs] at hc ⊢
      have : c = 0 := by simpa using hc
      subst this
      rfl
    · rw [Lib.uvarint_big (by omega)] at hc ⊢
      have ht := toNat_big m
      cases c with
      | zero => rfl
      | succ c =>
        rw [List.take_succ_cons, dec_high (k + 1) i n _ _ (by omega)]
        exact ih _ _ _ _ (by simpa using hc) (by rw [Nat.pow_succ] at hm; omega)

/-- The last byte of a number. -/
theorem enc_last : ∀ (k m : Nat), m < 128 ^ (k + 1) → ∃ (p : List UInt8) (b : Nat), Lib.uvarint m = p ++ [b.toUInt8] ∧ b < 128 ∧ p.length ≤ k ∧ (∀ x ∈ p, 128 ≤ x.toNat) := by
  intro k
  induction k with
  | zero =>
    intro m hm
    have hs : m < 128 := by simpa using hm
    exact ⟨[], m, by rw [Lib.uvarint_small hs]; rfl, hs, by simp, by simp⟩
  | succ k ih =>
    intro m hm
    by_cases hs : m < 128
    · exact ⟨[], m, by rw [Lib.uvarint_small hs]; rfl, hs, by simp, by simp⟩
    · obtain ⟨p, b, e, hb, hp, hx⟩ := ih (m / 128) (by rw [Nat.pow_succ] at hm; omega)
      refine ⟨(m % 128 + 128).toUInt8 :: p, b, by rw [Lib.uvarint_big (by omega), e]; rfl, hb, by simp; omega, ?_⟩
      intro x hx'
      rcases List.mem_cons.1 hx' with rfl | h
      · have := toNat_big m; omega
      · exact hx x h

/-- Bytes that have 128 added each, and a byte 0 behind: too long. -/
theorem dec_zero : ∀ (p : List UInt8) (k i n : Nat), (∀ x ∈ p, 128 ≤ x.toNat) → 0 < i + p.length → dec k i n (p ++ [0]) = (0, 0, 2) := by
  intro p
  induction p with
  | nil =>
    intro k i n _ hi
    cases k with
    | zero => rfl
    | succ k =>
      have hi' : 0 < i := by simpa using hi
      simp [dec, hi']
  | cons x p ih =>
    intro k i n hx _
    cases k with
    | zero => rfl
    | succ k =>
      rw [List.cons_append, dec_high k i n x _ (hx x (by simp))]
      exact ih k (i + 1) _ (fun y hy => hx y (List.mem_cons_of_mem _ hy)) (by omega)

/-- What is taken is written so: the bytes that were taken are the number's. -/
theorem dec_sound : ∀ (k i n : Nat) (s : List UInt8) (v sz : Nat), dec k i n s = (v, sz, 0) →
    ∃ m, v = n + m * 128 ^ i ∧ i + (Lib.uvarint m).length = sz ∧ s.take (Lib.uvarint m).length = Lib.uvarint m ∧ v ≤ 1125899906842624 ∧ (0 < i → m ≠ 0) := by
  intro k
  induction k with
  | zero => intro i n s v sz h; simp [dec] at h
  | succ k ih =>
    intro i n s v sz h
    cases s with
    | nil => simp [dec] at h
    | cons b r =>
      by_cases hb : 128 ≤ b.toNat
      · rw [dec_high k i n b r hb] at h
        obtain ⟨m, hv, hsz, ht, hle, hm⟩ := ih _ _ _ _ _ h
        have hm0 := hm (by omega)
        have hlt : b.toNat < 256 := b.toNat_lt
        have h128 : 128 ≤ b.toNat - 128 + m * 128 := by omega
        have e : Lib.uvarint (b.toNat - 128 + m * 128) = b :: Lib.uvarint m := by
          rw [Lib.uvarint_big h128]
          have e1 : (b.toNat - 128 + m * 128) % 128 + 128 = b.toNat := by omega
          have e2 : (b.toNat - 128 + m * 128) / 128 = m := by omega
          rw [e1, e2]
          congr 1
          simp
        refine ⟨b.toNat - 128 + m * 128, ?_, ?_, ?_, hle, by omega⟩
        · rw [hv, Nat.pow_succ, Nat.add_mul, Nat.add_assoc]
          congr 2
          ac_rfl
        · rw [e, List.length_cons]; omega
        · rw [e, List.length_cons, List.take_succ_cons, ht]
      · have a : ¬ 128 ≤ b.toNat := hb
        simp only [dec] at h
        rw [if_neg a] at h
        by_cases hc : (b.toNat = 0 ∧ 0 < i) ∨ 1125899906842624 < n + b.toNat * 128 ^ i
        · rw [if_pos hc] at h
          simp at h
        · rw [if_neg hc] at h
          simp only [Prod.mk.injEq, and_true] at h
          obtain ⟨rfl, rfl⟩ := h
          have e : Lib.uvarint b.toNat = [b] := by
            rw [Lib.uvarint_small (by omega)]
            simp
          exact ⟨b.toNat, rfl, by rw [e]; rfl, by rw [e]; rfl, by omega, fun hi h0 => hc (.inl ⟨h0, hi⟩)⟩

/-- Either a number is taken, or it is cut off, or it is too long. -/
theorem dec_kinds : ∀ (k i n : Nat) (s : List UInt8), (∃ v sz, dec k i n s = (v, sz, 0) ∧ i + 1 ≤ sz ∧ sz ≤ i + s.length ∧ sz ≤ i + k ∧ v ≤ 1125899906842624) ∨ dec k i n s = (0, 0, 1) ∨ dec k i n s = (0, 0, 2) := by
  intro k
  induction k with
  | zero => intro i n s; exact .inr (.inr rfl)
  | succ k ih =>
    intro i n s
    cases s with
    | nil => exact .inr (.inl rfl)
    | cons b r =>
      by_cases hb : 128 ≤ b.toNat
      · rw [dec_high k i n b r hb]
        rcases ih (i + 1) (n + (b.toNat - 128) * 128 ^ i) r with ⟨v, sz, h, h1, h2, h3, h4⟩ | h | h
        · exact .inl ⟨v, sz, h, by omega, by rw [List.length_cons]; omega, by omega, h4⟩
        · exact .inr (.inl h)
        · exact .inr (.inr h)
      · simp only [dec]
        rw [if_neg hb]
        by_cases hc : (b.toNat = 0 ∧ 0 < i) ∨ 1125899906842624 < n + b.toNat * 128 ^ i
        · rw [if_pos hc]; exact .inr (.inr rfl)
        · rw [if_neg hc]; exact .inl ⟨_, _, rfl, by omega, by rw [List.length_cons]; omega, by omega, by omega⟩

theorem enc_inj {a b : Nat} (ha : a ≤ 1125899906842624) (hb : b ≤ 1125899906842624) (h : Lib.uvarint a = Lib.uvarint b) : a = b := by
  have h1 := dec_enc 7 0 0 a [] (by omega) (by omega) (fun _ => rfl)
  have h2 := dec_enc 7 0 0 b [] (by omega) (by omega) (fun _ => rfl)
  rw [h, h2] at h1
  have := (Prod.mk.inj h1).1
  omega

theorem enc_mono : ∀ (k a b : Nat), a ≤ b → b < 128 ^ (k + 1) → (Lib.uvarint a).length ≤ (Lib.uvarint b).length := by
  intro k
  induction k with
  | zero =>
    intro a b hab hb
    have hs : b < 128 := by simpa using hb
    rw [Lib.uvarint_small hs, Lib.uvarint_small (by omega)]
    exact Nat.le_refl _
  | succ k ih =>
    intro a b hab hb
    by_cases ha : a < 128
    · rw [Lib.uvarint_small ha]; exact Lib.uvarint_pos b
    · rw [Lib.uvarint_big (by omega), Lib.uvarint_big (show 128 ≤ b by omega), List.length_cons, List.length_cons]
      have := ih (a / 128) (b / 128) (by omega) (by rw [Nat.pow_succ] at hb; omega)
      omega

theorem enc_len {n : Nat} (h : n ≤ 1125899906842624) : (Lib.uvarint n).length ≤ 8 := Lib.uvarint_length 7 n (by omega)

end Go.Proofs.YtcabbhiabhblfaaDoor.Wp
