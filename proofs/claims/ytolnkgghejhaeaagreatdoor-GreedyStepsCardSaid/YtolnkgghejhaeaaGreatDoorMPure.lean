/- Numbers modulo a number, plain: primes, Fermat's little theorem, square roots of 1, the exponents that leave 1. Nothing of the program here. -/
import Derived.Lib.Hide
namespace Go.Proofs.YtolnkgghejhaeaaGreatDoor.Wp

/-- A prime: at least 2, and divided by 1 and itself alone. -/
def Pr (p : Nat) : Prop := 2 ≤ p ∧ ∀ d, d ∣ p → d = 1 ∨ d = p

theorem Pr.cop {p a : Nat} (h : Pr p) (ha : ¬ p ∣ a) : Nat.Coprime p a := by
  rcases h.2 _ (Nat.gcd_dvd_left p a) with e | e
  · exact e
  · exact absurd (by have := Nat.gcd_dvd_right p a; rwa [e] at this) ha
theorem Pr.mul {p a b : Nat} (h : Pr p) (hd : p ∣ a * b) : p ∣ a ∨ p ∣ b := by
  by_cases ha : p ∣ a
  · exact .inl ha
  · exact .inr ((h.cop ha).dvd_of_dvd_mul_left hd)
theorem Pr.pow {p a : Nat} (h : Pr p) : ∀ {k : Nat}, p ∣ a ^ k → p ∣ a
  | 0, hd => by
    have := Nat.le_of_dvd (by simp) hd
    have := h.1
    simp at *
    omega
  | k + 1, hd => by
    rw [Nat.pow_succ] at hd
    rcases h.mul hd with h1 | h1
    · exact h.pow h1
    · exact h1
theorem exists_pr : ∀ (b n : Nat), n ≤ b → 2 ≤ n → ∃ p, Pr p ∧ p ∣ n
  | 0, n, hb, hn => by omega
  | b + 1, n, hb, hn => by
    by_cases h : ∃ d, d ∣ n ∧ d ≠ 1 ∧ d ≠ n
    · obtain ⟨d, hd, h1, h2⟩ := h
      have hle := Nat.le_of_dvd (by omega) hd
      have h0 : d ≠ 0 := by rintro rfl; have := Nat.eq_zero_of_zero_dvd hd; omega
      obtain ⟨p, hp, hpd⟩ := exists_pr b d (by omega) (by omega)
      exact ⟨p, hp, Nat.dvd_trans hpd hd⟩
    · refine ⟨n, ⟨hn, fun d hd => ?_⟩, Nat.dvd_refl n⟩
      by_cases h1 : d = 1
      · exact .inl h1
      · by_cases h2 : d = n
        · exact .inr h2
        · exact absurd ⟨d, hd, h1, h2⟩ h
theorem has_pr {n : Nat} (hn : 2 ≤ n) : ∃ p, Pr p ∧ p ∣ n := exists_pr n n (Nat.le_refl _) hn
theorem Pr.of_dvd {p q : Nat} (hp : Pr p) (hq : Pr q) (h : p ∣ q) : p = q := by
  rcases hq.2 p h with e | e
  · have := hp.1; omega
  · exact e

/-! ### What is left, modulo n -/
theorem cm_mul {n a b c d : Nat} (h1 : a % n = b % n) (h2 : c % n = d % n) : a * c % n = b * d % n := by
  rw [Nat.mul_mod, h1, h2, ← Nat.mul_mod]
theorem cm_pow {n a b k : Nat} (h : a % n = b % n) : a ^ k % n = b ^ k % n := by
  rw [Nat.pow_mod, h, ← Nat.pow_mod]
theorem cm_self (a n : Nat) : a % n % n = a % n := Nat.mod_mod _ _
theorem cm_dvd {n a b : Nat} (h : a % n = b % n) (_ : b ≤ a) : n ∣ a - b :=
  Nat.dvd_of_mod_eq_zero (Nat.sub_mod_eq_zero_of_mod_eq h)
theorem cm_of_dvd {n a b : Nat} (h : n ∣ a - b) (hle : b ≤ a) : a % n = b % n := by
  obtain ⟨c, hc⟩ := h
  have : a = b + n * c := by omega
  rw [this, Nat.add_mul_mod_self_left]
theorem cm_le {n m a b : Nat} (h : a % n = b % n) (hd : m ∣ n) : a % m = b % m := by
  rw [← Nat.mod_mod_of_dvd a hd, h, Nat.mod_mod_of_dvd _ hd]
theorem cop_cancel {n a b c : Nat} (hc : Nat.Coprime n c) (h : a * c % n = b * c % n) : a % n = b % n := by
  have key : ∀ {a b : Nat}, b ≤ a → a * c % n = b * c % n → a % n = b % n := by
    intro a b hle h
    have h1 := cm_dvd h (Nat.mul_le_mul_right c hle)
    rw [← Nat.sub_mul] at h1
    exact cm_of_dvd (hc.dvd_of_dvd_mul_right h1) hle
  rcases Nat.le_total b a with hle | hle
  · exact key hle h
  · exact (key hle h.symm).symm
theorem Pr.cancel {p a b c : Nat} (hp : Pr p) (hc : ¬ p ∣ c) (h : a * c % p = b * c % p) : a % p = b % p :=
  cop_cancel (hp.cop hc) h

/-! ### Fermat -/
def prodL : List Nat → Nat
  | [] => 1
  | x :: r => x * prodL r
theorem prodL_perm {l l' : List Nat} (h : l.Perm l') : prodL l = prodL l' := by
  induction h with
  | nil => rfl
  | cons x _ ih => simp [prodL, ih]
  | swap x y l => simp [prodL]; rw [← Nat.mul_assoc, ← Nat.mul_assoc, Nat.mul_comm y x]
  | trans _ _ h1 h2 => rw [h1, h2]
theorem prodL_scaled (a n : Nat) : ∀ l : List Nat, prodL (l.map fun i => a * i % n) % n = a ^ l.length * prodL l % n
  | [] => by simp [prodL]
  | x :: r => by
    simp only [List.map_cons, prodL, List.length_cons]
    rw [cm_mul (cm_self (a * x) n) (prodL_scaled a n r), Nat.pow_succ]
    congr 1
    rw [Nat.mul_assoc, Nat.mul_left_comm x, ← Nat.mul_assoc, Nat.mul_comm a, Nat.mul_assoc]
theorem Pr.not_prod {p : Nat} (h : Pr p) : ∀ {l : List Nat}, (∀ x ∈ l, ¬ p ∣ x) → ¬ p ∣ prodL l
  | [], _, hd => by
    have := Nat.le_of_dvd (by simp [prodL]) hd
    have := h.1
    simp [prodL] at *
    omega
  | x :: r, hl, hd => by
    rcases h.mul hd with h1 | h1
    · exact hl x (by simp) h1
    · exact h.not_prod (fun y hy => hl y (by simp [hy])) h1
theorem Pr.in_prod {p : Nat} (h : Pr p) {l : List Nat} (hd : p ∣ prodL l) : ∃ x ∈ l, p ∣ x := by
  apply Classical.byContradiction
  intro hn
  exact h.not_prod (fun x hx hpx => hn ⟨x, hx, hpx⟩) hd

theorem perm_of_sub {l l' : List Nat} (h1 : l.Nodup) (h2 : l'.Nodup) (hs : ∀ x ∈ l, x ∈ l') (hl : l.length = l'.length) : l.Perm l' := by
  rw [List.perm_ext_iff_of_nodup h1 h2]
  refine fun x => ⟨hs x, fun hx => ?_⟩
  apply Classical.byContradiction
  intro hn
  have hsub : l ⊆ l'.erase x := fun y hy => by
    have hyx : y ≠ x := fun e => hn (e ▸ hy)
    exact (List.mem_erase_of_ne hyx).2 (hs y hy)
  have := h1.length_le_of_subset hsub
  rw [List.length_erase] at this
  simp [hx] at this
  have := List.length_pos_of_mem hx
  omega

theorem fermat {p a : Nat} (hp : Pr p) (ha : ¬ p ∣ a) : a ^ (p - 1) % p = 1 := by
  have h2 := hp.1
  have hnd : (List.range' 1 (p - 1)).Nodup := List.nodup_range'
  have hmem : ∀ x, x ∈ List.range' 1 (p - 1) ↔ 1 ≤ x ∧ x < p := by
    intro x
    rw [List.mem_range'_1]
    omega
  have hno : ∀ x, 1 ≤ x → x < p → ¬ p ∣ x := fun x h1 h2 hd => by have := Nat.le_of_dvd (by omega) hd; omega
  have hperm : ((List.range' 1 (p - 1)).map fun i => a * i % p).Perm (List.range' 1 (p - 1)) := by
    refine perm_of_sub ?_ hnd ?_ (by simp)
    · rw [List.nodup_iff_pairwise_ne, List.pairwise_map]
      rw [List.nodup_iff_pairwise_ne] at hnd
      refine List.Pairwise.imp_of_mem ?_ hnd
      intro x y hx hy hne e
      have hx' := (hmem x).1 hx
      have hy' := (hmem y).1 hy
      have := hp.cancel ha (a := x) (b := y) (by rw [Nat.mul_comm x, Nat.mul_comm y]; exact e)
      rw [Nat.mod_eq_of_lt hx'.2, Nat.mod_eq_of_lt hy'.2] at this
      exact hne this
    · intro x hx
      obtain ⟨i, hi, rfl⟩ := List.mem_map.1 hx
      have hi' := (hmem i).1 hi
      rw [hmem]
      refine ⟨?_, Nat.mod_lt _ (by omega)⟩
      have : a * i % p ≠ 0 := by
        intro e
        rcases hp.mul (Nat.dvd_of_mod_eq_zero e) with h | h
        · exact ha h
        · exact hno i hi'.1 hi'.2 h
      omega
  have h1 := prodL_scaled a p (List.range' 1 (p - 1))
  rw [prodL_perm hperm, List.length_range'] at h1
  have hP : ¬ p ∣ prodL (List.range' 1 (p - 1)) := hp.not_prod fun x hx => by
    have := (hmem x).1 hx
    exact hno x this.1 this.2
  have h3 := hp.cancel hP (a := 1) (b := a ^ (p - 1)) (by rw [Nat.one_mul]; exact h1)
  rw [← h3]
  exact Nat.mod_eq_of_lt (by omega)

/-- Modulo a prime 1 has no square roots but 1 and -1. -/
theorem sqrt_one {p r : Nat} (hp : Pr p) (hr : r < p) (h : r * r % p = 1) : r = 1 ∨ r = p - 1 := by
  have h2 := hp.1
  have hr0 : 1 ≤ r := by
    rcases Nat.eq_zero_or_pos r with e | e
    · subst e; simp at h
    · exact e
  have hd : p ∣ r * r - 1 := cm_dvd (by rw [h]; exact (Nat.mod_eq_of_lt (by omega)).symm) (Nat.mul_pos hr0 hr0)
  have he : r * r - 1 = (r - 1) * (r + 1) := by
    obtain ⟨s, rfl⟩ : ∃ s, r = s + 1 := ⟨r - 1, by omega⟩
    have : (s + 1) * (s + 1) = s * (s + 1 + 1) + 1 := by
      simp only [Nat.mul_add, Nat.add_mul]
      omega
    rw [this]
    simp
  rw [he] at hd
  rcases hp.mul hd with h1 | h1
  · rcases Nat.eq_zero_or_pos (r - 1) with e | e
    · left; omega
    · have := Nat.le_of_dvd e h1
      omega
  · have := Nat.le_of_dvd (by omega) h1
    right; omega

/-! ### The exponents that leave 1 -/
theorem exp_mul {a q e : Nat} (hq : 2 ≤ q) (h : a ^ e % q = 1) (k : Nat) : a ^ (e * k) % q = 1 := by
  rw [Nat.pow_mul, cm_pow (b := 1) (by rw [h]; exact (Nat.mod_eq_of_lt (by omega)).symm), Nat.one_pow]
  exact Nat.mod_eq_of_lt (by omega)
theorem exp_dvd {a q e f : Nat} (hq : 2 ≤ q) (h : a ^ e % q = 1) (hd : e ∣ f) : a ^ f % q = 1 := by
  obtain ⟨k, rfl⟩ := hd
  exact exp_mul hq h k
theorem exp_mod {a q m n : Nat} (hq : 2 ≤ q) (hm : a ^ m % q = 1) (hn : a ^ n % q = 1) : a ^ (n % m) % q = 1 := by
  have e : n = m * (n / m) + n % m := (Nat.div_add_mod n m).symm
  have h1 : a ^ n % q = 1 * a ^ (n % m) % q := by
    have : a ^ n = a ^ (m * (n / m)) * a ^ (n % m) := by rw [← Nat.pow_add, ← e]
    rw [this]
    exact cm_mul (by rw [exp_mul hq hm]; exact (Nat.mod_eq_of_lt (by omega)).symm) rfl
  rw [Nat.one_mul] at h1
  rw [← h1, hn]
theorem exp_gcd {a q : Nat} (hq : 2 ≤ q) (m n : Nat) : a ^ m % q = 1 → a ^ n % q = 1 → a ^ (Nat.gcd m n) % q = 1 := by
  induction m, n using Nat.gcd.induction with
  | H0 n => intro _ h; rw [Nat.gcd_zero_left]; exact h
  | H1 m n hm ih =>
    intro h1 h2
    rw [Nat.gcd_rec]
    exact ih (exp_mod hq h1 h2) h1

/-- 2, 3, 5 and 7 to the power of e leave 1. -/
structure SQ (q e : Nat) : Prop where
  two : 2 ^ e % q = 1
  three : 3 ^ e % q = 1
  five : 5 ^ e % q = 1
  seven : 7 ^ e % q = 1
theorem SQ.gcd {q m n : Nat} (hq : 2 ≤ q) (h1 : SQ q m) (h2 : SQ q n) : SQ q (Nat.gcd m n) :=
  ⟨exp_gcd hq m n h1.two h2.two, exp_gcd hq m n h1.three h2.three, exp_gcd hq m n h1.five h2.five, exp_gcd hq m n h1.seven h2.seven⟩
theorem SQ.dvd {q e f : Nat} (hq : 2 ≤ q) (h : SQ q e) (hd : e ∣ f) : SQ q f :=
  ⟨exp_dvd hq h.two hd, exp_dvd hq h.three hd, exp_dvd hq h.five hd, exp_dvd hq h.seven hd⟩
theorem SQ.low {n q e : Nat} (hq : 2 ≤ q) (h : SQ n e) (hd : q ∣ n) : SQ q e := by
  have key : ∀ {a : Nat}, a ^ e % n = 1 → a ^ e % q = 1 := by
    intro a ha
    have h0 : n ≠ 1 := by rintro rfl; rw [Nat.mod_one] at ha; omega
    have := cm_le (n := n) (m := q) (a := a ^ e) (b := 1) (by rw [ha]; rcases Nat.lt_or_ge 1 n with h | h; exact (Nat.mod_eq_of_lt h).symm; (have : n = 0 := by omega); subst this; rfl) hd
    rw [this]
    exact Nat.mod_eq_of_lt (by omega)
  exact ⟨key h.two, key h.three, key h.five, key h.seven⟩

theorem dvd_210 {q : Nat} (h : Nat.gcd q 210 = 1) (hq : 2 ≤ q) : ¬ q ∣ 2 ∧ ¬ q ∣ 3 ∧ ¬ q ∣ 5 ∧ ¬ q ∣ 7 := by
  have key : ∀ a, a ∣ 210 → ¬ q ∣ a := fun a ha hd => by
    have := Nat.dvd_gcd (Nat.dvd_refl q) (Nat.dvd_trans hd ha)
    rw [h] at this
    have := Nat.le_of_dvd (by omega) this
    omega
  exact ⟨key 2 (by decide), key 3 (by decide), key 5 (by decide), key 7 (by decide)⟩
theorem SQ.fermat {q : Nat} (hp : Pr q) (h : Nat.gcd q 210 = 1) : SQ q (q - 1) := by
  obtain ⟨h2, h3, h5, h7⟩ := dvd_210 h hp.1
  exact ⟨Wp.fermat hp h2, Wp.fermat hp h3, Wp.fermat hp h5, Wp.fermat hp h7⟩
theorem gcd_low {n q k : Nat} (h : Nat.gcd n k = 1) (hd : q ∣ n) : Nat.gcd q k = 1 := by
  have := Nat.dvd_gcd (Nat.dvd_trans (Nat.gcd_dvd_left q k) hd) (Nat.gcd_dvd_right q k)
  rw [h] at this
  exact Nat.dvd_one.1 this

/-- Of a prime q that divides n = q * m, where n - 1 leaves 1, so does m - 1. -/
theorem SQ.cofactor {q m : Nat} (hp : Pr q) (hg : Nat.gcd q 210 = 1) (hm : 1 ≤ m) (h : SQ (q * m) (q * m - 1)) : SQ q (m - 1) := by
  have h2 := hp.1
  have h1 := h.low h2 (Nat.dvd_mul_right q m)
  have hf := SQ.fermat hp hg
  have e : q * m - 1 = (q - 1) * m + (m - 1) := by
    have : q * m = (q - 1) * m + m := by
      rw [← Nat.succ_mul]
      congr 1
      omega
    omega
  have key : ∀ {a : Nat}, a ^ (q - 1) % q = 1 → a ^ (q * m - 1) % q = 1 → a ^ (m - 1) % q = 1 := by
    intro a h1 h2'
    rw [e, Nat.pow_add] at h2'
    rw [cm_mul (b := 1) (d := a ^ (m - 1)) (by rw [exp_mul h2 h1]; exact (Nat.mod_eq_of_lt (by omega)).symm) rfl, Nat.one_mul] at h2'
    exact h2'
  exact ⟨key hf.two h1.two, key hf.three h1.three, key hf.five h1.five, key hf.seven h1.seven⟩

/-! ### No square divides n, but Wieferich's -/
theorem one_add_pow (x : Nat) : ∀ n, ∃ c, (1 + x) ^ n = 1 + n * x + c * (x * x)
  | 0 => ⟨0, by simp⟩
  | n + 1 => by
    obtain ⟨c, hc⟩ := one_add_pow x n
    refine ⟨c + n + c * x, ?_⟩
    rw [Nat.pow_succ, hc]
    simp only [Nat.add_mul, Nat.mul_add, Nat.one_mul, Nat.mul_one, Nat.mul_assoc]
    omega
theorem wief {p n : Nat} (hp : Pr p) (h2 : ¬ p ∣ 2) (hd : p * p ∣ n) (hn : 2 ≤ n) (h : 2 ^ (n - 1) % n = 1) : 2 ^ (p - 1) % (p * p) = 1 := by
  have hp2 := hp.1
  have hpp : 2 ≤ p * p := by
    have := Nat.mul_le_mul hp2 hp2
    omega
  have hone : 1 % (p * p) = 1 := Nat.mod_eq_of_lt (by omega)
  have h1 : 2 ^ (n - 1) % (p * p) = 1 := by
    have := cm_le (n := n) (m := p * p) (a := 2 ^ (n - 1)) (b := 1) (by rw [h]; exact (Nat.mod_eq_of_lt (by omega)).symm) hd
    rw [this, hone]
  have hf := fermat hp h2
  have h3 : 2 ^ ((p - 1) * p) % (p * p) = 1 := by
    have hpos : 1 ≤ 2 ^ (p - 1) := Nat.one_le_two_pow
    obtain ⟨k, hk⟩ := cm_dvd (n := p) (a := 2 ^ (p - 1)) (b := 1) (by rw [hf]; exact (Nat.mod_eq_of_lt (by omega)).symm) hpos
    have e : 2 ^ (p - 1) = 1 + p * k := by omega
    rw [Nat.pow_mul, e]
    obtain ⟨c, hc⟩ := one_add_pow (p * k) p
    rw [hc]
    have : 1 + p * (p * k) + c * (p * k * (p * k)) = 1 + p * p * (k + c * (k * k)) := by
      rw [Nat.add_assoc, Nat.mul_add (p * p)]
      congr 2
      · rw [Nat.mul_assoc]
      · simp only [Nat.mul_left_comm, Nat.mul_comm]
    rw [this, Nat.add_mul_mod_self_left, hone]
  have hc : Nat.Coprime (n - 1) p := by
    have hpn : p ∣ n := Nat.dvd_trans (Nat.dvd_mul_right p p) hd
    have : ¬ p ∣ n - 1 := fun h => by
      have := Nat.dvd_sub hpn h
      rw [show n - (n - 1) = 1 by omega] at this
      have := Nat.le_of_dvd (by omega) this
      omega
    exact (hp.cop this).symm
  have hg := exp_gcd hpp (n - 1) ((p - 1) * p) h1 h3
  refine exp_dvd hpp hg ?_
  refine Nat.Coprime.dvd_of_dvd_mul_right (n := p) (m := p - 1) ?_ (Nat.gcd_dvd_right _ _)
  exact Nat.Coprime.coprime_dvd_left (Nat.gcd_dvd_left _ _) hc

end Go.Proofs.YtolnkgghejhaeaaGreatDoor.Wp
