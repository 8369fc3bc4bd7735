/- Numbers modulo a number, plain: primes, Fermat's little theorem, square roots of 1, the exponents that leave 1. Nothing of the program here. -/
import Derived.Lib.Hide
import Derived.Lib.TrailingZeros
namespace Go.Proofs.YtgadbnbhgpehjaaGreatDoor.Wp
def Pr (p : Nat) : Prop := 2 ≤ p ∧ ∀ d, d ∣ p → d = 1 ∨ d = p
theorem Pr.cop {p a : Nat} (h : Pr p) (ha : ¬ p ∣ a) : Nat.Coprime p a := by
 rcases h.2 _ (Nat.gcd_dvd_left p a) with e | e
 ·exact e
 ·exact absurd (by have := Nat.gcd_dvd_right p a; rwa [e] at this) ha
theorem Pr.mul {p a b : Nat} (h : Pr p) (hd : p ∣ a * b) : p ∣ a ∨ p ∣ b := by
 by_cases ha : p ∣ a
 ·exact .inl ha
 ·exact .inr ((h.cop ha).dvd_of_dvd_mul_left hd)
theorem Zg9 : ∀ (b n : Nat), n ≤ b → 2 ≤ n → ∃ p, Pr p ∧ p ∣ n
 | 0, n, hb, hn => by omega
 | b + 1, n, hb, hn => by
  by_cases h : ∃ d, d ∣ n ∧ d ≠ 1 ∧ d ≠ n
  ·obtain ⟨d, hd, h1, h2⟩ := h
   have hle := Nat.le_of_dvd (by omega) hd
   have h0 : d ≠ 0 := by rintro rfl; have := Nat.eq_zero_of_zero_dvd hd; omega
   obtain ⟨p, hp, hpd⟩ := Zg9 b d (by omega) (by omega)
   exact ⟨p, hp, Nat.dvd_trans hpd hd⟩
  ·refine ⟨n, ⟨hn, fun d hd => ?_⟩, Nat.dvd_refl n⟩
   by_cases h1 : d = 1
   ·exact .inl h1
   ·by_cases h2 : d = n
    ·exact .inr h2
    ·exact absurd ⟨d, hd, h1, h2⟩ h
theorem Zh0 {n : Nat} (hn : 2 ≤ n) : ∃ p, Pr p ∧ p ∣ n := Zg9 n n (Nat.le_refl _) hn
theorem Pr.of_dvd {p q : Nat} (hp : Pr p) (hq : Pr q) (h : p ∣ q) : p = q := by
 rcases hq.2 p h with e | e
 ·have := hp.1; omega
 ·exact e
theorem S9_ {n a b c d : Nat} (h1 : a % n = b % n) (h2 : c % n = d % n) : a * c % n = b * d % n := by
 rw [Nat.mul_mod, h1, h2, ← Nat.mul_mod]
theorem I1_ {n a b k : Nat} (h : a % n = b % n) : a ^ k % n = b ^ k % n := by
 rw [Nat.pow_mod, h, ← Nat.pow_mod]
theorem E1_ (a n : Nat) : a % n % n = a % n := Nat.mod_mod _ _
theorem Yz7 {n a b : Nat} (h : a % n = b % n) (_ : b ≤ a) : n ∣ a - b :=
 Nat.dvd_of_mod_eq_zero (Nat.sub_mod_eq_zero_of_mod_eq h)
theorem Zh1 {n a b : Nat} (h : n ∣ a - b) (hle : b ≤ a) : a % n = b % n := by
 obtain ⟨c, hc⟩ := h
 have : a = b + n * c := by omega
 rw [this, Nat.add_mul_mod_self_left]
theorem cm_le {n m a b : Nat} (h : a % n = b % n) (hd : m ∣ n) : a % m = b % m := by
 rw [← Nat.mod_mod_of_dvd a hd, h, Nat.mod_mod_of_dvd _ hd]
theorem Za1 {n a b c : Nat} (hc : Nat.Coprime n c) (h : a * c % n = b * c % n) : a % n = b % n := by
 have key : ∀ {a b : Nat}, b ≤ a → a * c % n = b * c % n → a % n = b % n := by
  intro a b hle h
  have h1 := Yz7 h (Nat.mul_le_mul_right c hle)
  rw [← Nat.sub_mul] at h1
  exact Zh1 (hc.dvd_of_dvd_mul_right h1) hle
 rcases Nat.le_total b a with hle | hle
 ·exact key hle h
 ·exact (key hle h.symm).symm
theorem Pr.cancel {p a b c : Nat} (hp : Pr p) (hc : ¬ p ∣ c) (h : a * c % p = b * c % p) : a % p = b % p :=
 Za1 (hp.cop hc) h
def prodL : List Nat → Nat
 | [] => 1
 | x :: r => x * prodL r
theorem Ya4 {l l' : List Nat} (h : l.Perm l') : prodL l = prodL l' := by
 induction h with
 | nil => rfl
 | cons x _ ih => simp [prodL, ih]
 | swap x y l => simp [prodL]; rw [← Nat.mul_assoc, ← Nat.mul_assoc, Nat.mul_comm y x]
 | trans _ _ h1 h2 => rw [h1, h2]
theorem T0_ (a n : Nat) : ∀ l : List Nat, prodL (l.map fun i => a * i % n) % n = a ^ l.length * prodL l % n
 | [] => by simp [prodL]
 | x :: r => by
  simp only [List.map_cons, prodL, List.length_cons]
  rw [S9_ (E1_ (a * x) n) (T0_ a n r), Nat.pow_succ]
  congr 1
  rw [Nat.mul_assoc, Nat.mul_left_comm x, ← Nat.mul_assoc, Nat.mul_comm a, Nat.mul_assoc]
theorem Pr.not_prod {p : Nat} (h : Pr p) : ∀ {l : List Nat}, (∀ x ∈ l, ¬ p ∣ x) → ¬ p ∣ prodL l
 | [], _, hd => by
  have := Nat.le_of_dvd (by simp [prodL]) hd
  have := h.1
  simp [prodL] at *
  omega
 | x :: r, hl, hd => by
  rcases h.mul hd with h1 | h1
  ·exact hl x (by simp) h1
  ·exact h.not_prod (fun y hy => hl y (by simp [hy])) h1
theorem Pr.in_prod {p : Nat} (h : Pr p) {l : List Nat} (hd : p ∣ prodL l) : ∃ x ∈ l, p ∣ x := by
 apply Classical.byContradiction
 intro hn
 exact h.not_prod (fun x hx hpx => hn ⟨x, hx, hpx⟩) hd
theorem Zo4 {l l' : List Nat} (h1 : l.Nodup) (h2 : l'.Nodup) (hs : ∀ x ∈ l, x ∈ l') (hl : l.length = l'.length) : l.Perm l' := by
 rw [List.perm_ext_iff_of_nodup h1 h2]
 refine fun x => ⟨hs x, fun hx => ?_⟩
 apply Classical.byContradiction
 intro hn
 have hsub : l ⊆ l'.erase x := fun y hy => by
  have hyx : y ≠ x := fun e => hn (e ▸ hy)
  exact (List.mem_erase_of_ne hyx).2 (hs y hy)
 have := h1.length_le_of_subset hsub
 rw [List.length_erase] at this
 simp [hx] at this
 have := List.length_pos_of_mem hx
 omega
theorem fermat {p a : Nat} (hp : Pr p) (ha : ¬ p ∣ a) : a ^ (p - 1) % p = 1 := by
 have h2 := hp.1
 have hnd : (List.range' 1 (p - 1)).Nodup := List.nodup_range'
 have hmem : ∀ x, x ∈ List.range' 1 (p - 1) ↔ 1 ≤ x ∧ x < p := by
  intro x
  rw [List.mem_range'_1]
  omega
 have hno : ∀ x, 1 ≤ x → x < p → ¬ p ∣ x := fun x h1 h2 hd => by have := Nat.le_of_dvd (by omega) hd; omega
 have hperm : ((List.range' 1 (p - 1)).map fun i => a * i % p).Perm (List.range' 1 (p - 1)) := by
  refine Zo4 ?_ hnd ?_ (by simp)
  ·rw [List.nodup_iff_pairwise_ne, List.pairwise_map]
   rw [List.nodup_iff_pairwise_ne] at hnd
   refine List.Pairwise.imp_of_mem ?_ hnd
   intro x y hx hy hne e
   have hx' := (hmem x).1 hx
   have hy' := (hmem y).1 hy
   have := hp.cancel ha (a := x) (b := y) (by rw [Nat.mul_comm x, Nat.mul_comm y]; exact e)
   rw [Nat.mod_eq_of_lt hx'.2, Nat.mod_eq_of_lt hy'.2] at this
   exact hne this
  ·intro x hx
   obtain ⟨i, hi, rfl⟩ := List.mem_map.1 hx
   have hi' := (hmem i).1 hi
   rw [hmem]
   refine ⟨?_, Nat.mod_lt _ (by omega)⟩
   have : a * i % p ≠ 0 := by
    intro e
    rcases hp.mul (Nat.dvd_of_mod_eq_zero e) with h | h
    ·exact ha h
    ·exact hno i hi'.1 hi'.2 h
   omega
 have h1 := T0_ a p (List.range' 1 (p - 1))
 rw [Ya4 hperm, List.length_range'] at h1
 have hP : ¬ p ∣ prodL (List.range' 1 (p - 1)) := hp.not_prod fun x hx => by
  have := (hmem x).1 hx
  exact hno x this.1 this.2
 have h3 := hp.cancel hP (a := 1) (b := a ^ (p - 1)) (by rw [Nat.one_mul]; exact h1)
 rw [← h3]
 exact Nat.mod_eq_of_lt (by omega)
theorem Xy4 {p r : Nat} (hp : Pr p) (hr : r < p) (h : r * r % p = 1) : r = 1 ∨ r = p - 1 := by
 have h2 := hp.1
 have hr0 : 1 ≤ r := by
  rcases Nat.eq_zero_or_pos r with e | e
  ·subst e; simp at h
  ·exact e
 have hd : p ∣ r * r - 1 := Yz7 (by rw [h]; exact (Nat.mod_eq_of_lt (by omega)).symm) (Nat.mul_pos hr0 hr0)
 have he : r * r - 1 = (r - 1) * (r + 1) := by
  obtain ⟨s, rfl⟩ : ∃ s, r = s + 1 := ⟨r - 1, by omega⟩
  have : (s + 1) * (s + 1) = s * (s + 1 + 1) + 1 := by
   simp only [Nat.mul_add, Nat.add_mul]
   omega
  rw [this]
  simp
 rw [he] at hd
 rcases hp.mul hd with h1 | h1
 ·rcases Nat.eq_zero_or_pos (r - 1) with e | e
  ·left; omega
  ·have := Nat.le_of_dvd e h1
   omega
 ·have := Nat.le_of_dvd (by omega) h1
  right; omega
theorem Zo5 {a q e : Nat} (hq : 2 ≤ q) (h : a ^ e % q = 1) (k : Nat) : a ^ (e * k) % q = 1 := by
 rw [Nat.pow_mul, I1_ (b := 1) (by rw [h]; exact (Nat.mod_eq_of_lt (by omega)).symm), Nat.one_pow]
 exact Nat.mod_eq_of_lt (by omega)
theorem Zz2 {a q e f : Nat} (hq : 2 ≤ q) (h : a ^ e % q = 1) (hd : e ∣ f) : a ^ f % q = 1 := by
 obtain ⟨k, rfl⟩ := hd
 exact Zo5 hq h k
theorem Xk9 {a q m n : Nat} (hq : 2 ≤ q) (hm : a ^ m % q = 1) (hn : a ^ n % q = 1) : a ^ (n % m) % q = 1 := by
 have e : n = m * (n / m) + n % m := (Nat.div_add_mod n m).symm
 have h1 : a ^ n % q = 1 * a ^ (n % m) % q := by
  have : a ^ n = a ^ (m * (n / m)) * a ^ (n % m) := by rw [← Nat.pow_add, ← e]
  rw [this]
  exact S9_ (by rw [Zo5 hq hm]; exact (Nat.mod_eq_of_lt (by omega)).symm) rfl
 rw [Nat.one_mul] at h1
 rw [← h1, hn]
theorem Zz3 {a q : Nat} (hq : 2 ≤ q) (m n : Nat) : a ^ m % q = 1 → a ^ n % q = 1 → a ^ (Nat.gcd m n) % q = 1 := by
 induction m, n using Nat.gcd.induction with
 | H0 n => intro _ h; rw [Nat.gcd_zero_left]; exact h
 | H1 m n hm ih =>
  intro h1 h2
  rw [Nat.gcd_rec]
  exact ih (Xk9 hq h1 h2) h1
structure SQ (q e : Nat) : Prop where
 two : 2 ^ e % q = 1
 three : 3 ^ e % q = 1
 five : 5 ^ e % q = 1
 seven : 7 ^ e % q = 1
theorem SQ.gcd {q m n : Nat} (hq : 2 ≤ q) (h1 : SQ q m) (h2 : SQ q n) : SQ q (Nat.gcd m n) :=
 ⟨Zz3 hq m n h1.two h2.two, Zz3 hq m n h1.three h2.three, Zz3 hq m n h1.five h2.five, Zz3 hq m n h1.seven h2.seven⟩
theorem SQ.dvd {q e f : Nat} (hq : 2 ≤ q) (h : SQ q e) (hd : e ∣ f) : SQ q f :=
 ⟨Zz2 hq h.two hd, Zz2 hq h.three hd, Zz2 hq h.five hd, Zz2 hq h.seven hd⟩
theorem SQ.low {n q e : Nat} (hq : 2 ≤ q) (h : SQ n e) (hd : q ∣ n) : SQ q e := by
 have key : ∀ {a : Nat}, a ^ e % n = 1 → a ^ e % q = 1 := by
  intro a ha
  have h0 : n ≠ 1 := by rintro rfl; rw [Nat.mod_one] at ha; omega
  have := cm_le (n := n) (m := q) (a := a ^ e) (b := 1) (by rw [ha]; rcases Nat.lt_or_ge 1 n with h | h; exact (Nat.mod_eq_of_lt h).symm; (have : n = 0 := by omega); subst this; rfl) hd
  rw [this]
  exact Nat.mod_eq_of_lt (by omega)
 exact ⟨key h.two, key h.three, key h.five, key h.seven⟩
theorem Zo6 {q : Nat} (h : Nat.gcd q 210 = 1) (hq : 2 ≤ q) : ¬ q ∣ 2 ∧ ¬ q ∣ 3 ∧ ¬ q ∣ 5 ∧ ¬ q ∣ 7 := by
 have key : ∀ a, a ∣ 210 → ¬ q ∣ a := fun a ha hd => by
  have := Nat.dvd_gcd (Nat.dvd_refl q) (Nat.dvd_trans hd ha)
  rw [h] at this
  have := Nat.le_of_dvd (by omega) this
  omega
 exact ⟨key 2 (by decide), key 3 (by decide), key 5 (by decide), key 7 (by decide)⟩
theorem SQ.fermat {q : Nat} (hp : Pr q) (h : Nat.gcd q 210 = 1) : SQ q (q - 1) := by
 obtain ⟨h2, h3, h5, h7⟩ := Zo6 h hp.1
 exact ⟨Wp.fermat hp h2, Wp.fermat hp h3, Wp.fermat hp h5, Wp.fermat hp h7⟩
theorem Zo7 {n q k : Nat} (h : Nat.gcd n k = 1) (hd : q ∣ n) : Nat.gcd q k = 1 := by
 have := Nat.dvd_gcd (Nat.dvd_trans (Nat.gcd_dvd_left q k) hd) (Nat.gcd_dvd_right q k)
 rw [h] at this
 exact Nat.dvd_one.1 this
theorem SQ.cofactor {q m : Nat} (hp : Pr q) (hg : Nat.gcd q 210 = 1) (hm : 1 ≤ m) (h : SQ (q * m) (q * m - 1)) : SQ q (m - 1) := by
 have h2 := hp.1
 have h1 := h.low h2 (Nat.dvd_mul_right q m)
 have hf := SQ.fermat hp hg
 have e : q * m - 1 = (q - 1) * m + (m - 1) := by
  have : q * m = (q - 1) * m + m := by
   rw [← Nat.succ_mul]
   congr 1
   omega
  omega
 have key : ∀ {a : Nat}, a ^ (q - 1) % q = 1 → a ^ (q * m - 1) % q = 1 → a ^ (m - 1) % q = 1 := by
  intro a h1 h2'
  rw [e, Nat.pow_add] at h2'
  rw [S9_ (b := 1) (d := a ^ (m - 1)) (by rw [Zo5 h2 h1]; exact (Nat.mod_eq_of_lt (by omega)).symm) rfl, Nat.one_mul] at h2'
  exact h2'
 exact ⟨key hf.two h1.two, key hf.three h1.three, key hf.five h1.five, key hf.seven h1.seven⟩
theorem Zz4 (x : Nat) : ∀ n, ∃ c, (1 + x) ^ n = 1 + n * x + c * (x * x)
 | 0 => ⟨0, by simp⟩
 | n + 1 => by
  obtain ⟨c, hc⟩ := Zz4 x n
  refine ⟨c + n + c * x, ?_⟩
  rw [Nat.pow_succ, hc]
  simp only [Nat.add_mul, Nat.mul_add, Nat.one_mul, Nat.mul_one, Nat.mul_assoc]
  omega
theorem wief {p n : Nat} (hp : Pr p) (h2 : ¬ p ∣ 2) (hd : p * p ∣ n) (hn : 2 ≤ n) (h : 2 ^ (n - 1) % n = 1) : 2 ^ (p - 1) % (p * p) = 1 := by
 have hp2 := hp.1
 have hpp : 2 ≤ p * p := by
  have := Nat.mul_le_mul hp2 hp2
  omega
 have hone : 1 % (p * p) = 1 := Nat.mod_eq_of_lt (by omega)
 have h1 : 2 ^ (n - 1) % (p * p) = 1 := by
  have := cm_le (n := n) (m := p * p) (a := 2 ^ (n - 1)) (b := 1) (by rw [h]; exact (Nat.mod_eq_of_lt (by omega)).symm) hd
  rw [this, hone]
 have hf := fermat hp h2
 have h3 : 2 ^ ((p - 1) * p) % (p * p) = 1 := by
  have hpos : 1 ≤ 2 ^ (p - 1) := Nat.one_le_two_pow
  obtain ⟨k, hk⟩ := Yz7 (n := p) (a := 2 ^ (p - 1)) (b := 1) (by rw [hf]; exact (Nat.mod_eq_of_lt (by omega)).symm) hpos
  have e : 2 ^ (p - 1) = 1 + p * k := by omega
  rw [Nat.pow_mul, e]
  obtain ⟨c, hc⟩ := Zz4 (p * k) p
  rw [hc]
  have : 1 + p * (p * k) + c * (p * k * (p * k)) = 1 + p * p * (k + c * (k * k)) := by
   rw [Nat.add_assoc, Nat.mul_add (p * p)]
   congr 2
   ·rw [Nat.mul_assoc]
   ·simp only [Nat.mul_left_comm, Nat.mul_comm]
  rw [this, Nat.add_mul_mod_self_left, hone]
 have hc : Nat.Coprime (n - 1) p := by
  have hpn : p ∣ n := Nat.dvd_trans (Nat.dvd_mul_right p p) hd
  have : ¬ p ∣ n - 1 := fun h => by
   have := Nat.dvd_sub hpn h
   rw [show n - (n - 1) = 1 by omega] at this
   have := Nat.le_of_dvd (by omega) this
   omega
  exact (hp.cop this).symm
 have hg := Zz3 hpp (n - 1) ((p - 1) * p) h1 h3
 refine Zz2 hpp hg ?_
 refine Nat.Coprime.dvd_of_dvd_mul_right (n := p) (m := p - 1) ?_ (Nat.gcd_dvd_right _ _)
 exact Nat.Coprime.coprime_dvd_left (Nat.gcd_dvd_left _ _) hc
end Go.Proofs.YtgadbnbhgpehjaaGreatDoor.Wp
namespace Go.Proofs.YtgadbnbhgpehjaaGreatDoor.Wp
def pws (k a n r d : Nat) : Nat := Nat.mod (Nat.mul (Nat.pow r k) (Nat.pow a d)) n
def pw (a e n : Nat) : Nat :=
 pws 256 a n (pws 256 a n (pws 256 a n (Nat.pow a (Nat.div e 16777216)) (Nat.mod (Nat.div e 65536) 256)) (Nat.mod (Nat.div e 256) 256)) (Nat.mod e 256)
theorem Xh1 {k a n r d x : Nat} (h : r % n = a ^ x % n) : pws k a n r d = a ^ (x * k + d) % n := by
 show r ^ k * a ^ d % n = _
 rw [S9_ (I1_ h) rfl, ← Nat.pow_mul, Nat.pow_add]
theorem Yz8 {k a n r d x : Nat} (h : r = a ^ x % n) : pws k a n r d = a ^ (x * k + d) % n := Xh1 (by rw [h, Nat.mod_mod])
theorem pw_eq (a e n : Nat) : pw a e n = a ^ e % n := by
 have h1 := Xh1 (k := 256) (a := a) (n := n) (r := Nat.pow a (Nat.div e 16777216)) (d := Nat.mod (Nat.div e 65536) 256) (x := Nat.div e 16777216) rfl
 have h2 := Yz8 (k := 256) (d := Nat.mod (Nat.div e 256) 256) h1
 have h3 := Yz8 (k := 256) (d := Nat.mod e 256) h2
 unfold pw
 rw [h3]
 congr 2
 show ((e / 16777216 * 256 + e / 65536 % 256) * 256 + e / 256 % 256) * 256 + e % 256 = e
 have dg : ∀ x : Nat, x / 256 * 256 + x % 256 = x := fun x => Nat.div_add_mod' x 256
 have b2 : e / 256 / 256 = e / 65536 := Nat.div_div_eq_div_mul e 256 256
 have b3 : e / 65536 / 256 = e / 16777216 := Nat.div_div_eq_div_mul e 65536 256
 rw [← b3, dg, ← b2, dg, dg]
def sB (q e : Nat) : Bool := cond (Nat.beq (pw 2 e q) 1) (cond (Nat.beq (pw 3 e q) 1) (cond (Nat.beq (pw 5 e q) 1) (Nat.beq (pw 7 e q) 1) false) false) false
theorem I2_ (a b : Nat) : Nat.beq a b = decide (a = b) := by
 rcases h : Nat.beq a b with _ | _
 ·exact (decide_eq_false (Nat.ne_of_beq_eq_false h)).symm
 ·exact (decide_eq_true (Nat.eq_of_beq_eq_true h)).symm
theorem Xw7 (a b : Nat) : Nat.ble a b = decide (a ≤ b) := by
 rcases h : Nat.ble a b with _ | _
 ·refine (decide_eq_false fun hle => ?_).symm
  rw [Nat.ble_eq_true_of_le hle] at h
  cases h
 ·exact (decide_eq_true (Nat.le_of_ble_eq_true h)).symm
theorem sB_iff {q e : Nat} : sB q e = true ↔ SQ q e := by
 unfold sB
 simp only [I2_, pw_eq]
 constructor
 ·intro h
  by_cases h1 : 2 ^ e % q = 1
  ·by_cases h2 : 3 ^ e % q = 1
   ·by_cases h3 : 5 ^ e % q = 1
    ·by_cases h4 : 7 ^ e % q = 1
     ·exact ⟨h1, h2, h3, h4⟩
     ·simp [h1, h2, h3, h4] at h
    ·simp [h1, h2, h3] at h
   ·simp [h1, h2] at h
  ·simp [h1] at h
 ·rintro ⟨h1, h2, h3, h4⟩
  simp [h1, h2, h3, h4]
def tr (q L : Nat) : Nat → Nat → Nat → Bool
 | 0, _, _ => false
 | f + 1, d, R => cond (Nat.ble (Nat.mul d d) R) (cond (Nat.beq (Nat.mod R d) 0) (cond (sB q (Nat.div L d)) false (tr q L f d (Nat.div R d))) (tr q L f (Nat.add d 1) R)) (cond (Nat.beq R 1) true (cond (sB q (Nat.div L R)) false true))
theorem Zo8 {q L : Nat} : ∀ {f d R : Nat}, tr q L f d R = true → 2 ≤ d → 1 ≤ R → (∀ r, Pr r → r ∣ R → d ≤ r) → ∀ r, Pr r → r ∣ R → sB q (L / r) = false
 | 0, _, _, h, _, _, _, _, _, _ => by cases h
 | f + 1, d, R, h, hd, hR, hl, r, hr, hrR => by
  unfold tr at h
  simp only [I2_] at h
  rw [Xw7, show Nat.mul d d = d * d from rfl] at h
  by_cases h1 : d * d ≤ R
  ·simp only [h1, decide_true, cond_true] at h
   by_cases h2 : R % d = 0
   ·rw [show Nat.mod R d = R % d from rfl, decide_eq_true h2, cond_true] at h
    rcases h3 : sB q (Nat.div L d) with _ | _
    ·rw [h3, cond_false] at h
     by_cases hrd : r ∣ d
     ·have h4 := hl r hr hrR
      have h5 := Nat.le_of_dvd (by omega) hrd
      obtain rfl : r = d := by omega
      exact h3
     ·have hdR : d ∣ R := Nat.dvd_of_mod_eq_zero h2
      obtain ⟨c, rfl⟩ := hdR
      have hc : Nat.div (d * c) d = c := Nat.mul_div_cancel_left c (by omega)
      rw [hc] at h
      have hc1 : 1 ≤ c := by
       rcases Nat.eq_zero_or_pos c with e | e
       ·subst e; simp at hR
       ·exact e
      refine Zo8 h hd hc1 (fun x hx hxc => hl x hx (Nat.dvd_trans hxc (Nat.dvd_mul_left c d))) r hr ?_
      rcases hr.mul hrR with h4 | h4
      ·exact absurd h4 hrd
      ·exact h4
    ·rw [h3, cond_true] at h
     cases h
   ·rw [show Nat.mod R d = R % d from rfl, decide_eq_false h2, cond_false] at h
    refine Zo8 (d := d + 1) h (by omega) hR (fun x hx hxR => ?_) r hr hrR
    have h4 := hl x hx hxR
    have h5 : x ≠ d := by rintro rfl; exact h2 (Nat.mod_eq_zero_of_dvd hxR)
    omega
  ·rw [decide_eq_false h1, cond_false] at h
   by_cases h2 : R = 1
   ·subst h2
    have := Nat.le_of_dvd (by omega) hrR
    have := hr.1
    omega
   ·rw [decide_eq_false h2, cond_false] at h
    obtain ⟨c, hc⟩ := hrR
    have hdr := hl r hr ⟨c, hc⟩
    have hc1 : c = 1 := by
     rcases Nat.lt_or_ge c 2 with hlt | hge
     ·rcases Nat.eq_zero_or_pos c with e | e
      ·subst e; omega
      ·omega
     ·obtain ⟨x, hx, hxc⟩ := Zh0 hge
      have h6 := hl x hx (by rw [hc]; exact Nat.dvd_trans hxc (Nat.dvd_mul_left c r))
      have h7 := Nat.le_of_dvd (by omega) hxc
      have := Nat.mul_le_mul hdr (Nat.le_trans h6 h7)
      omega
    subst hc1
    rw [Nat.mul_one] at hc
    subst hc
    rcases h3 : sB q (Nat.div L R) with _ | _
    ·rfl
    ·rw [h3, cond_true] at h
     cases h
def okL (q L : Nat) : Bool := cond (Nat.ble 1 L) (cond (sB q L) (tr q L 500 2 L) false) false
theorem Zd0 {q L e : Nat} (hq : 2 ≤ q) (h : okL q L = true) (he : SQ q e) : L ∣ e := by
 unfold okL at h
 rcases h0 : Nat.ble 1 L with _ | _
 ·rw [h0] at h; cases h
 rw [h0, cond_true] at h
 rcases h1 : sB q L with _ | _
 ·rw [h1] at h; cases h
 rw [h1, cond_true] at h
 have hL : 1 ≤ L := Nat.le_of_ble_eq_true h0
 have hg := he.gcd hq (sB_iff.1 h1)
 have hgL := Nat.gcd_dvd_right e L
 obtain ⟨c, hc⟩ := hgL
 have hc1 : c = 1 := by
  rcases Nat.lt_or_ge c 2 with hlt | hge
  ·rcases Nat.eq_zero_or_pos c with e | e
   ·subst e; omega
   ·omega
  ·obtain ⟨x, hx, y, hy⟩ := Zh0 hge
   have hxp := hx.1
   have e1 : L = x * (Nat.gcd e L * y) := by
    refine hc.trans ?_
    rw [hy, ← Nat.mul_assoc, ← Nat.mul_assoc, Nat.mul_comm x]
   have hxL : x ∣ L := ⟨_, e1⟩
   have h2 := Zo8 h (Nat.le_refl 2) hL (fun r hr _ => hr.1) x hx hxL
   have h3 : SQ q (L / x) := by
    refine hg.dvd hq ⟨y, ?_⟩
    exact Nat.div_eq_of_eq_mul_right (by omega) e1
   rw [sB_iff.2 h3] at h2
   cases h2
 rw [hc1, Nat.mul_one] at hc
 exact hc ▸ Nat.gcd_dvd_left e L
def sl (n : Nat) : Nat → Nat → Bool
 | 0, _ => false
 | s + 1, r => cond (Nat.beq r (Nat.sub n 1)) true (sl n s (Nat.mod (Nat.mul r r) n))
def stB (n w : Nat) : Bool := cond (Nat.beq (pw w (Nat.div (Nat.sub n 1) (Nat.pow 2 (Lib.ctz 64 (Nat.sub n 1)))) n) 1) true (sl n (Lib.ctz 64 (Nat.sub n 1)) (pw w (Nat.div (Nat.sub n 1) (Nat.pow 2 (Lib.ctz 64 (Nat.sub n 1)))) n))
def tst (n : Nat) : Bool := cond (Nat.beq (Nat.gcd n 210) 1) (cond (Nat.beq (pw 2 (Nat.sub n 1) n) 1) (cond (stB n 2) (cond (stB n 3) (cond (stB n 5) (stB n 7) false) false) false) false) false
theorem Zh2 {x : Nat} (h0 : x ≠ 0) (h : x < 2 ^ 64) : ∃ d, x = 2 ^ Lib.ctz 64 x * d ∧ x / 2 ^ Lib.ctz 64 x = d ∧ d % 2 = 1 := by
 obtain ⟨m, hm, _⟩ := Lib.ctzFrom_spec 64 x (by omega) h
 have e : Lib.ctz 64 x = Lib.ctzFrom 64 x := by simp [Lib.ctz, h0]
 rw [e]
 refine ⟨2 * m + 1, hm, ?_, by omega⟩
 exact Nat.div_eq_of_eq_mul_right (Nat.pow_pos (by decide)) hm
theorem Zh3 {n : Nat} (hn : 3 ≤ n) : ∀ {s r : Nat}, sl n s r = true → r ^ 2 ^ s % n = 1
 | 0, _, h => by cases h
 | s + 1, r, h => by
  unfold sl at h
  rw [I2_] at h
  have e : r ^ 2 ^ (s + 1) = (r * r) ^ 2 ^ s := by
   rw [Nat.pow_succ, Nat.mul_comm, Nat.pow_mul, Nat.pow_two]
  by_cases h1 : r = n - 1
  ·have hsq : r * r % n = 1 % n := by
    obtain ⟨m, rfl⟩ : ∃ m, n = m + 1 := ⟨n - 1, by omega⟩
    obtain rfl : r = m := by omega
    have : r * r = 1 + (r + 1) * (r - 1) := by
     obtain ⟨k, rfl⟩ : ∃ k, r = k + 1 := ⟨r - 1, by omega⟩
     simp only [Nat.add_mul, Nat.mul_add, Nat.add_sub_cancel]
     omega
    rw [this, Nat.add_mul_mod_self_left]
   rw [e, I1_ hsq, Nat.one_pow]
   exact Nat.mod_eq_of_lt (by omega)
  ·rw [show Nat.sub n 1 = n - 1 from rfl, decide_eq_false h1, cond_false] at h
   have ih := Zh3 hn h
   rw [e, ← ih]
   exact I1_ (E1_ (r * r) n).symm
theorem L2_ {n w : Nat} (hn : 3 ≤ n) (hn2 : n < 2 ^ 64) (h : stB n w = true) : w ^ (n - 1) % n = 1 := by
 obtain ⟨d, h1, h2, _⟩ := Zh2 (x := n - 1) (by omega) (by omega)
 unfold stB at h
 rw [show Nat.div (Nat.sub n 1) (Nat.pow 2 (Lib.ctz 64 (Nat.sub n 1))) = d from h2, pw_eq, I2_] at h
 have e : w ^ (n - 1) = (w ^ d) ^ 2 ^ Lib.ctz 64 (n - 1) := by
  rw [← Nat.pow_mul, Nat.mul_comm d]
  exact congrArg (w ^ ·) h1
 by_cases h3 : w ^ d % n = 1
 ·rw [e, I1_ (b := 1) (by rw [h3]; exact (Nat.mod_eq_of_lt (by omega)).symm), Nat.one_pow]
  exact Nat.mod_eq_of_lt (by omega)
 ·rw [decide_eq_false h3, cond_false] at h
  rw [e]
  exact (I1_ (E1_ (w ^ d) n).symm).trans (Zh3 hn h)
theorem Yz9 {p : Nat} (hp : Pr p) : ∀ {s r : Nat}, r < p → r ≠ 1 → r ^ 2 ^ s % p = 1 → sl p s r = true
 | 0, r, hr, h1, h => by
  simp at h
  rw [Nat.mod_eq_of_lt hr] at h
  exact absurd h h1
 | s + 1, r, hr, h1, h => by
  have hp2 := hp.1
  unfold sl
  rw [I2_]
  by_cases h2 : r = p - 1
  ·rw [show Nat.sub p 1 = p - 1 from rfl, decide_eq_true h2]
   rfl
  ·rw [show Nat.sub p 1 = p - 1 from rfl, decide_eq_false h2, cond_false]
   have e : r ^ 2 ^ (s + 1) = (r * r) ^ 2 ^ s := by
    rw [Nat.pow_succ, Nat.mul_comm, Nat.pow_mul, Nat.pow_two]
   refine Yz9 hp (Nat.mod_lt _ (by omega)) (fun e1 => ?_) ?_
   ·rcases Xy4 hp hr e1 with h3 | h3
    ·exact h1 h3
    ·exact h2 h3
   ·show (r * r % p) ^ 2 ^ s % p = 1
    rw [← h, e]
    exact I1_ (E1_ (r * r) p)
theorem Yi8 {p w : Nat} (hp : Pr p) (hp3 : 3 ≤ p) (hp2 : p < 2 ^ 64) (hw : ¬ p ∣ w) : stB p w = true := by
 obtain ⟨d, h1, h2, _⟩ := Zh2 (x := p - 1) (by omega) (by omega)
 unfold stB
 rw [show Nat.div (Nat.sub p 1) (Nat.pow 2 (Lib.ctz 64 (Nat.sub p 1))) = d from h2, pw_eq, I2_]
 have e : w ^ (p - 1) = (w ^ d) ^ 2 ^ Lib.ctz 64 (p - 1) := by
  rw [← Nat.pow_mul, Nat.mul_comm d]
  exact congrArg (w ^ ·) h1
 by_cases h3 : w ^ d % p = 1
 ·rw [decide_eq_true h3]; rfl
 ·rw [decide_eq_false h3, cond_false]
  refine Yz9 hp (Nat.mod_lt _ (by omega)) h3 ?_
  rw [I1_ (E1_ (w ^ d) p)]
  have := fermat hp hw
  rw [e] at this
  exact this
def rng (f : Nat → Bool) : Nat → Nat → Bool
 | 0, lo => f lo
 | d + 1, lo => cond (rng f d lo) (rng f d (lo + 2 ^ d)) false
theorem A6_ {f : Nat → Bool} : ∀ {d lo : Nat}, rng f d lo = true → ∀ x, lo ≤ x → x < lo + 2 ^ d → f x = true
 | 0, lo, h, x, h1, h2 => by
  obtain rfl : x = lo := by simp at h2; omega
  exact h
 | d + 1, lo, h, x, h1, h2 => by
  unfold rng at h
  rcases h3 : rng f d lo with _ | _
  ·rw [h3] at h; cases h
  ·rw [h3, cond_true] at h
   rw [Nat.pow_succ] at h2
   by_cases h4 : x < lo + 2 ^ d
   ·exact A6_ h3 x h1 h4
   ·exact A6_ h x (by omega) (by omega)
theorem X6_ {f : Nat → Bool} {d lo hi : Nat} (h1 : rng f d lo = true) (h2 : rng f d hi = true) (e : lo + 2 ^ d = hi) : rng f (d + 1) lo = true := by
 unfold rng
 rw [h1, e, h2]
 rfl
def ks (q L : Nat) : Nat → Bool
 | 0 => true
 | k + 1 => cond (tst (Nat.mul q (Nat.add 1 (Nat.mul (Nat.succ k) L)))) false (ks q L k)
theorem Yi9 {q L : Nat} : ∀ {c : Nat}, ks q L c = true → ∀ k, 1 ≤ k → k ≤ c → tst (q * (1 + k * L)) = false
 | 0, _, k, h1, h2 => by omega
 | c + 1, h, k, h1, h2 => by
  unfold ks at h
  rcases h3 : tst (Nat.mul q (Nat.add 1 (Nat.mul (Nat.succ c) L))) with _ | _
  ·rw [h3, cond_false] at h
   by_cases h4 : k = c + 1
   ·subst h4; exact h3
   ·exact Yi9 h k h1 (by omega)
  ·rw [h3] at h; cases h
def lower (q L r : Nat) : Nat := cond (Nat.beq (Nat.mod L r) 0) (cond (sB q (Nat.div L r)) (Nat.div L r) L) L
def findL (q : Nat) : Nat := lower q (lower q (lower q (lower q (lower q (Nat.sub q 1) 2) 2) 2) 3) 5
def chkL (q L : Nat) : Bool := cond (okL q L) (ks q L (Nat.div (Nat.sub (Nat.div 2147483647 q) 1) L)) false
def Alone (q : Nat) : Prop := ∀ n, n < 2147483648 → q ∣ n → q ≠ n → 1 ≤ n → SQ n (n - 1) → tst n = false
theorem Yy0 {q L : Nat} (hp : Pr q) (hg : Nat.gcd q 210 = 1) (h : chkL q L = true) : Alone q := by
 rintro n hn ⟨m, rfl⟩ hne h1 hs
 have h2 := hp.1
 have hm : 1 ≤ m := by
  rcases Nat.eq_zero_or_pos m with e | e
  ·subst e; simp at h1
  ·exact e
 unfold chkL at h
 rcases h3 : okL q L with _ | _
 ·rw [h3] at h; cases h
 rw [h3, cond_true] at h
 obtain ⟨k, hk⟩ := Zd0 h2 h3 (hs.cofactor hp hg hm)
 have hm1 : m ≠ 1 := by rintro rfl; simp at hne
 have hL : 1 ≤ L := by
  rcases Nat.eq_zero_or_pos L with e | e
  ·subst e; simp at hk; omega
  ·exact e
 have e : m = 1 + k * L := by rw [Nat.mul_comm]; omega
 have hk1 : 1 ≤ k := by
  rcases Nat.eq_zero_or_pos k with e | e
  ·subst e; simp at hk; omega
  ·exact e
 rw [e]
 refine Yi9 h k hk1 ?_
 have hmq : m ≤ 2147483647 / q := (Nat.le_div_iff_mul_le (by omega)).2 (by rw [Nat.mul_comm]; omega)
 refine (Nat.le_div_iff_mul_le hL).2 ?_
 show k * L ≤ 2147483647 / q - 1
 rw [Nat.mul_comm]
 omega
def prim : Nat := 64266330917908644872330635228106713310880186591609208114244758680898150367880703152525200743234420230
theorem Xl0 : prim = prodL [2, 3, 5, 7, 11, 13, 17, 19, 23, 29, 31, 37, 41, 43, 47, 53, 59, 61, 67, 71, 73, 79, 83, 89, 97, 101, 103, 107, 109, 113, 127, 131, 137, 139, 149, 151, 157, 163, 167, 173, 179, 181, 191, 193, 197, 199, 211, 223, 227, 229, 233, 239, 241, 251] := by decide +kernel
theorem Xy5 : ∀ x ∈ [2, 3, 5, 7, 11, 13, 17, 19, 23, 29, 31, 37, 41, 43, 47, 53, 59, 61, 67, 71, 73, 79, 83, 89, 97, 101, 103, 107, 109, 113, 127, 131, 137, 139, 149, 151, 157, 163, 167, 173, 179, 181, 191, 193, 197, 199, 211, 223, 227, 229, 233, 239, 241, 251], 1 ≤ x ∧ x ≤ 251 := by decide +kernel
def chkq (q : Nat) : Bool := cond (Nat.ble 1000 q) (cond (Nat.beq (Nat.gcd q prim) 1) (chkL q (findL q)) true) true
theorem Ya5 {q : Nat} (hp : Pr q) (h1 : 1000 ≤ q) (h : chkq q = true) : Alone q := by
 have hno : ∀ x ∈ [2, 3, 5, 7, 11, 13, 17, 19, 23, 29, 31, 37, 41, 43, 47, 53, 59, 61, 67, 71, 73, 79, 83, 89, 97, 101, 103, 107, 109, 113, 127, 131, 137, 139, 149, 151, 157, 163, 167, 173, 179, 181, 191, 193, 197, 199, 211, 223, 227, 229, 233, 239, 241, 251], ¬ q ∣ x := by
  intro x hx hd
  have hb := Xy5 x hx
  have hle := Nat.le_of_dvd (by omega) hd
  omega
 have hg1 : Nat.gcd q prim = 1 := by
  rcases hp.2 _ (Nat.gcd_dvd_left q prim) with e | e
  ·exact e
  ·have hd := Nat.gcd_dvd_right q prim
   rw [e, Xl0] at hd
   exact absurd hd (hp.not_prod hno)
 have hg : Nat.gcd q 210 = 1 := hp.cop fun hd => by
  have := Nat.le_of_dvd (by decide) hd
  omega
 unfold chkq at h
 rw [show Nat.ble 1000 q = true from Nat.ble_eq_true_of_le h1, cond_true, hg1] at h
 exact Yy0 hp hg h
def pr2 : Nat → Nat → Nat
 | 0, lo => lo
 | d + 1, lo => Nat.mul (pr2 d lo) (pr2 d (Nat.add lo (Nat.pow 2 d)))
theorem Zz5 {p : Nat} (hp : Pr p) : ∀ {d lo : Nat}, 1 ≤ lo → p ∣ pr2 d lo → p < lo + 2 ^ d
 | 0, lo, h1, h => by
  have := Nat.le_of_dvd h1 h
  simp
  omega
 | d + 1, lo, h1, h => by
  rw [Nat.pow_succ]
  have := Nat.pow_pos (n := d) (show 0 < 2 by decide)
  rcases hp.mul h with h2 | h2
  ·have := Zz5 hp h1 h2
   omega
  ·have := Zz5 hp (d := d) (lo := lo + 2 ^ d) (by omega) h2
   omega
def far : List Nat := [65881, 66361, 66721, 67219, 67651, 68041, 68161, 68881, 69001, 70921, 71389, 71761, 74761, 75721,
 76441, 76561, 76801, 77641, 78121, 78241, 79801, 80761, 81001, 84121, 84961, 85201, 87481, 87721,
 88321, 89041, 90001, 90841, 91081, 91381, 91921, 92401, 96769, 106669, 127507, 132001, 132049, 133447,
 147289, 152041, 155521, 170809, 184969]
def great : Nat := Nat.mul (pr2 16 1) (prodL far)
def gm (m : Nat) : Nat := Nat.gcd (Nat.gcd (Nat.gcd (Nat.sub (Nat.pow 2 (Nat.sub m 1)) 1) (Nat.sub (Nat.pow 3 (Nat.sub m 1)) 1)) (Nat.sub (Nat.pow 5 (Nat.sub m 1)) 1)) (Nat.sub (Nat.pow 7 (Nat.sub m 1)) 1)
def chkm (Q m : Nat) : Bool := cond (Nat.ble 11 m) (cond (Nat.beq (Nat.gcd m 210) 1) (Nat.beq (Nat.mod Q (gm m)) 0) true) true
theorem SQ.gm {q m : Nat} (hq : 2 ≤ q) (h : SQ q (m - 1)) : q ∣ gm m := by
 have key : ∀ {a : Nat}, 1 ≤ a → a ^ (m - 1) % q = 1 → q ∣ a ^ (m - 1) - 1 := fun {a} ha h =>
  Yz7 (by rw [h]; exact (Nat.mod_eq_of_lt (by omega)).symm) (Nat.pow_pos ha)
 exact Nat.dvd_gcd (Nat.dvd_gcd (Nat.dvd_gcd (key (by decide) h.two) (key (by decide) h.three)) (key (by decide) h.five)) (key (by decide) h.seven)
theorem Xw8 : ∀ e ∈ far, e < 196608 ∧ e % 2 = 1 := by decide +kernel
theorem Xy6 {Q q m : Nat} (hq : 2 ≤ q) (hm : 11 ≤ m) (hg : Nat.gcd m 210 = 1) (hs : SQ q (m - 1)) (h : chkm Q m = true) : q ∣ Q := by
 unfold chkm at h
 rw [show Nat.ble 11 m = true from Nat.ble_eq_true_of_le hm, cond_true, hg, show Nat.beq 1 1 = true from rfl, cond_true] at h
 have h1 : Q % gm m = 0 := Nat.eq_of_beq_eq_true h
 exact Nat.dvd_trans (hs.gm hq) (Nat.dvd_of_mod_eq_zero h1)
theorem Xl1 {q : Nat} (hp : Pr q) (hq : 65536 < q) (h : q ∣ prodL far) : q ∈ far := by
 obtain ⟨x, hx, c, hc⟩ := hp.in_prod h
 obtain ⟨h4, h5⟩ := Xw8 x hx
 have h0 : c = 1 := by
  clear h hx
  rcases Nat.lt_or_ge c 3 with h6 | h6
  ·have : c = 0 ∨ c = 1 ∨ c = 2 := by omega
   rcases this with rfl | rfl | rfl <;> omega
  ·have := Nat.mul_le_mul (Nat.le_of_lt hq) h6
   omega
 subst h0
 rw [Nat.mul_one] at hc
 exact hc ▸ hx
theorem Xw9 {a b q : Nat} (hp : Pr q) (ha : ¬ q ∣ a) (h : q ∣ Nat.mul a b) : q ∣ b := by
 rcases hp.mul h with h3 | h3
 ·exact absurd h3 ha
 ·exact h3
theorem Xy7 {q : Nat} (hp : Pr q) (hq : 65536 < q) (d lo : Nat) (h1 : 1 ≤ lo) (h2 : lo + 2 ^ d ≤ 65537) : ¬ q ∣ pr2 d lo := fun h => by
 have := Zz5 hp h1 h
 omega
theorem Yk0 {q : Nat} (hp : Pr q) (hq : 65536 < q) (h : q ∣ great) : q ∈ far := Xl1 hp hq (Xw9 hp (Xy7 hp hq 16 1 (by decide) (by decide)) h)
def inv : Nat → Nat → Nat → Nat → Nat → Nat → Nat
 | 0, _, _, _, s, _ => s
 | f + 1, L, r0, r1, s0, s1 => cond (Nat.beq r1 0) s0 (inv f L r1 (Nat.mod r0 r1) s1 (Nat.mod (Nat.add s0 (Nat.mul (Nat.sub L (Nat.mod (Nat.div r0 r1) L)) s1)) L))
def lf (M L t : Nat) : Nat → Bool
 | 0 => cond (tst (Nat.mul M t)) (Nat.beq (Nat.mul M t) M) true
 | k + 1 => cond (tst (Nat.mul M (Nat.add t (Nat.mul (Nat.succ k) L)))) false (lf M L t k)
theorem Yk1 {M L t : Nat} : ∀ {c : Nat}, lf M L t c = true → ∀ k, k ≤ c → tst (M * (t + k * L)) = true → M * (t + k * L) = M
 | 0, h, k, hk, ht => by
  obtain rfl : k = 0 := by omega
  unfold lf at h
  rw [Nat.zero_mul, Nat.add_zero] at ht ⊢
  rw [show tst (Nat.mul M t) = true from ht, cond_true] at h
  exact Nat.eq_of_beq_eq_true h
 | c + 1, h, k, hk, ht => by
  unfold lf at h
  rcases h1 : tst (Nat.mul M (Nat.add t (Nat.mul (Nat.succ c) L))) with _ | _
  ·rw [h1, cond_false] at h
   by_cases h2 : k = c + 1
   ·subst h2
    rw [show tst (M * (t + (c + 1) * L)) = false from h1] at ht
    cases ht
   ·exact Yk1 h k (by omega) ht
  ·rw [h1] at h; cases h
def leaf (M L t c : Nat) : Bool := cond (Nat.blt t L) (cond (Nat.beq (Nat.mod (Nat.mul M t) L) (Nat.mod 1 L)) (lf M L t c) false) false
def dfs : List (Nat × Nat) → Nat → Nat → Bool
 | [], _, _ => true
 | pl :: ps, M, L => cond (Nat.beq (Nat.gcd M L) 1)
  (cond (Nat.ble (Nat.div 2147483647 (Nat.mul M L)) 64)
   (leaf M L (inv 60 L L (Nat.mod M L) 0 1) (Nat.div 2147483647 (Nat.mul M L)))
   (cond (cond (Nat.ble 2147483648 (Nat.mul M pl.1)) true (cond (tst (Nat.mul M pl.1)) false (dfs ps (Nat.mul M pl.1) (Nat.div (Nat.mul L pl.2) (Nat.gcd L pl.2))))) (dfs ps M L) false))
  true
def okP (pl : Nat × Nat) : Bool := cond (Nat.ble 2 pl.2) (cond (okL pl.1 pl.2) (cond (Nat.beq (pw 2 (Nat.sub pl.1 1) (Nat.mul pl.1 pl.1)) 1) false (Nat.beq (Nat.gcd pl.1 210) 1)) false) false
theorem Yy1 {p l : Nat} (h : okP (p, l) = true) : 2 ≤ l ∧ okL p l = true ∧ 2 ^ (p - 1) % (p * p) ≠ 1 ∧ Nat.gcd p 210 = 1 := by
 unfold okP at h
 rcases h1 : Nat.ble 2 (p, l).2 with _ | _
 ·rw [h1] at h; cases h
 rw [h1, cond_true] at h
 rcases h2 : okL (p, l).1 (p, l).2 with _ | _
 ·rw [h2] at h; cases h
 rw [h2, cond_true] at h
 rw [I2_, pw_eq] at h
 by_cases h3 : 2 ^ (p - 1) % (p * p) = 1
 ·rw [show 2 ^ Nat.sub (p, l).1 1 % Nat.mul (p, l).1 (p, l).1 = 1 from h3] at h
  simp at h
 ·rw [decide_eq_false (show ¬ 2 ^ Nat.sub (p, l).1 1 % Nat.mul (p, l).1 (p, l).1 = 1 from h3), cond_false] at h
  exact ⟨Nat.le_of_ble_eq_true h1, rfl, h3, Nat.eq_of_beq_eq_true h⟩
structure Passes (n : Nat) : Prop where
 lt : n < 2147483648
 two : 2 ≤ n
 sq : SQ n (n - 1)
 tst : tst n = true
theorem Zd1 {n : Nat} (hn : Passes n) : ∀ {ps : List (Nat × Nat)} {M L : Nat}, dfs ps M L = true → (∀ pl ∈ ps, okP pl = true) → 1 ≤ M → 1 ≤ L → L ∣ n - 1 → ∀ r, n = M * r → 2 ≤ r → (∀ x, Pr x → x ∣ r → ∃ l, (x, l) ∈ ps) → False
 | [], M, L, _, _, _, _, _, r, _, hr, hx => by
  obtain ⟨x, hp, hd⟩ := Zh0 hr
  obtain ⟨l, hl⟩ := hx x hp hd
  cases hl
 | (p, l) :: ps, M, L, h, hok, hM, hL, hLn, r, hr, hr2, hx => by
  have hn2 := hn.two
  unfold dfs at h
  have hg : Nat.gcd M L = 1 := by
   have h1 : Nat.gcd M L ∣ n := Nat.dvd_trans (Nat.gcd_dvd_left M L) ⟨r, hr⟩
   have h2 : Nat.gcd M L ∣ n - 1 := Nat.dvd_trans (Nat.gcd_dvd_right M L) hLn
   have h3 := Nat.dvd_sub h1 h2
   rw [show n - (n - 1) = 1 by omega] at h3
   exact Nat.dvd_one.1 h3
  rw [hg, show Nat.beq 1 1 = true from rfl, cond_true] at h
  rcases h1 : Nat.ble (Nat.div 2147483647 (Nat.mul M L)) 64 with _ | _
  ·rw [h1, cond_false] at h
   simp only at h
   rcases h2 : cond (Nat.ble 2147483648 (Nat.mul M p)) true (cond (tst (Nat.mul M p)) false (dfs ps (Nat.mul M p) (Nat.div (Nat.mul L l) (Nat.gcd L l)))) with _ | _
   ·rw [h2] at h; cases h
   rw [h2, cond_true] at h
   have hokp := hok (p, l) (by simp)
   obtain ⟨hl2, hol, hw, hp210⟩ := Yy1 hokp
   by_cases hpr : p ∣ r ∧ Pr p
   ·obtain ⟨⟨r', rfl⟩, hp⟩ := hpr
    have hp2 := hp.1
    have hpn : p ∣ n := ⟨M * r', by rw [hr, Nat.mul_left_comm]⟩
    have hr1 : 1 ≤ r' := by
     rcases Nat.eq_zero_or_pos r' with e | e
     ·subst e; simp at hr2
     ·exact e
    have hlt : M * p < 2147483648 := by
     have h3 := hn.lt
     have h4 : M * p ≤ n := by
      rw [hr, ← Nat.mul_assoc]
      exact Nat.le_mul_of_pos_right _ hr1
     omega
    rw [show Nat.ble 2147483648 (Nat.mul M p) = false from by
     rcases h5 : Nat.ble 2147483648 (Nat.mul M p) with _ | _
     ·rfl
     ·have := Nat.le_of_ble_eq_true h5
      have : 2147483648 ≤ M * p := this
      omega, cond_false] at h2
    rcases h3 : tst (Nat.mul M p) with _ | _
    ·rw [h3, cond_false] at h2
     have hsq : ¬ p ∣ r' := by
      rintro ⟨c, rfl⟩
      refine hw (wief hp (Zo6 hp210 hp2).1 ⟨M * c, ?_⟩ hn.two hn.sq.two)
      rw [hr]
      simp only [Nat.mul_left_comm, Nat.mul_comm]
     have hr'2 : 2 ≤ r' := by
      rcases Nat.lt_or_ge r' 2 with h4 | h4
      ·obtain rfl : r' = 1 := by omega
       rw [Nat.mul_one] at hr
       have := hn.tst
       rw [hr, show tst (M * p) = false from h3] at this
       cases this
      ·exact h4
     have hln : l ∣ n - 1 := Zd0 hp2 hol (hn.sq.low hp2 hpn)
     have hlcm : L * l / Nat.gcd L l ∣ n - 1 := Nat.lcm_dvd hLn hln
     refine Zd1 hn h2 (fun pl hpl => hok pl (by simp [hpl])) (Nat.mul_pos hM (by omega)) ?_ hlcm r' (by rw [hr, ← Nat.mul_assoc]; rfl) hr'2 ?_
     ·exact Nat.lcm_pos hL (by omega)
     ·intro x hxp hxr
      obtain ⟨l', hl'⟩ := hx x hxp (Nat.dvd_trans hxr (Nat.dvd_mul_left r' p))
      rcases List.mem_cons.1 hl' with e | e
      ·injection e with e1 e2
       subst e1
       exact absurd hxr hsq
      ·exact ⟨l', e⟩
    ·rw [h3] at h2; cases h2
   ·refine Zd1 hn h (fun pl hpl => hok pl (by simp [hpl])) hM hL hLn r hr hr2 ?_
    intro x hxp hxr
    obtain ⟨l', hl'⟩ := hx x hxp hxr
    rcases List.mem_cons.1 hl' with e | e
    ·injection e with e1 e2
     subst e1
     exact absurd ⟨hxr, hxp⟩ hpr
    ·exact ⟨l', e⟩
  ·rw [h1, cond_true] at h
   generalize inv 60 L L (Nat.mod M L) 0 1 = t at h
   unfold leaf at h
   rcases h2 : Nat.blt t L with _ | _
   ·rw [h2] at h; cases h
   rw [h2, cond_true] at h
   rcases h3 : Nat.beq (Nat.mod (Nat.mul M t) L) (Nat.mod 1 L) with _ | _
   ·rw [h3] at h; cases h
   rw [h3, cond_true] at h
   have htL : t < L := Nat.le_of_ble_eq_true h2
   have h4 : M * t % L = 1 % L := Nat.eq_of_beq_eq_true h3
   have h5 : M * r % L = 1 % L := by
    rw [← hr]
    exact Zh1 hLn (by omega)
   have h6 : r % L = t % L := by
    refine Za1 (c := M) (Nat.coprime_comm.1 hg) ?_
    rw [Nat.mul_comm r, Nat.mul_comm t, h5, h4]
   rw [Nat.mod_eq_of_lt htL] at h6
   have h7 : r = t + r / L * L := by
    have := Nat.div_add_mod r L
    rw [h6, Nat.mul_comm] at this
    omega
   have h8 : r / L ≤ 2147483647 / (M * L) := by
    refine (Nat.le_div_iff_mul_le (Nat.mul_pos hM hL)).2 ?_
    have h9 := hn.lt
    have : r / L * (M * L) ≤ n := by
     rw [Nat.mul_left_comm, hr]
     exact Nat.mul_le_mul_left M (by omega)
    omega
   have h10 := Yk1 h (r / L) h8 (by rw [← h7, ← hr]; exact hn.tst)
   rw [← h7] at h10
   have : M * 2 ≤ M * r := Nat.mul_le_mul_left M hr2
   omega
def top : List (Nat × Nat) → Bool
 | [] => true
 | pl :: ps => cond (dfs ps pl.1 pl.2) (top ps) false
theorem Yy2 {n : Nat} (hn : Passes n) (hc : ¬ Pr n) : ∀ {ps : List (Nat × Nat)}, top ps = true → (∀ pl ∈ ps, okP pl = true) → (∀ x, Pr x → x ∣ n → ∃ l, (x, l) ∈ ps) → False
 | [], _, _, hx => by
  obtain ⟨x, hp, hd⟩ := Zh0 hn.two
  obtain ⟨l, hl⟩ := hx x hp hd
  cases hl
 | (p, l) :: ps, h, hok, hx => by
  unfold top at h
  rcases h1 : dfs ps (p, l).1 (p, l).2 with _ | _
  ·rw [h1] at h; cases h
  rw [h1, cond_true] at h
  obtain ⟨hl2, hol, hw, hp210⟩ := Yy1 (hok (p, l) (by simp))
  by_cases hpn : p ∣ n ∧ Pr p
  ·obtain ⟨⟨r, hr⟩, hp⟩ := hpn
   have hp2 := hp.1
   have hn2 := hn.two
   have hr2 : 2 ≤ r := by
    rcases Nat.lt_or_ge r 2 with h4 | h4
    ·have : r = 0 ∨ r = 1 := by omega
     rcases this with rfl | rfl
     ·simp at hr; omega
     ·rw [Nat.mul_one] at hr
      exact absurd (hr ▸ hp) hc
    ·exact h4
   have hsq : ¬ p ∣ r := by
    rintro ⟨c, rfl⟩
    refine hw (wief hp (Zo6 hp210 hp2).1 ⟨c, ?_⟩ hn.two hn.sq.two)
    rw [hr, Nat.mul_assoc]
   refine Zd1 hn h1 (fun pl hpl => hok pl (by simp [hpl])) (show 1 ≤ p by omega) (show 1 ≤ l by omega) (Zd0 hp2 hol (hn.sq.low hp2 ⟨r, hr⟩)) r hr hr2 ?_
   intro x hxp hxr
   obtain ⟨l', hl'⟩ := hx x hxp (by rw [hr]; exact Nat.dvd_trans hxr (Nat.dvd_mul_left r p))
   rcases List.mem_cons.1 hl' with e | e
   ·injection e with e1 e2
    subst e1
    exact absurd hxr hsq
   ·exact ⟨l', e⟩
  ·refine Yy2 hn hc h (fun pl hpl => hok pl (by simp [hpl])) ?_
   intro x hxp hxr
   obtain ⟨l', hl'⟩ := hx x hxp hxr
   rcases List.mem_cons.1 hl' with e | e
   ·injection e with e1 e2
    subst e1
    exact absurd ⟨hxr, hxp⟩ hpn
   ·exact ⟨l', e⟩
def topAt (ps : List (Nat × Nat)) (i : Nat) : Bool := match ps.drop i with
 | [] => true
 | pl :: r => dfs r pl.1 pl.2
theorem Xh2 : ∀ {ps : List (Nat × Nat)}, (∀ i, i < ps.length → topAt ps i = true) → top ps = true
 | [], _ => rfl
 | pl :: r, h => by
  unfold top
  rw [show dfs r pl.1 pl.2 = true from h 0 (by simp), cond_true]
  exact Xh2 fun i hi => h (i + 1) (by simpa using hi)
def low : List (Nat × Nat) := [
 (997, 996), (991, 990), (983, 982), (977, 976), (971, 970), (967, 966), (953, 952), (947, 946), (941, 940), (937, 936),
 (929, 928), (919, 918), (911, 910), (907, 906), (887, 886), (883, 882), (881, 880), (877, 876), (863, 862), (859, 858),
 (857, 856), (853, 852), (839, 419), (829, 828), (827, 826), (823, 822), (821, 820), (811, 810), (809, 808), (797, 796),
 (787, 786), (773, 772), (769, 768), (761, 760), (757, 756), (751, 750), (743, 742), (739, 738), (733, 732), (727, 726),
 (719, 359), (709, 708), (701, 700), (691, 690), (683, 682), (677, 676), (673, 672), (661, 660), (659, 658), (653, 652),
 (647, 646), (643, 642), (641, 640), (631, 630), (619, 618), (617, 616), (613, 612), (607, 606), (601, 600), (599, 598),
 (593, 592), (587, 586), (577, 576), (571, 570), (569, 568), (563, 562), (557, 556), (547, 546), (541, 540), (523, 522),
 (521, 520), (509, 508), (503, 502), (499, 498), (491, 490), (487, 486), (479, 239), (467, 466), (463, 462), (461, 460),
 (457, 456), (449, 448), (443, 442), (439, 438), (433, 432), (431, 430), (421, 420), (419, 418), (409, 408), (401, 400),
 (397, 396), (389, 388), (383, 382), (379, 378), (373, 372), (367, 366), (359, 358), (353, 352), (349, 348), (347, 346),
 (337, 336), (331, 330), (317, 316), (313, 312), (311, 155), (307, 306), (293, 292), (283, 282), (281, 280), (277, 276),
 (271, 270), (269, 268), (263, 262), (257, 256), (251, 250), (241, 240), (239, 238), (233, 232), (229, 228), (227, 226),
 (223, 222), (211, 210), (199, 198), (197, 196), (193, 192), (191, 190), (181, 180), (179, 178), (173, 172), (167, 166),
 (163, 162), (157, 156), (151, 150), (149, 148), (139, 138), (137, 136), (131, 130), (127, 126), (113, 112), (109, 108),
 (107, 106), (103, 102), (101, 100), (97, 96), (89, 88), (83, 82), (79, 78), (73, 72), (71, 70), (67, 66),
 (61, 60), (59, 58), (53, 52), (47, 46), (43, 42), (41, 40), (37, 36), (31, 30), (29, 28), (23, 22),
 (19, 18), (17, 16), (13, 12), (11, 10)]
def Zd2 (d : Nat) : Bool := [2, 3, 5, 7, 11, 13, 17, 19, 23, 29, 31].any fun k => cond (Nat.blt k d) (Nat.beq (Nat.mod d k) 0) false
theorem Zd3 {d : Nat} (h : Zd2 d = true) : ¬ Pr d := by
 intro hp
 obtain ⟨k, hk, h1⟩ := List.any_eq_true.1 h
 rcases h2 : Nat.blt k d with _ | _
 ·rw [h2] at h1; cases h1
 rw [h2, cond_true] at h1
 have h3 : k < d := Nat.le_of_ble_eq_true h2
 have h4 : d % k = 0 := Nat.eq_of_beq_eq_true h1
 have h5 : k ≠ 1 := by
  rintro rfl
  simp at hk
 rcases hp.2 k (Nat.dvd_of_mod_eq_zero h4) with e | e <;> omega
end Go.Proofs.YtgadbnbhgpehjaaGreatDoor.Wp
namespace Go.Proofs.YtgadbnbhgpehjaaGreatDoor.Wp
set_option maxRecDepth 100000
theorem Vz0 : ∀ pl ∈ low, okP pl = true := by decide +kernel
def lowIn (d : Nat) : Bool := cond (Nat.ble 11 d) (cond (Nat.blt d 1000) (cond (Zd2 d) true (low.any fun pl => Nat.beq pl.1 d)) true) true
theorem Xl2 : rng lowIn 10 0 = true := by decide +kernel
theorem Xl3 : low.length = 164 := by decide +kernel
theorem top0 : rng (topAt low) 5 0 = true := by decide +kernel
theorem top1 : rng (topAt low) 5 32 = true := by decide +kernel
theorem top2 : rng (topAt low) 5 64 = true := by decide +kernel
theorem top3 : rng (topAt low) 5 96 = true := by decide +kernel
theorem top4 : rng (topAt low) 5 128 = true := by decide +kernel
theorem top5 : rng (topAt low) 5 160 = true := by decide +kernel
end Go.Proofs.YtgadbnbhgpehjaaGreatDoor.Wp
namespace Go.Proofs.YtgadbnbhgpehjaaGreatDoor.Wp
set_option maxRecDepth 100000
theorem q0a : rng chkq 10 0 = true := by decide +kernel
theorem q0b : rng chkq 10 1024 = true := by decide +kernel
theorem q0c : rng chkq 10 2048 = true := by decide +kernel
theorem q0d : rng chkq 10 3072 = true := by decide +kernel
theorem q0 : rng chkq 12 0 = true := X6_ (X6_ q0a q0b rfl) (X6_ q0c q0d rfl) rfl
end Go.Proofs.YtgadbnbhgpehjaaGreatDoor.Wp
namespace Go.Proofs.YtgadbnbhgpehjaaGreatDoor.Wp
set_option maxRecDepth 100000
theorem q1 : rng chkq 12 4096 = true := by decide +kernel
theorem q2 : rng chkq 12 8192 = true := by decide +kernel
theorem q3 : rng chkq 12 12288 = true := by decide +kernel
theorem q4 : rng chkq 12 16384 = true := by decide +kernel
theorem q5 : rng chkq 12 20480 = true := by decide +kernel
theorem q6 : rng chkq 12 24576 = true := by decide +kernel
theorem q7 : rng chkq 12 28672 = true := by decide +kernel
theorem q8 : rng chkq 12 32768 = true := by decide +kernel
theorem q9 : rng chkq 12 36864 = true := by decide +kernel
theorem q10 : rng chkq 12 40960 = true := by decide +kernel
theorem q11 : rng chkq 12 45056 = true := by decide +kernel
theorem q12 : rng chkq 12 49152 = true := by decide +kernel
theorem q13 : rng chkq 12 53248 = true := by decide +kernel
theorem q14 : rng chkq 12 57344 = true := by decide +kernel
theorem q15 : rng chkq 12 61440 = true := by decide +kernel
end Go.Proofs.YtgadbnbhgpehjaaGreatDoor.Wp
namespace Go.Proofs.YtgadbnbhgpehjaaGreatDoor.Wp
set_option maxRecDepth 100000
theorem Vz1 : ∀ q ∈ far, chkL q (findL q) = true := by decide +kernel
theorem m0 : rng (chkm great) 12 0 = true := by decide +kernel
theorem m1 : rng (chkm great) 12 4096 = true := by decide +kernel
theorem m2 : rng (chkm great) 12 8192 = true := by decide +kernel
theorem m3 : rng (chkm great) 12 12288 = true := by decide +kernel
theorem m4 : rng (chkm great) 12 16384 = true := by decide +kernel
theorem m5 : rng (chkm great) 12 20480 = true := by decide +kernel
theorem m6 : rng (chkm great) 12 24576 = true := by decide +kernel
theorem m7 : rng (chkm great) 12 28672 = true := by decide +kernel
end Go.Proofs.YtgadbnbhgpehjaaGreatDoor.Wp
namespace Go.Proofs.YtgadbnbhgpehjaaGreatDoor.Wp
set_option maxRecDepth 100000
theorem Xy8 {m : Nat} (h : m < 32768) : chkm great m = true :=
 A6_ (X6_ (X6_ (X6_ m0 m1 rfl) (X6_ m2 m3 rfl) rfl) (X6_ (X6_ m4 m5 rfl) (X6_ m6 m7 rfl) rfl) rfl) m (Nat.zero_le _) (by simpa using h)
theorem Xy9 {q : Nat} (h : q < 65536) : chkq q = true :=
 A6_ (X6_ (X6_ (X6_ (X6_ q0 q1 rfl) (X6_ q2 q3 rfl) rfl) (X6_ (X6_ q4 q5 rfl) (X6_ q6 q7 rfl) rfl) rfl) (X6_ (X6_ (X6_ q8 q9 rfl) (X6_ q10 q11 rfl) rfl) (X6_ (X6_ q12 q13 rfl) (X6_ q14 q15 rfl) rfl) rfl) rfl) q (Nat.zero_le _) (by simpa using h)
theorem Xl4 : top low = true := Xh2 fun i hi => by
 rw [Xl3] at hi
 by_cases h0 : i < 32
 ·exact A6_ top0 i (by omega) (by omega)
 by_cases h1 : i < 64
 ·exact A6_ top1 i (by omega) (by omega)
 by_cases h2 : i < 96
 ·exact A6_ top2 i (by omega) (by omega)
 by_cases h3 : i < 128
 ·exact A6_ top3 i (by omega) (by omega)
 by_cases h4 : i < 160
 ·exact A6_ top4 i (by omega) (by omega)
 ·exact A6_ top5 i (by omega) (by omega)
theorem Xl5 {x : Nat} (hx : Pr x) (h1 : 11 ≤ x) (h2 : x < 1000) : ∃ l, (x, l) ∈ low := by
 have h := A6_ Xl2 x (Nat.zero_le _) (by omega)
 unfold lowIn at h
 rw [show Nat.ble 11 x = true from Nat.ble_eq_true_of_le h1, cond_true, show Nat.blt x 1000 = true from Nat.ble_eq_true_of_le h2, cond_true] at h
 rcases h3 : Zd2 x with _ | _
 ·rw [h3, cond_false] at h
  obtain ⟨⟨p, l⟩, hm, he⟩ := List.any_eq_true.1 h
  obtain rfl : p = x := Nat.eq_of_beq_eq_true he
  exact ⟨l, hm⟩
 ·exact absurd hx (Zd3 h3)
theorem ge_11 {x : Nat} (hx : Pr x) (hg : Nat.gcd x 210 = 1) : 11 ≤ x := by
 have h2 := hx.1
 rcases Nat.lt_or_ge x 11 with h | h
 ·have : x = 2 ∨ x = 3 ∨ x = 4 ∨ x = 5 ∨ x = 6 ∨ x = 7 ∨ x = 8 ∨ x = 9 ∨ x = 10 := by omega
  rcases this with rfl | rfl | rfl | rfl | rfl | rfl | rfl | rfl | rfl <;> revert hg <;> decide
 ·exact h
theorem psi {n : Nat} (hn : Passes n) (hg : Nat.gcd n 210 = 1) : Pr n := by
 apply Classical.byContradiction
 intro hc
 have hn2 := hn.two
 have hlt := hn.lt
 have alone : ∀ {x : Nat}, Pr x → x ∣ n → ¬ Alone x := by
  intro x hx hd ha
  have h := ha n hlt hd (by rintro rfl; exact hc hx) (by omega) hn.sq
  rw [hn.tst] at h
  cases h
 refine Yy2 hn hc Xl4 Vz0 fun x hx hd => ?_
 have hgx := Zo7 hg hd
 have hx2 := hx.1
 by_cases h1 : x < 1000
 ·exact Xl5 hx (ge_11 hx hgx) h1
 ·exfalso
  by_cases h2 : x < 65536
  ·exact alone hx hd (Ya5 hx (by omega) (Xy9 h2))
  ·have hne : x ≠ 65536 := by
    rintro rfl
    have := hx.2 2 (by decide)
    omega
   obtain ⟨m, hm⟩ := hd
   have hm0 : 1 ≤ m := by
    rcases Nat.eq_zero_or_pos m with e | e
    ·subst e; omega
    ·exact e
   have hm1 : m ≠ 1 := by
    rintro rfl
    rw [Nat.mul_one] at hm
    exact hc (hm ▸ hx)
   have hgm : Nat.gcd m 210 = 1 := Zo7 hg ⟨x, by rw [hm, Nat.mul_comm]⟩
   have hm11 : 11 ≤ m := by
    obtain ⟨y, hy, hyd⟩ := Zh0 (n := m) (by omega)
    have := ge_11 hy (Zo7 hgm hyd)
    have := Nat.le_of_dvd hm0 hyd
    omega
   have hml : m < 32768 := by
    rcases Nat.lt_or_ge m 32768 with h | h
    ·exact h
    ·have := Nat.mul_le_mul (show 65537 ≤ x by omega) h
     omega
   have hs : SQ x (m - 1) := by
    refine SQ.cofactor hx hgx hm0 ?_
    rw [← hm]
    exact hn.sq
   have hf := Yk0 hx (by omega) (Xy6 hx2 hm11 hgm hs (Xy8 hml))
   exact alone hx ⟨m, hm⟩ (Yy0 hx hgx (Vz1 x hf))
end Go.Proofs.YtgadbnbhgpehjaaGreatDoor.Wp
