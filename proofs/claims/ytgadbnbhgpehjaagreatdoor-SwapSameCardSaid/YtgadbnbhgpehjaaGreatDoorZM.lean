/- What the calls on numbers modulo a prime give, plain; and small laws of memory that their walks use. The program's divides, Mod, walked. The program's Pow, walked. The program's passes, walked. The program's Prime, walked. The program's Inv, walked. Inverses modulo a prime, plain. -/
import Derived.Test.YtgadbnbhgpehjaaGreatDoorMRun
import Derived.Test.YtgadbnbhgpehjaaGreatDoorMShelf
import Derived.Test.YtgadbnbhgpehjaaGreatDoorZA
import Derived.WalkKit
import Derived.OwnWalk
import Derived.Laws.Cells
import Derived.Deep.Draws
import Derived.BigQuiet
import Derived.Deep.QuietTactic
import Derived.Lib.RabinKarpLaws
set_option maxHeartbeats 2000000
set_option maxRecDepth 100000
open Go.Lib (hid)
namespace Go.Proofs.YtgadbnbhgpehjaaGreatDoor.Wp
open Go Go.RowKit
def Gets (w : World) (v : Value) (e : Ending) (w' : World) : Prop := e = .returned v ∧ Below w.heap.size w w'
theorem I6_ (w : World) (v : Value) : Gets w v (.returned v) w := ⟨rfl, Below.refl _ w⟩
structure Met (w : World) : Prop where
 lt : 8 < w.heap.size
 tab : TabAt 8 Lib.deBruijn64tab w
theorem Met.up {w w' : World} (h : Met w) (hb : Below w.heap.size w w') : Met w' := ⟨Nat.lt_of_lt_of_le h.lt hb.size, fun j hj => (hb.cell (p := ⟨8, j, none⟩) h.lt).trans (h.tab j hj)⟩
def In31 (p : Int) : Prop := 1 ≤ p ∧ p ≤ 2147483647
instance (p : Int) : Decidable (In31 p) := inferInstanceAs (Decidable (_ ∧ _))
def modI (a p : Int) : Int := if In31 p then a % p else 0
def powI (a n p : Int) : Int := if In31 p ∧ 0 ≤ n then (((a % p).toNat ^ n.toNat % p.toNat : Nat) : Int) else 0
def PrI (p : Int) : Prop := 2 ≤ p ∧ p ≤ 2147483647 ∧ Pr p.toNat
def wit (n : Nat) : List Nat → Bool
 | [] => true
 | w :: ws => if n % w = 0 then decide (n = w) else if stB n w then wit n ws else false
def prB (p : Int) : Bool := decide (2 ≤ p) && decide (p ≤ 2147483647) && wit p.toNat [2, 3, 5, 7]
def invB (a p : Int) : Bool := prB p && !decide (modI a p = 0)
def invI (a p : Int) : Int := if invB a p then powI a (p - 2) p else 0
theorem pr_of {p : Nat} (h : 2 ≤ p) (k : ∀ d, d < p + 1 → d ∣ p → d = 1 ∨ d = p) : Pr p :=
 ⟨h, fun d hd => k d (by have := Nat.le_of_dvd (by omega) hd; omega) hd⟩
theorem pr_2 : Pr 2 := pr_of (by decide) (by decide)
theorem pr_3 : Pr 3 := pr_of (by decide) (by decide)
theorem pr_5 : Pr 5 := pr_of (by decide) (by decide)
theorem pr_7 : Pr 7 := pr_of (by decide) (by decide)
theorem Xh3 {n : Nat} (hn : Pr n) (h64 : n < 2 ^ 64) (h3 : 3 ≤ n) : ∀ {ws : List Nat}, (∀ w ∈ ws, Pr w) → wit n ws = true
 | [], _ => rfl
 | w :: ws, hw => by
  have hpw := hw w (by simp)
  unfold wit
  by_cases h : n % w = 0
  ·rw [if_pos h]
   exact decide_eq_true (hpw.of_dvd hn (Nat.dvd_of_mod_eq_zero h)).symm
  ·rw [if_neg h, if_pos (Yi8 hn h3 h64 fun hd => ?_)]
   ·exact Xh3 hn h64 h3 fun x hx => hw x (by simp [hx])
   ·obtain rfl := hn.of_dvd hpw hd
    exact h (Nat.mod_self n)
theorem U9_ {n w : Nat} {ws : List Nat} (h : wit n (w :: ws) = true) : n = w ∨ (n % w ≠ 0 ∧ stB n w = true ∧ wit n ws = true) := by
 unfold wit at h
 by_cases h1 : n % w = 0
 ·rw [if_pos h1] at h
  exact .inl (of_decide_eq_true h)
 ·rw [if_neg h1] at h
  rcases h2 : stB n w with _ | _
  ·rw [h2] at h; cases h
  ·rw [h2, if_pos rfl] at h
   exact .inr ⟨h1, rfl, h⟩
theorem Yl2 {n : Nat} (h2 : 2 ≤ n) (hlt : n < 2147483648) (h : wit n [2, 3, 5, 7] = true) : Pr n := by
 rcases U9_ h with rfl | ⟨e2, s2, h⟩
 ·exact pr_2
 rcases U9_ h with rfl | ⟨e3, s3, h⟩
 ·exact pr_3
 rcases U9_ h with rfl | ⟨e5, s5, h⟩
 ·exact pr_5
 rcases U9_ h with rfl | ⟨e7, s7, h⟩
 ·exact pr_7
 have h3 : 3 ≤ n := by omega
 have h64 : n < 2 ^ 64 := Nat.lt_trans hlt (by decide)
 have c : ∀ {w : Nat}, Pr w → n % w ≠ 0 → Nat.Coprime w n := fun hw e => hw.cop fun hd => e (Nat.mod_eq_zero_of_dvd hd)
 have hg : Nat.gcd n 210 = 1 := by
  rw [Nat.gcd_comm]
  exact (c pr_2 e2).mul_left ((c pr_3 e3).mul_left ((c pr_5 e5).mul_left (c pr_7 e7)))
 have f2 := L2_ h3 h64 s2
 refine psi ⟨hlt, h2, ⟨f2, L2_ h3 h64 s3, L2_ h3 h64 s5, L2_ h3 h64 s7⟩, ?_⟩ hg
 unfold tst
 rw [hg, pw_eq, show 2 ^ Nat.sub n 1 % n = 1 from f2, s2, s3, s5, s7]
 rfl
theorem prB_iff {p : Int} : prB p = true ↔ PrI p := by
 unfold prB PrI
 rw [Bool.and_eq_true, Bool.and_eq_true, decide_eq_true_iff, decide_eq_true_iff]
 constructor
 ·rintro ⟨⟨h1, h2⟩, h3⟩
  exact ⟨h1, h2, Yl2 (by omega) (by omega) h3⟩
 ·rintro ⟨h1, h2, h3⟩
  refine ⟨⟨h1, h2⟩, ?_⟩
  by_cases h : p.toNat = 2
  ·rw [h]
   decide
  ·refine Xh3 h3 (Nat.lt_of_le_of_lt (show p.toNat ≤ 2147483647 by omega) (by decide)) (by omega) fun w hw => ?_
   simp only [List.mem_cons, List.not_mem_nil, or_false] at hw
   rcases hw with rfl | rfl | rfl | rfl
   ·exact pr_2
   ·exact pr_3
   ·exact pr_5
   ·exact pr_7
theorem Xx8 {p : Int} (h : PrI p) : prB p = true := prB_iff.2 h
theorem I7_ {p : Int} (h : ¬ PrI p) : prB p = false := Bool.eq_false_iff.2 fun e => h (prB_iff.1 e)
end Go.Proofs.YtgadbnbhgpehjaaGreatDoor.Wp
namespace Go.Proofs.YtgadbnbhgpehjaaGreatDoor
open Go.RowKit
namespace Wp
theorem H1_ (p : Int) (w : World) (h : In31 p) : Calls Tryz.prog 159 #[.int .i64 p] w fun e w' => e = .returned (.bool true) ∧ w' = w := by
 obtain ⟨h1, h2⟩ := h
 go_enter Tryz.func159, Tryz.ntmps159
 go_wp2
 go_ret
 exact ⟨rfl, rfl⟩
theorem R5_ (p : Int) (w : World) (h : ¬ In31 p) : Calls Tryz.prog 159 #[.int .i64 p] w fun e w' => e = .returned (.bool false) ∧ w' = w := by
 by_cases h1 : 1 ≤ p
 ·have h2 : ¬ p ≤ 2147483647 := by unfold In31 at h; omega
  have hd : decide (p ≤ 2147483647) = false := decide_eq_false h2
  clear h
  go_enter Tryz.func159, Tryz.ntmps159
  go_wp2
  go_ret
  exact ⟨rfl, rfl⟩
 ·have h1' : p < 1 := by omega
  clear h
  go_enter Tryz.func159, Tryz.ntmps159
  go_wp2
  go_ret
  exact ⟨rfl, rfl⟩
theorem Vz3 (a p : Int) (w : World) (h : ¬ In31 p) : Calls Tryz.prog 163 #[.int .i64 a, .int .i64 p] w fun e w' => e = .returned (.int .i64 0) ∧ w' = w := by
 go_enter Tryz.func163, Tryz.ntmps163
 go_wp2_with fail
 refine (R5_ p _ h).mono ?_
 rintro e w' ⟨rfl, rfl⟩
 go_wp2
 go_ret
 exact ⟨rfl, rfl⟩
theorem Xh4 {a p : Int} (hp : 1 ≤ p) (h : a.tmod p < 0) : a.tmod p + p = a % p := by
 have := Int.emod_nonneg a (show p ≠ 0 by omega)
 rw [Int.tmod_eq_emod] at h ⊢
 split at h
 ·omega
 ·rw [if_neg ‹_›]
  omega
theorem Yx3 {a p : Int} (hp : 1 ≤ p) (h : 0 ≤ a.tmod p) : a.tmod p = a % p := by
 have := Int.emod_lt_of_pos a (show 0 < p by omega)
 rw [Int.tmod_eq_emod] at h ⊢
 split at h
 ·rw [if_pos ‹_›]
  omega
 ·omega
theorem em_lt {a p : Int} (hp : 1 ≤ p) : 0 ≤ a % p ∧ a % p < p := ⟨Int.emod_nonneg a (by omega), Int.emod_lt_of_pos a (by omega)⟩
theorem Zd9 (a p : Int) (w : World) (h : In31 p) : Calls Tryz.prog 163 #[.int .i64 a, .int .i64 p] w fun e w' => e = .returned (.int .i64 (a % p)) ∧ w' = w := by
 have h1 := h.1
 have h2 := h.2
 have hb := em_lt (a := a) h1
 by_cases h0 : a.tmod p < 0
 ·have ht := Xh4 h1 h0
  go_enter Tryz.func163, Tryz.ntmps163
  go_wp2_with fail
  refine (H1_ p _ h).mono ?_
  rintro e w' ⟨rfl, rfl⟩
  go_wp2
  go_ret
  exact ⟨rfl, rfl⟩
 ·have h0' : 0 ≤ a.tmod p := by omega
  have ht := Yx3 h1 h0'
  go_enter Tryz.func163, Tryz.ntmps163
  go_wp2_with fail
  refine (H1_ p _ h).mono ?_
  rintro e w' ⟨rfl, rfl⟩
  go_wp2
  go_ret
  exact ⟨rfl, rfl⟩
theorem Yl3 (a p : Int) (w : World) : Calls Tryz.prog 163 #[.int .i64 a, .int .i64 p] w fun e w' => e = .returned (.int .i64 (modI a p)) ∧ w' = w := by
 unfold modI
 by_cases h : In31 p
 ·rw [if_pos h]
  exact Zd9 a p w h
 ·rw [if_neg h]
  exact Vz3 a p w h
open Go.RowKit
theorem Zi1 (a b : Nat) : (a : Int).tmod (b : Int) = ((a % b : Nat) : Int) := (Int.ofNat_tmod a b).symm
theorem Vz4 {a b p : Nat} (ha : a < p) (hb : b < p) (hp : p ≤ 2147483647) : a * b < 4611686018427387904 := by
 have := Nat.mul_le_mul (show a ≤ 2147483647 by omega) (show b ≤ 2147483647 by omega)
 omega
theorem Xx9 {a b p : Nat} (ha : a < p) (hb : b < p) (hp : p ≤ 2147483647) : wrap64 ((a : Int) * (b : Int)) = ((a * b : Nat) : Int) := by
 have := Vz4 ha hb hp
 rw [← Int.natCast_mul]
 unfold wrap64
 omega
theorem T4_ : ∀ (f x : Nat), x < 2 ^ f → x < 2 ^ Lib.bitLenAux f x
 | 0, x, h => h
 | f + 1, x, h => by
  unfold Lib.bitLenAux
  by_cases h0 : x = 0
  ·rw [if_pos h0, h0]; decide
  ·rw [if_neg h0, Nat.pow_add, Nat.pow_one]
   have := T4_ f (x / 2) (by rw [Nat.pow_succ] at h; omega)
   omega
theorem T5_ : ∀ (f x : Nat), Lib.bitLenAux f x ≤ f
 | 0, _ => Nat.le_refl _
 | f + 1, x => by
  unfold Lib.bitLenAux
  have := T5_ f (x / 2)
  split <;> omega
theorem Yl4 (n : Nat) (h : n < 2 ^ 64) : n < 2 ^ Lib.bitLen n := T4_ 64 n h
theorem Yl5 (n : Nat) : Lib.bitLen n ≤ 64 := T5_ 64 n
theorem Xm7 {n k : Nat} (hn : n < 9223372036854775808) (h : n / 2 ^ k % 2 = 1) : (bits BinOp.and IntKind.i64 ((n : Int) / 2 ^ k) 1 == 1) = true := by
 have e : ((n : Int) / 2 ^ k) = ((n / 2 ^ k : Nat) : Int) := by simp
 rw [e, and_one _ (Nat.lt_of_le_of_lt (Nat.div_le_self _ _) hn), h]
 rfl
theorem Xv0 {n k : Nat} (hn : n < 9223372036854775808) (h : n / 2 ^ k % 2 = 0) : (bits BinOp.and IntKind.i64 ((n : Int) / 2 ^ k) 1 == 1) = false := by
 have e : ((n : Int) / 2 ^ k) = ((n / 2 ^ k : Nat) : Int) := by simp
 rw [e, and_one _ (Nat.lt_of_le_of_lt (Nat.div_le_self _ _) hn), h]
 rfl
theorem Zi2 {a b p c : Nat} (ha : a < p) (hb : b < p) (hp : p ≤ 2147483647) (h : a * b % p = c) : (wrap64 ((a : Int) * (b : Int))).tmod (p : Int) = (c : Int) := by
 rw [Xx9 ha hb hp, Zi1, h]
def pwK (x n p k : Nat) : Nat := x ^ (n % 2 ^ k) % p
def sqK (x p k : Nat) : Nat := x ^ 2 ^ k % p
theorem Xv1 (x p k : Nat) : sqK x p k * sqK x p k % p = sqK x p (k + 1) := by
 unfold sqK
 rw [← Nat.mul_mod, ← Nat.pow_add, Nat.pow_succ, Nat.mul_two]
theorem Xm8 {x n p k : Nat} (h : n / 2 ^ k % 2 = 1) : pwK x n p k * sqK x p k % p = pwK x n p (k + 1) := by
 unfold sqK pwK
 rw [← Nat.mul_mod, ← Nat.pow_add, Nat.mod_pow_succ, h, Nat.mul_one]
theorem Xv2 {x n p k : Nat} (h : n / 2 ^ k % 2 = 0) : pwK x n p k = pwK x n p (k + 1) := by
 unfold pwK
 rw [Nat.mod_pow_succ, h, Nat.mul_zero, Nat.add_zero]
theorem Yx4 (a : Int) (n P : Nat) (w : World) (hp1 : 1 ≤ P) (hp2 : P ≤ 2147483647) (hn : n ≤ 9223372036854775807) :
  Calls Tryz.prog 165 #[.int .i64 a, .int .i64 n, .int .i64 P] w fun e w' => e = .returned (.int .i64 ((a % P).toNat ^ n % P : Nat)) ∧ w' = w := by
 obtain ⟨x, hx⟩ : ∃ x : Nat, a % (P : Int) = x := ⟨(a % P).toNat, by have := em_lt (a := a) (p := P) (by omega); omega⟩
 have hxp : x < P := by have := em_lt (a := a) (p := P) (by omega); omega
 rw [hx, Int.toNat_natCast]
 have hin : In31 (P : Int) := ⟨by omega, by omega⟩
 have Hm := hid (fun w => Zd9 a P w hin)
 have Ho := hid (fun w => Zd9 1 P w hin)
 rw [hx] at Hm
 rw [show (1 : Int) % (P : Int) = ((1 % P : Nat) : Int) from rfl] at Ho
 clear hx
 obtain ⟨L, hL⟩ : ∃ L, L = Lib.bitLen n := ⟨_, rfl⟩
 have Hc := hid (Tryz.bits_Len (n : Int))
 rw [Int.toNat_natCast, ← hL] at Hc
 have hLn : n < 2 ^ L := by rw [hL]; exact Yl4 n (by omega)
 have hL64 : L ≤ 64 := by rw [hL]; exact Yl5 n
 have HLn := hid hLn
 clear hL hLn
 have hn0 : ¬ (n : Int) < 0 := by omega
 obtain ⟨r, hr⟩ : ∃ r, r = x ^ n % P := ⟨_, rfl⟩
 rw [← hr]
 have Hr := hid hr
 clear hr
 obtain ⟨u0, hu0⟩ : ∃ u0, u0 = 1 % P := ⟨_, rfl⟩
 rw [← hu0] at Ho
 have Hu0 := hid hu0
 clear hu0
 go_enter Tryz.func165, Tryz.ntmps165
 go_wp2_with fail
 refine (H1_ _ _ hin).mono ?_
 rintro e w1 ⟨rfl, rfl⟩
 go_wp2_with fail
 refine (Ho.out _).mono ?_
 rintro e w2 ⟨rfl, rfl⟩
 go_wp2_with fail
 refine (Hm.out _).mono ?_
 rintro e w3 ⟨rfl, rfl⟩
 go_wp2_with fail
 refine (Hc.out _ (by omega) (by omega)).mono ?_
 rintro e w4 ⟨rfl, rfl⟩
 go_wp2
 go_loopw [7, 8, 25] (fun vp vs vk wr => ∃ k : Nat, vk = .int .i64 k ∧ k ≤ L ∧ vp = .int .i64 (pwK x n P k : Nat) ∧ vs = .int .i64 (sqK x P k : Nat) ∧ wr = w4) (fun _ _ vk _ => L - (intOf vk).toNat)
 case atStart =>
  exact ⟨0, rfl, Nat.zero_le _, by rw [Hu0.out]; simp [pwK, Nat.mod_one], by simp [sqK, Nat.mod_eq_of_lt hxp], rfl⟩
 case round =>
  obtain ⟨k, rfl, hk, rfl, rfl, rfl⟩ := hrel
  by_cases hlt : k < L
  ·have hu : pwK x n P k < P := Nat.mod_lt _ (by omega)
   have hs : sqK x P k < P := Nat.mod_lt _ (by omega)
   obtain ⟨s', hs'⟩ : ∃ s', s' = sqK x P (k + 1) := ⟨_, rfl⟩
   have m2 := Zi2 hs hs hp2 ((Xv1 x P k).trans hs'.symm)
   have Hs' := hid hs'
   clear hs'
   by_cases hb : n / 2 ^ k % 2 = 1
   ·obtain ⟨u', hu'⟩ : ∃ u', u' = pwK x n P (k + 1) := ⟨_, rfl⟩
    have m1 := Zi2 hu hs hp2 ((Xm8 (x := x) (p := P) hb).trans hu'.symm)
    have hbit := Xm7 (by omega) hb
    have Hu' := hid hu'
    clear hu' hb
    generalize pwK x n P k = u at *
    generalize sqK x P k = s at *
    go_wp2
    go_roundw
    case rel => exact ⟨k + 1, by go_num, by omega, by rw [Hu'.out], by rw [Hs'.out], trivial⟩
    case measure => simp [intOf]; omega
   ·have hbit := Xv0 (n := n) (k := k) (by omega) (by omega)
    have he := Xv2 (x := x) (p := P) (n := n) (k := k) (by omega)
    have He := hid he
    clear hb he
    generalize sqK x P k = s at *
    go_wp2
    go_roundw
    case rel => exact ⟨k + 1, by go_num, by omega, by rw [← He.out], by rw [Hs'.out], trivial⟩
    case measure => simp [intOf]; omega
  ·obtain rfl : k = L := by omega
   have hfin : pwK x n P k = r := by
    rw [Hr.out]
    unfold pwK
    rw [Nat.mod_eq_of_lt HLn.out]
   rw [hfin]
   go_wp2
   go_ret
   exact ⟨rfl, rfl⟩
theorem Vz5 (a : Int) (n P : Nat) (w : World) (hp1 : 1 ≤ P) (hp2 : P ≤ 2147483647) (hn : n ≤ 9223372036854775807) :
  Calls Tryz.prog 165 #[.int .i64 a, .int .i64 n, .int .i64 P] w (Gets w (.int .i64 ((a % P).toNat ^ n % P : Nat))) :=
 (Yx4 a n P w hp1 hp2 hn).mono fun _ _ ⟨h1, h2⟩ => ⟨h1, by rw [h2]; exact Below.refl _ _⟩
theorem Vz6 (a n p : Int) (w : World) (h : ¬ (In31 p ∧ 0 ≤ n)) : Calls Tryz.prog 165 #[.int .i64 a, .int .i64 n, .int .i64 p] w fun e w' => e = .returned (.int .i64 0) ∧ w' = w := by
 by_cases hn : n < 0
 ·go_enter Tryz.func165, Tryz.ntmps165
  go_wp2
  go_ret
  exact ⟨rfl, rfl⟩
 ·have hp : ¬ In31 p := fun hp => h ⟨hp, by omega⟩
  go_enter Tryz.func165, Tryz.ntmps165
  go_wp2_with fail
  refine (R5_ p _ hp).mono ?_
  rintro e w' ⟨rfl, rfl⟩
  go_wp2
  go_ret
  exact ⟨rfl, rfl⟩
theorem Xm9 (a n p : Int) (w : World) (hn : n ≤ 9223372036854775807) : Calls Tryz.prog 165 #[.int .i64 a, .int .i64 n, .int .i64 p] w fun e w' => e = .returned (.int .i64 (powI a n p)) ∧ w' = w := by
 unfold powI
 by_cases h : In31 p ∧ 0 ≤ n
 ·rw [if_pos h]
  obtain ⟨⟨h1, h2⟩, h0⟩ := h
  obtain ⟨P, rfl⟩ : ∃ P : Nat, p = P := ⟨p.toNat, by omega⟩
  obtain ⟨N, rfl⟩ : ∃ N : Nat, n = N := ⟨n.toNat, by omega⟩
  exact Yx4 a N P w (by omega) (by omega) (by omega)
 ·rw [if_neg h]
  exact Vz6 a n p w h
theorem Xn0 (a n p : Int) (w : World) (hn : n ≤ 9223372036854775807) : Calls Tryz.prog 165 #[.int .i64 a, .int .i64 n, .int .i64 p] w (Gets w (.int .i64 (powI a n p))) :=
 (Xm9 a n p w hn).mono fun _ _ ⟨h1, h2⟩ => ⟨h1, by rw [h2]; exact Below.refl _ _⟩
open Go.RowKit
theorem Vz7 (x : Nat) (hx : x < 18446744073709551616) (w : World) (hM : Met w) :
  Calls Tryz.prog 173 #[.int .u64 x] w fun e w' => e = .returned (.int .i64 (Lib.ctz 64 x)) ∧ w' = w :=
 Any7.bits_TrailingZeros Tryz.tz27 x hx w fun _ => hM.tab
theorem Xn1 (n r : Nat) : sl n 0 r = false := rfl
theorem Xn2 (n s : Nat) : sl n (s + 1) (n - 1) = true := by
 unfold sl
 rw [I2_, decide_eq_true (show n - 1 = Nat.sub n 1 from rfl)]
 rfl
theorem Xn3 {n s r : Nat} (h : r ≠ n - 1) : sl n (s + 1) r = sl n s (r * r % n) := by
 rw [show sl n (s + 1) r = cond (Nat.beq r (n - 1)) true (sl n s (r * r % n)) from rfl, I2_, decide_eq_false h]
 rfl
theorem Xn4 {n w r : Nat} (h : w ^ ((n - 1) / 2 ^ Lib.ctz 64 (n - 1)) % n = r) (h1 : r = 1) : stB n w = true := by
 unfold stB
 rw [pw_eq, I2_]
 rw [show w ^ Nat.div (Nat.sub n 1) (Nat.pow 2 (Lib.ctz 64 (Nat.sub n 1))) % n = 1 from h.trans h1]
 rfl
theorem Xv3 {n w r : Nat} (h : w ^ ((n - 1) / 2 ^ Lib.ctz 64 (n - 1)) % n = r) (h1 : r ≠ 1) : stB n w = sl n (Lib.ctz 64 (n - 1)) r := by
 unfold stB
 rw [pw_eq, I2_]
 rw [show w ^ Nat.div (Nat.sub n 1) (Nat.pow 2 (Lib.ctz 64 (Nat.sub n 1))) % n = r from h, decide_eq_false h1]
 rfl
theorem Yb5 (P W : Nat) (w : World) (hM : Met w) (h3 : 3 ≤ P) (hp2 : P ≤ 2147483647) :
  Calls Tryz.prog 160 #[.int .i64 P, .int .i64 W] w (Gets w (.bool (stB P W))) := by
 obtain ⟨s, hs⟩ : ∃ s, s = Lib.ctz 64 (P - 1) := ⟨_, rfl⟩
 have Ht := hid (Vz7 (P - 1) (by omega) w hM)
 rw [← hs] at Ht
 obtain ⟨d, hd⟩ : ∃ d, d = (P - 1) / 2 ^ s := ⟨_, rfl⟩
 have hdl : d ≤ P := by rw [hd]; exact Nat.le_trans (Nat.div_le_self _ _) (by omega)
 have hdi : ((P - 1 : Nat) : Int) / 2 ^ s = (d : Int) := by
  rw [hd]
  simp
 obtain ⟨r, hr⟩ : ∃ r, r = W ^ d % P := ⟨_, rfl⟩
 have Hp := hid (fun w => Vz5 W d P w (by omega) hp2 (by omega))
 have e0 : ((W : Int) % (P : Int)).toNat ^ d % P = r := by
  rw [hr, show (W : Int) % (P : Int) = ((W % P : Nat) : Int) from rfl, Int.toNat_natCast]
  exact I1_ (E1_ W P)
 rw [e0] at Hp
 have hrp : r < P := by rw [hr]; exact Nat.mod_lt _ (by omega)
 have hone : r = 1 → stB P W = true := fun h => Xn4 (r := r) (by rw [hr, hd, hs]) h
 have hmore : r ≠ 1 → stB P W = sl P s r := fun h => by rw [Xv3 (r := r) (by rw [hr, hd, hs]) h, hs]
 have hs64 : s ≤ 64 := by rw [hs]; exact Nat.le_of_lt (Lib.lowest_bit 64 (P - 1) (by omega) (by omega)).2
 clear e0 hr hd hs
 generalize stB P W = b at *
 have hP1 : ((P : Int) - 1) = ((P - 1 : Nat) : Int) := by omega
 by_cases h1 : r = 1
 ·have hb := hone h1
  subst hb h1
  clear hone hmore
  go_enter Tryz.func160, Tryz.ntmps160
  go_wp2_with fail
  refine Ht.out.mono ?_
  rintro e w1 ⟨rfl, rfl⟩
  go_wp2_with fail
  refine (Hp.out _).mono ?_
  rintro e w2 ⟨rfl, hb2⟩
  go_wp2
  go_ret
  exact ⟨rfl, hb2⟩
 ·have hb := hmore h1
  subst hb
  clear hone hmore
  obtain ⟨b, hb⟩ : ∃ b, b = sl P s r := ⟨_, rfl⟩
  rw [← hb]
  have Hb := hid hb
  clear hb
  have h1i : ¬ (r : Int) = 1 := by omega
  go_enter Tryz.func160, Tryz.ntmps160
  go_wp2_with fail
  refine Ht.out.mono ?_
  rintro e w1 ⟨rfl, rfl⟩
  go_wp2_with fail
  refine (Hp.out _).mono ?_
  rintro e w2 ⟨rfl, hb2⟩
  have Hb2 := hid hb2
  clear hb2
  go_wp2
  go_loopw [6, 21] (fun vr vk wr => ∃ k r' : Nat, vk = .int .i64 k ∧ k ≤ s ∧ vr = .int .i64 r' ∧ r' < P ∧ b = sl P (s - k) r' ∧ wr = w2) (fun _ vk _ => s - (intOf vk).toNat)
  case atStart => exact ⟨0, r, rfl, Nat.zero_le _, rfl, hrp, Hb.out, rfl⟩
  case round =>
   obtain ⟨k, r', rfl, hk, rfl, hr', hsl, rfl⟩ := hrel
   by_cases hlt : k < s
   ·obtain ⟨j, hj⟩ : ∃ j, s - k = j + 1 := ⟨s - k - 1, by omega⟩
    rw [hj] at hsl
    by_cases he : r' = P - 1
    ·subst he
     rw [Xn2] at hsl
     subst hsl
     go_wp2
     go_ret
     exact ⟨rfl, Hb2.out⟩
    ·rw [Xn3 he] at hsl
     have hne : ¬ (r' : Int) = ((P - 1 : Nat) : Int) := by omega
     obtain ⟨r2, hr2⟩ : ∃ r2, r2 = r' * r' % P := ⟨_, rfl⟩
     have m1 := Zi2 hr' hr' hp2 hr2.symm
     rw [← hr2] at hsl
     have hlt2 : r2 < P := by rw [hr2]; exact Nat.mod_lt _ (by omega)
     have Hsl := hid hsl
     have Hj := hid hj
     clear hr2 hsl hj
     go_wp2
     go_roundw
     case rel => exact ⟨k + 1, r2, by go_num, by omega, rfl, hlt2, by rw [show s - (k + 1) = j by have := Hj.out; omega]; exact Hsl.out, trivial⟩
     case measure => simp [intOf]; omega
   ·obtain rfl : k = s := by omega
    rw [Nat.sub_self, Xn1] at hsl
    subst hsl
    go_wp2
    go_ret
    exact ⟨rfl, Hb2.out⟩
open Go.RowKit
theorem widx0 (w : World) : (Instr.index 159 (.agg #[.int .i64 2, .int .i64 3, .int .i64 5, .int .i64 7]) (.int .i64 0)).run Tryz.prog w = .ok (.int .i64 2) w := by kernel_rfl
theorem widx1 (w : World) : (Instr.index 159 (.agg #[.int .i64 2, .int .i64 3, .int .i64 5, .int .i64 7]) (.int .i64 1)).run Tryz.prog w = .ok (.int .i64 3) w := by kernel_rfl
theorem widx2 (w : World) : (Instr.index 159 (.agg #[.int .i64 2, .int .i64 3, .int .i64 5, .int .i64 7]) (.int .i64 2)).run Tryz.prog w = .ok (.int .i64 5) w := by kernel_rfl
theorem widx3 (w : World) : (Instr.index 159 (.agg #[.int .i64 2, .int .i64 3, .int .i64 5, .int .i64 7]) (.int .i64 3)).run Tryz.prog w = .ok (.int .i64 7) w := by kernel_rfl
theorem Vz8 {k : Nat} (h : k < 4) : ∃ q : Nat, 2 ≤ q ∧ q ≤ 7 ∧ [2, 3, 5, 7].drop k = q :: [2, 3, 5, 7].drop (k + 1) ∧ (k = 0 → q = 2) ∧
  ∀ w, (Instr.index 159 (.agg #[.int .i64 2, .int .i64 3, .int .i64 5, .int .i64 7]) (.int .i64 (k : Int))).run Tryz.prog w = .ok (.int .i64 (q : Int)) w := by
 have : k = 0 ∨ k = 1 ∨ k = 2 ∨ k = 3 := by omega
 rcases this with rfl | rfl | rfl | rfl
 ·exact ⟨2, by decide, by decide, rfl, fun _ => rfl, widx0⟩
 ·exact ⟨3, by decide, by decide, rfl, by decide, widx1⟩
 ·exact ⟨5, by decide, by decide, rfl, by decide, widx2⟩
 ·exact ⟨7, by decide, by decide, rfl, by decide, widx3⟩
theorem Xn5 (a b : Nat) : ((a : Int) == (b : Int)) = decide (a = b) := by
 by_cases h : a = b
 ·subst h; simp
 ·rw [decide_eq_false h]
  simp
  omega
theorem Xv4 {n q : Nat} {ws : List Nat} (h : n % q = 0) : wit n (q :: ws) = decide (n = q) := by
 rw [show wit n (q :: ws) = if n % q = 0 then decide (n = q) else if stB n q then wit n ws else false from rfl, if_pos h]
theorem Xv5 {n q : Nat} {ws : List Nat} (h : n % q ≠ 0) (hs : stB n q = false) : wit n (q :: ws) = false := by
 rw [show wit n (q :: ws) = if n % q = 0 then decide (n = q) else if stB n q then wit n ws else false from rfl, if_neg h, hs]
 rfl
theorem Vz9 {n q : Nat} {ws : List Nat} (h : n % q ≠ 0) (hs : stB n q = true) : wit n (q :: ws) = wit n ws := by
 rw [show wit n (q :: ws) = if n % q = 0 then decide (n = q) else if stB n q then wit n ws else false from rfl, if_neg h, hs]
 rfl
theorem Xv6 (P : Nat) (w : World) (hM : Met w) (h2 : 2 ≤ P) (hp2 : P ≤ 2147483647) :
  Calls Tryz.prog 137 #[.int .i64 P] w (Gets w (.bool (wit P [2, 3, 5, 7]))) := by
 have hin : In31 (P : Int) := ⟨by omega, by omega⟩
 obtain ⟨b, hb⟩ : ∃ b, b = wit P [2, 3, 5, 7] := ⟨_, rfl⟩
 rw [← hb]
 have Hb := hid hb
 clear hb
 have HM := hid hM
 clear hM
 have hn2 : ¬ (P : Int) < 2 := by omega
 have h2i : 2 ≤ (P : Int) := by omega
 go_enter Tryz.func137, Tryz.ntmps137
 go_wp2_with fail
 refine (H1_ _ _ hin).mono ?_
 rintro e w1 ⟨rfl, rfl⟩
 go_wp2
 go_loopw [15] (fun vk wr => ∃ k : Nat, vk = .int .i64 k ∧ k ≤ 4 ∧ b = wit P ([2, 3, 5, 7].drop k) ∧ (k = 0 ∨ 3 ≤ P) ∧ Below w1.heap.size w1 wr) (fun vk _ => 4 - (intOf vk).toNat)
 case atStart => exact ⟨0, rfl, Nat.zero_le _, Hb.out, .inl rfl, (Below.refl _ w1).alloc (Nat.le_refl _) _⟩
 case round =>
  obtain ⟨k, rfl, hk, hbk, h3, hbr⟩ := hrel
  have Hbr := hid hbr
  clear hbr
  by_cases hlt : k < 4
  ·obtain ⟨q, hq2, hq7, hd, hk0, hidx⟩ := Vz8 hlt
   rw [hd] at hbk
   have hqi : ¬ (q : Int) = 0 := by omega
   have htm := Zi1 P q
   by_cases hz : P % q = 0
   ·rw [Xv4 hz] at hbk
    rw [hz] at htm
    have Hbk := hid hbk
    clear hbk hd hk0 h3 hz
    go_wp2
    go_ret
    refine ⟨congrArg (fun x => Ending.returned (.bool x)) ?_, Hbr.out⟩
    rw [Hbk.out]
    exact Xn5 P q
   ·have h3P : 3 ≤ P := by
     rcases h3 with rfl | h3
     ·have := hk0 rfl
      subst this
      omega
     ·exact h3
    have Hp := hid (fun w hM => Yb5 P q w hM h3P hp2)
    obtain ⟨m, hm⟩ : ∃ m, m = P % q := ⟨_, rfl⟩
    rw [← hm] at htm
    have hm0 : ¬ (m : Int) = 0 := by omega
    rcases hs : stB P q with _ | _
    ·rw [Xv5 hz hs] at hbk
     rw [hs] at Hp
     subst hbk
     clear hd hk0 h3 hz hm
     go_wp2_with fail
     refine (Hp.out _ (HM.out.up Hbr.out)).mono ?_
     rintro e w2 ⟨rfl, hb2⟩
     have hB2 := Z0_ Hbr.out (Nat.le_refl _) hb2
     go_wp2
     go_ret
     exact ⟨rfl, hB2⟩
    ·rw [Vz9 hz hs] at hbk
     rw [hs] at Hp
     have Hbk := hid hbk
     clear hd hk0 h3 hz hm hbk
     go_wp2_with fail
     refine (Hp.out _ (HM.out.up Hbr.out)).mono ?_
     rintro e w2 ⟨rfl, hb2⟩
     have hB2 := Z0_ Hbr.out (Nat.le_refl _) hb2
     have HB2 := hid hB2
     clear hb2 hB2
     go_wp2
     go_roundw
     case rel => exact ⟨k + 1, by go_num, by omega, Hbk.out, .inr h3P, HB2.out⟩
     case measure => simp [intOf]; omega
  ·obtain rfl : k = 4 := by omega
   have hbt : b = true := hbk
   subst hbt
   clear hbk
   go_wp2
   go_ret
   exact ⟨rfl, Hbr.out⟩
theorem N8_ (p : Int) (w : World) (hM : Met w) : Calls Tryz.prog 137 #[.int .i64 p] w (Gets w (.bool (prB p))) := by
 by_cases h2 : p < 2
 ·have hf : prB p = false := I7_ fun h => by have := h.1; omega
  rw [hf]
  clear hf
  go_enter Tryz.func137, Tryz.ntmps137
  go_wp2
  go_ret
  exact I6_ _ _
 ·by_cases h3 : p ≤ 2147483647
  ·obtain ⟨P, rfl⟩ : ∃ P : Nat, p = P := ⟨p.toNat, by omega⟩
   have e : prB (P : Int) = wit P [2, 3, 5, 7] := by
    unfold prB
    rw [decide_eq_true (show (2 : Int) ≤ (P : Int) by omega), decide_eq_true h3, Int.toNat_natCast]
    rfl
   rw [e]
   exact Xv6 P w hM (by omega) (by omega)
  ·have hf : prB p = false := I7_ fun h => by have := h.2.1; omega
   rw [hf]
   clear hf
   have hno : ¬ In31 p := fun h => h3 h.2
   go_enter Tryz.func137, Tryz.ntmps137
   go_wp2_with fail
   refine (R5_ p _ hno).mono ?_
   rintro e w' ⟨rfl, rfl⟩
   go_wp2
   go_ret
   exact I6_ _ _
open Go.RowKit
theorem Yl6 {a p : Int} (h : prB p = false) : invB a p = false := by unfold invB; rw [h]; rfl
theorem Zi3 {a p : Int} (h : prB p = true) (h0 : modI a p = 0) : invB a p = false := by unfold invB; rw [h, h0]; rfl
theorem Ze0 {a p : Int} (h : prB p = true) (h0 : modI a p ≠ 0) : invB a p = true := by unfold invB; rw [h, decide_eq_false h0]; rfl
theorem Ze1 {a p : Int} (h : invB a p = false) : invI a p = 0 := by unfold invI; rw [h]; rfl
theorem Ze2 {a p : Int} (h : invB a p = true) : invI a p = powI a (p - 2) p := by unfold invI; rw [h]; rfl
theorem Xn6 (a p : Int) (w : World) (hM : Met w) : Calls Tryz.prog 144 #[.int .i64 a, .int .i64 p] w (Gets w (.tuple #[.int .i64 (invI a p), .bool (invB a p)])) := by
 have HM := hid hM
 clear hM
 rcases hp : prB p with _ | _
 ·have hB := Yl6 (a := a) hp
  rw [Ze1 hB, hB]
  have Hp := hid (fun w hM => N8_ p w hM)
  rw [hp] at Hp
  clear hB hp
  go_enter Tryz.func144, Tryz.ntmps144
  go_wp2_with fail
  refine (Hp.out _ HM.out).mono ?_
  rintro e w1 ⟨rfl, hb1⟩
  go_wp2
  go_ret2
  exact ⟨rfl, hb1⟩
 ·have Hp := hid (fun w hM => N8_ p w hM)
  rw [hp] at Hp
  have hpi := prB_iff.1 hp
  have hpl : p ≤ 2147483647 := hpi.2.1
  by_cases h0 : modI a p = 0
  ·have hB := Zi3 hp h0
   rw [Ze1 hB, hB]
   have Hm := hid (fun w => Yl3 a p w)
   rw [h0] at Hm
   clear hB hp h0 hpi
   go_enter Tryz.func144, Tryz.ntmps144
   go_wp2_with fail
   refine (Hp.out _ HM.out).mono ?_
   rintro e w1 ⟨rfl, hb1⟩
   go_wp2_with fail
   refine (Hm.out _).mono ?_
   rintro e w2 ⟨rfl, rfl⟩
   go_wp2
   go_ret2
   exact ⟨rfl, hb1⟩
  ·have hB := Ze0 hp h0
   rw [Ze2 hB, hB]
   have Hm := hid (fun w => Yl3 a p w)
   have Hw := hid (fun w => Xn0 a (p - 2) p w (by omega))
   have h2 := hpi.1
   have hw : wrap64 (p - 2) = p - 2 := by unfold wrap64; omega
   generalize modI a p = m at *
   generalize powI a (p - 2) p = y at *
   clear hB hp hpi
   go_enter Tryz.func144, Tryz.ntmps144
   go_wp2_with fail
   refine (Hp.out _ HM.out).mono ?_
   rintro e w1 ⟨rfl, hb1⟩
   go_wp2_with fail
   refine (Hm.out _).mono ?_
   rintro e w2 ⟨rfl, rfl⟩
   go_wp2_with fail
   refine (Hw.out _).mono ?_
   rintro e w3 ⟨rfl, hb3⟩
   have hB3 := Z0_ hb1 (Nat.le_refl _) hb3
   go_wp2
   go_ret2
   exact ⟨rfl, hB3⟩
open Go.RowKit
theorem Xn7 {P x : Nat} (hp : Pr P) (hx : ¬ P ∣ x) : x ^ (P - 2) % P * x % P = 1 := by
 have h2 := hp.1
 rw [S9_ (E1_ (x ^ (P - 2)) P) rfl, ← Nat.pow_succ, show (P - 2).succ = P - 1 by omega]
 exact fermat hp hx
theorem Xn8 {P x : Nat} (h0 : x ≠ 0) (hx : x < P) : ¬ P ∣ x := fun hd => by
 have := Nat.le_of_dvd (by omega) hd
 omega
theorem Xv7 {a : Int} {P x : Nat} (h2 : 2 ≤ P) (hM : P ≤ 2147483647) (ha : a % (P : Int) = x) : powI a ((P : Int) - 2) P = ((x ^ (P - 2) % P : Nat) : Int) := by
 unfold powI
 rw [if_pos ⟨⟨by omega, by omega⟩, by omega⟩, ha, Int.toNat_natCast, Int.toNat_natCast, show ((P : Int) - 2).toNat = P - 2 by omega]
theorem Vy0 {a : Int} {P x : Nat} (hpr : prB (P : Int) = true) (h2 : 2 ≤ P) (hM : P ≤ 2147483647) (ha : a % (P : Int) = x) (h0 : x ≠ 0) :
  invB a P = true ∧ invI a P = ((x ^ (P - 2) % P : Nat) : Int) := by
 have hm : modI a P = x := (if_pos ⟨by omega, by omega⟩ : modI a P = a % P).trans ha
 have hb := Ze0 hpr (a := a) (by rw [hm]; omega)
 exact ⟨hb, by rw [Ze2 hb, Xv7 h2 hM ha]⟩
end Wp
end Go.Proofs.YtgadbnbhgpehjaaGreatDoor
