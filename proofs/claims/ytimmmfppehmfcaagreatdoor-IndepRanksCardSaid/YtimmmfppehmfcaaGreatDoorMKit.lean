/- What the calls on numbers modulo a prime give, plain; and small laws of memory that their walks use. -/
import Derived.Test.YtimmmfppehmfcaaGreatDoorMRun
import Derived.Test.YtimmmfppehmfcaaGreatDoorMShelf
import Derived.Test.YtimmmfppehmfcaaGreatDoorSKit
import Derived.WalkKit
import Derived.OwnWalk
import Derived.Laws.Cells
import Derived.Deep.Draws
import Derived.BigQuiet
import Derived.Deep.QuietTactic
namespace Go.Proofs.YtimmmfppehmfcaaGreatDoor.Wp
open Go Go.RowKit

/-- A call gives a value, and what was there is as it was. -/
def Gets (w : World) (v : Value) (e : Ending) (w' : World) : Prop := e = .returned v ∧ Below w.heap.size w w'
theorem gets_same (w : World) (v : Value) : Gets w v (.returned v) w := ⟨rfl, Below.refl _ w⟩
theorem gets_mk {w w' : World} {v v' : Value} (h : v' = v) (hb : Below w.heap.size w w') : Gets w v (.returned v') w' := ⟨by rw [h], hb⟩

/-- The library's table in its variable. -/
structure Met (w : World) : Prop where
  lt : 8 < w.heap.size
  tab : TabAt 8 Lib.deBruijn64tab w
theorem Met.up {w w' : World} (h : Met w) (hb : Below w.heap.size w w') : Met w' := ⟨Nat.lt_of_lt_of_le h.lt hb.size, fun j hj => (hb.cell (p := ⟨8, j, none⟩) h.lt).trans (h.tab j hj)⟩

/-! ### What the document says, plain -/
def In31 (p : Int) : Prop := 1 ≤ p ∧ p ≤ 2147483647
instance (p : Int) : Decidable (In31 p) := inferInstanceAs (Decidable (_ ∧ _))
def modI (a p : Int) : Int := if In31 p then a % p else 0
def powI (a n p : Int) : Int := if In31 p ∧ 0 ≤ n then (((a % p).toNat ^ n.toNat % p.toNat : Nat) : Int) else 0
def PrI (p : Int) : Prop := 2 ≤ p ∧ p ≤ 2147483647 ∧ Pr p.toNat

/-- By witnesses. -/
def wit (n : Nat) : List Nat → Bool
  | [] => true
  | w :: ws => if n % w = 0 then decide (n = w) else if stB n w then wit n ws else false
def prB (p : Int) : Bool := decide (2 ≤ p) && decide (p ≤ 2147483647) && wit p.toNat [2, 3, 5, 7]
def invB (a p : Int) : Bool := prB p && !decide (modI a p = 0)
def invI (a p : Int) : Int := if invB a p then powI a (p - 2) p else 0

theorem pr_of {p : Nat} (h : 2 ≤ p) (k : ∀ d, d < p + 1 → d ∣ p → d = 1 ∨ d = p) : Pr p :=
  ⟨h, fun d hd => k d (by have := Nat.le_of_dvd (by omega) hd; omega) hd⟩
theorem pr_2 : Pr 2 := pr_of (by decide) (by decide)
theorem pr_3 : Pr 3 := pr_of (by decide) (by decide)
theorem pr_5 : Pr 5 := pr_of (by decide) (by decide)
theorem pr_7 : Pr 7 := pr_of (by decide) (by decide)

theorem wit_of {n : Nat} (hn : Pr n) (h64 : n < 2 ^ 64) (h3 : 3 ≤ n) : ∀ {ws : List Nat}, (∀ w ∈ ws, Pr w) → wit n ws = true
  | [], _ => rfl
  | w :: ws, hw => by
    have hpw := hw w (by simp)
    unfold wit
    by_cases h : n % w = 0
    · rw [if_pos h]
      exact decide_eq_true (hpw.of_dvd hn (Nat.dvd_of_mod_eq_zero h)).symm
    · rw [if_neg h, if_pos (stB_prime hn h3 h64 fun hd => ?_)]
      · exact wit_of hn h64 h3 fun x hx => hw x (by simp [hx])
      · obtain rfl := hn.of_dvd hpw hd
        exact h (Nat.mod_self n)
theorem wit_step {n w : Nat} {ws : List Nat} (h : wit n (w :: ws) = true) : n = w ∨ (n % w ≠ 0 ∧ stB n w = true ∧ wit n ws = true) := by
  unfold wit at h
  by_cases h1 : n % w = 0
  · rw [if_pos h1] at h
    exact .inl (of_decide_eq_true h)
  · rw [if_neg h1] at h
    rcases h2 : stB n w with _ | _
    · rw [h2] at h; cases h
    · rw [h2, if_pos rfl] at h
      exact .inr ⟨h1, rfl, h⟩

theorem wit_prime {n : Nat} (h2 : 2 ≤ n) (hlt : n < 2147483648) (h : wit n [2, 3, 5, 7] = true) : Pr n := by
  rcases wit_step h with rfl | ⟨e2, s2, h⟩
  · exact pr_2
  rcases wit_step h with rfl | ⟨e3, s3, h⟩
  · exact pr_3
  rcases wit_step h with rfl | ⟨e5, s5, h⟩
  · exact pr_5
  rcases wit_step h with rfl | ⟨e7, s7, h⟩
  · exact pr_7
  have h3 : 3 ≤ n := by omega
  have h64 : n < 2 ^ 64 := Nat.lt_trans hlt (by decide)
  have c : ∀ {w : Nat}, Pr w → n % w ≠ 0 → Nat.Coprime w n := fun hw e => hw.cop fun hd => e (Nat.mod_eq_zero_of_dvd hd)
  have hg : Nat.gcd n 210 = 1 := by
    rw [Nat.gcd_comm]
    exact (c pr_2 e2).mul_left ((c pr_3 e3).mul_left ((c pr_5 e5).mul_left (c pr_7 e7)))
  have f2 := stB_fermat h3 h64 s2
  refine psi ⟨hlt, h2, ⟨f2, stB_fermat h3 h64 s3, stB_fermat h3 h64 s5, stB_fermat h3 h64 s7⟩, ?_⟩ hg
  unfold tst
  rw [hg, pw_eq, show 2 ^ Nat.sub n 1 % n = 1 from f2, s2, s3, s5, s7]
  rfl

theorem prB_iff {p : Int} : prB p = true ↔ PrI p := by
  unfold prB PrI
  rw [Bool.and_eq_true, Bool.and_eq_true, decide_eq_true_iff, decide_eq_true_iff]
  constructor
  · rintro ⟨⟨h1, h2⟩, h3⟩
    exact ⟨h1, h2, wit_prime (by omega) (by omega) h3⟩
  · rintro ⟨h1, h2, h3⟩
    refine ⟨⟨h1, h2⟩, ?_⟩
    by_cases h : p.toNat = 2
    · rw [h]
      decide
    · refine wit_of h3 (Nat.lt_of_le_of_lt (show p.toNat ≤ 2147483647 by omega) (by decide)) (by omega) fun w hw => ?_
      simp only [List.mem_cons, List.not_mem_nil, or_false] at hw
      rcases hw with rfl | rfl | rfl | rfl
      · exact pr_2
      · exact pr_3
      · exact pr_5
      · exact pr_7
theorem prB_true {p : Int} (h : PrI p) : prB p = true := prB_iff.2 h
theorem prB_false {p : Int} (h : ¬ PrI p) : prB p = false := Bool.eq_false_iff.2 fun e => h (prB_iff.1 e)

end Go.Proofs.YtimmmfppehmfcaaGreatDoor.Wp
