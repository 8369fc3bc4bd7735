/- A map from places to numbers, as the walks take it: what it reads as, a number put in, and what is done in a loop over it, in whatever order. Nothing of the program here. -/
import Derived.Test.YtmnhpccdhefddaaDoorLAlg
import Derived.Maps.RangeWalk
import Derived.Maps.OwnSet
namespace Go.Proofs.YtmnhpccdhefddaaDoor.Wp
open Go

/-- The map has f's number at each place at which that is not 0, and no other. -/
def Reads (D : DataW Unit) (f : Nat → Int) : Prop := ∀ (x : Int) (zd : DataW Unit), D.atKey (.int .i64 x) zd = if 0 ≤ x ∧ f x.toNat ≠ 0 then .lit (.int .i64 (f x.toNat)) else zd
theorem reads_empty : Reads (.map []) fun _ => 0 := fun x zd => by simp [DataW.atKey]
theorem reads_put {D : DataW Unit} {f : Nat → Int} (hD : Maps.IsMap D) (h : Reads D f) (a : Nat) {t : Int} (ht : t ≠ 0) (hk : WideAt.IsKeyLit (.int .i64 (a : Int))) : Reads (D.put (.int .i64 (a : Int)) (.lit (.int .i64 t))) (upd f a t) := by
  intro x zd
  by_cases hx : x = (a : Int)
  · subst hx
    rw [Maps.atKey_put_same hD hk]
    unfold upd
    simp [ht]
  · rw [Maps.atKey_put_other (by intro e; injection e with _ e; exact hx e), h x zd]
    by_cases h0 : 0 ≤ x
    · have hne : x.toNat ≠ a := by omega
      unfold upd
      rw [if_neg hne]
    · rw [if_neg (fun e => h0 e.1), if_neg (fun e => h0 e.1)]
/-- A key that is there is a place, and its element its number. -/
theorem reads_key {D : DataW Unit} {f : Nat → Int} (h : Reads D f) {x c : Int} (hat : ∀ zd, D.atKey (.int .i64 x) zd = .lit (.int .i64 c)) : ∃ X : Nat, x = (X : Int) ∧ f X ≠ 0 ∧ c = f X := by
  by_cases hx : 0 ≤ x ∧ f x.toNat ≠ 0
  · refine ⟨x.toNat, by omega, hx.2, ?_⟩
    have := (h x .nil).symm.trans (hat .nil)
    rw [if_pos hx] at this
    injection this with this
    injection this with _ this
    exact this.symm
  · have := (h x .nil).symm.trans (hat .nil)
    rw [if_neg hx] at this
    cases this
theorem reads_has {D : DataW Unit} {f : Nat → Int} (h : Reads D f) {X : Nat} (hX : f X ≠ 0) : Maps.has D (.int .i64 (X : Int)) = true :=
  Maps.has_true_of_atKey (y := .lit (.int .i64 (f X))) fun z => by rw [h, if_pos ⟨by omega, by simpa using hX⟩]; simp

/-- What is done at the places that have come. -/
def midF (f old new : Nat → Int) (left : Lit → Bool) (i : Nat) : Int := if f i = 0 ∨ left (.int .i64 (i : Int)) = true then old i else new i
theorem mid_start {D : DataW Unit} {f old new : Nat → Int} (h : Reads D f) (i : Nat) : midF f old new (Maps.has D) i = old i := by
  unfold midF
  by_cases hi : f i = 0
  · rw [if_pos (.inl hi)]
  · rw [if_pos (.inr (reads_has h hi))]
theorem mid_step {f old new : Nat → Int} {left : Lit → Bool} {X : Nat} (hX : f X ≠ 0) (i : Nat) :
    midF f old new (fun z => left z && !z.sameKey (.int .i64 (X : Int))) i = if i = X then new i else midF f old new left i := by
  unfold midF
  by_cases hi : i = X
  · subst hi
    simp [Lit.sameKey, hX]
  · rw [if_neg hi]
    have : Lit.sameKey (.int .i64 (i : Int)) (.int .i64 (X : Int)) = false := Maps.sameKey_ne (by intro e; injection e with _ e; omega)
    simp [this]
theorem mid_end {f old new : Nat → Int} {left : Lit → Bool} (h : ∀ kl, left kl = false) (i : Nat) : midF f old new left i = if f i = 0 then old i else new i := by
  unfold midF
  rw [h]
  simp
theorem mid_todo {f old new : Nat → Int} {left : Lit → Bool} {X : Nat} (hl : left (.int .i64 (X : Int)) = true) : midF f old new left X = old X := by
  unfold midF
  rw [if_pos (.inr hl)]
theorem mid_off {f old new : Nat → Int} {left : Lit → Bool} {i : Nat} (hi : f i = 0) : midF f old new left i = old i := by
  unfold midF
  rw [if_pos (.inl hi)]

end Go.Proofs.YtmnhpccdhefddaaDoor.Wp
