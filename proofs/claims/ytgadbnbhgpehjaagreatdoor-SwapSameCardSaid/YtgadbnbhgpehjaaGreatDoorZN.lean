/- Bases and circuits, plain: a circuit and one of the dual never have just one element in common. What is exchanged along a shortest way, and what a set without a way bounds, plain: of ranks alone. The least of the shortest ways, step by step; what each of its points is: plain. Nothing of the program here. What is exchanged in two matroids, as lists: turned along a shortest way a common set is one of one more; where there is none, what is come to bounds it; plain. -/
import Derived.Test.YtgadbnbhgpehjaaGreatDoorIMinP
import Derived.Test.YtgadbnbhgpehjaaGreatDoorIExchP
import Derived.Test.YtgadbnbhgpehjaaGreatDoorZA
namespace Go.Proofs.YtgadbnbhgpehjaaGreatDoor.Wp
open Go Go.RowKit
def remP (P : Nat → Bool) (y : Nat) : Nat → Bool := fun i => P i && !(i == y)
section
variable {n : Nat} {f : (Nat → Bool) → Nat}
end
theorem D4_ {m : Mat} {s : List Int} (h : indT m s = true) : mayI m s = true := by
 cases hm : mayI m s
 ·unfold indT rankT at h
  rw [hm, if_neg (by decide), decide_eq_true_iff] at h
  omega
 ·rfl
end Go.Proofs.YtgadbnbhgpehjaaGreatDoor.Wp
namespace Go.Proofs.YtgadbnbhgpehjaaGreatDoor.Wp
open Go Go.RowKit
section
variable {n : Nat} {f : (Nat → Bool) → Nat}
structure Zig (n : Nat) (S : Nat → Bool) (p : Nat → Nat) (k : Nat) : Prop where
 lt : ∀ i, i ≤ 2 * k → p i < n
 inj : ∀ i j, i ≤ 2 * k → j ≤ 2 * k → p i = p j → i = j
 out : ∀ i, i ≤ k → S (p (2 * i)) = false
 X4_ : ∀ i, i < k → S (p (2 * i + 1)) = true
def pairs (p : Nat → Nat) (k : Nat) : List (Nat × Nat) := (List.range k).map fun i => (p (2 * i + 1), p (2 * i + 2))
structure Straight (n : Nat) (f : (Nat → Bool) → Nat) (S : Nat → Bool) (p : Nat → Nat) (k : Nat) : Prop where
 start : f (insP S (p 0)) = cnt S n + 1
 noStart : ∀ i, i < k → f (insP S (p (2 * i + 2))) = f S
 arc : ∀ i, i < k → f (insP (remP S (p (2 * i + 1))) (p (2 * i + 2))) = cnt S n
 noArc : ∀ i j, i < j → j < k → f (insP (remP S (p (2 * i + 1))) (p (2 * j + 2))) < cnt S n
end
end Go.Proofs.YtgadbnbhgpehjaaGreatDoor.Wp
namespace Go.Proofs.YtgadbnbhgpehjaaGreatDoor.Wp
def Near (adj : List (List Int)) (dst : List Int) : Nat → Int → Prop
 | 0, x => x ∈ dst
 | n + 1, x => Near adj dst n x ∨ ∃ y ∈ adj.getD x.toNat [], Near adj dst n y
section
variable {adj : List (List Int)} {dst : List Int}
inductive Greedy (adj : List (List Int)) (dst : List Int) : List Int → Nat → List Int → Prop
 | stop (S : List Int) (x : Int) : x ∈ S → x ∈ dst → (∀ y ∈ S, y < x → y ∉ dst) → Greedy adj dst S 0 [x]
 | step (S : List Int) (x : Int) (n : Nat) (l : List Int) : x ∈ S → Near adj dst (n + 1) x → (∀ y ∈ S, ¬ Near adj dst n y) → (∀ y ∈ S, y < x → ¬ Near adj dst (n + 1) y) → Greedy adj dst (adj.getD x.toNat []) n l → Greedy adj dst S (n + 1) (x :: l)
end
section
variable {adj : List (List Int)} {dst : List Int}
end
end Go.Proofs.YtgadbnbhgpehjaaGreatDoor.Wp
namespace Go.Proofs.YtgadbnbhgpehjaaGreatDoor.Wp
open Go Go.RowKit
noncomputable def P5_ (m : Mat) (s : List Int) (x y : Int) : Bool := hasB s y && (!hasB s x && indT m (Y2_ (Z7_ s [y]) [x]))
noncomputable def arcsG (a b : Mat) (s : List Int) (p : Int) : List Int := (upTo (nN a)).filter fun q => P5_ a s q p || P5_ b s p q
noncomputable def adjG (a b : Mat) (s : List Int) : List (List Int) := (upTo (nN a)).map (arcsG a b s)
noncomputable def addG (m : Mat) (s : List Int) : List Int := (upTo (nN m)).filter fun x => !hasB s x && indT m (Y2_ s [x])
def turnL (s l : List Int) : List Int := if mayB s = true ∧ (sortL l).length = l.length then Y2_ (Z7_ s (sortL l)) (Z7_ (sortL l) s) else []
structure Common (a b : Mat) (s : List Int) : Prop where
 n : a.n = b.n
 ia : indT a s = true
 ib : indT b s = true
theorem mem_upTo {k : Nat} {x : Int} : x ∈ upTo k ↔ 0 ≤ x ∧ x < (k : Int) := by
 unfold upTo
 rw [List.mem_map]
 constructor
 ·rintro ⟨i, hi, rfl⟩
  rw [List.mem_range] at hi
  exact ⟨by show (0 : Int) ≤ (i : Int); omega, by show (i : Int) < _; omega⟩
 ·rintro ⟨h0, h1⟩
  exact ⟨x.toNat, List.mem_range.2 (by omega), by show ((x.toNat : Nat) : Int) = x; omega⟩
theorem Yu3 {s : List Int} {x : Nat} (hs : IsSet s) : hasB s (x : Int) = memP s x := by
 rw [Bool.eq_iff_iff, F7_ hs, memP_iff]
section
variable {m : Mat} {s : List Int}
theorem Yq7 {n x : Nat} (hn : n ≤ 64) (hx : x < n) : InN n [(x : Int)] := ⟨⟨by simp, fun z hz => by rw [List.mem_singleton.1 hz]; exact ⟨by omega, by omega⟩⟩, fun z hz => by rw [List.mem_singleton.1 hz]; omega⟩
theorem Yu4 (hi : indT m s = true) {x : Nat} : (x : Int) ∈ addG m s ↔ x < nN m ∧ memP s x = false ∧ rkP 4 m (insP (memP s) x) = cnt (memP s) (nN m) + 1 := by
 obtain ⟨hc, hS⟩ := mayI_iff.1 (D4_ hi)
 have hn := (Z8_ hc).2
 unfold addG
 rw [List.mem_filter, mem_upTo]
 constructor
 ·rintro ⟨⟨_, h1⟩, h2⟩
  have hx : x < nN m := by omega
  have h3 := Yq7 hn hx
  rw [Bool.and_eq_true, Bool.not_eq_true', Yu3 hS.1, L6_ (mayI_iff.2 ⟨hc, B1_ hS h3⟩), V1_ (B1_ hS h3), G3_ hS.1 h3.1, Zg5 (by omega), Int.toNat_natCast] at h2
  rw [H6_ hx h2.1] at h2
  exact ⟨hx, h2.1, h2.2⟩
 ·rintro ⟨hx, h1, h2⟩
  have h3 := Yq7 hn hx
  refine ⟨⟨by omega, by omega⟩, ?_⟩
  rw [Bool.and_eq_true, Bool.not_eq_true', Yu3 hS.1, L6_ (mayI_iff.2 ⟨hc, B1_ hS h3⟩), V1_ (B1_ hS h3), G3_ hS.1 h3.1, Zg5 (by omega), Int.toNat_natCast, H6_ hx h1]
  exact ⟨h1, h2⟩
theorem Xt3 (hi : indT m s = true) : rkP 4 m (memP s) = cnt (memP s) (nN m) := by
 obtain ⟨hc, hS⟩ := mayI_iff.1 (D4_ hi)
 rw [← V1_ hS]
 exact (L6_ (D4_ hi)).1 hi
end
section
variable {a b : Mat} {s : List Int}
theorem Common.nn (h : Common a b s) : nN b = nN a := by unfold nN; rw [h.n]
theorem Xk4 {x : Nat} (hx : x < nN a) : (adjG a b s).getD x [] = arcsG a b s (x : Int) := by
 unfold adjG upTo
 simp [List.getD, hx]
theorem Xt4 : (adjG a b s).length = nN a := by unfold adjG; rw [List.length_map, J8_]
end
end Go.Proofs.YtgadbnbhgpehjaaGreatDoor.Wp
