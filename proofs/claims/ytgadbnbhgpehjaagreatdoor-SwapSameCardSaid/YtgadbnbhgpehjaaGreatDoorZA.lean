/- Sets of numbers as lists, plain: what layer 2's calls answer, and that sets are an algebra. Nothing of the program here. Small laws of memory that the walks of this seat use: a block that is known whole; a list of integers in memory; what a call gives. Plain facts on sets as lists, for the walks: whether a list is a set, step by step; what both have, step by step. Whether a list is a set, as the program and as the document ask it, walked. Memory of this seat: a list of lists of integers; a family of rows that the call itself makes, no two in one block. Two sides that may be: the program's May, walked. The program's part (Meet, Minus), walked: both lists rise, and one goes along the other. The program's Has and All, walked. Whether a list is a set, as the document asks it, walked. The document's answer: is a number in a list: walked. The document's meet and union of sets, walked. -/
import Derived.Lib.SlicesCompact
import Derived.Test.YtgadbnbhgpehjaaGreatDoorProg
import Derived.WalkKit
import Derived.OwnWalk
import Derived.Lib.Hide
import Derived.Laws.Cells
import Derived.Laws.Rows
import Derived.Deep.Draws
import Derived.BigQuiet
import Derived.Deep.QuietTactic
import Derived.Laws.AppendOwnNone
import Derived.Maps.AppendAt
import Derived.Lib.OwnBridge
import Derived.DataElems
set_option maxHeartbeats 8000000
set_option maxRecDepth 100000
open Go.Lib (hid)
open Nat (le_refl)
namespace Go.Proofs.YtgadbnbhgpehjaaGreatDoor.Wp
def Fit (x : Int) : Prop := 0 ≤ x ∧ x ≤ 1099511627776
instance (x : Int) : Decidable (Fit x) := inferInstanceAs (Decidable (_ ∧ _))
def IsSet (l : List Int) : Prop := l.Pairwise (· < ·) ∧ ∀ x ∈ l, Fit x
instance (l : List Int) : Decidable (IsSet l) := inferInstanceAs (Decidable (_ ∧ _))
def mayB (l : List Int) : Bool := decide (IsSet l)
theorem V4_ : IsSet [] := ⟨List.Pairwise.nil, fun _ h => absurd h (by simp)⟩
theorem R0_ : ∀ {a b : List Int}, a.Pairwise (· < ·) → b.Pairwise (· < ·) → (∀ x, x ∈ a ↔ x ∈ b) → a = b
 | [], [], _, _, _ => rfl
 | [], y :: b, _, _, h => absurd ((h y).2 (by simp)) (by simp)
 | x :: a, [], _, _, h => absurd ((h x).1 (by simp)) (by simp)
 | x :: a, y :: b, ha, hb, h => by
  rw [List.pairwise_cons] at ha hb
  have hxy : x = y := by
   rcases List.mem_cons.1 ((h x).1 (by simp)) with e | hx
   ·exact e
   ·rcases List.mem_cons.1 ((h y).2 (by simp)) with e | hy
    ·exact e.symm
    ·have := hb.1 x hx
     have := ha.1 y hy
     omega
  subst hxy
  congr 1
  refine R0_ ha.2 hb.2 fun z => ⟨fun hz => ?_, fun hz => ?_⟩
  ·rcases List.mem_cons.1 ((h z).1 (by simp [hz])) with e | hz'
   ·have := ha.1 z hz; omega
   ·exact hz'
  ·rcases List.mem_cons.1 ((h z).2 (by simp [hz])) with e | hz'
   ·have := hb.1 z hz; omega
   ·exact hz'
theorem IsSet.ext {a b : List Int} (ha : IsSet a) (hb : IsSet b) (h : ∀ x, x ∈ a ↔ x ∈ b) : a = b := R0_ ha.1 hb.1 h
theorem IsSet.sub {a b : List Int} (h : IsSet b) (hs : a.Sublist b) : IsSet a := ⟨h.1.sublist hs, fun x hx => h.2 x (hs.subset hx)⟩
theorem IsSet.filter {a : List Int} (h : IsSet a) (p : Int → Bool) : IsSet (a.filter p) := h.sub List.filter_sublist
theorem IsSet.tail {x : Int} {a : List Int} (h : IsSet (x :: a)) : IsSet a := h.sub (List.sublist_cons_self x a)
def ins (x : Int) : List Int → List Int
 | [] => [x]
 | y :: r => if x < y then x :: y :: r else if x = y then y :: r else y :: ins x r
theorem Zd4 (x z : Int) : ∀ l, z ∈ ins x l ↔ z = x ∨ z ∈ l
 | [] => by simp [ins]
 | y :: r => by
  unfold ins
  split
  ·simp
  ·split
   ·subst_vars; simp
   ·simp only [List.mem_cons, Zd4 x z r]
    constructor
    ·rintro (h | h | h) <;> simp [h]
    ·rintro (h | h | h) <;> simp [h]
theorem Zo9 (x : Int) (hx : Fit x) : ∀ l, IsSet l → IsSet (ins x l)
 | [], _ => ⟨by simp [ins], by simp [ins]; exact hx⟩
 | y :: r, h => by
  have h1 := List.pairwise_cons.1 h.1
  unfold ins
  split
  ·refine ⟨List.pairwise_cons.2 ⟨fun z hz => ?_, h.1⟩, fun z hz => ?_⟩
   ·rcases List.mem_cons.1 hz with e | hz'
    ·omega
    ·have := h1.1 z hz'; omega
   ·rcases List.mem_cons.1 hz with e | hz'
    ·rw [e]; exact hx
    ·exact h.2 z hz'
  ·split
   ·exact h
   ·have ih := Zo9 x hx r h.tail
    refine ⟨List.pairwise_cons.2 ⟨fun z hz => ?_, ih.1⟩, fun z hz => ?_⟩
    ·rcases (Zd4 x z r).1 hz with e | hz'
     ·omega
     ·exact h1.1 z hz'
    ·rcases List.mem_cons.1 hz with e | hz'
     ·rw [e]; exact h.2 y (by simp)
     ·exact ih.2 z hz'
def sortL : List Int → List Int
 | [] => []
 | x :: r => if Fit x then ins x (sortL r) else sortL r
theorem J7_ : ∀ l, IsSet (sortL l)
 | [] => V4_
 | x :: r => by
  unfold sortL
  split
  ·exact Zo9 x (by assumption) _ (J7_ r)
  ·exact J7_ r
theorem G1_ (z : Int) : ∀ l, z ∈ sortL l ↔ z ∈ l ∧ Fit z
 | [] => by simp [sortL]
 | x :: r => by
  unfold sortL
  split
  ·next hx =>
   rw [Zd4, G1_ z r, List.mem_cons]
   constructor
   ·rintro (e | ⟨h, h'⟩)
    ·subst e; exact ⟨.inl rfl, hx⟩
    ·exact ⟨.inr h, h'⟩
   ·rintro ⟨e | h, h'⟩
    ·exact .inl e
    ·exact .inr ⟨h, h'⟩
  ·next hx =>
   rw [G1_ z r, List.mem_cons]
   constructor
   ·rintro ⟨h, h'⟩; exact ⟨.inr h, h'⟩
   ·rintro ⟨e | h, h'⟩
    ·subst e; exact absurd h' hx
    ·exact ⟨h, h'⟩
theorem Xx0 {r l : List Int} (hr : IsSet r) (h : ∀ x, x ∈ r ↔ x ∈ l ∧ Fit x) : r = sortL l :=
 hr.ext (J7_ l) fun x => by rw [h, G1_]
theorem C4_ : ∀ l, (sortL l).length ≤ l.length
 | [] => le_refl _
 | x :: r => by
  unfold sortL
  have h1 : ∀ (y : Int) (t : List Int), (ins y t).length ≤ t.length + 1 := by
   intro y t
   induction t with
   | nil => simp [ins]
   | cons a t ih =>
    unfold ins
    split
    ·simp
    ·split
     ·simp
     ·simp; omega
  split
  ·have := h1 x (sortL r)
   have := C4_ r
   simp; omega
  ·have := C4_ r
   simp; omega
def hasB (l : List Int) (x : Int) : Bool := mayB l && l.contains x
def Y2_ (a b : List Int) : List Int := if mayB a && mayB b then sortL (a ++ b) else []
def partL (a b : List Int) (w : Bool) : List Int := if mayB a && mayB b then a.filter fun x => b.contains x == w else []
def meetL (a b : List Int) : List Int := partL a b true
def Z7_ (a b : List Int) : List Int := partL a b false
def subB (a b : List Int) : Bool := mayB a && mayB b && decide (Z7_ a b = [])
def allL (n : Int) : List Int := if n < 1 ∨ 100000 < n then [] else (List.range n.toNat).map Int.ofNat
theorem mayB_iff {l : List Int} : mayB l = true ↔ IsSet l := by simp [mayB]
theorem I3_ {l : List Int} (h : IsSet l) : mayB l = true := mayB_iff.2 h
theorem E2_ (a b : List Int) : IsSet (Y2_ a b) := by
 unfold Y2_
 split
 ·exact J7_ _
 ·exact V4_
theorem Yy3 (a b : List Int) (w : Bool) : IsSet (partL a b w) := by
 unfold partL
 split
 ·next h => exact (mayB_iff.1 (by simp at h; exact h.1)).filter _
 ·exact V4_
theorem Xx1 (a b : List Int) : IsSet (meetL a b) := Yy3 a b true
theorem E3_ (a b : List Int) : IsSet (Z7_ a b) := Yy3 a b false
theorem F6_ (n : Int) : IsSet (allL n) := by
 unfold allL
 split
 ·exact V4_
 ·next h =>
  refine ⟨?_, fun x hx => ?_⟩
  ·rw [List.pairwise_map]
   exact List.pairwise_lt_range.imp fun h => by simpa using h
  ·obtain ⟨k, hk, rfl⟩ := List.mem_map.1 hx
   have := List.mem_range.1 hk
   have e : Int.ofNat k = (k : Int) := rfl
   unfold Fit
   rw [e]
   omega
theorem Q5_ {a b : List Int} (ha : IsSet a) (hb : IsSet b) (x : Int) : x ∈ Y2_ a b ↔ x ∈ a ∨ x ∈ b := by
 unfold Y2_
 rw [if_pos (by rw [I3_ ha, I3_ hb]; rfl), G1_, List.mem_append]
 constructor
 ·exact fun h => h.1
 ·rintro (h | h)
  ·exact ⟨.inl h, ha.2 x h⟩
  ·exact ⟨.inr h, hb.2 x h⟩
theorem Yy4 {a b : List Int} (ha : IsSet a) (hb : IsSet b) (w : Bool) (x : Int) : x ∈ partL a b w ↔ x ∈ a ∧ (b.contains x = w) := by
 unfold partL
 rw [if_pos (by rw [I3_ ha, I3_ hb]; rfl), List.mem_filter]
 simp
theorem Zd5 {a b : List Int} (ha : IsSet a) (hb : IsSet b) (x : Int) : x ∈ meetL a b ↔ x ∈ a ∧ x ∈ b := by
 unfold meetL
 rw [Yy4 ha hb, List.contains_iff_mem]
theorem X8_ {a b : List Int} (ha : IsSet a) (hb : IsSet b) (x : Int) : x ∈ Z7_ a b ↔ x ∈ a ∧ x ∉ b := by
 unfold Z7_
 rw [Yy4 ha hb, ← Bool.not_eq_true, List.contains_iff_mem]
theorem Yk2 {a b : List Int} (ha : IsSet a) (hb : IsSet b) : subB a b = true ↔ ∀ x ∈ a, x ∈ b := by
 unfold subB
 rw [I3_ ha, I3_ hb]
 simp only [Bool.and_self, Bool.true_and, decide_eq_true_eq]
 constructor
 ·intro h x hx
  rcases Decidable.em (x ∈ b) with hb' | hb'
  ·exact hb'
  ·have := (X8_ ha hb x).2 ⟨hx, hb'⟩
   rw [h] at this
   exact absurd this (by simp)
 ·intro h
  rcases hm : Z7_ a b with _ | ⟨x, r⟩
  ·rfl
  ·have := (X8_ ha hb x).1 (by rw [hm]; simp)
   exact absurd (h x this.1) this.2
theorem F7_ {l : List Int} (h : IsSet l) (x : Int) : hasB l x = true ↔ x ∈ l := by
 unfold hasB
 rw [I3_ h]
 simp
theorem Zp0 (a b : List Int) (w : Bool) : (partL a b w).length ≤ a.length := by
 unfold partL
 split
 ·exact List.length_filter_le _ _
 ·simp
theorem T1_ (a b : List Int) : (Y2_ a b).length ≤ a.length + b.length := by
 unfold Y2_
 split
 ·have := C4_ (a ++ b)
  simpa using this
 ·simp
theorem Ya6 (n : Int) : ((allL n).length : Int) ≤ 100000 ∧ (1 ≤ n → n ≤ 100000 → ((allL n).length : Int) = n) := by
 unfold allL
 split
 ·next h => exact ⟨by simp, fun h1 h2 => by omega⟩
 ·next h => exact ⟨by simp; omega, fun h1 h2 => by simp; omega⟩
theorem G8_ {n : Int} (h1 : 0 ≤ n) (h2 : n ≤ 100000) (x : Int) : x ∈ allL n ↔ 0 ≤ x ∧ x < n := by
 unfold allL
 split
 ·next h =>
  simp
  omega
 ·rw [List.mem_map]
  constructor
  ·rintro ⟨k, hk, rfl⟩
   have := List.mem_range.1 hk
   have e : Int.ofNat k = (k : Int) := rfl
   rw [e]
   omega
  ·intro h
   exact ⟨x.toNat, List.mem_range.2 (by omega), by simp; omega⟩
section
variable {a b c : List Int} (ha : IsSet a) (hb : IsSet b) (hc : IsSet c)
include ha hb
include hc
end
theorem Zz6 : ∀ {a b r : List Int}, IsSet a → IsSet b → IsSet r → (∀ x, x ∈ a → x ∉ b) → (∀ x, x ∈ r ↔ x ∈ a ∨ x ∈ b) → r.length = a.length + b.length := by
 intro a b r ha hb hr hd hm
 have hnd : (a ++ b).Nodup := by
  rw [List.nodup_append]
  refine ⟨ha.1.imp fun h => by omega, hb.1.imp fun h => by omega, fun x hx y hy e => hd x hx (by rw [e]; exact hy)⟩
 have hrn : r.Nodup := hr.1.imp fun h => by omega
 have hp : r.Perm (a ++ b) := by
  rw [List.perm_ext_iff_of_nodup hrn hnd]
  intro x
  rw [hm, List.mem_append]
 rw [hp.length_eq, List.length_append]
theorem Xl6 {a b : List Int} (ha : IsSet a) (hb : IsSet b) : (Y2_ a b).length + (meetL a b).length = a.length + b.length := by
 have h1 : a.length = (Z7_ a b).length + (meetL a b).length := by
  refine Zz6 (E3_ a b) (Xx1 a b) ha ?_ ?_
  ·intro x hx hy
   exact ((X8_ ha hb x).1 hx).2 ((Zd5 ha hb x).1 hy).2
  ·intro x
   rw [X8_ ha hb, Zd5 ha hb]
   constructor
   ·intro h
    rcases Decidable.em (x ∈ b) with h' | h'
    ·exact .inr ⟨h, h'⟩
    ·exact .inl ⟨h, h'⟩
   ·rintro (h | h) <;> exact h.1
 have h2 : (Y2_ a b).length = (Z7_ a b).length + b.length := by
  refine Zz6 (E3_ a b) hb (E2_ a b) ?_ ?_
  ·intro x hx
   exact ((X8_ ha hb x).1 hx).2
  ·intro x
   rw [X8_ ha hb, Q5_ ha hb]
   constructor
   ·rintro (h | h)
    ·rcases Decidable.em (x ∈ b) with h' | h'
     ·exact .inr h'
     ·exact .inl ⟨h, h'⟩
    ·exact .inr h
   ·rintro (h | h)
    ·exact .inl h.1
    ·exact .inr h
 omega
theorem Ya7 (d : Array Int) (hs : ∀ i j, i ≤ j → j < d.size → d[i]! ≤ d[j]!) : ∀ m, m ≤ d.size → (Lib.compactUpTo d m).Pairwise (· < ·) ∧ ∀ x, x ∈ Lib.compactUpTo d m ↔ ∃ j, j < m ∧ d[j]! = x := by
 intro m
 induction m with
 | zero => intro _; exact ⟨by simp [Lib.compactUpTo], by simp [Lib.compactUpTo]⟩
 | succ m ih =>
  intro hm
  obtain ⟨h1, h2⟩ := ih (by omega)
  rw [Lib.compactUpTo_succ]
  by_cases hk : Lib.keeps d m = true
  ·rw [if_pos hk]
   constructor
   ·rw [List.pairwise_append]
    refine ⟨h1, by simp, fun x hx y hy => ?_⟩
    rw [List.mem_singleton] at hy
    subst hy
    obtain ⟨j, hj, rfl⟩ := (h2 x).1 hx
    simp only [Lib.keeps, decide_eq_true_eq] at hk
    have a1 := hs j (m - 1) (by omega) (by omega)
    have a2 := hs (m - 1) m (by omega) (by omega)
    have a3 : d[m]! ≠ d[m - 1]! := by
     rcases hk with h | h
     ·omega
     ·exact h
    omega
   ·intro x
    rw [List.mem_append, List.mem_singleton, h2]
    constructor
    ·rintro (⟨j, hj, e⟩ | e)
     ·exact ⟨j, by omega, e⟩
     ·exact ⟨m, by omega, e.symm⟩
    ·rintro ⟨j, hj, e⟩
     by_cases hjm : j = m
     ·subst hjm; exact .inr e.symm
     ·exact .inl ⟨j, by omega, e⟩
  ·have hk' : Lib.keeps d m = false := by simpa using hk
   rw [if_neg hk, List.append_nil]
   refine ⟨h1, fun x => ?_⟩
   rw [h2]
   constructor
   ·rintro ⟨j, hj, e⟩; exact ⟨j, by omega, e⟩
   ·rintro ⟨j, hj, e⟩
    by_cases hjm : j = m
    ·subst hjm
     simp only [Lib.keeps, decide_eq_false_iff_not, not_or, Decidable.not_not] at hk'
     exact ⟨j - 1, by omega, by rw [← e, hk'.2]⟩
    ·exact ⟨j, by omega, e⟩
theorem Zq5 (l : List Int) (h : l.Pairwise (· ≤ ·)) : (Lib.compact l).Pairwise (· < ·) ∧ ∀ x, x ∈ Lib.compact l ↔ x ∈ l := by
 have hg : ∀ i, i < l.length → l.toArray[i]! = l.getD i 0 := by
  intro i hi
  rw [getElem!_pos l.toArray i (by simpa using hi)]
  simp [List.getD, hi]
 have hs : ∀ i j, i ≤ j → j < l.toArray.size → l.toArray[i]! ≤ l.toArray[j]! := by
  intro i j hij hj
  have hj' : j < l.length := by simpa using hj
  rw [hg i (by omega), hg j hj']
  rcases Nat.lt_or_ge i j with hlt | hge
  ·have := List.pairwise_iff_getElem.1 h i j (by omega) hj' hlt
   simpa [List.getD, hj', show i < l.length from by omega] using this
  ·have : i = j := by omega
   subst this
   exact Int.le_refl _
 have hc := Ya7 l.toArray hs l.length (by simp)
 refine ⟨hc.1, fun x => ?_⟩
 unfold Lib.compact
 rw [hc.2]
 constructor
 ·rintro ⟨j, hj, rfl⟩
  rw [hg j hj]
  simp [List.getD, hj]
 ·intro hx
  obtain ⟨j, hj, rfl⟩ := List.mem_iff_getElem.1 hx
  exact ⟨j, hj, by rw [hg j hj]; simp [List.getD, hj]⟩
theorem Zd6 (l : List Int) : Lib.compact ((l.filter fun x => decide (Fit x)).mergeSort fun x y => decide (x ≤ y)) = sortL l := by
 have hp : ((l.filter fun x => decide (Fit x)).mergeSort fun x y => decide (x ≤ y)).Pairwise (· ≤ ·) := by
  have := List.pairwise_mergeSort (le := fun x y : Int => decide (x ≤ y)) (fun a b c h1 h2 => by simp at *; omega) (fun a b => by simp; omega) (l.filter fun x => decide (Fit x))
  exact this.imp fun h => by simpa using h
 obtain ⟨h1, h2⟩ := Zq5 _ hp
 have hm : ∀ x, x ∈ Lib.compact ((l.filter fun x => decide (Fit x)).mergeSort fun x y => decide (x ≤ y)) ↔ x ∈ l ∧ Fit x := by
  intro x
  rw [h2, List.mem_mergeSort, List.mem_filter, decide_eq_true_eq]
 exact Xx0 ⟨h1, fun x hx => ((hm x).1 hx).2⟩ hm
end Go.Proofs.YtgadbnbhgpehjaaGreatDoor.Wp
namespace Go.Proofs.YtgadbnbhgpehjaaGreatDoor.Wp
open Go Go.RowKit
theorem info3 : (Tryz.prog.info? 3).map (fun i => (i.zero, i.size, i.bytes)) = some (some (.int .i64 0), 1, 8) := by kernel_rfl
def Blk (w : World) (g : Nat) (t : TypeId) (cs : Array Value) : Prop := w.heap[g]? = some (.cells cs t (0, 0))
section
variable {w w' : World} {g : Nat} {t : TypeId} {cs : Array Value}
theorem Blk.lt (h : Blk w g t cs) : g < w.heap.size := by
 rcases Nat.lt_or_ge g w.heap.size with hlt | hge
 ·exact hlt
 ·unfold Blk at h; rw [Array.getElem?_eq_none hge] at h; cases h
theorem Blk.cell (h : Blk w g t cs) (i : Nat) : w.cell? ⟨g, i, none⟩ = cs[i]? := cell_of_row w g i cs t (0, 0) h
theorem Blk.frozen (h : Blk w g t cs) (i : Nat) : w.frozen? ⟨g, i, none⟩ = false := by
 unfold Blk at h
 simp [World.frozen?, h]
theorem Blk.new (w : World) (t : TypeId) (cs : Array Value) : Blk (w.alloc (.cells cs t)) w.heap.size t cs := heap_alloc_new w _
theorem Blk.drew (h : Blk w g t cs) : Blk w.drew g t cs := h
theorem Blk.alloc (h : Blk w g t cs) (o : Obj) : Blk (w.alloc o) g t cs := (Below.heap_alloc w o g h.lt).trans h
theorem Blk.set_ (h : Blk w g t cs) (i : Nat) (u : Value) : Blk (w.setCell ⟨g, i, none⟩ u) g t (cs.setIfInBounds i u) := by
 unfold Blk at h ⊢
 simp [World.setCell, Array.getElem?_modify, h]
theorem Blk.far (h : Blk w g t cs) {p : Addr} (hp : g ≠ p.block) (u : Value) : Blk (w.setCell p u) g t cs := (Below.heap_setCell w p u g hp).trans h
theorem Blk.below {B : Nat} (h : Blk w g t cs) (hb : Below B w w') (hg : g < B) : Blk w' g t cs := (hb.block g hg).trans h
theorem Blk.grown {row : Option Nat} (h : Blk w g t cs) (hb : w.grownBy w' row) (hg : some g ≠ row) : Blk w' g t cs := (hb.block g h.lt hg).trans h
end
theorem I4_ {a w : World} {g : Nat} (h : a.grownBy w (some g)) {p : Addr} (hp : p.block = g ∨ a.heap.size ≤ p.block) (u : Value) : a.grownBy (w.setCell p u) (some g) :=
 ⟨h.os, h.tape, h.output, by simpa [World.setCell] using h.size, fun i hi hne => (Below.heap_setCell w p u i (by
  rintro rfl
  rcases hp with hp | hp
  ·exact hne (by rw [hp])
  ·omega)).trans (h.block i hi hne)⟩
theorem Z9_ {a w : World} (h : Below a.heap.size a w) (row : Option Nat) : a.grownBy w row := ⟨h.os, h.tape, h.output, h.size, fun i hi _ => h.block i hi⟩
theorem X2_ {a b c : World} {row : Option Nat} (h : a.grownBy b row) (k : b.grownBy c row) : a.grownBy c row :=
 ⟨k.os.trans h.os, k.tape.trans h.tape, k.output.trans h.output, Nat.le_trans h.size k.size, fun i hi hne => (k.block i (Nat.lt_of_lt_of_le hi h.size) hne).trans (h.block i hi hne)⟩
theorem Y0_ {B : Nat} {a w : World} (h : Below B a w) (n : Nat) : Below B a (w.drewN n) := ⟨h.os, h.tape, h.output, h.size, h.block⟩
def Row (w : World) (B : Nat) (v : Value) (zs : List Int) : Prop :=
 ∃ A c, v = .slice A zs.length c ∧ (zs.length ≤ c ∧ c ≤ maxLen ∧ (A = none → c = 0)) ∧ ∀ k, k < zs.length → ∃ ad : Addr, A = some ad ∧ ad.block < B ∧ w.cell? (ad.add k) = some (.int .i64 (zs.getD k 0))
theorem add_zero (a : Addr) : a.add 0 = a := by unfold Addr.add; split <;> simp_all
theorem Z2_ (a : Addr) (n : Nat) : (a.add n).block = a.block := by unfold Addr.add; split <;> rfl
theorem Row.below {w w' : World} {B : Nat} {v : Value} {zs : List Int} (h : Row w B v zs) (hb : Below B w w') : Row w' B v zs := by
 obtain ⟨A, c, hv, hn, hk⟩ := h
 refine ⟨A, c, hv, hn, fun k hlt => ?_⟩
 obtain ⟨ad, hA, hB, hc⟩ := hk k hlt
 exact ⟨ad, hA, hB, (hb.cell (by rw [Z2_]; exact hB)).trans hc⟩
theorem Row.mono {w : World} {B B' : Nat} {v : Value} {zs : List Int} (h : Row w B v zs) (hB : B ≤ B') : Row w B' v zs := by
 obtain ⟨A, c, hv, hn, hk⟩ := h
 refine ⟨A, c, hv, hn, fun k hlt => ?_⟩
 obtain ⟨ad, hA, hb, hc⟩ := hk k hlt
 exact ⟨ad, hA, by omega, hc⟩
theorem Row.of_own {w : World} {base : Nat} {v : Value} {n : Nat} {zs : List Int} (h : w.ownsRow base 3 1 v n (zs.map (Value.int .i64))) (hn : n = zs.length) : Row w w.heap.size v zs := by
 subst hn
 rcases h.2 with ⟨rfl, h0⟩ | ⟨g, cap, cur, rfl, hb, hg, hcl, hcm, _⟩
 ·have : zs = [] := List.eq_nil_of_length_eq_zero (by simpa using h0)
  subst this
  exact ⟨none, 0, rfl, ⟨le_refl _, by decide, fun _ => rfl⟩, fun k hk => absurd hk (by simp)⟩
 ·refine ⟨_, cap, rfl, ⟨hcl, hcm, fun h => (by cases h)⟩, fun k hk => ⟨⟨g, 0, none⟩, rfl, (h.lt g rfl).2, ?_⟩⟩
  refine h.cells (g := g) rfl k _ ?_
  rw [List.getElem?_map, List.getElem?_eq_getElem hk]
  simp [List.getD, hk]
theorem Row.lit0 (W : World) : Row (W.alloc (.cells #[] 3)) (W.heap.size + 1) (.slice (some ⟨W.heap.size, 0, none⟩) 0 0) [] := ⟨_, 0, rfl, ⟨le_refl _, by decide, fun _ => rfl⟩, fun k hk => absurd hk (by simp)⟩
theorem Row.nil_ (W : World) (B : Nat) : Row W B (.slice none 0 0) [] := ⟨none, 0, rfl, ⟨le_refl _, by decide, fun _ => rfl⟩, fun k hk => absurd hk (by simp)⟩
theorem Row.lit1 (W : World) (x : Int) : Row (W.alloc (.cells #[.int .i64 x] 3)) (W.heap.size + 1) (.slice (some ⟨W.heap.size, 0, none⟩) 1 1) [x] := by
 refine ⟨_, 1, rfl, ⟨le_refl _, by decide, fun h => (by cases h)⟩, fun k hk => ⟨⟨W.heap.size, 0, none⟩, rfl, by show W.heap.size < _; omega, ?_⟩⟩
 have hb := Blk.new W 3 #[.int .i64 x]
 match k, hk with
 | 0, _ => exact hb.cell 0
theorem Row.lit2 (W : World) (x y : Int) : Row (W.alloc (.cells #[.int .i64 x, .int .i64 y] 3)) (W.heap.size + 1) (.slice (some ⟨W.heap.size, 0, none⟩) 2 2) [x, y] := by
 refine ⟨_, 2, rfl, ⟨le_refl _, by decide, fun h => (by cases h)⟩, fun k hk => ⟨⟨W.heap.size, 0, none⟩, rfl, by show W.heap.size < _; omega, ?_⟩⟩
 have hb := Blk.new W 3 #[.int .i64 x, .int .i64 y]
 match k, hk with
 | 0, _ => exact hb.cell 0
 | 1, _ => exact hb.cell 1
theorem Row.lit3 (W : World) (x y z : Int) : Row (W.alloc (.cells #[.int .i64 x, .int .i64 y, .int .i64 z] 3)) (W.heap.size + 1) (.slice (some ⟨W.heap.size, 0, none⟩) 3 3) [x, y, z] := by
 refine ⟨_, 3, rfl, ⟨le_refl _, by decide, fun h => (by cases h)⟩, fun k hk => ⟨⟨W.heap.size, 0, none⟩, rfl, by show W.heap.size < _; omega, ?_⟩⟩
 have hb := Blk.new W 3 #[.int .i64 x, .int .i64 y, .int .i64 z]
 match k, hk with
 | 0, _ => exact hb.cell 0
 | 1, _ => exact hb.cell 1
 | 2, _ => exact hb.cell 2
theorem Yy5 (w : World) (t : TypeId) (u : Value) : ∀ (j : Nat) (v : Value), [u][j]? = some v → (w.alloc (.cells #[u] t)).cell? ((⟨w.heap.size, 0, none⟩ : Addr).add j) = some v := by
 intro j v hj
 match j, hj with
 | 0, hj =>
  simp at hj
  subst hj
  rw [add_zero]
  exact (Blk.new w t #[u]).cell 0
theorem Xl7 (x : Int) : ∀ u ∈ [Value.int .i64 x], u.oneCell' = true := by
 intro u hu
 simp at hu
 subst hu
 rfl
def lenOf : Value → Nat
 | .slice _ n _ => n
 | _ => 0
def Says (w : World) (b : Bool) (e : Ending) (w' : World) : Prop := e = .returned (.bool b) ∧ Below w.heap.size w w'
def Gives (w : World) (r : List Int) (e : Ending) (w' : World) : Prop := ∃ v, e = .returned v ∧ Row w' w'.heap.size v r ∧ Below w.heap.size w w'
def ints (l : List Int) : List Value := l.map (Value.int .i64)
theorem V6_ (a b : List Int) : ints (a ++ b) = ints a ++ ints b := List.map_append
theorem A0_ (l : List Int) : (ints l).length = l.length := List.length_map ..
theorem Z4_ {w : World} {ops : Array Oper} {rest : List Oper} {o : Oper} {a : Act} {Q : Exit → Act → World → Prop} (hgd : o.guard = none) (s x : Operand)
  (ho : o.op = .call { callee := .builtin .append, args := #[s, x], argTypes := #[26, 26] })
  (base B : Nat) (v v2 : Value) (zs ys : List Int) (hs : a.eval s = v) (hx : a.eval x = v2) (hown : w.ownsRow base 3 1 v zs.length (ints zs)) (hr : Row w B v2 ys)
  (hz : zs.length ≤ 4194304) (hy : ys.length ≤ 4194304) (hb : base ≤ w.heap.size)
  (h : ∀ v' w', w'.ownsRow base 3 1 v' (zs ++ ys).length (ints (zs ++ ys)) → w.grownBy w' v.ownBlock → wpList Tryz.prog ops Q rest (a.put o.dst v') w') : wpList Tryz.prog ops Q (o :: rest) a w := by
 obtain ⟨i0, hi, hz0, hz1, hz2⟩ := info_parts info3
 obtain ⟨A, c, rfl, hn, hk⟩ := hr
 have hall : ∀ ad, A = some ad → ∀ j u, (ints ys)[j]? = some u → w.cell? (ad.add j) = some u := by
  intro ad hA j u hj
  have hjl : j < ys.length := by
   have := (List.getElem?_eq_some_iff.1 hj).1
   simpa [ints] using this
  obtain ⟨ad', hA', _, hc⟩ := hk j hjl
  rw [hA] at hA'
  have hA' := Option.some.inj hA'
  subst hA'
  rw [hc]
  rw [ints, List.getElem?_map, List.getElem?_eq_getElem hjl] at hj
  simp at hj
  rw [← hj]
  simp [List.getD, hjl]
 have key : ∀ ad, A = some ad → wpList Tryz.prog ops Q (o :: rest) a w := by
  intro ad hA
  refine wpList_append_own w hgd s x _ ho base 3 i0 (.int .i64 0) 1 8 (by kernel_rfl) hi hz0 hz1 hz2 rfl (by decide) v zs.length (ints zs) hs hown ad ys.length c (ints ys) (by rw [hx, hA]) (by simp [ints]) (hall ad hA) ?_ ?_ ?_ hb ?_
  ·intro u hu
   obtain ⟨z, _, rfl⟩ := List.mem_map.1 hu
   rfl
  ·unfold maxLen; omega
  ·omega
  ·intro v' w' h1 h2 _
   refine h v' w' ?_ h2
   rw [V6_, List.length_append]
   exact h1
 cases A with
 | some ad => exact key ad rfl
 | none =>
  have hy0 : ys = [] := by
   cases ys with
   | nil => rfl
   | cons y r =>
    obtain ⟨_, hA, _⟩ := hk 0 (by simp)
    cases hA
  subst hy0
  have hc := hn.2.2 rfl
  subst hc
  refine wpList_append_own_none hgd s x _ ho base 3 i0 1 (by kernel_rfl) hi v zs.length (ints zs) hs hown hx ?_
  exact h v w (by rw [List.append_nil]; exact hown) ⟨rfl, rfl, rfl, le_refl _, fun _ _ _ => rfl⟩
def Truly (w : World) (e : Ending) (w' : World) : Prop := e = .returned (.bool true) ∧ Below w.heap.size w w'
theorem Row.up {w w' : World} {v : Value} {l : List Int} (h : Row w w.heap.size v l) (hb : Below w.heap.size w w') : Row w' w'.heap.size v l := (h.below hb).mono hb.size
theorem Z0_ {B : Nat} {a b c : World} (h : Below B a b) (hB : B ≤ a.heap.size) (k : Below b.heap.size b c) : Below B a c := h.trans (k.mono (Nat.le_trans hB h.size))
theorem Row.here {w : World} {o : Obj} {v : Value} {l : List Int} (h : Row (w.alloc o) (w.heap.size + 1) v l) : Row (w.alloc o) (w.alloc o).heap.size v l := by
 have e : (w.alloc o).heap.size = w.heap.size + 1 := by simp
 rw [e]; exact h
theorem Row.upA {w : World} {v : Value} {l : List Int} (h : Row w w.heap.size v l) (o : Obj) : Row (w.alloc o) (w.alloc o).heap.size v l := h.up ((Below.refl _ w).alloc (le_refl _) o)
end Go.Proofs.YtgadbnbhgpehjaaGreatDoor.Wp
namespace Go.Proofs.YtgadbnbhgpehjaaGreatDoor
open Go.RowKit
namespace Wp
theorem Y8_ {w w' : World} {b b' : Bool} {e : Ending} (hb : b = b') (he : e = .returned (.bool b')) (h : Below w.heap.size w w') : Says w b e w' := ⟨by rw [hb]; exact he, h⟩
theorem Yy6 (l : List Int) (k : Nat) (hk : k < l.length) (h : IsSet (l.take k)) (hf : Fit (l.getD k 0)) (hp : k = 0 ∨ l.getD (k - 1) 0 < l.getD k 0) : IsSet (l.take (k + 1)) := by
 have e : l.take (k + 1) = l.take k ++ [l.getD k 0] := by
  rw [List.take_succ_eq_append_getElem hk]; simp [List.getD, hk]
 rw [e]
 refine ⟨?_, fun x hx => ?_⟩
 ·rw [List.pairwise_append]
  refine ⟨h.1, by simp, fun x hx y hy => ?_⟩
  rw [List.mem_singleton] at hy
  subst hy
  obtain ⟨j, hj, rfl⟩ := List.mem_iff_getElem.1 hx
  rw [List.length_take] at hj
  rcases hp with h0 | hp
  ·omega
  ·have hl : l.getD (k - 1) 0 = (l.take k)[k - 1]'(by rw [List.length_take]; omega) := by
    simp [List.getD, show k - 1 < l.length from by omega]
   rw [hl] at hp
   rcases Nat.lt_or_ge j (k - 1) with hlt | hge
   ·have := List.pairwise_iff_getElem.1 h.1 j (k - 1) (by rw [List.length_take]; omega) (by rw [List.length_take]; omega) hlt
    omega
   ·have : j = k - 1 := by omega
    subst this
    exact hp
 ·rw [List.mem_append, List.mem_singleton] at hx
  rcases hx with hx | hx
  ·exact h.2 x hx
  ·subst hx; exact hf
theorem Zh4 (l : List Int) (k : Nat) (hk : k < l.length) (h : ¬ Fit (l.getD k 0) ∨ (0 < k ∧ l.getD k 0 ≤ l.getD (k - 1) 0)) : mayB l = false := by
 rw [← Bool.not_eq_true, mayB_iff]
 intro hs
 have hm : l.getD k 0 ∈ l := by simp [List.getD, hk]
 rcases h with h | ⟨h0, h⟩
 ·exact h (hs.2 _ hm)
 ·have := List.pairwise_iff_getElem.1 hs.1 (k - 1) k (by omega) hk (by omega)
  simp [List.getD, hk, show k - 1 < l.length from by omega] at h
  omega
theorem Yk3 (l : List Int) (k : Nat) (hk : k = l.length) (h : IsSet (l.take k)) : mayB l = true := by
 subst hk
 rw [List.take_length] at h
 exact I3_ h
theorem C5_ (w : World) {w' : World} (h : Below w.heap.size w w') {r : List Int} (hr : r = []) : Gives w r (.returned (.slice none 0 0)) w' := ⟨_, rfl, by rw [hr]; exact Row.nil_ _ _, h⟩
theorem Zh5 {a b : List Int} (ha : mayB a = true) (hb : mayB b = true) : Y2_ a b = sortL (a ++ b) := by unfold Y2_; rw [ha, hb]; rfl
theorem Zh6 {a b : List Int} (ha : mayB a = false) : Y2_ a b = [] := by unfold Y2_; rw [ha]; rfl
theorem Zh7 {a b : List Int} (hb : mayB b = false) : Y2_ a b = [] := by unfold Y2_; rw [hb, Bool.and_false]; rfl
def B5_ (a b : List Int) (w : Bool) (k : Nat) : List Int := (a.take k).filter fun x => b.contains x == w
theorem Za2 (a b : List Int) (w : Bool) (k : Nat) (h : k < a.length) (hf : b.contains (a.getD k 0) = w) : B5_ a b w (k + 1) = B5_ a b w k ++ [a.getD k 0] := by
 unfold B5_
 rw [List.take_succ_eq_append_getElem h, List.filter_append]
 have e : a[k] = a.getD k 0 := by simp [List.getD, h]
 rw [e]
 congr 1
 rw [List.filter_cons, if_pos (by simpa using hf)]
 rfl
theorem Zh8 (a b : List Int) (w : Bool) (k : Nat) (h : k < a.length) (hf : ¬ b.contains (a.getD k 0) = w) : B5_ a b w (k + 1) = B5_ a b w k := by
 unfold B5_
 rw [List.take_succ_eq_append_getElem h, List.filter_append]
 have e : a[k] = a.getD k 0 := by simp [List.getD, h]
 rw [e, List.filter_cons, if_neg (by simpa using hf)]
 simp
theorem N6_ (a b : List Int) (w : Bool) (k : Nat) : (B5_ a b w k).length ≤ a.length := by
 unfold B5_
 refine Nat.le_trans (List.length_filter_le _ _) ?_
 simp
 omega
theorem Za3 (a b : List Int) (w : Bool) (ha : mayB a = true) (hb : mayB b = true) : B5_ a b w a.length = partL a b w := by
 unfold B5_ partL
 rw [List.take_length, ha, hb]
 rfl
theorem Yy7 {a b : List Int} {w : Bool} (ha : mayB a = false) : partL a b w = [] := by unfold partL; rw [ha]; rfl
theorem Yy8 {a b : List Int} {w : Bool} (hb : mayB b = false) : partL a b w = [] := by unfold partL; rw [hb, Bool.and_false]; rfl
theorem Xl8 {a b : List Int} (ha : mayB a = false) : subB a b = false := by unfold subB; rw [ha]; rfl
theorem Xl9 {a b : List Int} (hb : mayB b = false) : subB a b = false := by unfold subB; rw [hb, Bool.and_false]; rfl
theorem Xm0 {a b : List Int} (ha : mayB a = true) (hb : mayB b = true) : subB a b = decide (Z7_ a b = []) := by unfold subB; rw [ha, hb]; rfl
open Go.RowKit
theorem Xx2 (x : Int) (w : World) : Calls Tryz.prog 56 #[.int .i64 x] w fun e w' => e = .returned (.bool (decide (Fit x))) ∧ w' = w := by
 by_cases h0 : 0 ≤ x
 ·by_cases h1 : x ≤ 1099511627776
  ·have hf : decide (Fit x) = true := by simp [Fit, h0, h1]
   rw [hf]
   clear hf
   go_enter Tryz.func56, Tryz.ntmps56
   go_wp2
   go_ret
   exact ⟨rfl, rfl⟩
  ·have hf : decide (Fit x) = false := by simp [Fit, h1]
   rw [hf]
   clear hf
   go_enter Tryz.func56, Tryz.ntmps56
   go_wp2
   go_ret
   exact ⟨rfl, rfl⟩
 ·have hf : decide (Fit x) = false := by simp [Fit, h0]
  rw [hf]
  clear hf
  go_enter Tryz.func56, Tryz.ntmps56
  go_wp2
  go_ret
  exact ⟨rfl, rfl⟩
theorem R1_ (x : Int) (b : Bool) (h : decide (Fit x) = b) (w : World) : Calls Tryz.prog 56 #[.int .i64 x] w fun e w' => e = .returned (.bool b) ∧ w' = w := by
 subst h
 exact Xx2 x w
theorem may_any (v : Value) (l : List Int) (w : World) (hr : Row w w.heap.size v l) (hl : l.length ≤ 9223372036854775807) : Calls Tryz.prog 39 #[v] w (Says w (mayB l)) := by
 obtain ⟨A, c, rfl, _, hcell⟩ := hr
 have Hcell := hid hcell
 clear hcell
 have hl' : (l.length : Int) ≤ 9223372036854775807 := by omega
 go_enter Tryz.func39, Tryz.ntmps39
 go_wp2
 go_loopw [7] (fun vk wr => ∃ k q : Nat, vk = .int .i64 k ∧ k ≤ l.length ∧ wr = w.drewN q ∧ IsSet (l.take k)) (fun vk _ => l.length - (intOf vk).toNat)
 case atStart => exact ⟨0, 0, rfl, Nat.zero_le _, rfl, by simpa using V4_⟩
 case round =>
  obtain ⟨k, q, rfl, hk, hwr, hset⟩ := hrel
  have Hwr := hid hwr
  have Hset := hid hset
  clear hwr hset
  by_cases hlt : k < l.length
  ·obtain ⟨ad, hA, hab, hc⟩ := Hcell.out k hlt
   subst hA
   have g1 : wr.cell? (ad.add k) = some (.int .i64 (l.getD k 0)) := by rw [Hwr.out]; exact hc
   clear hc
   have Hstep := hid (Yy6 l k hlt Hset.out)
   have Hfail := hid (Zh4 l k hlt)
   have Hq : Hid (Below w.heap.size w wr) := by
    show Below w.heap.size w wr
    rw [Hwr.out]; exact Y0_ (Below.refl _ _) q
   by_cases hk0 : k = 0
   ·subst hk0
    rw [add_zero] at g1
    generalize l.getD 0 0 = x at g1 Hstep Hfail
    by_cases hx : Fit x
    ·have hfx := R1_ x true (by simp [hx])
     go_wp2_with (go_at_call 56; refine (hfx _).mono ?_; rintro e w' ⟨rfl, rfl⟩)
     go_roundw
     case rel => exact ⟨1, q, rfl, by omega, Hwr.out, Hstep.out hx (.inl trivial)⟩
     case measure => simp [intOf]; omega
    ·have hfx := R1_ x false (by simp [hx])
     go_wp2_with (go_at_call 56; refine (hfx _).mono ?_; rintro e w' ⟨rfl, rfl⟩)
     go_ret
     exact Y8_ (Hfail.out (.inl hx)) rfl Hq.out
   ·obtain ⟨j, hj⟩ : ∃ j, j + 1 = k := ⟨k - 1, by omega⟩
    have hj1 : (k : Int) - 1 = (j : Int) := by omega
    have hjl : (j : Int) < (l.length : Int) := by omega
    have g2 : wr.cell? (ad.add j) = some (.int .i64 (l.getD j 0)) := by
     obtain ⟨ad', hA, _, hc⟩ := Hcell.out j (by omega)
     injection hA with hA
     subst hA
     rw [Hwr.out]; exact hc
    have Hj := hid hj
    have hkp : 0 < (k : Int) := by omega
    rw [show k - 1 = j from by omega] at Hstep Hfail
    clear hj
    generalize l.getD k 0 = x at g1 Hstep Hfail
    generalize l.getD j 0 = y at g2 Hstep Hfail
    by_cases hx : Fit x
    ·have hfx := R1_ x true (by simp [hx])
     by_cases hyx : y < x
     ·go_wp2_with (go_at_call 56; refine (hfx _).mono ?_; rintro e w' ⟨rfl, rfl⟩)
      go_roundw
      case rel => exact ⟨k + 1, q, by go_num, by omega, Hwr.out, Hstep.out hx (.inr hyx)⟩
      case measure => simp [intOf]; omega
     ·have hxy : x ≤ y := by omega
      go_wp2_with (go_at_call 56; refine (hfx _).mono ?_; rintro e w' ⟨rfl, rfl⟩)
      go_ret
      exact Y8_ (Hfail.out (.inr ⟨by omega, hxy⟩)) rfl Hq.out
    ·have hfx := R1_ x false (by simp [hx])
     go_wp2_with (go_at_call 56; refine (hfx _).mono ?_; rintro e w' ⟨rfl, rfl⟩)
     go_ret
     exact Y8_ (Hfail.out (.inl hx)) rfl Hq.out
  ·have hke : k = l.length := by omega
   have Hfin := hid (Yk3 l k hke Hset.out)
   subst hke
   go_wp2
   go_ret
   refine Y8_ Hfin.out rfl ?_
   rw [Hwr.out]; exact Y0_ (Below.refl _ _) q
open Go.RowKit
def Rows2 (w : World) (B : Nat) (v : Value) (pp : List (List Int)) : Prop :=
 ∃ A c, v = .slice A pp.length c ∧ (pp.length ≤ c ∧ c ≤ maxLen ∧ (A = none → c = 0)) ∧
  ∀ k, k < pp.length → ∃ (ad : Addr) (u : Value), A = some ad ∧ ad.block < B ∧ w.cell? (ad.add k) = some u ∧ Row w B u (pp.getD k [])
theorem Rows2.below {w w' : World} {B : Nat} {v : Value} {pp : List (List Int)} (h : Rows2 w B v pp) (hb : Below B w w') : Rows2 w' B v pp := by
 obtain ⟨A, c, hv, hn, hk⟩ := h
 refine ⟨A, c, hv, hn, fun k hlt => ?_⟩
 obtain ⟨ad, u, hA, hB, h1, h2⟩ := hk k hlt
 exact ⟨ad, u, hA, hB, (hb.cell (by rw [Z2_]; exact hB)).trans h1, h2.below hb⟩
theorem Rows2.mono {w : World} {B B' : Nat} {v : Value} {pp : List (List Int)} (h : Rows2 w B v pp) (hB : B ≤ B') : Rows2 w B' v pp := by
 obtain ⟨A, c, hv, hn, hk⟩ := h
 refine ⟨A, c, hv, hn, fun k hlt => ?_⟩
 obtain ⟨ad, u, hA, hb, h1, h2⟩ := hk k hlt
 exact ⟨ad, u, hA, by omega, h1, h2.mono hB⟩
theorem Rows2.up {w w' : World} {v : Value} {pp : List (List Int)} (h : Rows2 w w.heap.size v pp) (hb : Below w.heap.size w w') : Rows2 w' w'.heap.size v pp := (h.below hb).mono hb.size
theorem T2_ {w : World} {b1 b2 : Nat} {e1 e2 : TypeId} {s1 s2 n1 n2 : Nat} {v1 v2 : Value} {x1 x2 : List Value} (h1 : w.ownsRow b1 e1 s1 v1 n1 x1) (h2 : w.ownsRow b2 e2 s2 v2 n2 x2) (hne : e1 ≠ e2) :
  v1.ownBlock = none ∨ v1.ownBlock ≠ v2.ownBlock := by
 rcases h1.2 with ⟨rfl, _⟩ | ⟨g, cap, cur, rfl, _, hg, _⟩
 ·exact .inl rfl
 ·right
  rcases h2.2 with ⟨rfl, _⟩ | ⟨g', cap', cur', rfl, _, hg', _⟩
  ·simp [Value.ownBlock]
  ·intro he
   have he' : g = g' := by simpa [Value.ownBlock] using he
   subst he'
   rw [hg] at hg'
   injection hg' with hg'
   injection hg' with _ ht
   exact hne ht
def Fam (w : World) (B : Nat) (vs : List Value) (pp : List (List Int)) : Prop :=
 vs.length = pp.length ∧ (∀ (i : Nat) (v : Value) (p : List Int), vs[i]? = some v → pp[i]? = some p → w.ownsRow B 3 1 v p.length (ints p)) ∧
  ∀ (i j : Nat) (v u : Value), vs[i]? = some v → vs[j]? = some u → i ≠ j → v.ownBlock = none ∨ v.ownBlock ≠ u.ownBlock
theorem Zp1 (w : World) (B : Nat) : Fam w B [] [] := ⟨rfl, fun i v p h => by simp at h, fun i j v u h => by simp at h⟩
theorem Fam.kept {w w' : World} {B : Nat} {vs : List Value} {pp : List (List Int)} (h : Fam w B vs pp) {row : Option Nat} (hg : w.grownBy w' row) (hr : ∀ v ∈ vs, v.ownBlock = none ∨ v.ownBlock ≠ row) : Fam w' B vs pp :=
 ⟨h.1, fun i v p hv hp => (h.2.1 i v p hv hp).kept hg (hr v (List.mem_of_getElem? hv)), h.2.2⟩
theorem Fam.apart {w w' : World} {B : Nat} {vs : List Value} {pp : List (List Int)} (h : Fam w B vs pp) {g : Nat} (hg : w.grownBy w' (some g)) (hr : g < B) : Fam w' B vs pp := by
 refine h.kept hg fun v hv => ?_
 obtain ⟨i, hi, rfl⟩ := List.mem_iff_getElem.1 hv
 have hip : i < pp.length := by rw [← h.1]; exact hi
 have ho := h.2.1 i _ _ (List.getElem?_eq_getElem hi) (List.getElem?_eq_getElem hip)
 rcases hb : vs[i].ownBlock with _ | k
 ·exact .inl rfl
 ·right
  have := ho.lt k hb
  intro he
  injection he with he
  omega
theorem Fam.new {w w' : World} {B : Nat} {vs : List Value} {pp : List (List Int)} (h : Fam w B vs pp) (hg : w.grownBy w' none) : Fam w' B vs pp :=
 h.kept hg fun v _ => by
  rcases v.ownBlock with _ | k
  ·exact .inl rfl
  ·exact .inr (by simp)
theorem Fam.more {w : World} {B : Nat} {vs : List Value} {pp : List (List Int)} (h : Fam w B vs pp) : Fam w B (vs ++ [.slice none 0 0]) (pp ++ [[]]) := by
 have hn : (Value.slice none 0 0).ownBlock = none := rfl
 refine ⟨by simp [h.1], fun i v p hv hp => ?_, fun i j v u hv hu hij => ?_⟩
 ·by_cases hi : i < vs.length
  ·rw [List.getElem?_append_left hi] at hv
   rw [List.getElem?_append_left (by rw [← h.1]; exact hi)] at hp
   exact h.2.1 i v p hv hp
  ·have hi2 : i = vs.length := by
    have := (List.getElem?_eq_some_iff.1 hv).1
    simp at this
    omega
   subst hi2
   rw [List.getElem?_append_right (le_refl _)] at hv
   rw [h.1, List.getElem?_append_right (le_refl _)] at hp
   simp at hv hp
   subst hv hp
   exact World.ownsRow_nil _ _ _ _
 ·by_cases hi : i < vs.length
  ·rw [List.getElem?_append_left hi] at hv
   by_cases hj : j < vs.length
   ·rw [List.getElem?_append_left hj] at hu
    exact h.2.2 i j v u hv hu hij
   ·have hj2 : j = vs.length := by
     have := (List.getElem?_eq_some_iff.1 hu).1
     simp at this
     omega
    subst hj2
    rw [List.getElem?_append_right (le_refl _)] at hu
    simp at hu
    subst hu
    rw [hn]
    rcases v.ownBlock with _ | k
    ·exact .inl rfl
    ·exact .inr (by simp)
  ·have hi2 : i = vs.length := by
    have := (List.getElem?_eq_some_iff.1 hv).1
    simp at this
    omega
   subst hi2
   rw [List.getElem?_append_right (le_refl _)] at hv
   simp at hv
   subst hv
   exact .inl rfl
theorem Fam.grow {w w' : World} {B : Nat} {vs : List Value} {pp : List (List Int)} (h : Fam w B vs pp) {at_ : Nat} {u u' : Value} {q : List Int} (hu : vs[at_]? = some u) (hg : w.grownBy w' u.ownBlock)
  (ho : w'.ownsRow B 3 1 u' q.length (ints q)) (hl : u'.ownBlock = u.ownBlock ∨ u'.ownBlock = some w.heap.size) : Fam w' B (vs.set at_ u') (pp.set at_ q) := by
 have hat : at_ < vs.length := (List.getElem?_eq_some_iff.1 hu).1
 have hblk : ∀ (j : Nat) (v : Value), vs[j]? = some v → ∀ k, v.ownBlock = some k → k < w.heap.size := by
  intro j v hv k hk
  have hj := (List.getElem?_eq_some_iff.1 hv).1
  have hjp : j < pp.length := by rw [← h.1]; exact hj
  exact ((h.2.1 j v _ hv (List.getElem?_eq_getElem hjp)).lt k hk).2
 refine ⟨by simp [h.1], fun i v p hv hp => ?_, fun i j v z hv hz hij => ?_⟩
 ·by_cases hi : i = at_
  ·subst hi
   rw [List.getElem?_set_self hat] at hv
   rw [List.getElem?_set_self (by rw [← h.1]; exact hat)] at hp
   injection hv with hv
   injection hp with hp
   subst hv hp
   exact ho
  ·rw [List.getElem?_set_ne (fun e => hi e.symm)] at hv hp
   exact (h.2.1 i v p hv hp).kept hg (h.2.2 i at_ v u hv hu hi)
 ·by_cases hi : i = at_
  ·subst hi
   rw [List.getElem?_set_self hat] at hv
   injection hv with hv
   subst hv
   rw [List.getElem?_set_ne hij] at hz
   rcases hl with hl | hl
   ·rw [hl]
    exact h.2.2 i j u z hu hz hij
   ·right
    rw [hl]
    intro he
    have := hblk j z hz _ he.symm
    omega
  ·rw [List.getElem?_set_ne (fun e => hi e.symm)] at hv
   by_cases hj : j = at_
   ·subst hj
    rw [List.getElem?_set_self hat] at hz
    injection hz with hz
    subst hz
    rcases hl with hl | hl
    ·rw [hl]
     exact h.2.2 i j v u hv hu hi
    ·rcases hb : v.ownBlock with _ | k
     ·exact .inl rfl
     ·right
      rw [hl]
      intro he
      injection he with he
      have := hblk i v hv k hb
      omega
   ·rw [List.getElem?_set_ne (fun e => hj e.symm)] at hz
    exact h.2.2 i j v z hv hz hij
theorem V5_ {w : World} {ops : Array Oper} {rest : List Oper} {o : Oper} {a : Act} {Q : Exit → Act → World → Prop} (hgd : o.guard = none) (s x : Operand) (T e : TypeId) (z : Value) (bytes : Nat)
  (ho : o.op = .call { callee := .builtin .append, args := #[s, x], argTypes := #[T, T] }) (ht : Tryz.prog.underlying T = some (.slice e)) (hinfo : (Tryz.prog.info? e).map (fun i => (i.zero, i.size, i.bytes)) = some (some z, 1, bytes)) (hzc : z.cells.size = 1)
  (base : Nat) (v u : Value) (xs : List Value) (hs : a.eval s = v) (hown : w.ownsRow base e 1 v xs.length xs) (g : Nat) (hx : a.eval x = .slice (some ⟨g, 0, none⟩) 1 1) (hc : w.cell? ⟨g, 0, none⟩ = some u) (h1 : u.oneCell' = true)
  (hl : xs.length ≤ 4194304) (hby : bytes ≤ 1024) (hb : base ≤ w.heap.size)
  (h : ∀ v' w', w'.ownsRow base e 1 v' (xs.length + 1) (xs ++ [u]) → w.grownBy w' v.ownBlock → (v'.ownBlock = v.ownBlock ∨ v'.ownBlock = some w.heap.size) → wpList Tryz.prog ops Q rest (a.put o.dst v') w') : wpList Tryz.prog ops Q (o :: rest) a w := by
 obtain ⟨i0, hi, hz0, hz1, hz2⟩ := info_parts hinfo
 refine wpList_append_own_at w hgd s x T ho base e i0 z 1 bytes ht hi hz0 hz1 hz2 hzc (by decide) v xs.length xs hs hown ⟨g, 0, none⟩ 1 1 [u] hx (by simp) ?_ ?_ ?_ ?_ hb ?_
 ·intro j y hj
  match j, hj with
  | 0, hj =>
   simp at hj
   subst hj
   rw [add_zero]
   exact hc
 ·intro y hy
  simp at hy
  subst hy
  exact h1
 ·unfold maxLen; omega
 ·have : (xs.length + 1) * bytes ≤ 4194305 * 1024 := Nat.mul_le_mul (by omega) hby
  omega
 ·intro v' w' k1 k2 _ k3
  exact h v' w' k1 k2 k3
theorem G9_ {w : World} {B : Nat} {e : TypeId} {v : Value} {n : Nat} {xs : List Value} (h : w.ownsRow B e 1 v n xs) (hn : 0 < n) : ∃ g cap, v = .slice (some ⟨g, 0, none⟩) n cap ∧ B ≤ g := by
 rcases h.2 with ⟨_, rfl⟩ | ⟨g, cap, _, hv, hb, _⟩
 ·omega
 ·exact ⟨g, cap, hv, hb⟩
theorem J1_ {w : World} {B : Nat} {e : TypeId} {v : Value} {n : Nat} {xs : List Value} (h : w.ownsRow B e 1 v n xs) : ∃ A cap, v = .slice A n cap := by
 rcases h.2 with ⟨rfl, rfl⟩ | ⟨g, cap, _, hv, _⟩
 ·exact ⟨none, 0, rfl⟩
 ·exact ⟨_, cap, hv⟩
theorem Fam.rows {w : World} {B : Nat} {v : Value} {vs : List Value} {pp : List (List Int)} (h : Fam w B vs pp) (ho : w.ownsRow B 26 1 v vs.length vs) : Rows2 w w.heap.size v pp := by
 have hin : ∀ k, k < pp.length → ∃ u, vs[k]? = some u ∧ Row w w.heap.size u (pp.getD k []) := by
  intro k hk
  have hkv : k < vs.length := by rw [h.1]; exact hk
  refine ⟨vs[k], List.getElem?_eq_getElem hkv, ?_⟩
  have := h.2.1 k _ _ (List.getElem?_eq_getElem hkv) (List.getElem?_eq_getElem hk)
  rw [show pp.getD k [] = pp[k] from by simp [List.getD, hk]]
  exact Row.of_own this rfl
 rcases ho.2 with ⟨rfl, h0⟩ | ⟨g, cap, cur, rfl, hb, hg, hcl, hcm, _⟩
 ·have hp0 : pp.length = 0 := by rw [← h.1]; exact h0
  have : pp = [] := List.eq_nil_of_length_eq_zero hp0
  subst this
  exact ⟨none, 0, rfl, ⟨le_refl _, by decide, fun _ => rfl⟩, fun k hk => absurd hk (by simp)⟩
 ·refine ⟨some ⟨g, 0, none⟩, cap, by rw [h.1], ⟨by rw [← h.1]; exact hcl, hcm, fun e => by cases e⟩, fun k hk => ?_⟩
  obtain ⟨u, hu, hr⟩ := hin k hk
  exact ⟨_, u, rfl, (ho.lt g rfl).2, ho.cells (g := g) rfl k u hu, hr⟩
open Go.RowKit
def okA (right : Int) (l : List Int) : Bool := mayB l && (decide (l.length = 0) || decide (l.getD (l.length - 1) 0 < right))
def mayM (right : Int) (adj : List (List Int)) : Bool := decide (0 ≤ right ∧ right ≤ 64) && decide (adj.length ≤ 64) && adj.all (okA right)
theorem mayM_off {right : Int} {adj : List (List Int)} (h : right < 0 ∨ 64 < right ∨ 64 < (adj.length : Int)) : mayM right adj = false := by
 unfold mayM
 rw [Bool.and_eq_false_iff, Bool.and_eq_false_iff, decide_eq_false_iff_not, decide_eq_false_iff_not]
 omega
theorem mayM_miss {right : Int} {adj : List (List Int)} {i : Nat} (hi : i < adj.length) (h : okA right (adj.getD i []) = false) : mayM right adj = false := by
 unfold mayM
 rw [Bool.and_eq_false_iff]
 right
 rw [Bool.eq_false_iff]
 intro e
 have := List.all_eq_true.1 e adj[i] (List.getElem_mem hi)
 rw [show adj.getD i [] = adj[i] by simp [List.getD, hi]] at h
 rw [this] at h
 cases h
theorem mayM_all {right : Int} {adj : List (List Int)} (h1 : ¬ right < 0) (h2 : ¬ 64 < right) (h3 : ¬ 64 < (adj.length : Int)) (h : ∀ i, i < adj.length → okA right (adj.getD i []) = true) : mayM right adj = true := by
 unfold mayM
 rw [Bool.and_eq_true, Bool.and_eq_true, decide_eq_true_iff, decide_eq_true_iff, List.all_eq_true]
 refine ⟨⟨by omega, by omega⟩, fun l hl => ?_⟩
 obtain ⟨i, hi, rfl⟩ := List.mem_iff_getElem.1 hl
 have := h i hi
 rwa [show adj.getD i [] = adj[i] by simp [List.getD, hi]] at this
theorem Yk4 {right : Int} {l : List Int} (h : mayB l = false) : okA right l = false := by simp [okA, h]
theorem Zd7 {right : Int} {l : List Int} (h : mayB l = true) (h0 : l.length = 0) : okA right l = true := by simp [okA, h, h0]
theorem U8_ {right x : Int} {l : List Int} (h : mayB l = true) (h0 : 0 < l.length) (hx : l.getD (l.length - 1) 0 = x) : okA right l = decide (x < right) := by
 unfold okA
 rw [h, hx, decide_eq_false (show ¬ l.length = 0 by omega)]
 simp
theorem mayset_is (v : Value) (l : List Int) (b : Bool) (h : mayB l = b) (w : World) (hr : Row w w.heap.size v l) : Calls Tryz.prog 39 #[v] w (Says w b) := by
 subst h
 obtain ⟨_, _, _, ⟨h1, h2, _⟩, _⟩ := id hr
 exact may_any v l w hr (by unfold maxLen at h2; omega)
theorem kmay_any (right : Int) (v : Value) (adj : List (List Int)) (w : World) (hr : Rows2 w w.heap.size v adj) :
  Calls Tryz.prog 111 #[.int .i64 right, v] w (Says w (mayM right adj)) := by
 obtain ⟨A, c, rfl, _, hcell⟩ := hr
 have Hcell := hid hcell
 clear hcell
 by_cases b1 : right < 0
 ·rw [mayM_off (.inl b1)]
  go_enter Tryz.func111, Tryz.ntmps111
  go_wp2
  go_ret
  exact ⟨rfl, Below.refl _ _⟩
 by_cases b2 : 64 < right
 ·rw [mayM_off (.inr (.inl b2))]
  go_enter Tryz.func111, Tryz.ntmps111
  go_wp2
  go_ret
  exact ⟨rfl, Below.refl _ _⟩
 by_cases b3 : 64 < (adj.length : Int)
 ·rw [mayM_off (.inr (.inr b3))]
  go_enter Tryz.func111, Tryz.ntmps111
  go_wp2
  go_ret
  exact ⟨rfl, Below.refl _ _⟩
 have Hall := hid (fun h => mayM_all (adj := adj) b1 b2 b3 h)
 go_enter Tryz.func111, Tryz.ntmps111
 go_wp2
 go_loopw [20] (fun vi wr => ∃ i : Nat, vi = .int .i64 i ∧ i ≤ adj.length ∧ Below w.heap.size w wr ∧ ∀ j, j < i → okA right (adj.getD j []) = true) (fun vi _ => adj.length - (intOf vi).toNat)
 case atStart => exact ⟨0, rfl, Nat.zero_le _, Below.refl _ _, fun j hj => absurd hj (Nat.not_lt_zero _)⟩
 case round =>
  obtain ⟨i, rfl, hi, hbr, hok⟩ := hrel
  have Hbr := hid hbr
  have Hok := hid hok
  clear hbr hok
  by_cases hlt : i < adj.length
  ·have hltI : (i : Int) < (adj.length : Int) := by omega
   obtain ⟨ad, u, hA, hab, hcu, hru⟩ := Hcell.out i hlt
   subst hA
   have g1 := (Hbr.out.cell (p := ad.add i) (by rw [Z2_]; exact hab)).trans hcu
   have Hru := hid ((hru.below Hbr.out).mono Hbr.out.size)
   have Hmiss := hid (fun h => mayM_miss (right := right) hlt h)
   have Hnext : Hid (okA right (adj.getD i []) = true → ∀ j, j < i + 1 → okA right (adj.getD j []) = true) := fun h j hj => by
    by_cases e : j = i
    ·rw [e]; exact h
    ·exact Hok.out j (by omega)
   clear hcu hab Hok
   generalize adj.getD i [] = l at *
   rcases hm : mayB l with _ | _
   ·have Hm := hid hm
    obtain ⟨Au, cu, rfl, _⟩ := hru
    clear hm
    rw [Hmiss.out (Yk4 Hm.out)]
    go_wp2_with fail
    refine (mayset_is _ l false Hm.out _ Hru.out).mono ?_
    rintro e w1 ⟨rfl, hb1⟩
    have Hb1 := hid (Z0_ Hbr.out (le_refl _) hb1)
    clear hb1
    go_wp2
    go_ret
    exact ⟨rfl, Hb1.out⟩
   ·have Hm := hid hm
    obtain ⟨Au, cu, rfl, hcap, hcl⟩ := hru
    have Hcl := hid hcl
    obtain ⟨L, hL⟩ : ∃ L, l.length = L := ⟨_, rfl⟩
    have HL := hid hL
    have hLm : (L : Int) ≤ 9223372036854775807 := by
     have h1 := hcap.1
     have h2 := hcap.2.1
     unfold maxLen at h2
     omega
    rw [hL] at g1 Hru
    clear hm hcl hcap hL
    by_cases h0 : L = 0
    ·have hok1 := hid (Zd7 (right := right) Hm.out (HL.out.trans h0))
     subst h0
     go_wp2_with fail
     refine (mayset_is _ l true Hm.out _ Hru.out).mono ?_
     rintro e w1 ⟨rfl, hb1⟩
     have Hb1 := hid (Z0_ Hbr.out (le_refl _) hb1)
     clear hb1
     go_wp2
     go_roundw
     case rel => exact ⟨i + 1, by go_num, by omega, Hb1.out, Hnext.out hok1.out⟩
     case measure => simp [intOf]; omega
    ·obtain ⟨x, hx⟩ : ∃ x, l.getD (l.length - 1) 0 = x := ⟨_, rfl⟩
     obtain ⟨al, hAl, halb, hcx⟩ := Hcl.out (l.length - 1) (by have := HL.out; omega)
     have Hlast := hid (U8_ (right := right) Hm.out (by have := HL.out; omega) hx)
     rw [hx, HL.out] at hcx
     subst hAl
     have hL0 : (0 : Int) < (L : Int) := by omega
     have hw1 : IntKind.i64.wrap ((L : Int) - 1) = (L : Int) - 1 := by rw [IntKind.wrap_i64]; omega
     have hw2 : (0 : Int) ≤ (L : Int) - 1 := by omega
     have hw3 : (L : Int) - 1 < (L : Int) := by omega
     have hw4 : ((L : Int) - 1).toNat = L - 1 := by omega
     clear hx h0
     go_wp2_with fail
     refine (mayset_is _ l true Hm.out _ Hru.out).mono ?_
     rintro e w1 ⟨rfl, hb1⟩
     have Hb1 := hid (Z0_ Hbr.out (le_refl _) hb1)
     have g2 := (Hb1.out.cell (p := al.add (L - 1)) (by rw [Z2_]; exact halb)).trans hcx
     clear hb1 hcx
     by_cases hxr : x < right
     ·have hxr2 : ¬ right ≤ x := by omega
      have Hok1 : Hid (okA right l = true) := Hlast.out.trans (decide_eq_true hxr)
      go_wp2
      go_roundw
      case rel => exact ⟨i + 1, by go_num, by omega, Hb1.out, Hnext.out Hok1.out⟩
      case measure => simp [intOf]; omega
     ·have hxr2 : right ≤ x := by omega
      have Hno := hid (Hmiss.out (Hlast.out.trans (decide_eq_false hxr)))
      go_wp2
      go_ret
      exact ⟨congrArg (fun b => Ending.returned (.bool b)) Hno.out.symm, Hb1.out⟩
  ·have hie : i = adj.length := by omega
   subst hie
   have Hyes := hid (Hall.out Hok.out)
   go_wp2
   go_ret
   exact ⟨congrArg (fun b => Ending.returned (.bool b)) Hyes.out.symm, Hbr.out⟩
open Go.RowKit
def from_ (x : Int) : List Int → List Int
 | [] => []
 | y :: r => if y < x then from_ x r else y :: r
theorem Xm1 {x y : Int} {r : List Int} (h : y < x) : from_ x (y :: r) = from_ x r := by rw [from_, if_pos h]
theorem Xm2 {x y : Int} {r : List Int} (h : ¬ y < x) : from_ x (y :: r) = y :: r := by rw [from_, if_neg h]
theorem Yy9 (x : Int) : ∀ l, (from_ x l).Sublist l
 | [] => List.Sublist.refl _
 | y :: r => by
  unfold from_
  split
  ·exact (Yy9 x r).cons y
  ·exact List.Sublist.refl _
theorem Yx0 (x z : Int) (hz : x ≤ z) : ∀ l, (z ∈ from_ x l ↔ z ∈ l)
 | [] => Iff.rfl
 | y :: r => by
  unfold from_
  split
  ·rw [Yx0 x z hz r, List.mem_cons]
   constructor
   ·exact .inr
   ·rintro (e | h)
    ·omega
    ·exact h
  ·exact Iff.rfl
theorem Yk5 (x : Int) (l : List Int) (h : l.Pairwise (· < ·)) (y : Int) (r : List Int) (he : l = y :: r) (hy : ¬ y < x) : (x ∈ l ↔ y = x) := by
 subst he
 rw [List.pairwise_cons] at h
 rw [List.mem_cons]
 constructor
 ·rintro (e | hx)
  ·exact e.symm
  ·have := h.1 x hx; omega
 ·intro e; exact .inl e.symm
def T3_ (a b b' : List Int) (k : Nat) : Prop := b'.Pairwise (· < ·) ∧ b'.length ≤ b.length ∧ ∀ i, k ≤ i → i < a.length → (a.getD i 0 ∈ b ↔ a.getD i 0 ∈ b')
theorem Zh9 {a b : List Int} (hb : IsSet b) : T3_ a b b 0 := ⟨hb.1, le_refl _, fun _ _ _ => Iff.rfl⟩
theorem Zp2 {a b b' : List Int} {k : Nat} (ha : IsSet a) (hk : k < a.length) (h : T3_ a b b' k) : T3_ a b (from_ (a.getD k 0) b') k := by
 have hs := Yy9 (a.getD k 0) b'
 refine ⟨h.1.sublist hs, Nat.le_trans hs.length_le h.2.1, fun i hi hil => ?_⟩
 rw [h.2.2 i hi hil, Yx0 _ _ ?_]
 rcases Nat.lt_or_ge k i with hlt | hge
 ·have := List.pairwise_iff_getElem.1 ha.1 k i hk hil hlt
  simp [List.getD, hk, hil]
  omega
 ·have : i = k := by omega
  subst this
  exact Int.le_refl _
theorem B7_ {a b b' : List Int} {k : Nat} (h : T3_ a b b' k) : T3_ a b b' (k + 1) := ⟨h.1, h.2.1, fun i hi => h.2.2 i (by omega)⟩
theorem Ya8 {a b : List Int} {k : Nat} (hk : k < a.length) (h : T3_ a b [] k) : b.contains (a.getD k 0) = false := by
 have := h.2.2 k (le_refl _) hk
 rw [← Bool.not_eq_true, List.contains_iff_mem, this]
 simp
theorem Zp3 {a b : List Int} {k : Nat} {y : Int} {r : List Int} (hk : k < a.length) (h : T3_ a b (y :: r) k) (hy : ¬ y < a.getD k 0) : b.contains (a.getD k 0) = decide (y = a.getD k 0) := by
 have h1 := h.2.2 k (le_refl _) hk
 rw [Yk5 _ _ h.1 y r rfl hy] at h1
 rw [Bool.eq_iff_iff, List.contains_iff_mem, h1, decide_eq_true_iff]
theorem Row.tail {w : World} {B : Nat} {v : Value} {y : Int} {r : List Int} (h : Row w B v (y :: r)) : ∃ ad c, v = .slice (some ad) (r.length + 1) (c + 1) ∧ w.cell? ad = some (.int .i64 y) ∧ ad.block < B ∧ r.length ≤ c ∧ c + 1 ≤ maxLen ∧ ∀ A' : Option Addr, (A' = some (ad.add 1) ∨ (c = 0 ∧ A' = some ad)) → Row w B (.slice A' r.length c) r := by
 obtain ⟨A, c, rfl, ⟨h1, h2, h3⟩, hk⟩ := h
 obtain ⟨ad, rfl, hab, hc⟩ := hk 0 (by simp)
 rw [add_zero] at hc
 obtain ⟨c', rfl⟩ : ∃ c', c = c' + 1 := ⟨c - 1, by simp at h1; omega⟩
 refine ⟨ad, c', by simp, by simpa using hc, hab, by simpa using h1, h2, fun A' hA => ⟨A', c', rfl, ⟨by simpa using h1, by omega, fun e => by rcases hA with h | ⟨_, h⟩ <;> rw [e] at h <;> cases h⟩, fun k hkl => ?_⟩⟩
 rcases hA with rfl | ⟨h0, _⟩
 ·obtain ⟨ad', hA', hab', hc'⟩ := hk (k + 1) (by simp; omega)
  injection hA' with hA'
  subst hA'
  refine ⟨_, rfl, by rw [Z2_]; exact hab, ?_⟩
  have e : (ad.add 1).add k = ad.add (k + 1) := by rw [Addr.add_add, Nat.add_comm]
  rw [e, hc']
  simp
 ·simp at h1; omega
theorem Xm3 (va vb : Value) (a b : List Int) (within : Bool) (w : World) (ha : Row w w.heap.size va a) (hb : Row w w.heap.size vb b) (hla : a.length ≤ 1048576) (hlb : b.length ≤ 1048576) (hma : mayB a = true) (hmb : mayB b = true) :
  Calls Tryz.prog 60 #[va, vb, .bool within] w (Gives w (partL a b within)) := by
 have Ha := hid ha
 have Hb := hid hb
 obtain ⟨A1, c1, rfl, _, hcell⟩ := ha
 obtain ⟨A2, c2, rfl, _⟩ := hb
 have Hcell := hid hcell
 clear hcell
 have Hall := hid (Za3 a b within hma hmb)
 have Hsa := hid (mayB_iff.1 hma)
 have Hsb := hid (mayB_iff.1 hmb)
 go_enter Tryz.func60, Tryz.ntmps60
 go_wp2_with fail
 refine (may_any _ a w Ha.out (Nat.le_trans hla (by decide))).mono ?_
 rintro e w1 ⟨rfl, hb1⟩
 rw [hma]
 go_wp2_with fail
 refine (may_any _ b w1 ((Hb.out.below hb1).mono hb1.size) (Nat.le_trans hlb (by decide))).mono ?_
 rintro e w2 ⟨rfl, hb2⟩
 rw [hmb]
 have hB2 : Below w.heap.size w w2 := hb1.trans (hb2.mono hb1.size)
 clear hb1 hb2 hma hmb
 go_wp2
 go_loopw [1, 7, 21] (fun vb' vl vk wr => ∃ (k : Nat) (b' : List Int), vk = .int .i64 k ∧ k ≤ a.length ∧ Row wr w.heap.size vb' b' ∧ T3_ a b b' k ∧ wr.ownsRow w.heap.size 3 1 vl (B5_ a b within k).length (ints (B5_ a b within k)) ∧ Below w.heap.size w wr) (fun _ _ vk _ => a.length - (intOf vk).toNat)
 case atStart => exact ⟨0, b, rfl, Nat.zero_le _, Hb.out.below hB2, Zh9 Hsb.out, World.ownsRow_nil _ _ _ _, hB2⟩
 case round =>
  obtain ⟨k, b', rfl, hk, hrb, hsv, hown, hbr⟩ := hrel
  by_cases hlt : k < a.length
  ·obtain ⟨ad, hA, hab, hc⟩ := Hcell.out k hlt
   subst hA
   have g1 : wr.cell? (ad.add k) = some (.int .i64 (a.getD k 0)) := (hbr.cell (by rw [Z2_]; exact hab)).trans hc
   clear hc
   have hpl := N6_ a b within k
   have Hyes := hid (Za2 a b within k hlt)
   have Hno := hid (Zh8 a b within k hlt)
   have Hsv := hid (Zp2 Hsa.out hlt hsv)
   have Hsn := hid (fun h => Ya8 (a := a) (b := b) hlt h)
   have Hsc := hid (fun y r h => Zp3 (a := a) (b := b) (y := y) (r := r) hlt h)
   clear hsv
   generalize a.getD k 0 = x at g1 Hyes Hno Hsv Hsn Hsc
   go_wp2
   go_loopw [1] (fun vr wr2 => ∃ r : List Int, wr2 = wr ∧ Row wr w.heap.size vr r ∧ from_ x b' = from_ x r) (fun vr _ => lenOf vr)
   case atStart => exact ⟨b', rfl, hrb, rfl⟩
   case round =>
    obtain ⟨r, rfl, hrr, hfr⟩ := hrel
    have Hsv0 := Hsv
    rw [hfr] at Hsv
    have Hfr := hid hfr
    clear hfr hrb
    cases r with
    | nil =>
     clear Hsv0 Hfr
     have Hc := hid (Hsn.out Hsv.out)
     have Hrr := hid hrr
     obtain ⟨A3, c3, rfl, _⟩ := hrr
     cases within
     ·
      have Hx := hid (Hyes.out (by rw [Hc.out]))
      clear Hyes Hno
      go_wp2_with (at_builtin; refine Z4_ rfl _ _ rfl w.heap.size _ _ _ (B5_ a b false k) [x] rfl rfl (hown.alloc _) (Row.lit1 _ x) (by omega) (by simp) (by have := hbr.size; simp; omega) ?_)
      intro v' w4 hown' hgrow
      have hb4 : Below w.heap.size wr w4 := ((Below.refl _ wr).alloc hbr.size _).grown hgrow (by have := hbr.size; simp; omega) (fun i hi => (hown.lt i hi).1)
      go_wp2
      go_roundw
      case rel => exact ⟨k + 1, [], by go_num, by omega, Hrr.out.below hb4, B7_ Hsv.out, by rw [Hx.out, List.length_append]; exact hown', hbr.trans hb4⟩
      case measure => simp [intOf]; omega
     ·
      have Hx := hid (Hno.out (by rw [Hc.out]; decide))
      clear Hyes Hno
      go_wp2
      go_roundw
      case rel => exact ⟨k + 1, [], by go_num, by omega, Hrr.out, B7_ Hsv.out, by rw [Hx.out]; exact hown, hbr⟩
      case measure => simp [intOf]; omega
    | cons y r =>
     have Hrr := hid hrr
     obtain ⟨ad2, c3, rfl, g2, hab2, hc3, hcm, htail⟩ := hrr.tail
     have Htail := hid htail
     clear htail hrr
     have hrl : (r.length : Int) ≤ (c3 : Int) := by omega
     have hcm' : (c3 : Int) ≤ 9223372036854775806 := by unfold maxLen at hcm; omega
     by_cases hyx : y < x
     ·rw [Xm1 hyx] at Hfr
      clear Hsv Hsv0
      go_wp2
      go_roundw
      case rel =>
       refine ⟨r, trivial, Htail.out _ ?_, Hfr.out⟩
       by_cases h0 : c3 = 0
       ·rw [if_pos h0]; exact .inr ⟨h0, rfl⟩
       ·rw [if_neg h0]; exact .inl (by simp [Addr.add])
      case measure => simp [lenOf]
     ·rw [Xm2 hyx] at Hsv
      clear Hsv0 Hfr
      have Hc0 := hid (Hsc.out y r Hsv.out (by omega))
      have hyx' : decide (y < x) = false := by simp; omega
      by_cases hxy : y = x
      ·subst hxy
       have Hc : Hid (b.contains y = true) := by
        show b.contains y = true
        rw [Hc0.out]; simp
       clear Hc0
       cases within
       ·
        have Hx := hid (Hno.out (by rw [Hc.out]; decide))
        clear Hyes Hno
        go_wp2
        go_roundw
        case rel => exact ⟨k + 1, y :: r, by go_num, by omega, Hrr.out, B7_ Hsv.out, by rw [Hx.out]; exact hown, hbr⟩
        case measure => simp [intOf]; omega
       ·
        have Hx := hid (Hyes.out (by rw [Hc.out]))
        clear Hyes Hno
        go_wp2_with (at_builtin; refine Z4_ rfl _ _ rfl w.heap.size _ _ _ (B5_ a b true k) [y] rfl rfl (hown.alloc _) (Row.lit1 _ y) (by omega) (by simp) (by have := hbr.size; simp; omega) ?_)
        intro v' w4 hown' hgrow
        have hb4 : Below w.heap.size wr w4 := ((Below.refl _ wr).alloc hbr.size _).grown hgrow (by have := hbr.size; simp; omega) (fun i hi => (hown.lt i hi).1)
        go_wp2
        go_roundw
        case rel => exact ⟨k + 1, y :: r, by go_num, by omega, Hrr.out.below hb4, B7_ Hsv.out, by rw [Hx.out, List.length_append]; exact hown', hbr.trans hb4⟩
        case measure => simp [intOf]; omega
      ·have Hc : Hid (b.contains x = false) := by
        show b.contains x = false
        rw [Hc0.out]; simp [hxy]
       have hxy' : (y == x) = false := by simp [hxy]
       clear Hc0
       cases within
       ·
        have Hx := hid (Hyes.out (by rw [Hc.out]))
        clear Hyes Hno
        go_wp2_with (at_builtin; refine Z4_ rfl _ _ rfl w.heap.size _ _ _ (B5_ a b false k) [x] rfl rfl (hown.alloc _) (Row.lit1 _ x) (by omega) (by simp) (by have := hbr.size; simp; omega) ?_)
        intro v' w4 hown' hgrow
        have hb4 : Below w.heap.size wr w4 := ((Below.refl _ wr).alloc hbr.size _).grown hgrow (by have := hbr.size; simp; omega) (fun i hi => (hown.lt i hi).1)
        go_wp2
        go_roundw
        case rel => exact ⟨k + 1, y :: r, by go_num, by omega, Hrr.out.below hb4, B7_ Hsv.out, by rw [Hx.out, List.length_append]; exact hown', hbr.trans hb4⟩
        case measure => simp [intOf]; omega
       ·
        have Hx := hid (Hno.out (by rw [Hc.out]; decide))
        clear Hyes Hno
        go_wp2
        go_roundw
        case rel => exact ⟨k + 1, y :: r, by go_num, by omega, Hrr.out, B7_ Hsv.out, by rw [Hx.out]; exact hown, hbr⟩
        case measure => simp [intOf]; omega
  ·have hke : k = a.length := by omega
   subst hke
   rw [Hall.out] at hown
   go_wp2
   go_ret
   exact ⟨_, rfl, Row.of_own hown rfl, hbr⟩
theorem Xx3 (va vb : Value) (a b : List Int) (within : Bool) (w : World) (ha : Row w w.heap.size va a) (hb : Row w w.heap.size vb b) (hla : a.length ≤ 1048576) (hlb : b.length ≤ 1048576) :
  Calls Tryz.prog 60 #[va, vb, .bool within] w (Gives w (partL a b within)) := by
 rcases hma : mayB a with _ | _
 ·have Ha := hid ha
  clear ha hb
  have Hr := hid (Yy7 (b := b) (w := within) hma)
  go_enter Tryz.func60, Tryz.ntmps60
  go_wp2_with fail
  refine (may_any va a w Ha.out (Nat.le_trans hla (by decide))).mono ?_
  rintro e w1 ⟨rfl, hb1⟩
  rw [hma]
  go_wp2
  go_ret
  exact C5_ w hb1 Hr.out
 ·rcases hmb : mayB b with _ | _
  ·have Ha := hid ha
   have Hb := hid hb
   clear ha hb
   have Hr := hid (Yy8 (a := a) (w := within) hmb)
   go_enter Tryz.func60, Tryz.ntmps60
   go_wp2_with fail
   refine (may_any va a w Ha.out (Nat.le_trans hla (by decide))).mono ?_
   rintro e w1 ⟨rfl, hb1⟩
   rw [hma]
   go_wp2_with fail
   refine (may_any vb b w1 ((Hb.out.below hb1).mono hb1.size) (Nat.le_trans hlb (by decide))).mono ?_
   rintro e w2 ⟨rfl, hb2⟩
   rw [hmb]
   go_wp2
   go_ret
   exact C5_ w (hb1.trans (hb2.mono hb1.size)) Hr.out
  ·exact Xm3 va vb a b within w ha hb hla hlb hma hmb
theorem E4_ (va vb : Value) (a b : List Int) (w : World) (ha : Row w w.heap.size va a) (hb : Row w w.heap.size vb b) (hla : a.length ≤ 1048576) (hlb : b.length ≤ 1048576) :
  Calls Tryz.prog 41 #[va, vb] w (Gives w (Z7_ a b)) := by
 have Hp := hid (Xx3 va vb a b false w ha hb hla hlb)
 clear ha hb
 go_enter Tryz.func41, Tryz.ntmps41
 go_wp2_with fail
 refine Hp.out.mono ?_
 rintro e w1 ⟨v1, rfl, hr1, hb1⟩
 go_wp2
 go_ret
 exact ⟨_, rfl, hr1, hb1⟩
theorem R2_ (va vb : Value) (a b : List Int) (w : World) (ha : Row w w.heap.size va a) (hb : Row w w.heap.size vb b) (hla : a.length ≤ 1048576) (hlb : b.length ≤ 1048576) :
  Calls Tryz.prog 81 #[va, vb] w (Says w (subB a b)) := by
 have Ha := hid ha
 have Hb := hid hb
 clear ha hb
 rcases hma : mayB a with _ | _
 ·have Hr := hid (Xl8 (b := b) hma)
  go_enter Tryz.func81, Tryz.ntmps81
  go_wp2_with fail
  refine (may_any va a w Ha.out (Nat.le_trans hla (by decide))).mono ?_
  rintro e w1 ⟨rfl, hb1⟩
  rw [hma]
  go_wp2
  go_ret
  exact Y8_ Hr.out rfl hb1
 ·rcases hmb : mayB b with _ | _
  ·have Hr := hid (Xl9 (a := a) hmb)
   go_enter Tryz.func81, Tryz.ntmps81
   go_wp2_with fail
   refine (may_any va a w Ha.out (Nat.le_trans hla (by decide))).mono ?_
   rintro e w1 ⟨rfl, hb1⟩
   rw [hma]
   go_wp2_with fail
   refine (may_any vb b w1 ((Hb.out.below hb1).mono hb1.size) (Nat.le_trans hlb (by decide))).mono ?_
   rintro e w2 ⟨rfl, hb2⟩
   rw [hmb]
   go_wp2
   go_ret
   exact Y8_ Hr.out rfl (hb1.trans (hb2.mono hb1.size))
  ·have Hr := hid (Xm0 hma hmb)
   go_enter Tryz.func81, Tryz.ntmps81
   go_wp2_with fail
   refine (may_any va a w Ha.out (Nat.le_trans hla (by decide))).mono ?_
   rintro e w1 ⟨rfl, hb1⟩
   rw [hma]
   go_wp2_with fail
   refine (may_any vb b w1 ((Hb.out.below hb1).mono hb1.size) (Nat.le_trans hlb (by decide))).mono ?_
   rintro e w2 ⟨rfl, hb2⟩
   rw [hmb]
   have hB2 : Below w.heap.size w w2 := hb1.trans (hb2.mono hb1.size)
   clear hb1 hb2
   go_wp2_with fail
   refine (E4_ va vb a b w2 ((Ha.out.below hB2).mono hB2.size) ((Hb.out.below hB2).mono hB2.size) hla hlb).mono ?_
   rintro e w3 ⟨v3, rfl, hr3, hb3⟩
   have hB3 := hB2.trans (hb3.mono hB2.size)
   have hm := Zp0 a b false
   change (Z7_ a b).length ≤ _ at hm
   generalize Z7_ a b = m at Hr hr3 hm
   obtain ⟨A3, c3, rfl, _⟩ := hr3
   cases m with
   | nil =>
    go_wp2
    go_ret
    exact Y8_ Hr.out rfl hB3
   | cons y r =>
    have hne : ((r.length : Int) + 1 == 0) = false := by simp; omega
    go_wp2
    go_ret
    exact Y8_ Hr.out rfl hB3
open Go.RowKit
def upTo (k : Nat) : List Int := (List.range k).map Int.ofNat
theorem Zi0 (k : Nat) : upTo (k + 1) = upTo k ++ [(k : Int)] := by
 unfold upTo
 rw [List.range_succ, List.map_append]
 rfl
theorem J8_ (k : Nat) : (upTo k).length = k := by simp [upTo]
theorem Yk6 {n : Int} (h : n < 1 ∨ 100000 < n) : allL n = [] := if_pos h
theorem Zp4 {n : Nat} (h1 : 1 ≤ n) (h2 : n ≤ 100000) : allL n = upTo n := by
 unfold allL upTo
 rw [if_neg (by omega)]
 rfl
def filled (n k : Nat) : Array Value := (ints (upTo k ++ List.replicate (n - k) 0)).toArray
theorem Zp5 {n k : Nat} (h : k ≤ n) : (filled n k).size = n := by
 simp [filled, A0_, J8_]
 omega
theorem Ya9 {n k : Nat} (h : k < n) : (filled n k).setIfInBounds k (.int .i64 (k : Int)) = filled n (k + 1) := by
 unfold filled
 rw [List.setIfInBounds_toArray]
 congr 1
 rw [Zi0, V6_, V6_, V6_, List.append_assoc]
 have e : List.replicate (n - k) (0 : Int) = 0 :: List.replicate (n - (k + 1)) 0 := by
  rw [show n - k = (n - (k + 1)) + 1 from by omega, List.replicate_succ]
 rw [e, List.set_append_right _ _ (by rw [A0_, J8_]; exact le_refl _), A0_, J8_, Nat.sub_self]
 rfl
theorem Yb0 (n : Nat) : filled n n = (ints (upTo n)).toArray := by
 unfold filled
 rw [Nat.sub_self, List.replicate_zero, List.append_nil]
theorem Yb1 {w : World} {g n : Nat} (h : Blk w g 3 (filled n n)) (hn : n ≤ maxLen) : Row w w.heap.size (.slice (some ⟨g, 0, none⟩) n n) (upTo n) := by
 rw [Yb0] at h
 refine ⟨_, n, by rw [J8_], ⟨by rw [J8_]; exact le_refl _, hn, fun e => by cases e⟩, fun k hk => ⟨_, rfl, h.lt, ?_⟩⟩
 have e : (⟨g, 0, none⟩ : Addr).add k = ⟨g, k, none⟩ := by unfold Addr.add; split <;> simp_all
 rw [e, h.cell]
 simp [ints, List.getD, hk]
theorem M2_ (w : World) (g n : Nat) (h : w.ownsRow g 3 1 (.slice (some ⟨g, 0, none⟩) n n) n (madeCells (Value.int .i64 0).cells (n * 1)).toList) : Blk w g 3 (filled n 0) := by
 rcases h.2 with ⟨e, _⟩ | ⟨g', cap, cur, hv, hb, hg, h1, h2, h3, h4⟩
 ·cases e
 ·injection hv with e1 _ e3
  injection e1 with e1
  injection e1 with e1
  subst e1 e3
  unfold Blk
  rw [hg]
  have hm : (madeCells (Value.int IntKind.i64 0).cells (n * 1)).toList = (filled n 0).toList := by
   unfold madeCells filled
   simp only [upTo, List.range_zero, List.map_nil, List.nil_append, Nat.sub_zero, Nat.mul_one]
   apply List.ext_getElem
   ·simp [ints]
   ·intro i h1 h2
    simp [ints, Value.cells, Nat.mod_one]
  have hc : cur.toList = (filled n 0).toList := by
   rw [← hm, ← h4, List.take_of_length_le]
   rw [Array.length_toList, h3]
   exact le_refl _
  rw [Array.toList_inj.1 hc]
theorem Vz2 (n : Nat) (w : World) (h1 : 1 ≤ n) (h2 : n ≤ 100000) :
  Calls Tryz.prog 53 #[.int .i64 n] w (Gives w (allL n)) := by
 have Hall := hid (Zp4 h1 h2)
 have h1' : ¬ (n : Int) < 1 := by omega
 have h2' : ¬ (100000 : Int) < (n : Int) := by omega
 obtain ⟨i0, hi, hz0, hz1, hz2⟩ := info_parts info3
 go_enter Tryz.func53, Tryz.ntmps53
 go_wp2_with (at_make; refine wpList_make_full w rfl _ _ 26 rfl w.heap.size 3 i0 (.int .i64 0) 1 (by kernel_rfl) hi hz0 hz1 .i64 .i64 _ _ n rfl rfl (by rfl) (by rfl) (by rw [hz2]; omega) (by unfold maxLen; omega) (le_refl _) ?_)
 intro w1 hown1 hg1
 have hblk := M2_ w1 w.heap.size n (by rw [Nat.mul_one]; exact hown1)
 have hb1 : Below w.heap.size w w1 := (Below.refl _ w).grown hg1 (le_refl _) (fun i hi => by cases hi)
 clear hown1 hg1
 go_wp2
 go_loopw [15] (fun vk wr => ∃ k : Nat, vk = .int .i64 k ∧ k ≤ n ∧ Blk wr w.heap.size 3 (filled n k) ∧ Below w.heap.size w wr) (fun vk _ => n - (intOf vk).toNat)
 case atStart => exact ⟨0, rfl, Nat.zero_le _, hblk, hb1⟩
 case round =>
  obtain ⟨k, rfl, hk, hblk, hbr⟩ := hrel
  by_cases hlt : k < n
  ·have hs := Zp5 hk
   have g1 : wr.cell? ⟨w.heap.size, k, none⟩ = some ((filled n k)[k]'(by omega)) := by rw [hblk.cell]; simp [hs, hlt]
   have g2 := hblk.frozen k
   have Hblk := hid hblk
   clear hblk
   go_wp2
   go_roundw
   case rel => exact ⟨k + 1, by go_num, by omega, by rw [← Ya9 hlt]; exact Hblk.out.set_ k _, hbr.setCell (by exact le_refl _) _⟩
   case measure => simp [intOf]; omega
  ·have hke : k = n := by omega
   subst hke
   go_wp2
   go_ret
   exact ⟨_, rfl, by rw [Hall.out]; exact Yb1 hblk (by unfold maxLen; omega), hbr⟩
theorem H0_ (n : Int) (w : World) : Calls Tryz.prog 53 #[.int .i64 n] w (Gives w (allL n)) := by
 by_cases h1 : n < 1
 ·have Hf := hid (Yk6 (.inl h1))
  go_enter Tryz.func53, Tryz.ntmps53
  go_wp2
  go_ret
  exact C5_ w (Below.refl _ _) Hf.out
 ·by_cases h2 : 100000 < n
  ·have Hf := hid (Yk6 (.inr h2))
   go_enter Tryz.func53, Tryz.ntmps53
   go_wp2
   go_ret
   exact C5_ w (Below.refl _ _) Hf.out
  ·obtain ⟨m, rfl⟩ : ∃ m : Nat, n = (m : Int) := ⟨n.toNat, by omega⟩
   exact Vz2 m w (by omega) (by omega)
open Go.RowKit
theorem R3_ (v : Value) (l : List Int) (w : World) (hr : Row w w.heap.size v l) (hl : l.length ≤ 9223372036854775807) : Calls Tryz.prog 29 #[v] w (Says w (mayB l)) := by
 obtain ⟨A, c, rfl, _, hcell⟩ := hr
 have Hcell := hid hcell
 clear hcell
 have hl' : (l.length : Int) ≤ 9223372036854775807 := by omega
 go_enter Tryz.func29, Tryz.ntmps29
 go_wp2
 go_loopw [3] (fun vk wr => ∃ k q : Nat, vk = .int .i64 k ∧ k ≤ l.length ∧ wr = w.drewN q ∧ IsSet (l.take k)) (fun vk _ => l.length - (intOf vk).toNat)
 case atStart => exact ⟨0, 0, rfl, Nat.zero_le _, rfl, by simpa using V4_⟩
 case round =>
  obtain ⟨k, q, rfl, hk, hwr, hset⟩ := hrel
  have Hwr := hid hwr
  have Hset := hid hset
  clear hwr hset
  by_cases hlt : k < l.length
  ·obtain ⟨ad, hA, hab, hc⟩ := Hcell.out k hlt
   subst hA
   have g1 : wr.cell? (ad.add k) = some (.int .i64 (l.getD k 0)) := by rw [Hwr.out]; exact hc
   clear hc
   have hkl : (k : Int) < (l.length : Int) := by omega
   have Hstep := hid (Yy6 l k hlt Hset.out)
   have Hfail := hid (Zh4 l k hlt)
   have Hq : Hid (Below w.heap.size w wr) := by
    show Below w.heap.size w wr
    rw [Hwr.out]; exact Y0_ (Below.refl _ _) q
   by_cases hk0 : k = 0
   ·subst hk0
    rw [add_zero] at g1
    generalize l.getD 0 0 = x at g1 Hstep Hfail
    by_cases hx0 : 0 ≤ x
    ·by_cases hx1 : x ≤ 1099511627776
     ·have d0 : decide (x < 0) = false := by simp; omega
      have d1 : decide (1099511627776 < x) = false := by simp; omega
      have d2 : decide ((0:Int) < 0) = false := rfl
      go_wp2
      go_quiet (fail)
      go_wp2
      go_roundw
      case rel => exact ⟨1, q + nq, rfl, by omega, by rw [Hwr.out, World.drewN_drewN], Hstep.out ⟨hx0, hx1⟩ (.inl trivial)⟩
      case measure => simp [intOf]; omega
     ·have Hf := hid (Hfail.out (.inl fun h => hx1 h.2))
      have d0 : decide (x < 0) = false := by simp; omega
      have d1 : 1099511627776 < x := by omega
      clear hx1
      go_wp2
      go_quiet (fail)
      go_wp2
      go_ret
      exact Y8_ Hf.out rfl (Y0_ Hq.out _)
    ·have Hf := hid (Hfail.out (.inl fun h => hx0 h.1))
     have d0 : x < 0 := by omega
     clear hx0
     go_wp2
     go_quiet (fail)
     go_wp2
     go_ret
     exact Y8_ Hf.out rfl (Y0_ Hq.out _)
   ·obtain ⟨j, hj⟩ : ∃ j, j + 1 = k := ⟨k - 1, by omega⟩
    have hj1 : (k : Int) - 1 = (j : Int) := by omega
    have hjl : (j : Int) < (l.length : Int) := by omega
    have g2 : wr.cell? (ad.add j) = some (.int .i64 (l.getD j 0)) := by
     obtain ⟨ad', hA, _, hc⟩ := Hcell.out j (by omega)
     injection hA with hA
     subst hA
     rw [Hwr.out]; exact hc
    have Hj := hid hj
    have hkp : 0 < k := by omega
    rw [show k - 1 = j from by omega] at Hstep Hfail
    clear hj
    generalize l.getD k 0 = x at g1 Hstep Hfail
    generalize l.getD j 0 = y at g2 Hstep Hfail
    by_cases hx0 : 0 ≤ x
    ·by_cases hx1 : x ≤ 1099511627776
     ·by_cases hyx : y < x
      ·have d0 : decide (x < 0) = false := by simp; omega
       have d1 : decide (1099511627776 < x) = false := by simp; omega
       have d2 : decide (x ≤ y) = false := by simp; omega
       go_wp2
       go_quiet (fail)
       go_wp2
       go_roundw
       case rel => exact ⟨k + 1, q + nq, by go_num, by omega, by rw [Hwr.out, World.drewN_drewN], Hstep.out ⟨hx0, hx1⟩ (.inr hyx)⟩
       case measure => simp [intOf]; omega
      ·have hxy : x ≤ y := by omega
       have Hf := hid (Hfail.out (.inr ⟨by omega, hxy⟩))
       have d0 : decide (x < 0) = false := by simp; omega
       have d1 : decide (1099511627776 < x) = false := by simp; omega
       clear hyx
       go_wp2
       go_quiet (fail)
       go_wp2
       go_ret
       exact Y8_ Hf.out rfl (Y0_ Hq.out _)
     ·have Hf := hid (Hfail.out (.inl fun h => hx1 h.2))
      have d0 : decide (x < 0) = false := by simp; omega
      have d1 : 1099511627776 < x := by omega
      clear hx1
      go_wp2
      go_quiet (fail)
      go_wp2
      go_ret
      exact Y8_ Hf.out rfl (Y0_ Hq.out _)
    ·have Hf := hid (Hfail.out (.inl fun h => hx0 h.1))
     have d0 : x < 0 := by omega
     clear hx0
     go_wp2
     go_quiet (fail)
     go_wp2
     go_ret
     exact Y8_ Hf.out rfl (Y0_ Hq.out _)
  ·have hke : k = l.length := by omega
   have Hfin := hid (Yk3 l k hke Hset.out)
   subst hke
   go_wp2
   go_ret
   refine Y8_ Hfin.out rfl ?_
   rw [Hwr.out]; exact Y0_ (Below.refl _ _) q
theorem X9_ (v : Value) (l : List Int) (w : World) (hr : Row w w.heap.size v l) (hl : l.length ≤ 9223372036854775807) {x : Bool} (h : mayB l = x) : Calls Tryz.prog 29 #[v] w (Says w x) := by
 subst h
 exact R3_ v l w hr hl
open Go.RowKit
theorem Zp6 {l : List Int} {x : Int} {k : Nat} (hk : k < l.length) (h : x ∉ l.take k) (hx : (l.getD k 0 == x) = false) : x ∉ l.take (k + 1) := by
 rw [List.take_succ_eq_append_getElem hk, List.mem_append, List.mem_singleton]
 rintro (e | e)
 ·exact h e
 ·simp [List.getD, hk] at hx
  exact hx e.symm
theorem Xm4 {l : List Int} {x : Int} {k : Nat} (hk : k < l.length) (hx : l.getD k 0 = x) : l.contains x = true := by
 rw [List.contains_iff_mem, ← hx]
 simp [List.getD, hk]
theorem Yb2 {l : List Int} {x : Int} {k : Nat} (hk : k = l.length) (h : x ∉ l.take k) : l.contains x = false := by
 subst hk
 rw [List.take_length] at h
 rw [← Bool.not_eq_true, List.contains_iff_mem]
 exact h
theorem N7_ (v : Value) (l : List Int) (x : Int) (B : Nat) (w : World) (hr : Row w B v l) (hl : l.length ≤ 4194304) {b : Bool} (hb : l.contains x = b) :
  Calls Tryz.prog 48 #[v, .int .i64 x] w fun e w' => e = .returned (.bool b) ∧ w' = w := by
 obtain ⟨A, c, rfl, _, hcell⟩ := hr
 have Hcell := hid hcell
 clear hcell
 have Hb := hid hb
 clear hb
 have hl' : (l.length : Int) ≤ 4194304 := by omega
 go_enter Tryz.func48, Tryz.ntmps48
 go_wp2
 go_loopw [5] (fun vk wr => ∃ k : Nat, vk = .int .i64 k ∧ k ≤ l.length ∧ wr = w ∧ x ∉ l.take k) (fun vk _ => l.length - (intOf vk).toNat)
 case atStart => exact ⟨0, rfl, Nat.zero_le _, rfl, by simp⟩
 case round =>
  obtain ⟨k, rfl, hk, rfl, hni⟩ := hrel
  by_cases hlt : k < l.length
  ·obtain ⟨ad, hA, hab, g1⟩ := Hcell.out k hlt
   subst hA
   have hkl : (k : Int) < (l.length : Int) := by omega
   have Hst := hid (fun h => Zp6 hlt hni h)
   have Hin := hid (fun h => Xm4 (x := x) hlt h)
   clear hni
   generalize l.getD k 0 = y at g1 Hst Hin
   by_cases hyx : y = x
   ·have Hc := hid (Hin.out hyx)
    subst hyx
    go_wp2
    go_ret
    exact ⟨by rw [← Hb.out, Hc.out]; rfl, rfl⟩
   ·have hyx' : (y == x) = false := by simp [hyx]
    go_wp2
    go_roundw
    case rel => exact ⟨k + 1, by go_num, by omega, trivial, Hst.out hyx'⟩
    case measure => simp [intOf]; omega
  ·have hke : k = l.length := by omega
   have Hc := hid (Yb2 hke hni)
   subst hke
   go_wp2
   go_ret
   exact ⟨by rw [← Hb.out, Hc.out]; rfl, rfl⟩
theorem Yk7 (v : Value) (l : List Int) (x : Int) (B : Nat) (w : World) (hr : Row w B v l) (hl : l.length ≤ 4194304) :
  Calls Tryz.prog 48 #[v, .int .i64 x] w fun e w' => e = .returned (.bool (l.contains x)) ∧ w' = w := N7_ v l x B w hr hl rfl
open Go.RowKit
open Go.RowKit
def J9_ (l : List Int) (k : Nat) : List Int := sortL (l.take k)
theorem R4_ (l : List Int) (k : Nat) (h : k < l.length) (z : Int) : z ∈ J9_ l (k + 1) ↔ (z ∈ J9_ l k ∨ (z = l.getD k 0 ∧ Fit z)) := by
 unfold J9_
 have e : l[k] = l.getD k 0 := by simp [List.getD, h]
 rw [G1_, G1_, List.take_succ_eq_append_getElem h, e, List.mem_append, List.mem_singleton]
 constructor
 ·rintro ⟨h1 | h1, h2⟩
  ·exact .inl ⟨h1, h2⟩
  ·exact .inr ⟨h1, h2⟩
 ·rintro (⟨h1, h2⟩ | ⟨h1, h2⟩)
  ·exact ⟨.inl h1, h2⟩
  ·exact ⟨.inr h1, h2⟩
theorem Yk8 (l : List Int) (k : Nat) (h : k < l.length) (hf : ¬ Fit (l.getD k 0)) : J9_ l (k + 1) = J9_ l k :=
 (J7_ _).ext (J7_ _) fun z => by
  change z ∈ J9_ l (k + 1) ↔ z ∈ J9_ l k
  rw [R4_ l k h]
  constructor
  ·rintro (h1 | ⟨h1, h2⟩)
   ·exact h1
   ·rw [h1] at h2; exact absurd h2 hf
  ·exact .inl
theorem Yk9 (l : List Int) (k : Nat) (h : k < l.length) (hf : l.getD k 0 ∈ J9_ l k) : J9_ l (k + 1) = J9_ l k :=
 (J7_ _).ext (J7_ _) fun z => by
  change z ∈ J9_ l (k + 1) ↔ z ∈ J9_ l k
  rw [R4_ l k h]
  constructor
  ·rintro (h1 | ⟨h1, h2⟩)
   ·exact h1
   ·rw [h1]; exact hf
  ·exact .inl
theorem Yb3 (l : List Int) (k : Nat) (h : k < l.length) (hf : Fit (l.getD k 0)) : J9_ l (k + 1) = ins (l.getD k 0) (J9_ l k) :=
 (J7_ _).ext (Zo9 _ hf _ (J7_ _)) fun z => by
  change z ∈ J9_ l (k + 1) ↔ _
  rw [R4_ l k h, Zd4]
  constructor
  ·rintro (h1 | ⟨h1, h2⟩)
   ·exact .inr h1
   ·exact .inl h1
  ·rintro (h1 | h1)
   ·exact .inr ⟨h1, by rw [h1]; exact hf⟩
   ·exact .inl h1
theorem Zd8 (l : List Int) (k : Nat) : (J9_ l k).length ≤ l.length := by
 unfold J9_
 refine Nat.le_trans (C4_ _) ?_
 simp
 omega
theorem Yb4 (l : List Int) : J9_ l l.length = sortL l := by unfold J9_; rw [List.take_length]
theorem Yx1 (x y : Int) : ∀ a : List Int, a.Pairwise (· < ·) → (∃ z ∈ a, x < z) → ins x (a ++ [y]) = ins x a ++ [y]
 | [], _, h => by obtain ⟨z, hz, _⟩ := h; cases hz
 | b :: a, hp, h => by
  rw [List.cons_append]
  unfold ins
  split
  ·rfl
  ·split
   ·rfl
   ·rw [List.pairwise_cons] at hp
    rw [Yx1 x y a hp.2 ?_]
    ·rfl
    ·obtain ⟨z, hz, hx⟩ := h
     rcases List.mem_cons.1 hz with e | hz
     ·omega
     ·exact ⟨z, hz, hx⟩
theorem Yx2 (x y : Int) : ∀ a : List Int, (∀ z ∈ a, z < x) → x < y → ins x (a ++ [y]) = a ++ [x, y]
 | [], _, h => by simp [ins, h]
 | b :: a, hb, h => by
  have h1 := hb b (by simp)
  rw [List.cons_append]
  unfold ins
  rw [if_neg (by omega), if_neg (by omega), Yx2 x y a (fun z hz => hb z (by simp [hz])) h]
  rfl
theorem Yl0 (x : Int) : ∀ a : List Int, (∀ z ∈ a, z < x) → ins x a = a ++ [x]
 | [], _ => rfl
 | b :: a, hb => by
  have h1 := hb b (by simp)
  unfold ins
  rw [if_neg (by omega), if_neg (by omega), Yl0 x a (fun z hz => hb z (by simp [hz]))]
  rfl
def Ins (x : Int) (out : List Int) (m : Nat) (laid : Bool) (next : List Int) : Prop :=
 (laid = false ∧ (∀ z ∈ out.take m, z < x) ∧ next = out.take m) ∨ (laid = true ∧ (∃ z ∈ out.take m, x < z) ∧ next = ins x (out.take m))
theorem Yl1 (x : Int) (out : List Int) : Ins x out 0 false [] := .inl ⟨rfl, by simp, rfl⟩
theorem L3_ {out : List Int} {m : Nat} (hm : m < out.length) : out.take (m + 1) = out.take m ++ [out.getD m 0] := by
 rw [List.take_succ_eq_append_getElem hm]; simp [List.getD, hm]
theorem Xm5 {x : Int} {out next : List Int} {m : Nat} (hm : m < out.length) (h : Ins x out m false next) (hx : x < out.getD m 0) : Ins x out (m + 1) true (next ++ [x] ++ [out.getD m 0]) := by
 rcases h with ⟨_, h1, h2⟩ | ⟨h, _⟩
 ·refine .inr ⟨rfl, ⟨_, by rw [L3_ hm]; simp, hx⟩, ?_⟩
  rw [L3_ hm, Yx2 x _ _ h1 hx, h2, List.append_assoc]
  rfl
 ·cases h
theorem Xx4 {x : Int} {out next : List Int} {m : Nat} (hm : m < out.length) (h : Ins x out m false next) (hn : x ∉ out) (hx : ¬ x < out.getD m 0) : Ins x out (m + 1) false (next ++ [out.getD m 0]) := by
 rcases h with ⟨_, h1, h2⟩ | ⟨h, _⟩
 ·refine .inl ⟨rfl, fun z hz => ?_, by rw [L3_ hm, h2]⟩
  rw [L3_ hm, List.mem_append, List.mem_singleton] at hz
  rcases hz with hz | hz
  ·exact h1 z hz
  ·have : z ≠ x := fun e => hn (by rw [← e, hz]; simp [List.getD, hm])
   omega
 ·cases h
theorem Xx5 {x : Int} {out next : List Int} {m : Nat} (hm : m < out.length) (hs : out.Pairwise (· < ·)) (h : Ins x out m true next) : Ins x out (m + 1) true (next ++ [out.getD m 0]) := by
 rcases h with ⟨h, _⟩ | ⟨_, ⟨z, hz, hx⟩, h2⟩
 ·cases h
 ·refine .inr ⟨rfl, ⟨z, by rw [L3_ hm]; simp [hz], hx⟩, ?_⟩
  rw [L3_ hm, Yx1 x _ _ (hs.sublist (List.take_sublist _ _)) ⟨z, hz, hx⟩, h2]
theorem Xx6 {x : Int} {out next : List Int} (h : Ins x out out.length true next) : next = ins x out := by
 rcases h with ⟨h, _⟩ | ⟨_, _, h2⟩
 ·cases h
 ·rw [h2, List.take_length]
theorem Xx7 {x : Int} {out next : List Int} (h : Ins x out out.length false next) : next ++ [x] = ins x out := by
 rcases h with ⟨_, h1, h2⟩ | ⟨h, _⟩
 ·rw [List.take_length] at h1 h2
  rw [h2, Yl0 x out h1]
 ·cases h
theorem Xm6 {x : Int} {out next : List Int} {m : Nat} {laid : Bool} (h : Ins x out m laid next) : next.length ≤ out.length + 1 := by
 have h1 : ∀ (t : List Int), (ins x t).length ≤ t.length + 1 := by
  intro t
  induction t with
  | nil => simp [ins]
  | cons a t ih =>
   unfold ins
   split
   ·simp
   ·split
    ·simp
    ·simp; omega
 rcases h with ⟨_, _, h2⟩ | ⟨_, _, h2⟩
 ·rw [h2, List.length_take]; omega
 ·rw [h2]
  have := h1 (out.take m)
  rw [List.length_take] at this
  omega
theorem Zp7 (v : Value) (l : List Int) (w : World) (hr : Row w w.heap.size v l) (hl : l.length ≤ 2097152) : Calls Tryz.prog 27 #[v] w (Gives w (sortL l)) := by
 obtain ⟨A, c, rfl, _, hcell⟩ := hr
 have Hcell := hid hcell
 clear hcell
 have hl' : (l.length : Int) ≤ 2097152 := by omega
 have hB0 : Below w.heap.size w (w.alloc (.cells #[] 3)) := (Below.refl _ w).alloc (le_refl _) _
 have hr0 : Row (w.alloc (.cells #[] 3)) (w.alloc (.cells #[] 3)).heap.size (.slice (some ⟨w.heap.size, 0, none⟩) 0 0) (J9_ l 0) := (Row.lit0 w).here
 have Hall := hid (Yb4 l)
 go_enter Tryz.func27, Tryz.ntmps27
 go_wp2
 go_loopw [3, 4] (fun vo vi wr => ∃ k : Nat, vi = .int .i64 k ∧ k ≤ l.length ∧ Row wr wr.heap.size vo (J9_ l k) ∧ Below w.heap.size w wr) (fun _ vi _ => l.length - (intOf vi).toNat)
 case atStart => exact ⟨0, rfl, Nat.zero_le _, hr0, hB0⟩
 case round =>
  obtain ⟨k, rfl, hk, hro, hbr⟩ := hrel
  clear hr0 hB0
  by_cases hlt : k < l.length
  ·obtain ⟨ad, hA, hab, hg⟩ := Hcell.out k hlt
   subst hA
   have hkl : (k : Int) < (l.length : Int) := by omega
   have hol := Zd8 l k
   have Hno := hid (Yk8 l k hlt)
   have Hin := hid (Yk9 l k hlt)
   have Hins := hid (Yb3 l k hlt)
   have Hos := hid (J7_ (l.take k))
   change Hid (IsSet (J9_ l k)) at Hos
   generalize J9_ l k = out at hro hol Hno Hin Hins Hos
   generalize l.getD k 0 = x at hg Hno Hin Hins
   have g1 : wr.cell? (ad.add k) = some (.int .i64 x) := (hbr.cell (by rw [Z2_]; exact hab)).trans hg
   have Hg := hid hg
   clear hg
   by_cases h0 : x < 0
   ·have Hx := hid (Hno.out fun h => by unfold Fit at h; omega)
    clear Hno Hin Hins
    go_wp2
    go_roundw
    case rel => exact ⟨k + 1, by go_num, by omega, by rw [Hx.out]; exact hro, hbr⟩
    case measure => simp [intOf]; omega
   ·have h0' : decide (x < 0) = false := by simp; omega
    by_cases h1 : 1099511627776 < x
    ·have Hx := hid (Hno.out fun h => by unfold Fit at h; omega)
     clear Hno Hin Hins h0
     go_wp2
     go_roundw
     case rel => exact ⟨k + 1, by go_num, by omega, by rw [Hx.out]; exact hro, hbr⟩
     case measure => simp [intOf]; omega
    ·have h1' : decide (1099511627776 < x) = false := by simp; omega
     rcases hc : out.contains x with _ | _
     ·have hni : x ∉ out := by rw [← List.contains_iff_mem, hc]; simp
      have Hni := hid hni
      have Hx := hid (Hins.out ⟨by omega, by omega⟩)
      have Hc := hid hc
      clear Hno Hin Hins h0 h1 hni hc
      go_wp2_with fail
      refine (N7_ _ out x _ wr hro (by omega) Hc.out).mono ?_
      rintro e w5 ⟨rfl, rfl⟩
      have Hro := hid hro
      obtain ⟨Ao, co, rfl, _, hocell⟩ := hro
      have Hocell := hid hocell
      clear hocell
      have hown0 : (w5.alloc (.cells #[] 3)).ownsRow w5.heap.size 3 1 (.slice (some ⟨w5.heap.size, 0, none⟩) 0 0) 0 [] :=
       World.ownsRow_made w5 #[] 0 (le_refl _) (by unfold maxLen; omega) rfl
      have hb0 : Below w5.heap.size w5 (w5.alloc (.cells #[] 3)) := (Below.refl _ w5).alloc (le_refl _) _
      have habw : ad.block < w5.heap.size := Nat.lt_of_lt_of_le hab hbr.size
      have Hg5 := hid g1
      clear g1
      go_wp2
      go_loopw [5, 6, 7] (fun vn vlaid vk wr => ∃ (m : Nat) (laid : Bool) (next : List Int), vk = .int .i64 m ∧ m ≤ out.length ∧ vlaid = .bool laid ∧ Ins x out m laid next ∧ wr.ownsRow w5.heap.size 3 1 vn next.length (ints next) ∧ Below w5.heap.size w5 wr) (fun _ _ vk _ => out.length - (intOf vk).toNat)
      case atStart => exact ⟨0, false, [], rfl, Nat.zero_le _, rfl, Yl1 x out, hown0, hb0⟩
      case round =>
       obtain ⟨m, laid, next, rfl, hm, rfl, hI, hown, hb1⟩ := hrel
       clear hown0 hb0
       have hnl := Xm6 hI
       by_cases hmlt : m < out.length
       ·obtain ⟨ao, hAo, haob, hgo⟩ := Hocell.out m hmlt
        subst hAo
        have hml : (m : Int) < (out.length : Int) := by omega
        have g2 : wr.cell? (ao.add m) = some (.int .i64 (out.getD m 0)) := (hb1.cell (by rw [Z2_]; exact haob)).trans hgo
        have g1 : wr.cell? (ad.add k) = some (.int .i64 x) := (hb1.cell (by rw [Z2_]; exact habw)).trans Hg5.out
        have Hgo := hid hgo
        clear hgo
        have Hlaid := hid (fun next h => Xx5 (x := x) (next := next) hmlt Hos.out.1 h)
        have Hlay := hid (fun next h => Xm5 (x := x) (out := out) (next := next) hmlt h)
        have Hless := hid (fun next h => Xx4 (x := x) (out := out) (next := next) hmlt h Hni.out)
        generalize out.getD m 0 = y at g2 Hgo Hlaid Hlay Hless
        cases laid
        ·have HI := hid hI
         clear hI Hlaid
         by_cases hxy : x < y
         ·have Hf := hid (Hlay.out next HI.out hxy)
          go_wp2
          go_quiet (fail)
          have hownq : (wr.drewN nq).ownsRow w5.heap.size 3 1 _ next.length (ints next) := hown
          have hbq : Below w5.heap.size w5 (wr.drewN nq) := Y0_ hb1 nq
          have g1q : (wr.drewN nq).cell? (ad.add k) = some (.int .i64 x) := g1
          have g2q : (wr.drewN nq).cell? (ao.add m) = some (.int .i64 y) := g2
          clear hown hb1 g1 g2
          generalize wr.drewN nq = wq at *
          go_wp2_with (at_builtin; refine Z4_ rfl _ _ rfl w5.heap.size _ _ _ next [x] rfl rfl (hownq.alloc _) (Row.lit1 _ x) (by omega) (by simp) (by have := hbq.size; simp; omega) ?_)
          intro v6 w6 hown6 hgrow
          have hown6 : w6.ownsRow w5.heap.size 3 1 v6 (next ++ [x]).length (ints (next ++ [x])) := by rw [List.length_append]; exact hown6
          have hb6 : Below w5.heap.size w5 w6 := (hbq.alloc hbq.size _).grown hgrow (by have := hbq.size; simp; omega) (fun i hi => (hownq.lt i hi).1)
          clear hgrow hownq hbq
          have g1' : w6.cell? (ad.add k) = some (.int .i64 x) := (hb6.cell (by rw [Z2_]; exact habw)).trans Hg5.out
          have g2' : w6.cell? (ao.add m) = some (.int .i64 y) := (hb6.cell (by rw [Z2_]; exact haob)).trans Hgo.out
          clear g1q g2q
          go_wp2_with (at_builtin; refine Z4_ rfl _ _ rfl w5.heap.size _ _ _ (next ++ [x]) [y] rfl rfl (hown6.alloc _) (Row.lit1 _ y) (by rw [List.length_append]; show next.length + 1 ≤ _; omega) (by simp) (by have := hb6.size; simp; omega) ?_)
          intro v7 w7 hown7 hgrow
          have hown7 : w7.ownsRow w5.heap.size 3 1 v7 (next ++ [x] ++ [y]).length (ints (next ++ [x] ++ [y])) := by rw [show next ++ [x] ++ [y] = next ++ [x, y] from by simp, List.length_append]; exact hown7
          have hb7 : Below w5.heap.size w5 w7 := (hb6.alloc hb6.size _).grown hgrow (by have := hb6.size; simp; omega) (fun i hi => (hown6.lt i hi).1)
          clear hgrow hown6 hb6
          go_wp2
          go_roundw
          case rel => exact ⟨m + 1, true, next ++ [x] ++ [y], by go_num, by omega, rfl, Hf.out, hown7, hb7⟩
          case measure => simp [intOf]; omega
         ·have hxy' : decide (x < y) = false := by simp; omega
          have Hf := hid (Hless.out next HI.out hxy)
          go_wp2
          go_quiet (fail)
          have hownq : (wr.drewN nq).ownsRow w5.heap.size 3 1 _ next.length (ints next) := hown
          have hbq : Below w5.heap.size w5 (wr.drewN nq) := Y0_ hb1 nq
          have g1q : (wr.drewN nq).cell? (ad.add k) = some (.int .i64 x) := g1
          have g2q : (wr.drewN nq).cell? (ao.add m) = some (.int .i64 y) := g2
          clear hown hb1 g1 g2
          generalize wr.drewN nq = wq at *
          go_wp2_with (at_builtin; refine Z4_ rfl _ _ rfl w5.heap.size _ _ _ next [y] rfl rfl (hownq.alloc _) (Row.lit1 _ y) (by omega) (by simp) (by have := hbq.size; simp; omega) ?_)
          intro v6 w6 hown6 hgrow
          have hown6 : w6.ownsRow w5.heap.size 3 1 v6 (next ++ [y]).length (ints (next ++ [y])) := by rw [List.length_append]; exact hown6
          have hb6 : Below w5.heap.size w5 w6 := (hbq.alloc hbq.size _).grown hgrow (by have := hbq.size; simp; omega) (fun i hi => (hownq.lt i hi).1)
          clear hgrow hownq hbq
          go_wp2
          go_roundw
          case rel => exact ⟨m + 1, false, next ++ [y], by go_num, by omega, rfl, Hf.out, hown6, hb6⟩
          case measure => simp [intOf]; omega
        ·have Hf := hid (Hlaid.out next hI)
         clear hI Hlay Hless
         go_wp2
         go_quiet (fail)
         have hownq : (wr.drewN nq).ownsRow w5.heap.size 3 1 _ next.length (ints next) := hown
         have hbq : Below w5.heap.size w5 (wr.drewN nq) := Y0_ hb1 nq
         have g1q : (wr.drewN nq).cell? (ad.add k) = some (.int .i64 x) := g1
         have g2q : (wr.drewN nq).cell? (ao.add m) = some (.int .i64 y) := g2
         clear hown hb1 g1 g2
         generalize wr.drewN nq = wq at *
         go_wp2_with (at_builtin; refine Z4_ rfl _ _ rfl w5.heap.size _ _ _ next [y] rfl rfl (hownq.alloc _) (Row.lit1 _ y) (by omega) (by simp) (by have := hbq.size; simp; omega) ?_)
         intro v6 w6 hown6 hgrow
         have hown6 : w6.ownsRow w5.heap.size 3 1 v6 (next ++ [y]).length (ints (next ++ [y])) := by rw [List.length_append]; exact hown6
         have hb6 : Below w5.heap.size w5 w6 := (hbq.alloc hbq.size _).grown hgrow (by have := hbq.size; simp; omega) (fun i hi => (hownq.lt i hi).1)
         clear hgrow hownq hbq
         go_wp2
         go_roundw
         case rel => exact ⟨m + 1, true, next ++ [y], by go_num, by omega, rfl, Hf.out, hown6, hb6⟩
         case measure => simp [intOf]; omega
       ·have hme : m = out.length := by omega
        subst hme
        cases laid
        ·have Hf := hid (Xx7 hI)
         clear hI
         have g1 : wr.cell? (ad.add k) = some (.int .i64 x) := (hb1.cell (by rw [Z2_]; exact habw)).trans Hg5.out
         go_wp2_with (at_builtin; refine Z4_ rfl _ _ rfl w5.heap.size _ _ _ next [x] rfl rfl (hown.alloc _) (Row.lit1 _ x) (by omega) (by simp) (by have := hb1.size; simp; omega) ?_)
         intro v6 w6 hown6 hgrow
         have hown6 : w6.ownsRow w5.heap.size 3 1 v6 (next ++ [x]).length (ints (next ++ [x])) := by rw [List.length_append]; exact hown6
         have hb6 : Below w5.heap.size w5 w6 := (hb1.alloc hb1.size _).grown hgrow (by have := hb1.size; simp; omega) (fun i hi => (hown.lt i hi).1)
         clear hgrow hown hb1
         go_wp2
         go_roundw
         case rel => exact ⟨k + 1, by go_num, by omega, by rw [Hx.out, ← Hf.out]; exact Row.of_own hown6 rfl, hbr.trans (hb6.mono hbr.size)⟩
         case measure => simp [intOf]; omega
        ·have Hf := hid (Xx6 hI)
         clear hI
         go_wp2
         go_roundw
         case rel => exact ⟨k + 1, by go_num, by omega, by rw [Hx.out, ← Hf.out]; exact Row.of_own hown rfl, hbr.trans (hb1.mono hbr.size)⟩
         case measure => simp [intOf]; omega
     ·have hni : x ∈ out := by rw [← List.contains_iff_mem, hc]
      have Hx := hid (Hin.out hni)
      have Hc := hid hc
      clear Hno Hin Hins h0 h1 hni hc
      go_wp2_with fail
      refine (N7_ _ out x _ wr hro (by omega) Hc.out).mono ?_
      rintro e w5 ⟨rfl, rfl⟩
      go_wp2
      go_roundw
      case rel => exact ⟨k + 1, by go_num, by omega, by rw [Hx.out]; exact hro, hbr⟩
      case measure => simp [intOf]; omega
  ·have hke : k = l.length := by omega
   subst hke
   rw [Hall.out] at hro
   go_wp2
   go_ret
   exact ⟨_, rfl, hro, hbr⟩
theorem I5_ (va vb : Value) (a b : List Int) (w : World) (ha : Row w w.heap.size va a) (hb : Row w w.heap.size vb b) (hla : a.length ≤ 1048576) (hlb : b.length ≤ 1048576) :
  Calls Tryz.prog 42 #[va, vb] w (Gives w (Y2_ a b)) := by
 have Ha := hid ha
 have Hb := hid hb
 obtain ⟨A1, c1, rfl, _⟩ := ha
 obtain ⟨A2, c2, rfl, _⟩ := hb
 rcases hma : mayB a with _ | _
 ·have Hr := hid (Zh6 (b := b) hma)
  have Hma := hid hma
  clear hma
  go_enter Tryz.func42, Tryz.ntmps42
  go_wp2_with fail
  refine (X9_ _ a w Ha.out (by omega) Hma.out).mono ?_
  rintro e w1 ⟨rfl, hb1⟩
  go_wp2
  go_ret
  exact C5_ w hb1 Hr.out
 ·rcases hmb : mayB b with _ | _
  ·have Hr := hid (Zh7 (a := a) hmb)
   have Hma := hid hma
   have Hmb := hid hmb
   clear hma hmb
   go_enter Tryz.func42, Tryz.ntmps42
   go_wp2_with fail
   refine (X9_ _ a w Ha.out (by omega) Hma.out).mono ?_
   rintro e w1 ⟨rfl, hb1⟩
   go_wp2_with fail
   refine (X9_ _ b w1 ((Hb.out.below hb1).mono hb1.size) (by omega) Hmb.out).mono ?_
   rintro e w2 ⟨rfl, hb2⟩
   go_wp2
   go_ret
   exact C5_ w (hb1.trans (hb2.mono hb1.size)) Hr.out
  ·have Hr := hid (Zh5 hma hmb)
   have Hma := hid hma
   have Hmb := hid hmb
   clear hma hmb
   go_enter Tryz.func42, Tryz.ntmps42
   go_wp2_with fail
   refine (X9_ _ a w Ha.out (by omega) Hma.out).mono ?_
   rintro e w1 ⟨rfl, hb1⟩
   go_wp2_with fail
   refine (X9_ _ b w1 ((Hb.out.below hb1).mono hb1.size) (by omega) Hmb.out).mono ?_
   rintro e w2 ⟨rfl, hb2⟩
   have hB2 : Below w.heap.size w w2 := hb1.trans (hb2.mono hb1.size)
   clear hb1 hb2
   have hown0 : (w2.alloc (.cells #[] 3)).ownsRow w.heap.size 3 1 (.slice (some ⟨w2.heap.size, 0, none⟩) 0 0) ([] : List Int).length (ints []) :=
    World.ownsRow_made w2 #[] 0 hB2.size (by unfold maxLen; omega) rfl
   have hB3 : Below w.heap.size w (w2.alloc (.cells #[] 3)) := hB2.alloc hB2.size _
   have Ha3 := hid (Ha.out.below hB3)
   go_wp2_with (at_builtin; refine Z4_ rfl _ _ rfl w.heap.size w.heap.size _ _ [] a rfl rfl hown0 Ha3.out (by simp) (by omega) hB3.size ?_)
   intro v4 w4 hown4 hg4
   have hB4 : Below w.heap.size w w4 := hB3.grown hg4 hB3.size (fun i hi => (hown0.lt i hi).1)
   have Hb4 := hid (Hb.out.below hB4)
   clear hg4 hown0 hB3 hB2
   go_wp2_with (at_builtin; refine Z4_ rfl _ _ rfl w.heap.size w.heap.size _ _ a b rfl rfl hown4 Hb4.out (by omega) (by omega) hB4.size ?_)
   intro v5 w5 hown5 hg5
   have hB5 : Below w.heap.size w w5 := hB4.grown hg5 hB4.size (fun i hi => (hown4.lt i hi).1)
   clear hg5 hown4 hB4
   go_wp2_with fail
   refine (Zp7 v5 (a ++ b) w5 (Row.of_own hown5 (by simp)) (by rw [List.length_append]; omega)).mono ?_
   rintro e w6 ⟨v6, rfl, hr6, hb6⟩
   go_wp2
   go_ret
   exact ⟨_, rfl, by rw [Hr.out]; exact hr6, hB5.trans (hb6.mono hB5.size)⟩
end Wp
end Go.Proofs.YtgadbnbhgpehjaaGreatDoor
