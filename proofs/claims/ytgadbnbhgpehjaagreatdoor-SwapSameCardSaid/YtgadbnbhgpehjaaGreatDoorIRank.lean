/- The rank of a set of elements of a matroid, plain: it is a rank; sets as lists and as properties. -/
import Derived.Test.YtgadbnbhgpehjaaGreatDoorZU
import Derived.Test.YtgadbnbhgpehjaaGreatDoorZP
import Derived.Test.YtgadbnbhgpehjaaGreatDoorZL
namespace Go.Proofs.YtgadbnbhgpehjaaGreatDoor.Wp
open Go Go.RowKit
def memP (s : List Int) : Nat → Bool := fun i => s.contains (i : Int)
def InN (n : Nat) (s : List Int) : Prop := IsSet s ∧ ∀ x ∈ s, 0 ≤ x ∧ x < (n : Int)
theorem memP_iff {s : List Int} {i : Nat} : memP s i = true ↔ (i : Int) ∈ s := by unfold memP; exact List.contains_iff_mem
theorem Zf3 : memP [] = noneP := by funext i; rfl
theorem N0_ {n : Int} {s : List Int} (h0 : 0 ≤ n) (h1 : n ≤ 64) : subB s (allL n) = true ↔ InN n.toNat s := by
 constructor
 ·intro h
  obtain ⟨h2, _, h3⟩ := subB_iff.1 h
  exact ⟨h2, fun x hx => by have := (G8_ h0 (by omega) x).1 (h3 x hx); omega⟩
 ·rintro ⟨h2, h3⟩
  exact Zt4 h0 h1 h2 fun x hx => by have := h3 x hx; omega
theorem Zt5 {l : List Nat} (h : l.Pairwise (· < ·)) : (l.map fun i : Nat => (i : Int)).Pairwise (· < ·) := by
 rw [List.pairwise_map]
 exact h.imp fun h => by omega
theorem Zl7 (n : Nat) : (List.range n).Pairwise (· < ·) := List.pairwise_lt_range
theorem Zx4 (n : Nat) (P : Nat → Bool) : (pickN n P).Pairwise (· < ·) := (Zl7 n).sublist List.filter_sublist
theorem Zl8 {n : Nat} {s : List Int} (h : InN n s) : (pickN n (memP s)).map (fun i : Nat => (i : Int)) = s := by
 refine R0_ (Zt5 (Zx4 n _)) h.1.1 fun x => ?_
 rw [List.mem_map]
 constructor
 ·rintro ⟨i, hi, rfl⟩
  exact memP_iff.1 (mem_pick.1 hi).2
 ·intro hx
  have := h.2 x hx
  refine ⟨x.toNat, mem_pick.2 ⟨by omega, memP_iff.2 ?_⟩, by omega⟩
  rw [show ((x.toNat : Nat) : Int) = x by omega]
  exact hx
theorem Yj7 {α : Type} {n : Nat} {s : List Int} (h : InN n s) (f : Nat → α) : s.map (fun x => f x.toNat) = (pickN n (memP s)).map f := by
 conv => lhs; rw [← Zl8 h]
 rw [List.map_map]
 rfl
theorem V1_ {n : Nat} {s : List Int} (h : InN n s) : s.length = cnt (memP s) n := by
 conv => lhs; rw [← Zl8 h]
 rw [List.length_map]
 rfl
theorem G3_ {a b : List Int} (ha : IsSet a) (hb : IsSet b) : memP (Y2_ a b) = orP (memP a) (memP b) := by
 funext i
 rw [Bool.eq_iff_iff]
 unfold orP
 rw [Bool.or_eq_true, memP_iff, memP_iff, memP_iff, Q5_ ha hb]
theorem Zf4 {n : Int} (h0 : 0 ≤ n) (h1 : n ≤ 64) {i : Nat} (hi : i < n.toNat) : memP (allL n) i = true := memP_iff.2 ((G8_ h0 (by omega) _).2 (by omega))
theorem Zx5 {n : Int} {s : List Int} (h0 : 0 ≤ n) (h1 : n ≤ 64) (hs : IsSet s) {i : Nat} (hi : i < n.toNat) : memP (Z7_ (allL n) s) i = notP (memP s) i := by
 rw [Bool.eq_iff_iff, memP_iff, X8_ (F6_ n) hs]
 unfold notP
 rw [Bool.not_eq_true', ← Bool.not_eq_true, memP_iff]
 exact ⟨fun h => h.2, fun h => ⟨(G8_ h0 (by omega) _).2 (by omega), h⟩⟩
theorem Zx6 {n : Int} (h0 : 0 ≤ n) (h1 : n ≤ 64) : InN n.toNat (allL n) := ⟨F6_ n, fun x hx => by have := (G8_ h0 (by omega) x).1 hx; omega⟩
theorem F2_ {n : Int} {s : List Int} (h0 : 0 ≤ n) (h1 : n ≤ 64) (hs : IsSet s) : InN n.toNat (Z7_ (allL n) s) :=
 ⟨E3_ _ _, fun x hx => (Zx6 h0 h1).2 x ((X8_ (F6_ n) hs x).1 hx).1⟩
theorem B1_ {n : Nat} {a b : List Int} (ha : InN n a) (hb : InN n b) : InN n (Y2_ a b) :=
 ⟨E2_ a b, fun x hx => ((Q5_ ha.1 hb.1 x).1 hx).elim (ha.2 x) (hb.2 x)⟩
theorem Xp8 (n : Nat) : InN n [] := ⟨V4_, fun x hx => absurd hx (by simp)⟩
def nN (m : Mat) : Nat := m.n.toNat
def edgOf (m : Mat) (i : Nat) : Nat × Nat := (((m.l.getD i []).getD 0 0).toNat, ((m.l.getD i []).getD 1 0).toNat)
def clsOf (m : Mat) (i : Nat) : Nat := ((row m 0).getD i 0).toNat
def Zl9 (m : Mat) (c : Nat) : Nat := ((row m 1).getD c 0).toNat
def Yj8 (m : Mat) (i r : Nat) : Prop := (r : Int) ∈ m.l.getD i []
def colOf (m : Mat) (i : Nat) : Nat → Int := L.vec (m.l.getD i [])
def stayN (m : Mat) (i : Nat) : Nat := ((stayL m).getD i 0).toNat
def sumR (f : Mat → (Nat → Bool) → Nat) : List Mat → (Nat → Bool) → Nat
 | [], _ => 0
 | x :: r, P => f x P + sumR f r (fun i => P (nN x + i))
noncomputable def rkP : Nat → Mat → (Nat → Bool) → Nat
 | 0, _, _ => 0
 | k + 1, m, P =>
  if m.t = 0 then min m.a.toNat (cnt P (nN m))
  else if m.t = 1 then K2_ m.a.toNat (nN m) (edgOf m) P
  else if m.t = 2 then partR m.a.toNat (nN m) (clsOf m) (Zl9 m) P
  else if m.t = 3 then covR (nN m) m.a.toNat (Yj8 m) P
  else if m.t = 4 then linR m.b m.a.toNat (nN m) (colOf m) P
  else if m.t = 5 then rkP k (inn m) (imgP (nN m) (stayN m) P)
  else if m.t = 6 then rkP k (inn m) (orP (memP (row m 0)) (imgP (nN m) (stayN m) P)) - rkP k (inn m) (memP (row m 0))
  else if m.t = 7 then min m.a.toNat (rkP k (inn m) P)
  else if m.t = 8 then cnt P (nN m) + rkP k (inn m) (notP P) - rkP k (inn m) allP
  else sumR (rkP k) m.i P
section
variable {k : Nat} {m : Mat} {P : Nat → Bool}
theorem rkP_0 (h : m.t = 0) : rkP (k + 1) m P = min m.a.toNat (cnt P (nN m)) := by rw [rkP, if_pos h]
theorem rkP_1 (h : m.t = 1) : rkP (k + 1) m P = K2_ m.a.toNat (nN m) (edgOf m) P := by rw [rkP, if_neg (by omega), if_pos h]
theorem rkP_2 (h : m.t = 2) : rkP (k + 1) m P = partR m.a.toNat (nN m) (clsOf m) (Zl9 m) P := by rw [rkP, if_neg (by omega), if_neg (by omega), if_pos h]
theorem rkP_3 (h : m.t = 3) : rkP (k + 1) m P = covR (nN m) m.a.toNat (Yj8 m) P := by rw [rkP, if_neg (by omega), if_neg (by omega), if_neg (by omega), if_pos h]
theorem rkP_4 (h : m.t = 4) : rkP (k + 1) m P = linR m.b m.a.toNat (nN m) (colOf m) P := by rw [rkP, if_neg (by omega), if_neg (by omega), if_neg (by omega), if_neg (by omega), if_pos h]
theorem rkP_5 (h : m.t = 5) : rkP (k + 1) m P = rkP k (inn m) (imgP (nN m) (stayN m) P) := by rw [rkP, if_neg (by omega), if_neg (by omega), if_neg (by omega), if_neg (by omega), if_neg (by omega), if_pos h]
theorem rkP_6 (h : m.t = 6) : rkP (k + 1) m P = rkP k (inn m) (orP (memP (row m 0)) (imgP (nN m) (stayN m) P)) - rkP k (inn m) (memP (row m 0)) := by rw [rkP, if_neg (by omega), if_neg (by omega), if_neg (by omega), if_neg (by omega), if_neg (by omega), if_neg (by omega), if_pos h]
theorem rkP_7 (h : m.t = 7) : rkP (k + 1) m P = min m.a.toNat (rkP k (inn m) P) := by rw [rkP, if_neg (by omega), if_neg (by omega), if_neg (by omega), if_neg (by omega), if_neg (by omega), if_neg (by omega), if_neg (by omega), if_pos h]
theorem rkP_8 (h : m.t = 8) : rkP (k + 1) m P = cnt P (nN m) + rkP k (inn m) (notP P) - rkP k (inn m) allP := by rw [rkP, if_neg (by omega), if_neg (by omega), if_neg (by omega), if_neg (by omega), if_neg (by omega), if_neg (by omega), if_neg (by omega), if_neg (by omega), if_pos h]
theorem rkP_9 (h : 9 ≤ m.t) : rkP (k + 1) m P = sumR (rkP k) m.i P := by rw [rkP, if_neg (by omega), if_neg (by omega), if_neg (by omega), if_neg (by omega), if_neg (by omega), if_neg (by omega), if_neg (by omega), if_neg (by omega), if_neg (by omega)]
end
theorem Zf5 {m : Mat} (h : chk m = 0) : 0 ≤ m.t ∧ m.t < 10 := (X0_ (Y4_ h)).1
theorem chk_a {m : Mat} (h : chk m = 0) : 0 ≤ m.a ∧ m.a ≤ 64 := by have := (X0_ (Y4_ h)).2.1; omega
theorem Z8_ {m : Mat} (h : chk m = 0) : (nN m : Int) = m.n ∧ nN m ≤ 64 := by have := chk_n h; unfold nN; omega
theorem C0_ {α : Type} {l : List α} {i : Nat} (d : α) (h : i < l.length) : l.getD i d ∈ l := by
 rw [show l.getD i d = l[i] by simp [List.getD, h]]
 exact List.getElem_mem h
theorem Zt6 {l : List Int} {many below : Int} (h : numsB l many below = true) : (l.length : Int) = many ∧ ∀ i, i < l.length → 0 ≤ l.getD i 0 ∧ l.getD i 0 < below := by
 unfold numsB at h
 rw [Bool.and_eq_true, decide_eq_true_iff, Bool.not_eq_true', List.any_eq_false] at h
 refine ⟨h.1, fun i hi => ?_⟩
 have := h.2 _ (C0_ 0 hi)
 unfold outB at this
 rw [decide_eq_true_iff] at this
 omega
theorem K4_ {m : Mat} (h : chk m = 0) (ht : m.t = 1) : 1 ≤ m.a ∧ (m.l.length : Int) = m.n ∧ ∀ i, i < m.l.length → ((m.l.getD i []).length : Int) = 2 ∧ ∀ j, j < (m.l.getD i []).length → 0 ≤ (m.l.getD i []).getD j 0 ∧ (m.l.getD i []).getD j 0 < m.a := by
 obtain ⟨_, _, h3, h4⟩ := X0_ (Y4_ h)
 have hl := (takes_iff.1 h3).2.2.1
 rw [ht] at hl
 have hl' : (m.l.length : Int) = m.n := hl
 have hf : fitsB m = (decide (1 ≤ m.a) && !m.l.any (edgeB m.a)) := by
  unfold fitsB
  rw [if_neg (by omega), if_pos ht]
 rw [hf, Bool.and_eq_true, decide_eq_true_iff, Bool.not_eq_true', List.any_eq_false] at h4
 refine ⟨h4.1, hl', fun i hi => ?_⟩
 have := h4.2 _ (C0_ [] hi)
 unfold edgeB at this
 have hn : numsB (m.l.getD i []) 2 m.a = true := by
  cases hb : numsB (m.l.getD i []) 2 m.a
  ·rw [hb] at this; exact absurd rfl this
  ·rfl
 exact Zt6 hn
theorem W3_ {m : Mat} (h : chk m = 0) (ht : m.t = 2) : m.l.length = 2 ∧ ((row m 0).length : Int) = m.n ∧ ((row m 1).length : Int) = m.a ∧ (∀ i, i < (row m 0).length → 0 ≤ (row m 0).getD i 0 ∧ (row m 0).getD i 0 < m.a) ∧ ∀ i, i < (row m 1).length → 0 ≤ (row m 1).getD i 0 ∧ (row m 1).getD i 0 < 65 := by
 obtain ⟨_, _, h3, h4⟩ := X0_ (Y4_ h)
 have hl := (takes_iff.1 h3).2.2.1
 rw [ht] at hl
 have hl' : (m.l.length : Int) = 2 := hl
 have hf : fitsB m = (numsB (row m 0) m.n m.a && numsB (row m 1) m.a 65) := by
  unfold fitsB
  rw [if_neg (by omega), if_neg (by omega), if_pos ht]
 rw [hf, Bool.and_eq_true] at h4
 have a := Zt6 h4.1
 have b := Zt6 h4.2
 exact ⟨by omega, a.1, b.1, a.2, b.2⟩
theorem Zx7 {m : Mat} (h : chk m = 0) (ht : m.t = 3) : (m.l.length : Int) = m.n ∧ mayM m.a m.l = true := by
 obtain ⟨_, _, h3, h4⟩ := X0_ (Y4_ h)
 have hl := (takes_iff.1 h3).2.2.1
 rw [ht] at hl
 have hf : fitsB m = mayM m.a m.l := by
  unfold fitsB
  rw [if_neg (by omega), if_neg (by omega), if_neg (by omega), if_pos ht]
 rw [hf] at h4
 exact ⟨hl, h4⟩
theorem Zt7 {m : Mat} (h : chk m = 0) (ht : m.t = 4) : (m.l.length : Int) = m.n ∧ elimB m.b m.a m.l = true := by
 obtain ⟨_, _, h3, h4⟩ := X0_ (Y4_ h)
 have hl := (takes_iff.1 h3).2.2.1
 rw [ht] at hl
 have hf : fitsB m = elimB m.b m.a m.l := by
  unfold fitsB
  rw [if_neg (by omega), if_neg (by omega), if_neg (by omega), if_neg (by omega), if_pos ht]
 rw [hf] at h4
 exact ⟨hl, h4⟩
theorem J0_ {m : Mat} (h : chk m = 0) (ht : 5 ≤ m.t ∧ m.t ≤ 8) : m.i = [inn m] ∧ chk (inn m) = 0 ∧ dp 4 (inn m) < dp 4 m := by
 have h3 := (takes_iff.1 (X0_ (Y4_ h)).2.2.1).2.2.2
 have hlen : m.i.length = 1 := by
  rcases (by omega : m.t = 5 ∨ m.t = 6 ∨ m.t = 7 ∨ m.t = 8) with e | e | e | e
  all_goals
   rw [e] at h3
   have e1 : (1 : Int) ≤ (m.i.length : Int) := h3.1
   have e2 : (m.i.length : Int) ≤ 1 := h3.2
   omega
 have hm := Yo3 (m := m) (by omega)
 obtain ⟨x, hx⟩ := List.length_eq_one_iff.1 hlen
 refine ⟨?_, (X4_ h hm).1, (X4_ h hm).2⟩
 rw [hx] at hm ⊢
 rw [List.mem_singleton.1 hm]
theorem F3_ {m : Mat} (h : chk m = 0) (ht : m.t = 7 ∨ m.t = 8) : m.n = (inn m).n := by
 obtain ⟨h1, h2, _⟩ := J0_ h (by omega)
 have h4 := (X0_ (Y4_ h)).2.2.2
 rw [R9_ (by omega), decide_eq_true_iff, h1, Xp6 _ h2] at h4
 exact h4
theorem Zx8 {m : Mat} (h : chk m = 0) (ht : m.t = 5 ∨ m.t = 6) : InN (nN (inn m)) (row m 0) := by
 obtain ⟨_, h2, _⟩ := J0_ h (by omega)
 have hn := chk_n h2
 have h4 := (X0_ (Y4_ h)).2.2.2
 have hp : partB m = true := by
  rcases ht with e | e
  ·have hf : fitsB m = (partB m && decide (m.n = (row m 0).length)) := by
    unfold fitsB
    rw [if_neg (by omega), if_neg (by omega), if_neg (by omega), if_neg (by omega), if_neg (by omega), if_pos e]
   rw [hf, Bool.and_eq_true] at h4
   exact h4.1
  ·have hf : fitsB m = (partB m && decide (IntKind.i64.wrap (m.n + (row m 0).length) = (inn m).n)) := by
    unfold fitsB
    rw [if_neg (by omega), if_neg (by omega), if_neg (by omega), if_neg (by omega), if_neg (by omega), if_neg (by omega), if_pos e]
   rw [hf, Bool.and_eq_true] at h4
   exact h4.1
 exact (N0_ hn.1 hn.2).1 hp
theorem W4_ {m : Mat} (h : chk m = 0) (ht : m.t = 5 ∨ m.t = 6) : InN (nN (inn m)) (stayL m) ∧ (stayL m).length = nN m := by
 obtain ⟨_, h2, _⟩ := J0_ h (by omega)
 have hn := chk_n h2
 have hr := Zx8 h ht
 refine ⟨?_, by have := P0_ h ht; have := Z8_ h; omega⟩
 unfold stayL
 split
 ·exact F2_ hn.1 hn.2 hr.1
 ·exact hr
theorem H9_ {m : Mat} (h : chk m = 0) (ht : m.t = 5 ∨ m.t = 6) {i : Nat} (hi : i < nN m) : ((stayN m i : Nat) : Int) = (stayL m).getD i 0 ∧ stayN m i < nN (inn m) := by
 obtain ⟨h1, h2⟩ := W4_ h ht
 have := h1.2 _ (C0_ 0 (show i < (stayL m).length by omega))
 unfold stayN
 omega
theorem Zm0 {m : Mat} (h : chk m = 0) (ht : m.t = 5 ∨ m.t = 6) {i j : Nat} (hi : i < nN m) (hj : j < nN m) (e : stayN m i = stayN m j) : i = j := by
 obtain ⟨h1, h2⟩ := W4_ h ht
 have a := (H9_ h ht hi).1
 have b := (H9_ h ht hj).1
 have hp := List.pairwise_iff_getElem.1 h1.1.1
 have ga : (stayL m).getD i 0 = (stayL m)[i]'(by omega) := by simp [List.getD, show i < (stayL m).length by omega]
 have gb : (stayL m).getD j 0 = (stayL m)[j]'(by omega) := by simp [List.getD, show j < (stayL m).length by omega]
 rcases Nat.lt_trichotomy i j with c | c | c
 ·have := hp i j (by omega) (by omega) c; omega
 ·exact c
 ·have := hp j i (by omega) (by omega) c; omega
theorem Zm1 {m : Mat} (h : chk m = 0) (ht : m.t = 6) {i : Nat} (hi : i < nN m) : memP (row m 0) (stayN m i) = false := by
 obtain ⟨h1, h2⟩ := W4_ h (.inr ht)
 have hr := Zx8 h (.inr ht)
 have a := H9_ h (.inr ht) hi
 have hm := C0_ 0 (show i < (stayL m).length by omega)
 rw [← a.1] at hm
 rw [show stayL m = Z7_ (allL (inn m).n) (row m 0) from if_pos ht] at hm
 rw [← Bool.not_eq_true, memP_iff]
 exact ((X8_ (F6_ _) hr.1 _).1 hm).2
theorem P1_ {m : Mat} {s : List Int} (h : chk m = 0) (ht : m.t = 5 ∨ m.t = 6) (hs : InN (nN m) s) : memP (imgM m s) = imgP (nN m) (stayN m) (memP s) := by
 funext y
 rw [Bool.eq_iff_iff, memP_iff, imgP_iff]
 unfold imgM
 rw [List.mem_map]
 constructor
 ·rintro ⟨x, hx, e⟩
  have := hs.2 x hx
  refine ⟨x.toNat, by omega, memP_iff.2 (by rw [show ((x.toNat : Nat) : Int) = x by omega]; exact hx), ?_⟩
  have := (H9_ h ht (i := x.toNat) (by omega)).1
  omega
 ·rintro ⟨i, hi, hp, rfl⟩
  refine ⟨i, memP_iff.1 hp, ?_⟩
  rw [show ((i : Nat) : Int).toNat = i from rfl, (H9_ h ht hi).1]
theorem Zx9 {m : Mat} {s : List Int} (h : chk m = 0) (ht : m.t = 5 ∨ m.t = 6) (hs : InN (nN m) s) : InN (nN (inn m)) (imgM m s) := by
 obtain ⟨h1, h2⟩ := W4_ h ht
 have hb : ∀ x ∈ imgM m s, 0 ≤ x ∧ x < (nN (inn m) : Int) := fun x hx => by
  obtain ⟨z, hz, rfl⟩ := List.mem_map.1 hx
  have := hs.2 z hz
  exact h1.2 _ (C0_ 0 (by omega))
 refine ⟨⟨?_, fun x hx => ?_⟩, hb⟩
 ·unfold imgM
  rw [List.pairwise_map]
  refine hs.1.1.imp_of_mem fun {a b} ha hb hab => ?_
  have ha := hs.2 a ha
  have hb := hs.2 b hb
  have := List.pairwise_iff_getElem.1 h1.1.1 a.toNat b.toNat (by omega) (by omega) (by omega)
  rw [show (stayL m).getD a.toNat 0 = (stayL m)[a.toNat]'(by omega) by simp [List.getD, show a.toNat < (stayL m).length by omega], show (stayL m).getD b.toNat 0 = (stayL m)[b.toNat]'(by omega) by simp [List.getD, show b.toNat < (stayL m).length by omega]]
  exact this
 ·have := hb x hx
  obtain ⟨_, h3, _⟩ := J0_ h (by omega)
  have := Z8_ h3
  exact ⟨(hb x hx).1, by unfold nN at *; omega⟩
theorem Yo5 {f : Mat → (Nat → Bool) → Nat} : ∀ {l : List Mat}, (∀ x ∈ l, Rk (nN x) (f x)) → Rk ((l.map nN).sum) (sumR f l)
 | [], _ => ⟨fun _ => rfl, rfl, fun h => absurd h (by simp), fun h => absurd h (by simp), fun h => absurd h (by simp)⟩
 | x :: r, h => by
  rw [List.map_cons, List.sum_cons]
  exact Vy7 (h x (by simp)) (Yo5 fun y hy => h y (by simp [hy]))
theorem Xp9 {l : List Mat} (h : ∀ x ∈ l, 0 ≤ x.n ∧ x.n ≤ 64) (hl : l.length ≤ 10) : (((l.map nN).sum : Nat) : Int) = tog l := by
 have key : ∀ (j : Nat), j ≤ l.length → ((((l.take j).map nN).sum : Nat) : Int) = tog (l.take j) := by
  intro j
  induction j with
  | zero => intro _; simp [tog]
  | succ j ih =>
   intro hj
   have ih := ih (by omega)
   have hb := Xi5 (l := l.take j) (fun x hx => h x (List.mem_of_mem_take hx)) (by rw [List.length_take]; omega)
   rw [List.length_take] at hb
   have hx := h _ (List.getElem_mem (show j < l.length by omega))
   rw [List.take_succ_eq_append_getElem (by omega), Xa1, D8_ (by omega) (by omega), ← ih, List.map_append, List.sum_append]
   simp only [List.map_cons, List.map_nil, List.sum_cons, List.sum_nil]
   unfold nN
   omega
 have := key l.length (Nat.le_refl _)
 rwa [List.take_length] at this
theorem Zf6 {m : Mat} (h : chk m = 0) (ht : m.t = 9) : (m.i.map nN).sum = nN m ∧ m.i.length ≤ 8 := by
 have h3 := (takes_iff.1 (X0_ (Y4_ h)).2.2.1).2.2.2
 rw [ht] at h3
 have e2 : (m.i.length : Int) ≤ 8 := h3.2
 have h4 := (X0_ (Y4_ h)).2.2.2
 rw [R9_ (by omega), decide_eq_true_iff] at h4
 have := Xp9 (l := m.i) (fun x hx => chk_n (X4_ h hx).1) (by omega)
 have := Z8_ h
 omega
theorem rk_ok : ∀ (k : Nat) (m : Mat), chk m = 0 → dp 4 m ≤ k → Rk (nN m) (rkP k m)
 | 0, m, _, hd => absurd hd (by have := Zz8 4 m; omega)
 | k + 1, m, h, hd => by
  have htag := Zf5 h
  have hcong : ∀ {n : Nat} {f g : (Nat → Bool) → Nat}, (∀ P, f P = g P) → Rk n g → Rk n f := fun {n f g} e h => by rw [show f = g from funext e]; exact h
  rcases (by omega : m.t = 0 ∨ m.t = 1 ∨ m.t = 2 ∨ m.t = 3 ∨ m.t = 4 ∨ m.t = 5 ∨ m.t = 6 ∨ m.t = 7 ∨ m.t = 8 ∨ m.t = 9) with ht | ht | ht | ht | ht | ht | ht | ht | ht | ht
  ·exact hcong (fun P => rkP_0 ht) (Yv5 (F8_ _) _)
  ·refine hcong (fun P => rkP_1 ht) (Xj7 fun i hi => ?_)
   obtain ⟨_, h1, h2⟩ := K4_ h ht
   have := Z8_ h
   obtain ⟨e1, e2⟩ := h2 i (by omega)
   have a := e2 0 (by omega)
   have b := e2 1 (by omega)
   unfold edgOf
   constructor
   ·show ((m.l.getD i []).getD 0 0).toNat < m.a.toNat; omega
   ·show ((m.l.getD i []).getD 1 0).toNat < m.a.toNat; omega
  ·refine hcong (fun P => rkP_2 ht) (Zs8 fun i hi => ?_)
   obtain ⟨_, h1, _, h3, _⟩ := W3_ h ht
   have := Z8_ h
   have := h3 i (by omega)
   unfold clsOf
   omega
  ·exact hcong (fun P => rkP_3 ht) (Zk5 _ _ _)
  ·have := (Zt7 h ht).2
   unfold elimB at this
   simp only [Bool.and_eq_true] at this
   exact hcong (fun P => rkP_4 ht) (Vy8 (L.fld_ok this.1.1.1) _)
  ·obtain ⟨_, h2, h3⟩ := J0_ h (by omega)
   have ih := rk_ok k (inn m) h2 (by omega)
   refine hcong (fun P => ?_) (Xh9 ih (k := nN m) (fun i j hi hj e => Zm0 h (.inl ht) hi hj e) (fun i hi => (H9_ h (.inl ht) hi).2) noneP (fun _ _ => rfl))
   rw [rkP_5 ht, ih.zero, Nat.sub_zero, show orP noneP (imgP (nN m) (stayN m) P) = imgP (nN m) (stayN m) P from by funext i; simp [orP, noneP]]
  ·obtain ⟨_, h2, h3⟩ := J0_ h (by omega)
   have ih := rk_ok k (inn m) h2 (by omega)
   exact hcong (fun P => rkP_6 ht) (Xh9 ih (k := nN m) (fun i j hi hj e => Zm0 h (.inr ht) hi hj e) (fun i hi => (H9_ h (.inr ht) hi).2) (memP (row m 0)) (fun i hi => Zm1 h ht hi))
  ·obtain ⟨_, h2, h3⟩ := J0_ h (by omega)
   have ih := rk_ok k (inn m) h2 (by omega)
   have e : nN m = nN (inn m) := by unfold nN; rw [F3_ h (.inl ht)]
   rw [e]
   exact hcong (fun P => rkP_7 ht) (Yv5 ih _)
  ·obtain ⟨_, h2, h3⟩ := J0_ h (by omega)
   have ih := rk_ok k (inn m) h2 (by omega)
   have e : nN m = nN (inn m) := by unfold nN; rw [F3_ h (.inr ht)]
   rw [e]
   exact hcong (fun P => by rw [rkP_8 ht, e]) (Xo7 ih)
  ·have ih : ∀ x ∈ m.i, Rk (nN x) (rkP k x) := fun x hx => rk_ok k x (X4_ h hx).1 (by have := (X4_ h hx).2; omega)
   rw [← (Zf6 h ht).1]
   exact hcong (fun P => rkP_9 (by omega)) (Yo5 ih)
end Go.Proofs.YtgadbnbhgpehjaaGreatDoor.Wp
