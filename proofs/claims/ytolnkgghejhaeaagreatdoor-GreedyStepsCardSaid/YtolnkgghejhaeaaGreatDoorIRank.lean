/- The rank of a set of elements of a matroid, plain: it is a rank; sets as lists and as properties. -/
import Derived.Test.YtolnkgghejhaeaaGreatDoorQPartsP
import Derived.Test.YtolnkgghejhaeaaGreatDoorZP
import Derived.Test.YtolnkgghejhaeaaGreatDoorZL
namespace Go.Proofs.YtolnkgghejhaeaaGreatDoor.Wp
open Go Go.RowKit

/-! ### Sets as properties -/
def memP (s : List Int) : Nat → Bool := fun i => s.contains (i : Int)
/-- A set of numbers below n. -/
def InN (n : Nat) (s : List Int) : Prop := IsSet s ∧ ∀ x ∈ s, 0 ≤ x ∧ x < (n : Int)
theorem memP_iff {s : List Int} {i : Nat} : memP s i = true ↔ (i : Int) ∈ s := by unfold memP; exact List.contains_iff_mem
theorem memP_nil : memP [] = noneP := by funext i; rfl
theorem inN_sub {n : Int} {s : List Int} (h0 : 0 ≤ n) (h1 : n ≤ 64) : subB s (allL n) = true ↔ InN n.toNat s := by
  constructor
  · intro h
    obtain ⟨h2, _, h3⟩ := subB_iff.1 h
    exact ⟨h2, fun x hx => by have := (mem_all h0 (by omega) x).1 (h3 x hx); omega⟩
  · rintro ⟨h2, h3⟩
    exact sub_all h0 h1 h2 fun x hx => by have := h3 x hx; omega
theorem cast_sorted {l : List Nat} (h : l.Pairwise (· < ·)) : (l.map fun i : Nat => (i : Int)).Pairwise (· < ·) := by
  rw [List.pairwise_map]
  exact h.imp fun h => by omega
theorem range_sorted (n : Nat) : (List.range n).Pairwise (· < ·) := List.pairwise_lt_range
theorem pick_sorted (n : Nat) (P : Nat → Bool) : (pickN n P).Pairwise (· < ·) := (range_sorted n).sublist List.filter_sublist
/-- A set's numbers, one by one. -/
theorem pick_cast {n : Nat} {s : List Int} (h : InN n s) : (pickN n (memP s)).map (fun i : Nat => (i : Int)) = s := by
  refine set_ext (cast_sorted (pick_sorted n _)) h.1.1 fun x => ?_
  rw [List.mem_map]
  constructor
  · rintro ⟨i, hi, rfl⟩
    exact memP_iff.1 (mem_pick.1 hi).2
  · intro hx
    have := h.2 x hx
    refine ⟨x.toNat, mem_pick.2 ⟨by omega, memP_iff.2 ?_⟩, by omega⟩
    rw [show ((x.toNat : Nat) : Int) = x by omega]
    exact hx
theorem map_pick {α : Type} {n : Nat} {s : List Int} (h : InN n s) (f : Nat → α) : s.map (fun x => f x.toNat) = (pickN n (memP s)).map f := by
  conv => lhs; rw [← pick_cast h]
  rw [List.map_map]
  rfl
theorem len_cnt {n : Nat} {s : List Int} (h : InN n s) : s.length = cnt (memP s) n := by
  conv => lhs; rw [← pick_cast h]
  rw [List.length_map]
  rfl
theorem memP_union {a b : List Int} (ha : IsSet a) (hb : IsSet b) : memP (unionL a b) = orP (memP a) (memP b) := by
  funext i
  rw [Bool.eq_iff_iff]
  unfold orP
  rw [Bool.or_eq_true, memP_iff, memP_iff, memP_iff, mem_union ha hb]
theorem memP_meet {a b : List Int} (ha : IsSet a) (hb : IsSet b) : memP (meetL a b) = andP (memP a) (memP b) := by
  funext i
  rw [Bool.eq_iff_iff]
  unfold andP
  rw [Bool.and_eq_true, memP_iff, memP_iff, memP_iff, mem_meet ha hb]
theorem memP_all {n : Int} (h0 : 0 ≤ n) (h1 : n ≤ 64) {i : Nat} (hi : i < n.toNat) : memP (allL n) i = true := memP_iff.2 ((mem_all h0 (by omega) _).2 (by omega))
theorem memP_rest {n : Int} {s : List Int} (h0 : 0 ≤ n) (h1 : n ≤ 64) (hs : IsSet s) {i : Nat} (hi : i < n.toNat) : memP (minusL (allL n) s) i = notP (memP s) i := by
  rw [Bool.eq_iff_iff, memP_iff, mem_minus (all_set n) hs]
  unfold notP
  rw [Bool.not_eq_true', ← Bool.not_eq_true, memP_iff]
  exact ⟨fun h => h.2, fun h => ⟨(mem_all h0 (by omega) _).2 (by omega), h⟩⟩
theorem inN_all {n : Int} (h0 : 0 ≤ n) (h1 : n ≤ 64) : InN n.toNat (allL n) := ⟨all_set n, fun x hx => by have := (mem_all h0 (by omega) x).1 hx; omega⟩
theorem inN_rest {n : Int} {s : List Int} (h0 : 0 ≤ n) (h1 : n ≤ 64) (hs : IsSet s) : InN n.toNat (minusL (allL n) s) :=
  ⟨minus_set _ _, fun x hx => (inN_all h0 h1).2 x ((mem_minus (all_set n) hs x).1 hx).1⟩
theorem inN_union {n : Nat} {a b : List Int} (ha : InN n a) (hb : InN n b) : InN n (unionL a b) :=
  ⟨union_set a b, fun x hx => ((mem_union ha.1 hb.1 x).1 hx).elim (ha.2 x) (hb.2 x)⟩
theorem inN_meet {n : Nat} {a b : List Int} (ha : InN n a) (hb : InN n b) : InN n (meetL a b) :=
  ⟨meet_set a b, fun x hx => ha.2 x ((mem_meet ha.1 hb.1 x).1 hx).1⟩
theorem inN_minus {n : Nat} {a b : List Int} (ha : InN n a) (hb : InN n b) : InN n (minusL a b) :=
  ⟨minus_set a b, fun x hx => ha.2 x ((mem_minus ha.1 hb.1 x).1 hx).1⟩
theorem inN_nil (n : Nat) : InN n [] := ⟨isSet_nil, fun x hx => absurd hx (by simp)⟩

/-! ### What a matroid has -/
def nN (m : Mat) : Nat := m.n.toNat
def edgOf (m : Mat) (i : Nat) : Nat × Nat := (((m.l.getD i []).getD 0 0).toNat, ((m.l.getD i []).getD 1 0).toNat)
def clsOf (m : Mat) (i : Nat) : Nat := ((row m 0).getD i 0).toNat
def mostOf (m : Mat) (c : Nat) : Nat := ((row m 1).getD c 0).toNat
def goesOf (m : Mat) (i r : Nat) : Prop := (r : Int) ∈ m.l.getD i []
def colOf (m : Mat) (i : Nat) : Nat → Int := L.vec (m.l.getD i [])
def stayN (m : Mat) (i : Nat) : Nat := ((stayL m).getD i 0).toNat
def sumR (f : Mat → (Nat → Bool) → Nat) : List Mat → (Nat → Bool) → Nat
  | [], _ => 0
  | x :: r, P => f x P + sumR f r (fun i => P (nN x + i))
noncomputable def rkP : Nat → Mat → (Nat → Bool) → Nat
  | 0, _, _ => 0
  | k + 1, m, P =>
    if m.t = 0 then min m.a.toNat (cnt P (nN m))
    else if m.t = 1 then graphR m.a.toNat (nN m) (edgOf m) P
    else if m.t = 2 then partR m.a.toNat (nN m) (clsOf m) (mostOf m) P
    else if m.t = 3 then covR (nN m) m.a.toNat (goesOf m) P
    else if m.t = 4 then linR m.b m.a.toNat (nN m) (colOf m) P
    else if m.t = 5 then rkP k (inn m) (imgP (nN m) (stayN m) P)
    else if m.t = 6 then rkP k (inn m) (orP (memP (row m 0)) (imgP (nN m) (stayN m) P)) - rkP k (inn m) (memP (row m 0))
    else if m.t = 7 then min m.a.toNat (rkP k (inn m) P)
    else if m.t = 8 then cnt P (nN m) + rkP k (inn m) (notP P) - rkP k (inn m) allP
    else sumR (rkP k) m.i P
section
variable {k : Nat} {m : Mat} {P : Nat → Bool}
theorem rkP_0 (h : m.t = 0) : rkP (k + 1) m P = min m.a.toNat (cnt P (nN m)) := by rw [rkP, if_pos h]
theorem rkP_1 (h : m.t = 1) : rkP (k + 1) m P = graphR m.a.toNat (nN m) (edgOf m) P := by rw [rkP, if_neg (by omega), if_pos h]
theorem rkP_2 (h : m.t = 2) : rkP (k + 1) m P = partR m.a.toNat (nN m) (clsOf m) (mostOf m) P := by rw [rkP, if_neg (by omega), if_neg (by omega), if_pos h]
theorem rkP_3 (h : m.t = 3) : rkP (k + 1) m P = covR (nN m) m.a.toNat (goesOf m) P := by rw [rkP, if_neg (by omega), if_neg (by omega), if_neg (by omega), if_pos h]
theorem rkP_4 (h : m.t = 4) : rkP (k + 1) m P = linR m.b m.a.toNat (nN m) (colOf m) P := by rw [rkP, if_neg (by omega), if_neg (by omega), if_neg (by omega), if_neg (by omega), if_pos h]
theorem rkP_5 (h : m.t = 5) : rkP (k + 1) m P = rkP k (inn m) (imgP (nN m) (stayN m) P) := by rw [rkP, if_neg (by omega), if_neg (by omega), if_neg (by omega), if_neg (by omega), if_neg (by omega), if_pos h]
theorem rkP_6 (h : m.t = 6) : rkP (k + 1) m P = rkP k (inn m) (orP (memP (row m 0)) (imgP (nN m) (stayN m) P)) - rkP k (inn m) (memP (row m 0)) := by rw [rkP, if_neg (by omega), if_neg (by omega), if_neg (by omega), if_neg (by omega), if_neg (by omega), if_neg (by omega), if_pos h]
theorem rkP_7 (h : m.t = 7) : rkP (k + 1) m P = min m.a.toNat (rkP k (inn m) P) := by rw [rkP, if_neg (by omega), if_neg (by omega), if_neg (by omega), if_neg (by omega), if_neg (by omega), if_neg (by omega), if_neg (by omega), if_pos h]
theorem rkP_8 (h : m.t = 8) : rkP (k + 1) m P = cnt P (nN m) + rkP k (inn m) (notP P) - rkP k (inn m) allP := by rw [rkP, if_neg (by omega), if_neg (by omega), if_neg (by omega), if_neg (by omega), if_neg (by omega), if_neg (by omega), if_neg (by omega), if_neg (by omega), if_pos h]
theorem rkP_9 (h : 9 ≤ m.t) : rkP (k + 1) m P = sumR (rkP k) m.i P := by rw [rkP, if_neg (by omega), if_neg (by omega), if_neg (by omega), if_neg (by omega), if_neg (by omega), if_neg (by omega), if_neg (by omega), if_neg (by omega), if_neg (by omega)]
end

/-! ### What may be, kind by kind -/
theorem chk_tag {m : Mat} (h : chk m = 0) : 0 ≤ m.t ∧ m.t < 10 := (bad_zero (chk_zero_bad h)).1
theorem chk_a {m : Mat} (h : chk m = 0) : 0 ≤ m.a ∧ m.a ≤ 64 := by have := (bad_zero (chk_zero_bad h)).2.1; omega
theorem nN_cast {m : Mat} (h : chk m = 0) : (nN m : Int) = m.n ∧ nN m ≤ 64 := by have := chk_n h; unfold nN; omega
theorem getD_of {α : Type} {l : List α} {i : Nat} (d : α) (h : i < l.length) : l.getD i d ∈ l := by
  rw [show l.getD i d = l[i] by simp [List.getD, h]]
  exact List.getElem_mem h
theorem nums_in {l : List Int} {many below : Int} (h : numsB l many below = true) : (l.length : Int) = many ∧ ∀ i, i < l.length → 0 ≤ l.getD i 0 ∧ l.getD i 0 < below := by
  unfold numsB at h
  rw [Bool.and_eq_true, decide_eq_true_iff, Bool.not_eq_true', List.any_eq_false] at h
  refine ⟨h.1, fun i hi => ?_⟩
  have := h.2 _ (getD_of 0 hi)
  unfold outB at this
  rw [decide_eq_true_iff] at this
  omega
/-- A kind that has none within. -/
theorem chk_graph {m : Mat} (h : chk m = 0) (ht : m.t = 1) : 1 ≤ m.a ∧ (m.l.length : Int) = m.n ∧ ∀ i, i < m.l.length → ((m.l.getD i []).length : Int) = 2 ∧ ∀ j, j < (m.l.getD i []).length → 0 ≤ (m.l.getD i []).getD j 0 ∧ (m.l.getD i []).getD j 0 < m.a := by
  obtain ⟨_, _, h3, h4⟩ := bad_zero (chk_zero_bad h)
  have hl := (takes_iff.1 h3).2.2.1
  rw [ht] at hl
  have hl' : (m.l.length : Int) = m.n := hl
  have hf : fitsB m = (decide (1 ≤ m.a) && !m.l.any (edgeB m.a)) := by
    unfold fitsB
    rw [if_neg (by omega), if_pos ht]
  rw [hf, Bool.and_eq_true, decide_eq_true_iff, Bool.not_eq_true', List.any_eq_false] at h4
  refine ⟨h4.1, hl', fun i hi => ?_⟩
  have := h4.2 _ (getD_of [] hi)
  unfold edgeB at this
  have hn : numsB (m.l.getD i []) 2 m.a = true := by
    cases hb : numsB (m.l.getD i []) 2 m.a
    · rw [hb] at this; exact absurd rfl this
    · rfl
  exact nums_in hn
theorem chk_part {m : Mat} (h : chk m = 0) (ht : m.t = 2) : m.l.length = 2 ∧ ((row m 0).length : Int) = m.n ∧ ((row m 1).length : Int) = m.a ∧ (∀ i, i < (row m 0).length → 0 ≤ (row m 0).getD i 0 ∧ (row m 0).getD i 0 < m.a) ∧ ∀ i, i < (row m 1).length → 0 ≤ (row m 1).getD i 0 ∧ (row m 1).getD i 0 < 65 := by
  obtain ⟨_, _, h3, h4⟩ := bad_zero (chk_zero_bad h)
  have hl := (takes_iff.1 h3).2.2.1
  rw [ht] at hl
  have hl' : (m.l.length : Int) = 2 := hl
  have hf : fitsB m = (numsB (row m 0) m.n m.a && numsB (row m 1) m.a 65) := by
    unfold fitsB
    rw [if_neg (by omega), if_neg (by omega), if_pos ht]
  rw [hf, Bool.and_eq_true] at h4
  have a := nums_in h4.1
  have b := nums_in h4.2
  exact ⟨by omega, a.1, b.1, a.2, b.2⟩
theorem chk_trans {m : Mat} (h : chk m = 0) (ht : m.t = 3) : (m.l.length : Int) = m.n ∧ mayM m.a m.l = true := by
  obtain ⟨_, _, h3, h4⟩ := bad_zero (chk_zero_bad h)
  have hl := (takes_iff.1 h3).2.2.1
  rw [ht] at hl
  have hf : fitsB m = mayM m.a m.l := by
    unfold fitsB
    rw [if_neg (by omega), if_neg (by omega), if_neg (by omega), if_pos ht]
  rw [hf] at h4
  exact ⟨hl, h4⟩
theorem chk_lin {m : Mat} (h : chk m = 0) (ht : m.t = 4) : (m.l.length : Int) = m.n ∧ elimB m.b m.a m.l = true := by
  obtain ⟨_, _, h3, h4⟩ := bad_zero (chk_zero_bad h)
  have hl := (takes_iff.1 h3).2.2.1
  rw [ht] at hl
  have hf : fitsB m = elimB m.b m.a m.l := by
    unfold fitsB
    rw [if_neg (by omega), if_neg (by omega), if_neg (by omega), if_neg (by omega), if_pos ht]
  rw [hf] at h4
  exact ⟨hl, h4⟩
/-- What has one within. -/
theorem chk_one {m : Mat} (h : chk m = 0) (ht : 5 ≤ m.t ∧ m.t ≤ 8) : m.i = [inn m] ∧ chk (inn m) = 0 ∧ dp 4 (inn m) < dp 4 m := by
  have h3 := (takes_iff.1 (bad_zero (chk_zero_bad h)).2.2.1).2.2.2
  have hlen : m.i.length = 1 := by
    rcases (by omega : m.t = 5 ∨ m.t = 6 ∨ m.t = 7 ∨ m.t = 8) with e | e | e | e
    all_goals
      rw [e] at h3
      have e1 : (1 : Int) ≤ (m.i.length : Int) := h3.1
      have e2 : (m.i.length : Int) ≤ 1 := h3.2
      omega
  have hm := inn_mem (m := m) (by omega)
  obtain ⟨x, hx⟩ := List.length_eq_one_iff.1 hlen
  refine ⟨?_, (within h hm).1, (within h hm).2⟩
  rw [hx] at hm ⊢
  rw [List.mem_singleton.1 hm]
theorem chk_same {m : Mat} (h : chk m = 0) (ht : m.t = 7 ∨ m.t = 8) : m.n = (inn m).n := by
  obtain ⟨h1, h2, _⟩ := chk_one h (by omega)
  have h4 := (bad_zero (chk_zero_bad h)).2.2.2
  rw [fits_seven (by omega), decide_eq_true_iff, h1, tog_one _ h2] at h4
  exact h4
theorem chk_row {m : Mat} (h : chk m = 0) (ht : m.t = 5 ∨ m.t = 6) : InN (nN (inn m)) (row m 0) := by
  obtain ⟨_, h2, _⟩ := chk_one h (by omega)
  have hn := chk_n h2
  have h4 := (bad_zero (chk_zero_bad h)).2.2.2
  have hp : partB m = true := by
    rcases ht with e | e
    · have hf : fitsB m = (partB m && decide (m.n = (row m 0).length)) := by
        unfold fitsB
        rw [if_neg (by omega), if_neg (by omega), if_neg (by omega), if_neg (by omega), if_neg (by omega), if_pos e]
      rw [hf, Bool.and_eq_true] at h4
      exact h4.1
    · have hf : fitsB m = (partB m && decide (IntKind.i64.wrap (m.n + (row m 0).length) = (inn m).n)) := by
        unfold fitsB
        rw [if_neg (by omega), if_neg (by omega), if_neg (by omega), if_neg (by omega), if_neg (by omega), if_neg (by omega), if_pos e]
      rw [hf, Bool.and_eq_true] at h4
      exact h4.1
  exact (inN_sub hn.1 hn.2).1 hp
theorem chk_stay {m : Mat} (h : chk m = 0) (ht : m.t = 5 ∨ m.t = 6) : InN (nN (inn m)) (stayL m) ∧ (stayL m).length = nN m := by
  obtain ⟨_, h2, _⟩ := chk_one h (by omega)
  have hn := chk_n h2
  have hr := chk_row h ht
  refine ⟨?_, by have := stay_len h ht; have := nN_cast h; omega⟩
  unfold stayL
  split
  · exact inN_rest hn.1 hn.2 hr.1
  · exact hr
theorem stayN_at {m : Mat} (h : chk m = 0) (ht : m.t = 5 ∨ m.t = 6) {i : Nat} (hi : i < nN m) : ((stayN m i : Nat) : Int) = (stayL m).getD i 0 ∧ stayN m i < nN (inn m) := by
  obtain ⟨h1, h2⟩ := chk_stay h ht
  have := h1.2 _ (getD_of 0 (show i < (stayL m).length by omega))
  unfold stayN
  omega
theorem stayN_inj {m : Mat} (h : chk m = 0) (ht : m.t = 5 ∨ m.t = 6) {i j : Nat} (hi : i < nN m) (hj : j < nN m) (e : stayN m i = stayN m j) : i = j := by
  obtain ⟨h1, h2⟩ := chk_stay h ht
  have a := (stayN_at h ht hi).1
  have b := (stayN_at h ht hj).1
  have hp := List.pairwise_iff_getElem.1 h1.1.1
  have ga : (stayL m).getD i 0 = (stayL m)[i]'(by omega) := by simp [List.getD, show i < (stayL m).length by omega]
  have gb : (stayL m).getD j 0 = (stayL m)[j]'(by omega) := by simp [List.getD, show j < (stayL m).length by omega]
  rcases Nat.lt_trichotomy i j with c | c | c
  · have := hp i j (by omega) (by omega) c; omega
  · exact c
  · have := hp j i (by omega) (by omega) c; omega
theorem stayN_out {m : Mat} (h : chk m = 0) (ht : m.t = 6) {i : Nat} (hi : i < nN m) : memP (row m 0) (stayN m i) = false := by
  obtain ⟨h1, h2⟩ := chk_stay h (.inr ht)
  have hr := chk_row h (.inr ht)
  have a := stayN_at h (.inr ht) hi
  have hm := getD_of 0 (show i < (stayL m).length by omega)
  rw [← a.1] at hm
  rw [show stayL m = minusL (allL (inn m).n) (row m 0) from if_pos ht] at hm
  rw [← Bool.not_eq_true, memP_iff]
  exact ((mem_minus (all_set _) hr.1 _).1 hm).2
/-- The image, as a property; as a list. -/
theorem memP_img {m : Mat} {s : List Int} (h : chk m = 0) (ht : m.t = 5 ∨ m.t = 6) (hs : InN (nN m) s) : memP (imgM m s) = imgP (nN m) (stayN m) (memP s) := by
  funext y
  rw [Bool.eq_iff_iff, memP_iff, imgP_iff]
  unfold imgM
  rw [List.mem_map]
  constructor
  · rintro ⟨x, hx, e⟩
    have := hs.2 x hx
    refine ⟨x.toNat, by omega, memP_iff.2 (by rw [show ((x.toNat : Nat) : Int) = x by omega]; exact hx), ?_⟩
    have := (stayN_at h ht (i := x.toNat) (by omega)).1
    omega
  · rintro ⟨i, hi, hp, rfl⟩
    refine ⟨i, memP_iff.1 hp, ?_⟩
    rw [show ((i : Nat) : Int).toNat = i from rfl, (stayN_at h ht hi).1]
theorem inN_img {m : Mat} {s : List Int} (h : chk m = 0) (ht : m.t = 5 ∨ m.t = 6) (hs : InN (nN m) s) : InN (nN (inn m)) (imgM m s) := by
  obtain ⟨h1, h2⟩ := chk_stay h ht
  have hb : ∀ x ∈ imgM m s, 0 ≤ x ∧ x < (nN (inn m) : Int) := fun x hx => by
    obtain ⟨z, hz, rfl⟩ := List.mem_map.1 hx
    have := hs.2 z hz
    exact h1.2 _ (getD_of 0 (by omega))
  refine ⟨⟨?_, fun x hx => ?_⟩, hb⟩
  · unfold imgM
    rw [List.pairwise_map]
    refine hs.1.1.imp_of_mem fun {a b} ha hb hab => ?_
    have ha := hs.2 a ha
    have hb := hs.2 b hb
    have := List.pairwise_iff_getElem.1 h1.1.1 a.toNat b.toNat (by omega) (by omega) (by omega)
    rw [show (stayL m).getD a.toNat 0 = (stayL m)[a.toNat]'(by omega) by simp [List.getD, show a.toNat < (stayL m).length by omega], show (stayL m).getD b.toNat 0 = (stayL m)[b.toNat]'(by omega) by simp [List.getD, show b.toNat < (stayL m).length by omega]]
    exact this
  · have := hb x hx
    obtain ⟨_, h3, _⟩ := chk_one h (by omega)
    have := nN_cast h3
    exact ⟨(hb x hx).1, by unfold nN at *; omega⟩

/-! ### It is a rank -/
theorem rk_sums {f : Mat → (Nat → Bool) → Nat} : ∀ {l : List Mat}, (∀ x ∈ l, Rk (nN x) (f x)) → Rk ((l.map nN).sum) (sumR f l)
  | [], _ => ⟨fun _ => rfl, rfl, fun h => absurd h (by simp), fun h => absurd h (by simp), fun h => absurd h (by simp)⟩
  | x :: r, h => by
    rw [List.map_cons, List.sum_cons]
    exact rk_sum (h x (by simp)) (rk_sums fun y hy => h y (by simp [hy]))
theorem sum_tog {l : List Mat} (h : ∀ x ∈ l, 0 ≤ x.n ∧ x.n ≤ 64) (hl : l.length ≤ 10) : (((l.map nN).sum : Nat) : Int) = tog l := by
  have key : ∀ (j : Nat), j ≤ l.length → ((((l.take j).map nN).sum : Nat) : Int) = tog (l.take j) := by
    intro j
    induction j with
    | zero => intro _; simp [tog]
    | succ j ih =>
      intro hj
      have ih := ih (by omega)
      have hb := tog_le (l := l.take j) (fun x hx => h x (List.mem_of_mem_take hx)) (by rw [List.length_take]; omega)
      rw [List.length_take] at hb
      have hx := h _ (List.getElem_mem (show j < l.length by omega))
      rw [List.take_succ_eq_append_getElem (by omega), tog_snoc, wrap_small (by omega) (by omega), ← ih, List.map_append, List.sum_append]
      simp only [List.map_cons, List.map_nil, List.sum_cons, List.sum_nil]
      unfold nN
      omega
  have := key l.length (Nat.le_refl _)
  rwa [List.take_length] at this
theorem chk_sum {m : Mat} (h : chk m = 0) (ht : m.t = 9) : (m.i.map nN).sum = nN m ∧ m.i.length ≤ 8 := by
  have h3 := (takes_iff.1 (bad_zero (chk_zero_bad h)).2.2.1).2.2.2
  rw [ht] at h3
  have e2 : (m.i.length : Int) ≤ 8 := h3.2
  have h4 := (bad_zero (chk_zero_bad h)).2.2.2
  rw [fits_seven (by omega), decide_eq_true_iff] at h4
  have := sum_tog (l := m.i) (fun x hx => chk_n (within h hx).1) (by omega)
  have := nN_cast h
  omega
theorem rk_ok : ∀ (k : Nat) (m : Mat), chk m = 0 → dp 4 m ≤ k → Rk (nN m) (rkP k m)
  | 0, m, _, hd => absurd hd (by have := dp_pos 4 m; omega)
  | k + 1, m, h, hd => by
    have htag := chk_tag h
    have hcong : ∀ {n : Nat} {f g : (Nat → Bool) → Nat}, (∀ P, f P = g P) → Rk n g → Rk n f := fun {n f g} e h => by rw [show f = g from funext e]; exact h
    rcases (by omega : m.t = 0 ∨ m.t = 1 ∨ m.t = 2 ∨ m.t = 3 ∨ m.t = 4 ∨ m.t = 5 ∨ m.t = 6 ∨ m.t = 7 ∨ m.t = 8 ∨ m.t = 9) with ht | ht | ht | ht | ht | ht | ht | ht | ht | ht
    · exact hcong (fun P => rkP_0 ht) (rk_trunc (rk_free _) _)
    · refine hcong (fun P => rkP_1 ht) (rk_graph fun i hi => ?_)
      obtain ⟨_, h1, h2⟩ := chk_graph h ht
      have := nN_cast h
      obtain ⟨e1, e2⟩ := h2 i (by omega)
      have a := e2 0 (by omega)
      have b := e2 1 (by omega)
      unfold edgOf
      constructor
      · show ((m.l.getD i []).getD 0 0).toNat < m.a.toNat; omega
      · show ((m.l.getD i []).getD 1 0).toNat < m.a.toNat; omega
    · refine hcong (fun P => rkP_2 ht) (rk_part fun i hi => ?_)
      obtain ⟨_, h1, _, h3, _⟩ := chk_part h ht
      have := nN_cast h
      have := h3 i (by omega)
      unfold clsOf
      omega
    · exact hcong (fun P => rkP_3 ht) (rk_cov _ _ _)
    · have := (chk_lin h ht).2
      unfold elimB at this
      simp only [Bool.and_eq_true] at this
      exact hcong (fun P => rkP_4 ht) (rk_lin (L.fld_ok this.1.1.1) _)
    · obtain ⟨_, h2, h3⟩ := chk_one h (by omega)
      have ih := rk_ok k (inn m) h2 (by omega)
      refine hcong (fun P => ?_) (rk_map ih (k := nN m) (fun i j hi hj e => stayN_inj h (.inl ht) hi hj e) (fun i hi => (stayN_at h (.inl ht) hi).2) noneP (fun _ _ => rfl))
      rw [rkP_5 ht, ih.zero, Nat.sub_zero, show orP noneP (imgP (nN m) (stayN m) P) = imgP (nN m) (stayN m) P from by funext i; simp [orP, noneP]]
    · obtain ⟨_, h2, h3⟩ := chk_one h (by omega)
      have ih := rk_ok k (inn m) h2 (by omega)
      exact hcong (fun P => rkP_6 ht) (rk_map ih (k := nN m) (fun i j hi hj e => stayN_inj h (.inr ht) hi hj e) (fun i hi => (stayN_at h (.inr ht) hi).2) (memP (row m 0)) (fun i hi => stayN_out h ht hi))
    · obtain ⟨_, h2, h3⟩ := chk_one h (by omega)
      have ih := rk_ok k (inn m) h2 (by omega)
      have e : nN m = nN (inn m) := by unfold nN; rw [chk_same h (.inl ht)]
      rw [e]
      exact hcong (fun P => rkP_7 ht) (rk_trunc ih _)
    · obtain ⟨_, h2, h3⟩ := chk_one h (by omega)
      have ih := rk_ok k (inn m) h2 (by omega)
      have e : nN m = nN (inn m) := by unfold nN; rw [chk_same h (.inr ht)]
      rw [e]
      exact hcong (fun P => by rw [rkP_8 ht, e]) (rk_dual ih)
    · have ih : ∀ x ∈ m.i, Rk (nN x) (rkP k x) := fun x hx => rk_ok k x (within h hx).1 (by have := (within h hx).2; omega)
      rw [← (chk_sum h ht).1]
      exact hcong (fun P => rkP_9 (by omega)) (rk_sums ih)

end Go.Proofs.YtolnkgghejhaeaaGreatDoor.Wp
