/- Sets of numbers as lists, plain: what layer 2's calls answer, and that sets are an algebra. Nothing of the program here. -/
import Derived.Lib.SlicesCompact
import Derived.Test.YtimmmfppehmfcaaGreatDoorProg
namespace Go.Proofs.YtimmmfppehmfcaaGreatDoor.Wp

def Fit (x : Int) : Prop := 0 ≤ x ∧ x ≤ 1099511627776
instance (x : Int) : Decidable (Fit x) := inferInstanceAs (Decidable (_ ∧ _))
/-- A set: numbers from 0 to 2^40 that rise. -/
def IsSet (l : List Int) : Prop := l.Pairwise (· < ·) ∧ ∀ x ∈ l, Fit x
instance (l : List Int) : Decidable (IsSet l) := inferInstanceAs (Decidable (_ ∧ _))
def mayB (l : List Int) : Bool := decide (IsSet l)

theorem isSet_nil : IsSet [] := ⟨List.Pairwise.nil, fun _ h => absurd h (by simp)⟩

/-- Two sets of the same members are the same. -/
theorem set_ext : ∀ {a b : List Int}, a.Pairwise (· < ·) → b.Pairwise (· < ·) → (∀ x, x ∈ a ↔ x ∈ b) → a = b
  | [], [], _, _, _ => rfl
  | [], y :: b, _, _, h => absurd ((h y).2 (by simp)) (by simp)
  | x :: a, [], _, _, h => absurd ((h x).1 (by simp)) (by simp)
  | x :: a, y :: b, ha, hb, h => by
    rw [List.pairwise_cons] at ha hb
    have hxy : x = y := by
      rcases List.mem_cons.1 ((h x).1 (by simp)) with e | hx
      · exact e
      · rcases List.mem_cons.1 ((h y).2 (by simp)) with e | hy
        · exact e.symm
        · have := hb.1 x hx
          have := ha.1 y hy
          omega
    subst hxy
    congr 1
    refine set_ext ha.2 hb.2 fun z => ⟨fun hz => ?_, fun hz => ?_⟩
    · rcases List.mem_cons.1 ((h z).1 (by simp [hz])) with e | hz'
      · have := ha.1 z hz; omega
      · exact hz'
    · rcases List.mem_cons.1 ((h z).2 (by simp [hz])) with e | hz'
      · have := hb.1 z hz; omega
      · exact hz'

theorem IsSet.ext {a b : List Int} (ha : IsSet a) (hb : IsSet b) (h : ∀ x, x ∈ a ↔ x ∈ b) : a = b := set_ext ha.1 hb.1 h
theorem IsSet.sub {a b : List Int} (h : IsSet b) (hs : a.Sublist b) : IsSet a := ⟨h.1.sublist hs, fun x hx => h.2 x (hs.subset hx)⟩
theorem IsSet.filter {a : List Int} (h : IsSet a) (p : Int → Bool) : IsSet (a.filter p) := h.sub List.filter_sublist
theorem IsSet.tail {x : Int} {a : List Int} (h : IsSet (x :: a)) : IsSet a := h.sub (List.sublist_cons_self x a)

/-- A number is laid into a set, if it isn't there. -/
def ins (x : Int) : List Int → List Int
  | [] => [x]
  | y :: r => if x < y then x :: y :: r else if x = y then y :: r else y :: ins x r
theorem mem_ins (x z : Int) : ∀ l, z ∈ ins x l ↔ z = x ∨ z ∈ l
  | [] => by simp [ins]
  | y :: r => by
    unfold ins
    split
    · simp
    · split
      · subst_vars; simp
      · simp only [List.mem_cons, mem_ins x z r]
        constructor
        · rintro (h | h | h) <;> simp [h]
        · rintro (h | h | h) <;> simp [h]
theorem ins_set (x : Int) (hx : Fit x) : ∀ l, IsSet l → IsSet (ins x l)
  | [], _ => ⟨by simp [ins], by simp [ins]; exact hx⟩
  | y :: r, h => by
    have h1 := List.pairwise_cons.1 h.1
    unfold ins
    split
    · refine ⟨List.pairwise_cons.2 ⟨fun z hz => ?_, h.1⟩, fun z hz => ?_⟩
      · rcases List.mem_cons.1 hz with e | hz'
        · omega
        · have := h1.1 z hz'; omega
      · rcases List.mem_cons.1 hz with e | hz'
        · rw [e]; exact hx
        · exact h.2 z hz'
    · split
      · exact h
      · have ih := ins_set x hx r h.tail
        refine ⟨List.pairwise_cons.2 ⟨fun z hz => ?_, ih.1⟩, fun z hz => ?_⟩
        · rcases (mem_ins x z r).1 hz with e | hz'
          · omega
          · exact h1.1 z hz'
        · rcases List.mem_cons.1 hz with e | hz'
          · rw [e]; exact h.2 y (by simp)
          · exact ih.2 z hz'

/-- The set of the numbers of a list that may be in one. -/
def sortL : List Int → List Int
  | [] => []
  | x :: r => if Fit x then ins x (sortL r) else sortL r
theorem sortL_set : ∀ l, IsSet (sortL l)
  | [] => isSet_nil
  | x :: r => by
    unfold sortL
    split
    · exact ins_set x (by assumption) _ (sortL_set r)
    · exact sortL_set r
theorem mem_sortL (z : Int) : ∀ l, z ∈ sortL l ↔ z ∈ l ∧ Fit z
  | [] => by simp [sortL]
  | x :: r => by
    unfold sortL
    split
    · next hx =>
      rw [mem_ins, mem_sortL z r, List.mem_cons]
      constructor
      · rintro (e | ⟨h, h'⟩)
        · subst e; exact ⟨.inl rfl, hx⟩
        · exact ⟨.inr h, h'⟩
      · rintro ⟨e | h, h'⟩
        · exact .inl e
        · exact .inr ⟨h, h'⟩
    · next hx =>
      rw [mem_sortL z r, List.mem_cons]
      constructor
      · rintro ⟨h, h'⟩; exact ⟨.inr h, h'⟩
      · rintro ⟨e | h, h'⟩
        · subst e; exact absurd h' hx
        · exact ⟨h, h'⟩
theorem eq_sortL {r l : List Int} (hr : IsSet r) (h : ∀ x, x ∈ r ↔ x ∈ l ∧ Fit x) : r = sortL l :=
  hr.ext (sortL_set l) fun x => by rw [h, mem_sortL]
theorem sortL_id {l : List Int} (h : IsSet l) : sortL l = l :=
  (eq_sortL h fun x => ⟨fun hx => ⟨hx, h.2 x hx⟩, fun hx => hx.1⟩).symm
theorem sortL_length : ∀ l, (sortL l).length ≤ l.length
  | [] => Nat.le_refl _
  | x :: r => by
    unfold sortL
    have h1 : ∀ (y : Int) (t : List Int), (ins y t).length ≤ t.length + 1 := by
      intro y t
      induction t with
      | nil => simp [ins]
      | cons a t ih =>
        unfold ins
        split
        · simp
        · split
          · simp
          · simp; omega
    split
    · have := h1 x (sortL r)
      have := sortL_length r
      simp; omega
    · have := sortL_length r
      simp; omega

def hasB (l : List Int) (x : Int) : Bool := mayB l && l.contains x
def unionL (a b : List Int) : List Int := if mayB a && mayB b then sortL (a ++ b) else []
/-- Those of a that are in b, or those that are not. -/
def partL (a b : List Int) (w : Bool) : List Int := if mayB a && mayB b then a.filter fun x => b.contains x == w else []
def meetL (a b : List Int) : List Int := partL a b true
def minusL (a b : List Int) : List Int := partL a b false
def subB (a b : List Int) : Bool := mayB a && mayB b && decide (minusL a b = [])
def allL (n : Int) : List Int := if n < 1 ∨ 100000 < n then [] else (List.range n.toNat).map Int.ofNat

theorem mayB_iff {l : List Int} : mayB l = true ↔ IsSet l := by simp [mayB]
theorem mayB_of {l : List Int} (h : IsSet l) : mayB l = true := mayB_iff.2 h
theorem union_set (a b : List Int) : IsSet (unionL a b) := by
  unfold unionL
  split
  · exact sortL_set _
  · exact isSet_nil
theorem part_set (a b : List Int) (w : Bool) : IsSet (partL a b w) := by
  unfold partL
  split
  · next h => exact (mayB_iff.1 (by simp at h; exact h.1)).filter _
  · exact isSet_nil
theorem meet_set (a b : List Int) : IsSet (meetL a b) := part_set a b true
theorem minus_set (a b : List Int) : IsSet (minusL a b) := part_set a b false
theorem all_set (n : Int) : IsSet (allL n) := by
  unfold allL
  split
  · exact isSet_nil
  · next h =>
    refine ⟨?_, fun x hx => ?_⟩
    · rw [List.pairwise_map]
      exact List.pairwise_lt_range.imp fun h => by simpa using h
    · obtain ⟨k, hk, rfl⟩ := List.mem_map.1 hx
      have := List.mem_range.1 hk
      have e : Int.ofNat k = (k : Int) := rfl
      unfold Fit
      rw [e]
      omega

theorem mem_union {a b : List Int} (ha : IsSet a) (hb : IsSet b) (x : Int) : x ∈ unionL a b ↔ x ∈ a ∨ x ∈ b := by
  unfold unionL
  rw [if_pos (by rw [mayB_of ha, mayB_of hb]; rfl), mem_sortL, List.mem_append]
  constructor
  · exact fun h => h.1
  · rintro (h | h)
    · exact ⟨.inl h, ha.2 x h⟩
    · exact ⟨.inr h, hb.2 x h⟩
theorem mem_part {a b : List Int} (ha : IsSet a) (hb : IsSet b) (w : Bool) (x : Int) : x ∈ partL a b w ↔ x ∈ a ∧ (b.contains x = w) := by
  unfold partL
  rw [if_pos (by rw [mayB_of ha, mayB_of hb]; rfl), List.mem_filter]
  simp
theorem mem_meet {a b : List Int} (ha : IsSet a) (hb : IsSet b) (x : Int) : x ∈ meetL a b ↔ x ∈ a ∧ x ∈ b := by
  unfold meetL
  rw [mem_part ha hb, List.contains_iff_mem]
theorem mem_minus {a b : List Int} (ha : IsSet a) (hb : IsSet b) (x : Int) : x ∈ minusL a b ↔ x ∈ a ∧ x ∉ b := by
  unfold minusL
  rw [mem_part ha hb, ← Bool.not_eq_true, List.contains_iff_mem]
theorem sub_iff {a b : List Int} (ha : IsSet a) (hb : IsSet b) : subB a b = true ↔ ∀ x ∈ a, x ∈ b := by
  unfold subB
  rw [mayB_of ha, mayB_of hb]
  simp only [Bool.and_self, Bool.true_and, decide_eq_true_eq]
  constructor
  · intro h x hx
    rcases Decidable.em (x ∈ b) with hb' | hb'
    · exact hb'
    · have := (mem_minus ha hb x).2 ⟨hx, hb'⟩
      rw [h] at this
      exact absurd this (by simp)
  · intro h
    rcases hm : minusL a b with _ | ⟨x, r⟩
    · rfl
    · have := (mem_minus ha hb x).1 (by rw [hm]; simp)
      exact absurd (h x this.1) this.2
theorem has_iff {l : List Int} (h : IsSet l) (x : Int) : hasB l x = true ↔ x ∈ l := by
  unfold hasB
  rw [mayB_of h]
  simp
theorem part_length (a b : List Int) (w : Bool) : (partL a b w).length ≤ a.length := by
  unfold partL
  split
  · exact List.length_filter_le _ _
  · simp
theorem union_length (a b : List Int) : (unionL a b).length ≤ a.length + b.length := by
  unfold unionL
  split
  · have := sortL_length (a ++ b)
    simpa using this
  · simp
theorem all_length (n : Int) : ((allL n).length : Int) ≤ 100000 ∧ (1 ≤ n → n ≤ 100000 → ((allL n).length : Int) = n) := by
  unfold allL
  split
  · next h => exact ⟨by simp, fun h1 h2 => by omega⟩
  · next h => exact ⟨by simp; omega, fun h1 h2 => by simp; omega⟩
theorem mem_all {n : Int} (h1 : 0 ≤ n) (h2 : n ≤ 100000) (x : Int) : x ∈ allL n ↔ 0 ≤ x ∧ x < n := by
  unfold allL
  split
  · next h =>
    simp
    omega
  · rw [List.mem_map]
    constructor
    · rintro ⟨k, hk, rfl⟩
      have := List.mem_range.1 hk
      have e : Int.ofNat k = (k : Int) := rfl
      rw [e]
      omega
    · intro h
      exact ⟨x.toNat, List.mem_range.2 (by omega), by simp; omega⟩

/-! ### The algebra -/
section
variable {a b c : List Int} (ha : IsSet a) (hb : IsSet b) (hc : IsSet c)
include ha hb
theorem alg_union_comm : unionL a b = unionL b a :=
  (union_set a b).ext (union_set b a) fun x => by rw [mem_union ha hb, mem_union hb ha]; exact Or.comm
theorem alg_meet_comm : meetL a b = meetL b a :=
  (meet_set a b).ext (meet_set b a) fun x => by rw [mem_meet ha hb, mem_meet hb ha]; exact And.comm
theorem alg_split : unionL (minusL a b) (meetL a b) = a := by
  refine (union_set _ _).ext ha fun x => ?_
  rw [mem_union (minus_set a b) (meet_set a b), mem_minus ha hb, mem_meet ha hb]
  constructor
  · rintro (h | h) <;> exact h.1
  · intro h
    rcases Decidable.em (x ∈ b) with h' | h'
    · exact .inr ⟨h, h'⟩
    · exact .inl ⟨h, h'⟩
theorem alg_sub1 : subB (meetL a b) a = true := (sub_iff (meet_set a b) ha).2 fun x hx => ((mem_meet ha hb x).1 hx).1
theorem alg_sub2 : subB a (unionL a b) = true := (sub_iff ha (union_set a b)).2 fun x hx => (mem_union ha hb x).2 (.inl hx)
include hc
theorem alg_union_assoc : unionL (unionL a b) c = unionL a (unionL b c) :=
  (union_set _ _).ext (union_set _ _) fun x => by
    rw [mem_union (union_set a b) hc, mem_union ha hb, mem_union ha (union_set b c), mem_union hb hc]; exact or_assoc
theorem alg_meet_assoc : meetL (meetL a b) c = meetL a (meetL b c) :=
  (meet_set _ _).ext (meet_set _ _) fun x => by
    rw [mem_meet (meet_set a b) hc, mem_meet ha hb, mem_meet ha (meet_set b c), mem_meet hb hc]; exact and_assoc
theorem alg_dist : meetL (unionL a b) c = unionL (meetL a c) (meetL b c) :=
  (meet_set _ _).ext (union_set _ _) fun x => by
    rw [mem_meet (union_set a b) hc, mem_union ha hb, mem_union (meet_set a c) (meet_set b c), mem_meet ha hc, mem_meet hb hc]; exact or_and_right
theorem alg_minus : minusL (unionL a b) c = unionL (minusL a c) (minusL b c) :=
  (minus_set _ _).ext (union_set _ _) fun x => by
    rw [mem_minus (union_set a b) hc, mem_union ha hb, mem_union (minus_set a c) (minus_set b c), mem_minus ha hc, mem_minus hb hc]; exact or_and_right
end

/-! ### How many -/
/-- Two sets that share nothing, of whose members a third one is: as many. -/
theorem len_split : ∀ {a b r : List Int}, IsSet a → IsSet b → IsSet r → (∀ x, x ∈ a → x ∉ b) → (∀ x, x ∈ r ↔ x ∈ a ∨ x ∈ b) → r.length = a.length + b.length := by
  intro a b r ha hb hr hd hm
  have hnd : (a ++ b).Nodup := by
    rw [List.nodup_append]
    refine ⟨ha.1.imp fun h => by omega, hb.1.imp fun h => by omega, fun x hx y hy e => hd x hx (by rw [e]; exact hy)⟩
  have hrn : r.Nodup := hr.1.imp fun h => by omega
  have hp : r.Perm (a ++ b) := by
    rw [List.perm_ext_iff_of_nodup hrn hnd]
    intro x
    rw [hm, List.mem_append]
  rw [hp.length_eq, List.length_append]
theorem alg_len {a b : List Int} (ha : IsSet a) (hb : IsSet b) : (unionL a b).length + (meetL a b).length = a.length + b.length := by
  have h1 : a.length = (minusL a b).length + (meetL a b).length := by
    refine len_split (minus_set a b) (meet_set a b) ha ?_ ?_
    · intro x hx hy
      exact ((mem_minus ha hb x).1 hx).2 ((mem_meet ha hb x).1 hy).2
    · intro x
      rw [mem_minus ha hb, mem_meet ha hb]
      constructor
      · intro h
        rcases Decidable.em (x ∈ b) with h' | h'
        · exact .inr ⟨h, h'⟩
        · exact .inl ⟨h, h'⟩
      · rintro (h | h) <;> exact h.1
  have h2 : (unionL a b).length = (minusL a b).length + b.length := by
    refine len_split (minus_set a b) hb (union_set a b) ?_ ?_
    · intro x hx
      exact ((mem_minus ha hb x).1 hx).2
    · intro x
      rw [mem_minus ha hb, mem_union ha hb]
      constructor
      · rintro (h | h)
        · rcases Decidable.em (x ∈ b) with h' | h'
          · exact .inr h'
          · exact .inl ⟨h, h'⟩
        · exact .inr h
      · rintro (h | h)
        · exact .inl h.1
        · exact .inr h
  omega

/-! ### What is compacted -/
theorem compact_up (d : Array Int) (hs : ∀ i j, i ≤ j → j < d.size → d[i]! ≤ d[j]!) : ∀ m, m ≤ d.size → (Lib.compactUpTo d m).Pairwise (· < ·) ∧ ∀ x, x ∈ Lib.compactUpTo d m ↔ ∃ j, j < m ∧ d[j]! = x := by
  intro m
  induction m with
  | zero => intro _; exact ⟨by simp [Lib.compactUpTo], by simp [Lib.compactUpTo]⟩
  | succ m ih =>
    intro hm
    obtain ⟨h1, h2⟩ := ih (by omega)
    rw [Lib.compactUpTo_succ]
    by_cases hk : Lib.keeps d m = true
    · rw [if_pos hk]
      constructor
      · rw [List.pairwise_append]
        refine ⟨h1, by simp, fun x hx y hy => ?_⟩
        rw [List.mem_singleton] at hy
        subst hy
        obtain ⟨j, hj, rfl⟩ := (h2 x).1 hx
        simp only [Lib.keeps, decide_eq_true_eq] at hk
        have a1 := hs j (m - 1) (by omega) (by omega)
        have a2 := hs (m - 1) m (by omega) (by omega)
        have a3 : d[m]! ≠ d[m - 1]! := by
          rcases hk with h | h
          · omega
          · exact h
        omega
      · intro x
        rw [List.mem_append, List.mem_singleton, h2]
        constructor
        · rintro (⟨j, hj, e⟩ | e)
          · exact ⟨j, by omega, e⟩
          · exact ⟨m, by omega, e.symm⟩
        · rintro ⟨j, hj, e⟩
          by_cases hjm : j = m
          · subst hjm; exact .inr e.symm
          · exact .inl ⟨j, by omega, e⟩
    · have hk' : Lib.keeps d m = false := by simpa using hk
      rw [if_neg hk, List.append_nil]
      refine ⟨h1, fun x => ?_⟩
      rw [h2]
      constructor
      · rintro ⟨j, hj, e⟩; exact ⟨j, by omega, e⟩
      · rintro ⟨j, hj, e⟩
        by_cases hjm : j = m
        · subst hjm
          simp only [Lib.keeps, decide_eq_false_iff_not, not_or, Decidable.not_not] at hk'
          exact ⟨j - 1, by omega, by rw [← e, hk'.2]⟩
        · exact ⟨j, by omega, e⟩

theorem compact_sorted (l : List Int) (h : l.Pairwise (· ≤ ·)) : (Lib.compact l).Pairwise (· < ·) ∧ ∀ x, x ∈ Lib.compact l ↔ x ∈ l := by
  have hg : ∀ i, i < l.length → l.toArray[i]! = l.getD i 0 := by
    intro i hi
    rw [getElem!_pos l.toArray i (by simpa using hi)]
    simp [List.getD, hi]
  have hs : ∀ i j, i ≤ j → j < l.toArray.size → l.toArray[i]! ≤ l.toArray[j]! := by
    intro i j hij hj
    have hj' : j < l.length := by simpa using hj
    rw [hg i (by omega), hg j hj']
    rcases Nat.lt_or_ge i j with hlt | hge
    · have := List.pairwise_iff_getElem.1 h i j (by omega) hj' hlt
      simpa [List.getD, hj', show i < l.length from by omega] using this
    · have : i = j := by omega
      subst this
      exact Int.le_refl _
  have hc := compact_up l.toArray hs l.length (by simp)
  refine ⟨hc.1, fun x => ?_⟩
  unfold Lib.compact
  rw [hc.2]
  constructor
  · rintro ⟨j, hj, rfl⟩
    rw [hg j hj]
    simp [List.getD, hj]
  · intro hx
    obtain ⟨j, hj, rfl⟩ := List.mem_iff_getElem.1 hx
    exact ⟨j, hj, by rw [hg j hj]; simp [List.getD, hj]⟩

/-- What fits, sorted, and each once: the set of the list's numbers. -/
theorem sortL_program (l : List Int) : Lib.compact ((l.filter fun x => decide (Fit x)).mergeSort fun x y => decide (x ≤ y)) = sortL l := by
  have hp : ((l.filter fun x => decide (Fit x)).mergeSort fun x y => decide (x ≤ y)).Pairwise (· ≤ ·) := by
    have := List.pairwise_mergeSort (le := fun x y : Int => decide (x ≤ y)) (fun a b c h1 h2 => by simp at *; omega) (fun a b => by simp; omega) (l.filter fun x => decide (Fit x))
    exact this.imp fun h => by simpa using h
  obtain ⟨h1, h2⟩ := compact_sorted _ hp
  have hm : ∀ x, x ∈ Lib.compact ((l.filter fun x => decide (Fit x)).mergeSort fun x y => decide (x ≤ y)) ↔ x ∈ l ∧ Fit x := by
    intro x
    rw [h2, List.mem_mergeSort, List.mem_filter, decide_eq_true_eq]
  exact eq_sortL ⟨h1, fun x hx => ((hm x).1 hx).2⟩ hm

end Go.Proofs.YtimmmfppehmfcaaGreatDoor.Wp
