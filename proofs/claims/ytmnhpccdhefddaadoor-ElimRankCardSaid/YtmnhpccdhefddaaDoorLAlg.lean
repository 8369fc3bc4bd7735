/- The program's way, plain: lines, each what is left of a column; what is taken off a column; by which numbers a goal comes. Nothing of the program here. -/
import Derived.Test.YtmnhpccdhefddaaDoorLPure
namespace Go.Proofs.YtmnhpccdhefddaaDoor.Wp

/-- What is left of a column, where it leads, what leaves 1 there, and by which numbers the lines ahead (each told by its place) come to what was taken off. -/
structure Line where
  place : Nat
  left : List Int
  lead : Nat
  inv : Int
  by_ : Nat → Int

/-! ### Where a list leads -/
def leadFrom : List Int → Nat → Int
  | [], _ => -1
  | x :: xs, k => if x = 0 then leadFrom xs (k + 1) else (k : Int)
def leadI (l : List Int) : Int := leadFrom l 0
theorem leadFrom_hit : ∀ {l : List Int} {a i : Nat}, i < l.length → l.getD i 0 ≠ 0 → (∀ j, j < i → l.getD j 0 = 0) → leadFrom l a = ((a + i : Nat) : Int)
  | x :: xs, a, 0, _, hx, _ => by
    unfold leadFrom
    rw [if_neg (by simpa using hx)]
    rfl
  | x :: xs, a, i + 1, hi, hx, hz => by
    unfold leadFrom
    rw [if_pos (by simpa using hz 0 (by omega)), leadFrom_hit (i := i) (by simpa using hi) (by simpa using hx) (fun j hj => by simpa using hz (j + 1) (by omega))]
    congr 1
    omega
theorem leadFrom_miss : ∀ {l : List Int} {a : Nat}, (∀ j, j < l.length → l.getD j 0 = 0) → leadFrom l a = -1
  | [], _, _ => rfl
  | x :: xs, a, hz => by
    unfold leadFrom
    rw [if_pos (by simpa using hz 0 (by simp)), leadFrom_miss (fun j hj => by simpa using hz (j + 1) (by simpa using hj))]
theorem leadI_hit {l : List Int} {i : Nat} (hi : i < l.length) (hx : l.getD i 0 ≠ 0) (hz : ∀ j, j < i → l.getD j 0 = 0) : leadI l = (i : Int) := by
  unfold leadI
  rw [leadFrom_hit hi hx hz]
  congr 1
  omega
theorem leadI_miss {l : List Int} (hz : ∀ j, j < l.length → l.getD j 0 = 0) : leadI l = -1 := leadFrom_miss hz
/-- Either all are 0, or one is the first that is not. -/
theorem leadI_cases : ∀ (l : List Int), (leadI l = -1 ∧ ∀ j, l.getD j 0 = 0) ∨ ∃ i, i < l.length ∧ leadI l = (i : Int) ∧ l.getD i 0 ≠ 0 ∧ ∀ j, j < i → l.getD j 0 = 0 := by
  intro l
  by_cases h : ∀ j, j < l.length → l.getD j 0 = 0
  · refine .inl ⟨leadI_miss h, fun j => ?_⟩
    by_cases hj : j < l.length
    · exact h j hj
    · simp [List.getD, List.getElem?_eq_none (Nat.le_of_not_lt hj)]
  · right
    have : ∃ i, i < l.length ∧ l.getD i 0 ≠ 0 ∧ ∀ j, j < i → l.getD j 0 = 0 := by
      apply Classical.byContradiction
      intro hn
      apply h
      intro j
      induction j using Nat.strongRecOn with
      | ind j ih =>
        intro hj
        apply Classical.byContradiction
        intro hne
        exact hn ⟨j, hj, hne, fun k hk => ih k hk (by omega)⟩
    obtain ⟨i, hi, hx, hz⟩ := this
    exact ⟨i, hi, leadI_hit hi hx hz, hx, hz⟩

/-! ### What is taken off -/
def upd (f : Nat → Int) (a : Nat) (t : Int) : Nat → Int := fun x => if x = a then t else f x
/-- From where the line leads up to k. -/
def subU (p : Int) (left : List Int) (l : Line) (t : Int) (k : Nat) : List Int :=
  (List.range left.length).map fun r => if l.lead ≤ r ∧ r < k then (left.getD r 0 - t * l.left.getD r 0) % p else left.getD r 0
def tOf (p : Int) (left : List Int) (l : Line) : Int := (left.getD l.lead 0 * l.inv) % p
def stepT (p : Int) (s : List Int × (Nat → Int)) (l : Line) : List Int × (Nat → Int) :=
  if tOf p s.1 l = 0 then s else (subU p s.1 l (tOf p s.1 l) s.1.length, upd s.2 l.place (tOf p s.1 l))
def takeT (p : Int) (ls : List Line) (col : List Int) : List Int × (Nat → Int) := ls.foldl (stepT p) (col, fun _ => 0)
def addL (p : Int) (inv : Int → Int) (ls : List Line) (i : Nat) (col : List Int) : List Line :=
  if leadI (takeT p ls col).1 < 0 then ls
  else ls ++ [⟨i, (takeT p ls col).1, (leadI (takeT p ls col).1).toNat, inv ((takeT p ls col).1.getD (leadI (takeT p ls col).1).toNat 0), (takeT p ls col).2⟩]
def linesL (p : Int) (inv : Int → Int) (cols : List (List Int)) : Nat → List Line
  | 0 => []
  | k + 1 => addL p inv (linesL p inv cols k) k (cols.getD k [])
/-- The last line's column stands in for it. -/
def backL (p : Int) (l : Line) (T : List Int) : List Int :=
  (List.range T.length).map fun i => if l.by_ i = 0 then T.getD i 0 else (T.getD i 0 - T.getD l.place 0 * l.by_ i) % p
def timesL (p : Int) (ls : List Line) (n : Nat) (f : Nat → Int) : List Int := ls.foldr (backL p) ((List.range n).map f)
def comboL (p : Int) (inv : Int → Int) (cols : List (List Int)) (goal : List Int) : Option (List Int) :=
  if 0 ≤ leadI (takeT p (linesL p inv cols cols.length) goal).1 then none
  else some (timesL p (linesL p inv cols cols.length) cols.length (takeT p (linesL p inv cols cols.length) goal).2)

theorem getD_map_range {n r : Nat} (f : Nat → Int) : ((List.range n).map f).getD r 0 = if r < n then f r else 0 := by
  by_cases h : r < n
  · simp [List.getD, h]
  · simp [List.getD, h]
theorem subU_length {p : Int} {left : List Int} {l : Line} {t : Int} {k : Nat} : (subU p left l t k).length = left.length := by simp [subU]
theorem backL_length {p : Int} {T : List Int} {l : Line} : (backL p l T).length = T.length := by simp [backL]
theorem subU_getD {p : Int} {left : List Int} {l : Line} {t : Int} {k r : Nat} (h : r < left.length) :
    (subU p left l t k).getD r 0 = if l.lead ≤ r ∧ r < k then (left.getD r 0 - t * l.left.getD r 0) % p else left.getD r 0 := by
  unfold subU
  rw [getD_map_range, if_pos h]
theorem backL_getD {p : Int} {T : List Int} {l : Line} {i : Nat} (h : i < T.length) : (backL p l T).getD i 0 = if l.by_ i = 0 then T.getD i 0 else (T.getD i 0 - T.getD l.place 0 * l.by_ i) % p := by
  unfold backL
  rw [getD_map_range, if_pos h]
theorem getD_out {l : List Int} {r : Nat} (h : l.length ≤ r) : l.getD r 0 = 0 := by simp [List.getD, List.getElem?_eq_none h]

/-! ### Columns in bounds -/
def InR (p : Int) (R : Nat) (l : List Int) : Prop := l.length = R ∧ ∀ x ∈ l, 0 ≤ x ∧ x < p
theorem InR.get {p : Int} {R : Nat} {l : List Int} (h : InR p R l) (hp : 0 < p) (r : Nat) : 0 ≤ l.getD r 0 ∧ l.getD r 0 < p := by
  by_cases hr : r < l.length
  · rw [List.getD_eq_getElem?_getD, List.getElem?_eq_getElem hr]
    exact h.2 _ (List.getElem_mem hr)
  · rw [getD_out (by omega)]
    omega
theorem inR_of_get {p : Int} {R : Nat} {l : List Int} (hl : l.length = R) (h : ∀ r, r < R → 0 ≤ l.getD r 0 ∧ l.getD r 0 < p) : InR p R l := by
  refine ⟨hl, fun x hx => ?_⟩
  obtain ⟨i, hi, rfl⟩ := List.mem_iff_getElem.1 hx
  have := h i (by omega)
  rwa [List.getD_eq_getElem?_getD, List.getElem?_eq_getElem hi] at this
theorem zero_of_dvd {p x : Int} (h : p ∣ x) (h0 : 0 ≤ x) (h1 : x < p) : x = 0 := by
  have := Int.emod_eq_of_lt h0 h1
  rw [Int.emod_eq_zero_of_dvd h] at this
  exact this.symm
theorem dvd_emod_sub {p : Int} (x : Int) : p ∣ x - x % p := Int.dvd_self_sub_emod
def vec (l : List Int) : Vec := fun r => l.getD r 0

structure LineOk (p : Int) (R : Nat) (l : Line) : Prop where
  row : InR p R l.left
  lt : l.lead < R
  zero : ∀ r, r < l.lead → l.left.getD r 0 = 0
  inv : p ∣ l.left.getD l.lead 0 * l.inv - 1
  invr : 0 ≤ l.inv ∧ l.inv < p
  byr : ∀ x, 0 ≤ l.by_ x ∧ l.by_ x < p
  byp : ∀ x, l.by_ x ≠ 0 → x < l.place
/-- Where a line leads those behind it are 0; their places rise. -/
def Ech (p : Int) (R : Nat) : List Line → Prop
  | [] => True
  | l :: ls => LineOk p R l ∧ (∀ m ∈ ls, m.left.getD l.lead 0 = 0 ∧ l.place < m.place) ∧ Ech p R ls

/-- What all steps leave, and by which numbers. -/
structure Taken (p : Int) (R : Nat) (ls : List Line) (left : List Int) (f : Nat → Int) (s : List Int × (Nat → Int)) : Prop where
  row : InR p R s.1
  byr : ∀ x, 0 ≤ s.2 x ∧ s.2 x < p
  off : ∀ x, (∀ l ∈ ls, l.place ≠ x) → s.2 x = f x
  keep : ∀ r, (∀ l ∈ ls, l.left.getD r 0 = 0) → s.1.getD r 0 = left.getD r 0
  zero : ∀ l ∈ ls, s.1.getD l.lead 0 = 0
  sum : ∀ r, r < R → p ∣ left.getD r 0 - s.1.getD r 0 - lin (ls.map fun l => s.2 l.place) (ls.map fun l => vec l.left) r

theorem taken {p : Int} {R : Nat} (hp : 0 < p) : ∀ {ls : List Line} {left : List Int} {f : Nat → Int}, Ech p R ls → InR p R left → (∀ x, 0 ≤ f x ∧ f x < p) → (∀ l ∈ ls, f l.place = 0) → Taken p R ls left f (ls.foldl (stepT p) (left, f))
  | [], left, f, _, hl, hf, _ => ⟨hl, hf, fun _ _ => rfl, fun _ _ => rfl, fun _ h => (by cases h), fun r _ => (by simp [lin])⟩
  | l :: ls, left, f, ⟨hok, hbeh, hech⟩, hl, hf, hz => by
    rw [List.foldl_cons]
    have hpl : ∀ m ∈ ls, m.place ≠ l.place := fun m hm e => by have := (hbeh m hm).2; omega
    have hz' : ∀ m ∈ ls, f m.place = 0 := fun m hm => hz m (by simp [hm])
    by_cases ht : tOf p left l = 0
    · have hs : stepT p (left, f) l = (left, f) := by unfold stepT; rw [if_pos ht]
      rw [hs]
      have ih := taken hp hech hl hf hz'
      have h0 : left.getD l.lead 0 = 0 := by
        have hg := hl.get hp l.lead
        refine zero_of_dvd ?_ hg.1 hg.2
        have h1 : p ∣ left.getD l.lead 0 * l.inv := Int.dvd_of_emod_eq_zero ht
        have h2 := Int.dvd_trans hok.inv (Int.dvd_mul_left (left.getD l.lead 0) _)
        have h3 := Int.dvd_trans h1 (Int.dvd_mul_right _ (l.left.getD l.lead 0))
        have h4 := Int.dvd_sub h3 h2
        have e : left.getD l.lead 0 * l.inv * l.left.getD l.lead 0 - left.getD l.lead 0 * (l.left.getD l.lead 0 * l.inv - 1) = left.getD l.lead 0 := by
          rw [Int.mul_sub, Int.mul_one, Int.mul_assoc, Int.mul_comm l.inv]
          omega
        rwa [e] at h4
      refine ⟨ih.row, ih.byr, fun x hx => ih.off x fun m hm => hx m (by simp [hm]), fun r hr => ih.keep r fun m hm => hr m (by simp [hm]), fun m hm => ?_, fun r hr => ?_⟩
      · rcases List.mem_cons.1 hm with rfl | hm
        · rw [ih.keep _ fun k hk => (hbeh k hk).1]
          exact h0
        · exact ih.zero m hm
      · have := ih.sum r hr
        simp only [List.map_cons, lin]
        rw [ih.off l.place hpl, hz l (by simp), Int.zero_mul, Int.zero_add]
        exact this
    · obtain ⟨t, hte⟩ : ∃ t, t = tOf p left l := ⟨_, rfl⟩
      have hs : stepT p (left, f) l = (subU p left l t left.length, upd f l.place t) := by unfold stepT; rw [if_neg ht, ← hte]
      rw [hs]
      have htr : 0 ≤ t ∧ t < p := by rw [hte]; exact ⟨Int.emod_nonneg _ (by omega), Int.emod_lt_of_pos _ hp⟩
      have hsub : ∀ r, r < R → (subU p left l t left.length).getD r 0 = (left.getD r 0 - t * l.left.getD r 0) % p := by
        intro r hr
        rw [subU_getD (by rw [hl.1]; exact hr)]
        by_cases h : l.lead ≤ r
        · rw [if_pos ⟨h, by rw [hl.1]; exact hr⟩]
        · rw [if_neg (by omega), hok.zero r (by omega), Int.mul_zero, Int.sub_zero]
          have := hl.get hp r
          exact (Int.emod_eq_of_lt this.1 this.2).symm
      have hrow : InR p R (subU p left l t left.length) := inR_of_get (by rw [subU_length]; exact hl.1) fun r hr => by
        rw [hsub r hr]
        exact ⟨Int.emod_nonneg _ (by omega), Int.emod_lt_of_pos _ hp⟩
      have hkeep : ∀ r, l.left.getD r 0 = 0 → (subU p left l t left.length).getD r 0 = left.getD r 0 := by
        intro r h0
        by_cases hr : r < R
        · rw [hsub r hr, h0, Int.mul_zero, Int.sub_zero]
          have := hl.get hp r
          exact Int.emod_eq_of_lt this.1 this.2
        · rw [getD_out (by rw [subU_length, hl.1]; omega), getD_out (by rw [hl.1]; omega)]
      have hlead : (subU p left l t left.length).getD l.lead 0 = 0 := by
        rw [hsub _ hok.lt]
        apply Int.emod_eq_zero_of_dvd
        have h1 : p ∣ left.getD l.lead 0 * l.inv - t := by rw [hte]; exact dvd_emod_sub _
        have h2 := Int.dvd_trans h1 (Int.dvd_mul_right _ (l.left.getD l.lead 0))
        have h3 := Int.dvd_trans hok.inv (Int.dvd_mul_left (left.getD l.lead 0) _)
        have h4 := Int.dvd_sub h2 h3
        have e : (left.getD l.lead 0 * l.inv - t) * l.left.getD l.lead 0 - left.getD l.lead 0 * (l.left.getD l.lead 0 * l.inv - 1) = left.getD l.lead 0 - t * l.left.getD l.lead 0 := by
          rw [Int.mul_sub, Int.mul_one, Int.sub_mul, Int.mul_assoc, Int.mul_comm l.inv]
          omega
        rwa [e] at h4
      have ih := taken hp (f := upd f l.place t) hech hrow (fun x => by
        unfold upd
        split
        · exact htr
        · exact hf x) (fun m hm => by
        unfold upd
        rw [if_neg (hpl m hm)]
        exact hz' m hm)
      refine ⟨ih.row, ih.byr, fun x hx => ?_, fun r hr => ?_, fun m hm => ?_, fun r hr => ?_⟩
      · rw [ih.off x fun m hm => hx m (by simp [hm])]
        unfold upd
        rw [if_neg fun e => hx l (by simp) e.symm]
      · rw [ih.keep r fun m hm => hr m (by simp [hm])]
        exact hkeep r (hr l (by simp))
      · rcases List.mem_cons.1 hm with rfl | hm
        · rw [ih.keep _ fun k hk => (hbeh k hk).1]
          exact hlead
        · exact ih.zero m hm
      · have h1 := ih.sum r hr
        simp only [List.map_cons, lin]
        rw [ih.off l.place hpl, show upd f l.place t l.place = t by unfold upd; rw [if_pos rfl]]
        have h2 : p ∣ left.getD r 0 - t * l.left.getD r 0 - (subU p left l t left.length).getD r 0 := by rw [hsub r hr]; exact dvd_emod_sub _
        have h3 := Int.dvd_add h1 h2
        generalize lin (ls.map fun l_1 => _) _ r = y at h3 ⊢
        unfold vec
        have e : (subU p left l t left.length).getD r 0 - ((ls.foldl (stepT p) (subU p left l t left.length, upd f l.place t)).1).getD r 0 - y + (left.getD r 0 - t * l.left.getD r 0 - (subU p left l t left.length).getD r 0)
            = left.getD r 0 - ((ls.foldl (stepT p) (subU p left l t left.length, upd f l.place t)).1).getD r 0 - (t * l.left.getD r 0 + y) := by omega
        rwa [e] at h3

end Go.Proofs.YtmnhpccdhefddaaDoor.Wp
