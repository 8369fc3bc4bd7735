/- Pairs of two sides, plain: matchings and covers, and how many they have; a search for one on the left, and what it leaves. Nothing of the program here. -/
import Derived.Lib.Hide
namespace Go.Proofs.Ytmgfhehnehcmpaa.Wp

/-! ### Counting -/
/-- None twice, and all in another one: no more. -/
theorem nodup_le {α : Type} [DecidableEq α] : ∀ {a b : List α}, a.Nodup → (∀ x ∈ a, x ∈ b) → a.length ≤ b.length
  | [], b, _, _ => by simp
  | x :: a, b, hn, h => by
    obtain ⟨hx, hn⟩ := List.nodup_cons.1 hn
    have hb : x ∈ b := h x (by simp)
    have ih := nodup_le (a := a) (b := b.erase x) hn fun y hy => (List.mem_erase_of_ne (fun e => hx (by rw [← e]; exact hy))).2 (h y (by simp [hy]))
    rw [List.length_erase_of_mem hb] at ih
    have : 0 < b.length := List.length_pos_of_mem hb
    simp
    omega
def cntP (n : Nat) (p : Nat → Bool) : Nat := ((List.range n).filter p).length
theorem cntP_succ (n : Nat) (p : Nat → Bool) : cntP (n + 1) p = cntP n p + if p n then 1 else 0 := by
  unfold cntP
  rw [List.range_succ, List.filter_append, List.length_append]
  cases h : p n <;> simp [h]
theorem cntP_zero (p : Nat → Bool) : cntP 0 p = 0 := rfl
theorem cntP_le (p : Nat → Bool) : ∀ n, cntP n p ≤ n
  | 0 => Nat.le_refl _
  | n + 1 => by
    have := cntP_le p n
    rw [cntP_succ]
    split <;> omega
theorem cntP_congr {p q : Nat → Bool} : ∀ {n : Nat}, (∀ i, i < n → p i = q i) → cntP n p = cntP n q
  | 0, _ => rfl
  | n + 1, h => by rw [cntP_succ, cntP_succ, h n (by omega), cntP_congr fun i hi => h i (by omega)]
theorem cntP_mono {p q : Nat → Bool} : ∀ {n : Nat}, (∀ i, i < n → p i = true → q i = true) → cntP n p ≤ cntP n q
  | 0, _ => Nat.le_refl _
  | n + 1, h => by
    have ih := cntP_mono (n := n) fun i hi => h i (by omega)
    rw [cntP_succ, cntP_succ]
    have := h n (by omega)
    cases hp : p n
    · simp; omega
    · simp [this hp]; omega
theorem cntP_split (p q : Nat → Bool) : ∀ n, cntP n p = cntP n (fun i => p i && q i) + cntP n fun i => p i && !q i
  | 0 => rfl
  | n + 1 => by
    have ih := cntP_split p q n
    rw [cntP_succ, cntP_succ, cntP_succ, ih]
    cases p n <;> cases q n <;> simp <;> omega
theorem cntP_all {p : Nat → Bool} : ∀ {n : Nat}, (∀ i, i < n → p i = true) → cntP n p = n
  | 0, _ => rfl
  | n + 1, h => by rw [cntP_succ, h n (by omega), cntP_all fun i hi => h i (by omega)]; rfl
theorem cntP_none {p : Nat → Bool} : ∀ {n : Nat}, (∀ i, i < n → p i = false) → cntP n p = 0
  | 0, _ => rfl
  | n + 1, h => by rw [cntP_succ, h n (by omega), cntP_none fun i hi => h i (by omega)]; rfl
theorem range_nodup (n : Nat) : (List.range n).Nodup := List.nodup_range
/-- By a map that tells them apart. -/
theorem cntP_inj {n R : Nat} {p q : Nat → Bool} (f : Nat → Nat) (hf : ∀ i, i < n → p i = true → f i < R ∧ q (f i) = true) (hi : ∀ i j, i < n → j < n → p i = true → p j = true → f i = f j → i = j) : cntP n p ≤ cntP R q := by
  have h1 : (((List.range n).filter p).map f).Nodup := by
    have h0 : ((List.range n).filter p).Nodup := (range_nodup n).sublist List.filter_sublist
    refine List.pairwise_map.2 (List.Pairwise.imp_of_mem ?_ h0)
    intro a b ha hb hab e
    have ha' := List.mem_filter.1 ha
    have hb' := List.mem_filter.1 hb
    exact hab (hi a b (List.mem_range.1 ha'.1) (List.mem_range.1 hb'.1) ha'.2 hb'.2 e)
  have h2 := nodup_le (b := (List.range R).filter q) h1 fun x hx => by
    obtain ⟨i, hi, rfl⟩ := List.mem_map.1 hx
    have hi' := List.mem_filter.1 hi
    have := hf i (List.mem_range.1 hi'.1) hi'.2
    exact List.mem_filter.2 ⟨List.mem_range.2 this.1, this.2⟩
  unfold cntP
  simpa using h2

/-! ### Matchings and covers -/
/-- i on the left may go with r on the right. -/
def Goes (adj : List (List Int)) (i r : Nat) : Prop := (r : Int) ∈ adj.getD i []
/-- All that are gone with are on the right. -/
def OnR (R : Nat) (adj : List (List Int)) : Prop := ∀ i x, x ∈ adj.getD i [] → ∃ r : Nat, x = (r : Int) ∧ r < R
theorem goes_lt {adj : List (List Int)} {i r : Nat} (h : Goes adj i r) : i < adj.length := by
  rcases Nat.lt_or_ge i adj.length with hl | hl
  · exact hl
  · unfold Goes at h
    rw [List.getD_eq_getElem?_getD, List.getElem?_eq_none hl] at h
    exact absurd h (by simp)
structure Mat (R : Nat) (adj : List (List Int)) (h : Nat → Int) : Prop where
  ok : ∀ i, i < adj.length → h i = -1 ∨ ∃ r : Nat, r < R ∧ h i = (r : Int) ∧ Goes adj i r
  inj : ∀ i j, i < adj.length → j < adj.length → h i = h j → h i ≠ -1 → i = j
def msize (adj : List (List Int)) (h : Nat → Int) : Nat := cntP adj.length fun i => decide (h i ≠ -1)
def Cov (adj : List (List Int)) (A B : Nat → Bool) : Prop := ∀ i r, Goes adj i r → A i = true ∨ B r = true
/-- No matching has more than a cover. -/
theorem mat_le_cov {R : Nat} {adj : List (List Int)} {h : Nat → Int} {A B : Nat → Bool} (hm : Mat R adj h) (hc : Cov adj A B) : msize adj h ≤ cntP adj.length A + cntP R B := by
  unfold msize
  rw [cntP_split _ A]
  have h1 : cntP adj.length (fun i => decide (h i ≠ -1) && A i) ≤ cntP adj.length A := cntP_mono fun i _ hi => by
    rw [Bool.and_eq_true] at hi
    exact hi.2
  have h2 : cntP adj.length (fun i => decide (h i ≠ -1) && !A i) ≤ cntP R B := cntP_inj (fun i => (h i).toNat) (fun i hi hp => by
    rw [Bool.and_eq_true, decide_eq_true_iff] at hp
    rcases hm.ok i hi with e | ⟨r, hr, e, hg⟩
    · exact absurd e hp.1
    · rw [e, Int.toNat_natCast]
      refine ⟨hr, (hc i r hg).resolve_left ?_⟩
      intro ha
      rw [ha] at hp
      exact absurd hp.2 (by simp)) (fun i j hi hj hp hq e => by
    rw [Bool.and_eq_true, decide_eq_true_iff] at hp hq
    rcases hm.ok i hi with e1 | ⟨r, _, e1, _⟩
    · exact absurd e1 hp.1
    · rcases hm.ok j hj with e2 | ⟨s, _, e2, _⟩
      · exact absurd e2 hq.1
      · refine hm.inj i j hi hj ?_ hp.1
        have e' : r = s := by simpa [e1, e2] using e
        rw [e1, e2, e'])
  omega

/-! ### A search -/
/-- All of S are taken, and those that have them may go with S alone. -/
def Clo (adj : List (List Int)) (os : Nat → Int) (S : Nat → Prop) : Prop := ∀ r, S r → ∃ j : Nat, os r = (j : Int) ∧ ∀ x, Goes adj j x → S x
/-- Whom each has, on both sides. -/
structure Pairs (R : Nat) (adj : List (List Int)) (hs os : Nat → Int) : Prop where
  l : ∀ i, i < adj.length → hs i = -1 ∨ ∃ r : Nat, r < R ∧ hs i = (r : Int) ∧ Goes adj i r ∧ os r = (i : Int)
  r : ∀ r, r < R → os r = -1 ∨ ∃ i : Nat, i < adj.length ∧ os r = (i : Int) ∧ hs i = (r : Int)
theorem Pairs.mat {R : Nat} {adj : List (List Int)} {hs os : Nat → Int} (h : Pairs R adj hs os) : Mat R adj hs where
  ok := fun i hi => (h.l i hi).imp id fun ⟨r, a, b, c, _⟩ => ⟨r, a, b, c⟩
  inj := fun i j hi hj e hn => by
    rcases h.l i hi with e1 | ⟨r, _, e1, _, o1⟩
    · exact absurd e1 hn
    · rcases h.l j hj with e2 | ⟨s, _, e2, _, o2⟩
      · exact absurd (e.trans e2) hn
      · have : r = s := by
          have := e1.symm.trans (e.trans e2)
          omega
        subst this
        have := o1.symm.trans o2
        omega
def updI (f : Nat → Int) (a : Nat) (t : Int) : Nat → Int := fun x => if x = a then t else f x
def updB (f : Nat → Bool) (a : Nat) : Nat → Bool := fun x => if x = a then true else f x

/-- The search went through: whom each has now. -/
structure Found (R : Nat) (adj : List (List Int)) (hs os : Nat → Int) (al : Nat → Bool) (i : Nat) (hs' os' : Nat → Int) : Prop where
  a : ∃ r : Nat, r < R ∧ hs' i = (r : Int) ∧ Goes adj i r ∧ os' r = (i : Int) ∧ al r = false
  b : ∀ j, j < adj.length → j ≠ i → (hs j = -1 ↔ hs' j = -1)
  c : ∀ j, j < adj.length → hs' j = -1 ∨ ∃ r : Nat, r < R ∧ hs' j = (r : Int) ∧ Goes adj j r ∧ os' r = (j : Int)
  d : ∀ r, r < R → os' r = -1 ∨ ∃ j : Nat, j < adj.length ∧ os' r = (j : Int) ∧ (hs' j = (r : Int) ∨ (j = i ∧ hs i = (r : Int)))
  e : ∀ r, al r = true → os' r = os r
  f : ∀ S, Clo adj os S → (¬ ∀ x, Goes adj i x → S x) ∧ ∀ r, S r → os' r = os r
/-- It did not: who is reached now. -/
structure Missed (adj : List (List Int)) (os : Nat → Int) (al : Nat → Bool) (i : Nat) (al' : Nat → Bool) : Prop where
  up : ∀ r, al r = true → al' r = true
  all : ∀ x, Goes adj i x → al' x = true
  cl : ∀ r, al' r = true → al r = false → ∃ j : Nat, os r = (j : Int) ∧ ∀ x, Goes adj j x → al' x = true
/-- The first k have been tried. -/
structure Tried (adj : List (List Int)) (os : Nat → Int) (al : Nat → Bool) (i k : Nat) (al' : Nat → Bool) : Prop where
  up : ∀ r, al r = true → al' r = true
  all : ∀ m x, m < k → (adj.getD i [])[m]? = some ((x : Nat) : Int) → al' x = true
  cl : ∀ r, al' r = true → al r = false → ∃ j : Nat, os r = (j : Int) ∧ ∀ x, Goes adj j x → al' x = true
variable {R : Nat} {adj : List (List Int)} {hs os hs' os' : Nat → Int} {al al' al'' : Nat → Bool} {i k j r : Nat}
theorem tried_zero : Tried adj os al i 0 al := ⟨fun _ h => h, fun _ _ h => by omega, fun r h k => by rw [h] at k; cases k⟩
theorem Tried.skip (h : Tried adj os al i k al') (hr : (adj.getD i [])[k]? = some (r : Int)) (ha : al' r = true) : Tried adj os al i (k + 1) al' :=
  ⟨h.up, fun m x hm hx => by
    by_cases e : m = k
    · subst e
      rw [hr] at hx
      have : r = x := by
        injection hx with hx
        omega
      exact this ▸ ha
    · exact h.all m x (by omega) hx, h.cl⟩
theorem Tried.miss (h : Tried adj os al i k al') (hr : (adj.getD i [])[k]? = some (r : Int)) (ho : os r = (j : Int)) (hm : Missed adj os (updB al' r) j al'') : Tried adj os al i (k + 1) al'' := by
  have hup : ∀ x, al' x = true → al'' x = true := fun x hx => hm.up x (by unfold updB; split <;> first | rfl | exact hx)
  have hrr : al'' r = true := hm.up r (by unfold updB; rw [if_pos rfl])
  refine ⟨fun x hx => hup x (h.up x hx), fun m x hlt hx => ?_, fun x h1 h2 => ?_⟩
  · by_cases e : m = k
    · subst e
      rw [hr] at hx
      have : r = x := by
        injection hx with hx
        omega
      exact this ▸ hrr
    · exact hup x (h.all m x (by omega) hx)
  · by_cases hxr : x = r
    · subst hxr
      exact ⟨j, ho, hm.all⟩
    · rcases hx : al' x with _ | _
      · exact hm.cl x h1 (by unfold updB; rw [if_neg hxr]; exact hx)
      · obtain ⟨q, e, hq⟩ := h.cl x hx h2
        exact ⟨q, e, fun y hy => hup y (hq y hy)⟩
theorem Tried.done (h : Tried adj os al i k al') (hk : (adj.getD i []).length ≤ k) : Missed adj os al i al' :=
  ⟨h.up, fun x hx => by
    obtain ⟨m, hm⟩ := List.mem_iff_getElem?.1 hx
    have : m < (adj.getD i []).length := (List.getElem?_eq_some_iff.1 hm).1
    exact h.all m x (by omega) hm, h.cl⟩

/-- One that nobody has. -/
theorem found_free (hP : Pairs R adj hs os) (hi : i < adj.length) (hr : r < R) (hg : Goes adj i r) (ho : os r = -1) (ha : al r = false) : Found R adj hs os al i (updI hs i r) (updI os r i) := by
  have hn : ∀ j, j < adj.length → hs j ≠ (r : Int) := by
    intro j hj e
    rcases hP.l j hj with e1 | ⟨s, _, e1, _, o⟩
    · omega
    · have : s = r := by omega
      subst this
      omega
  refine ⟨⟨r, hr, if_pos rfl, hg, if_pos rfl, ha⟩, fun j _ hj => by unfold updI; rw [if_neg hj], fun j hj => ?_, fun s hs' => ?_, fun s hs' => ?_, fun S hS => ⟨fun hall => ?_, fun s hs' => ?_⟩⟩
  · unfold updI
    by_cases e : j = i
    · subst e
      rw [if_pos rfl]
      exact .inr ⟨r, hr, rfl, hg, if_pos rfl⟩
    · rw [if_neg e]
      rcases hP.l j hj with e1 | ⟨s, h1, h2, h3, h4⟩
      · exact .inl e1
      · refine .inr ⟨s, h1, h2, h3, ?_⟩
        rw [if_neg]
        · exact h4
        · rintro rfl
          exact hn j hj h2
  · unfold updI
    by_cases e : s = r
    · subst e
      rw [if_pos rfl]
      exact .inr ⟨i, hi, rfl, .inl (if_pos rfl)⟩
    · rw [if_neg e]
      rcases hP.r s hs' with e1 | ⟨j, h1, h2, h3⟩
      · exact .inl e1
      · refine .inr ⟨j, h1, h2, ?_⟩
        by_cases e2 : j = i
        · subst e2
          exact .inr ⟨rfl, h3⟩
        · rw [if_neg e2]
          exact .inl h3
  · unfold updI
    rw [if_neg]
    rintro rfl
    rw [ha] at hs'
    cases hs'
  · obtain ⟨j, e, _⟩ := hS r (hall r hg)
    omega
  · unfold updI
    rw [if_neg]
    rintro rfl
    obtain ⟨j, e, _⟩ := hS _ hs'
    omega

/-- One whose own could be had another one. -/
theorem found_more (hP : Pairs R adj hs os) (hi : i < adj.length) (hpre : hs i = -1 ∨ ∃ q : Nat, hs i = (q : Int) ∧ al q = true) (hr : r < R) (hg : Goes adj i r) (ho : os r = (j : Int)) (hup : ∀ x, al x = true → al' x = true) (ha : al' r = false)
    (hF : Found R adj hs os (updB al' r) j hs' os') : Found R adj hs os al i (updI hs' i r) (updI os' r i) := by
  have har : al r = false := by
    rcases h : al r with _ | _
    · rfl
    · rw [hup r h] at ha
      cases ha
  have hu : ∀ x, al x = true → updB al' r x = true := fun x hx => by unfold updB; split <;> first | rfl | exact hup x hx
  obtain ⟨hjn, hjr⟩ : j < adj.length ∧ hs j = (r : Int) := by
    rcases hP.r r hr with e | ⟨q, h1, h2, h3⟩
    · omega
    · have : q = j := by omega
      subst this
      exact ⟨h1, h3⟩
  have hij : j ≠ i := by
    rintro rfl
    rcases hpre with e | ⟨q, e, hq⟩
    · omega
    · have : q = r := by omega
      subst this
      rw [har] at hq
      cases hq
  obtain ⟨r1, hr1, e1, hg1, o1, ha1⟩ := hF.a
  have hr1r : r1 ≠ r := by
    rintro rfl
    unfold updB at ha1
    rw [if_pos rfl] at ha1
    cases ha1
  have hor : os' r = (j : Int) := (hF.e r (by unfold updB; rw [if_pos rfl])).trans ho
  refine ⟨⟨r, hr, if_pos rfl, hg, if_pos rfl, har⟩, fun q hq hqi => ?_, fun q hq => ?_, fun s hsR => ?_, fun s hsa => ?_, fun S hS => ?_⟩
  · unfold updI
    rw [if_neg hqi]
    by_cases e : q = j
    · subst e
      constructor
      · intro h; omega
      · intro h; omega
    · exact hF.b q hq e
  · unfold updI
    by_cases e : q = i
    · subst e
      rw [if_pos rfl]
      exact .inr ⟨r, hr, rfl, hg, if_pos rfl⟩
    · rw [if_neg e]
      rcases hF.c q hq with e2 | ⟨s, h1, h2, h3, h4⟩
      · exact .inl e2
      · refine .inr ⟨s, h1, h2, h3, ?_⟩
        rw [if_neg]
        · exact h4
        · rintro rfl
          have : q = j := by omega
          subst this
          omega
  · unfold updI
    by_cases e : s = r
    · subst e
      rw [if_pos rfl]
      exact .inr ⟨i, hi, rfl, .inl (if_pos rfl)⟩
    · rw [if_neg e]
      rcases hF.d s hsR with e2 | ⟨q, h1, h2, h3⟩
      · exact .inl e2
      · refine .inr ⟨q, h1, h2, ?_⟩
        have h4 : hs' q = (s : Int) := by
          rcases h3 with h3 | ⟨rfl, h3⟩
          · exact h3
          · omega
        by_cases e3 : q = i
        · subst e3
          right
          refine ⟨rfl, ?_⟩
          rcases hpre with e4 | ⟨q0, e4, hq0⟩
          · have := (hF.b q hi (fun e => hij e.symm)).1 e4
            omega
          · -- whom it had is reached, so nothing changed there
            have hq0R : q0 < R := by
              rcases hP.l q hi with e5 | ⟨s', h5, h6, _⟩
              · omega
              · omega
            have hoq : os q0 = (q : Int) := by
              rcases hP.l q hi with e5 | ⟨s', h5, h6, _, h7⟩
              · omega
              · have : s' = q0 := by omega
                subst this
                exact h7
            have hoq' := (hF.e q0 (hu q0 hq0)).trans hoq
            rcases hF.d q0 hq0R with e6 | ⟨q', _, h8, h9⟩
            · omega
            · have : q' = q := by omega
              subst this
              rcases h9 with h9 | ⟨h9, _⟩
              · omega
              · exact absurd h9.symm hij
        · rw [if_neg e3]
          exact .inl h4
  · unfold updI
    rw [if_neg]
    · exact hF.e s (hu s hsa)
    · rintro rfl
      rw [har] at hsa
      cases hsa
  · obtain ⟨h1, h2⟩ := hF.f S hS
    have hrS : ¬ S r := by
      intro h
      obtain ⟨q, e, hq⟩ := hS r h
      have : q = j := by omega
      subst this
      exact h1 hq
    refine ⟨fun hall => hrS (hall r hg), fun s hs' => ?_⟩
    unfold updI
    rw [if_neg]
    · exact h2 s hs'
    · rintro rfl
      exact hrS hs'

/-! ### All of the left, one by one -/
structure Great (R : Nat) (adj : List (List Int)) (hs os : Nat → Int) (k : Nat) : Prop where
  p : Pairs R adj hs os
  rest : ∀ i, k ≤ i → i < adj.length → hs i = -1
  shut : ∀ i, i < k → hs i = -1 → ∃ S, Clo adj os S ∧ ∀ x, Goes adj i x → S x
theorem great_zero (h1 : ∀ i, hs i = -1) (h2 : ∀ r, os r = -1) : Great R adj hs os 0 := ⟨⟨fun i _ => .inl (h1 i), fun r _ => .inl (h2 r)⟩, fun i _ _ => h1 i, fun i hi => by omega⟩
theorem Great.hit (h : Great R adj hs os k) (hk : k < adj.length) (hF : Found R adj hs os al k hs' os') : Great R adj hs' os' (k + 1) := by
  have h0 := h.rest k (Nat.le_refl _) hk
  refine ⟨⟨hF.c, fun r hr => ?_⟩, fun i hi hil => ?_, fun i hi he => ?_⟩
  · rcases hF.d r hr with e | ⟨j, h1, h2, h3⟩
    · exact .inl e
    · refine .inr ⟨j, h1, h2, ?_⟩
      rcases h3 with h3 | ⟨rfl, h3⟩
      · exact h3
      · omega
  · exact (hF.b i hil (by omega)).1 (h.rest i (by omega) hil)
  · have hik : i ≠ k := by
      rintro rfl
      obtain ⟨r, _, e, _⟩ := hF.a
      omega
    obtain ⟨S, hS, hx⟩ := h.shut i (by omega) ((hF.b i (by omega) hik).2 he)
    refine ⟨S, fun r hr => ?_, hx⟩
    rw [(hF.f S hS).2 r hr]
    exact hS r hr
theorem Great.miss (h : Great R adj hs os k) (ha : ∀ r, al r = false) (hM : Missed adj os al k al') : Great R adj hs os (k + 1) :=
  ⟨h.p, fun i hi hl => h.rest i (by omega) hl, fun i hi he => by
    by_cases e : i = k
    · subst e
      exact ⟨fun r => al' r = true, fun r hr => hM.cl r hr (ha r), hM.all⟩
    · exact h.shut i (by omega) he⟩

/-! ### Who is reached from those that have nobody -/
structure Reach (adj : List (List Int)) (hs os : Nat → Int) (k : Nat) (al : Nat → Bool) : Prop where
  from_ : ∀ i, i < k → hs i = -1 → ∀ x, Goes adj i x → al x = true
  cl : ∀ r, al r = true → ∃ j : Nat, os r = (j : Int) ∧ ∀ x, Goes adj j x → al x = true
theorem reach_zero (ha : ∀ r, al r = false) : Reach adj hs os 0 al := ⟨fun i hi => by omega, fun r h => by rw [ha r] at h; cases h⟩
theorem Reach.skip (h : Reach adj hs os k al) (hk : hs k ≠ -1) : Reach adj hs os (k + 1) al := ⟨fun i hi he => by
    by_cases e : i = k
    · subst e; exact absurd he hk
    · exact h.from_ i (by omega) he, h.cl⟩
theorem Reach.miss (h : Reach adj hs os k al) (hM : Missed adj os al k al') : Reach adj hs os (k + 1) al' :=
  ⟨fun i hi he => by
    by_cases e : i = k
    · subst e; exact hM.all
    · exact fun x hx => hM.up x (h.from_ i (by omega) he x hx), fun r hr => by
    rcases hx : al r with _ | _
    · exact hM.cl r hr hx
    · obtain ⟨j, e, hj⟩ := h.cl r hx
      exact ⟨j, e, fun x hx => hM.up x (hj x hx)⟩⟩
/-- Of a matching that is greatest none goes through. -/
theorem Great.never (h : Great R adj hs os adj.length) (hi : i < adj.length) (h0 : hs i = -1) : ¬ Found R adj hs os al i hs' os' := by
  intro hF
  obtain ⟨S, hS, hx⟩ := h.shut i hi h0
  exact (hF.f S hS).1 hx
def isL (hs : Nat → Int) (al : Nat → Bool) (i : Nat) : Bool := decide (hs i ≠ -1) && !al (hs i).toNat
def isR (hs : Nat → Int) (al : Nat → Bool) (i : Nat) : Bool := decide (hs i ≠ -1) && al (hs i).toNat
/-- What is told is a cover: as many as have one. -/
theorem reach_cov (hP : Pairs R adj hs os) (h : Reach adj hs os adj.length al) (hR : OnR R adj) : Cov adj (isL hs al) fun r => decide (∃ i, i < adj.length ∧ isR hs al i = true ∧ hs i = (r : Int)) := by
  intro i r hg
  have hi := goes_lt hg
  have hrR : r < R := by
    obtain ⟨s, e, hs⟩ := hR i r hg
    omega
  have key : al r = true → (decide (∃ i, i < adj.length ∧ isR hs al i = true ∧ hs i = (r : Int))) = true := by
    intro ha
    obtain ⟨j, ho, _⟩ := h.cl r ha
    rcases hP.r r hrR with e | ⟨q, h1, h2, h3⟩
    · omega
    · refine decide_eq_true ⟨q, h1, ?_, h3⟩
      unfold isR
      rw [h3, Int.toNat_natCast, ha]
      simp
  rcases hP.l i hi with e | ⟨s, h1, h2, h3, h4⟩
  · exact .inr (key (h.from_ i hi e r hg))
  · rcases hs' : al s with _ | _
    · left
      unfold isL
      rw [h2, Int.toNat_natCast, hs']
      simp
    · obtain ⟨j, ho, hj⟩ := h.cl s hs'
      have : j = i := by omega
      subst this
      exact .inr (key (hj r hg))
theorem reach_size (hs : Nat → Int) (al : Nat → Bool) (n : Nat) : cntP n (isL hs al) + cntP n (isR hs al) = cntP n fun i => decide (hs i ≠ -1) := by
  rw [cntP_split (fun i => decide (hs i ≠ -1)) (fun i => al (hs i).toNat) n]
  unfold isL isR
  omega

end Go.Proofs.Ytmgfhehnehcmpaa.Wp
