/- How great a greatest matching is, plain: what a search leaves is a matching and a cover of one size; sides that are one more, or all with all. Nothing of the program here. -/
import Derived.Test.YtjhkmilfhecdfaaKPure
namespace Go.Proofs.Ytjhkmilfhecdfaa.Wp

theorem great_reach {R : Nat} {adj : List (List Int)} {hs os : Nat → Int} (h : Great R adj hs os adj.length) : ∃ al, Reach adj hs os adj.length al := by
  classical
  refine ⟨fun r => decide (∃ i, i < adj.length ∧ hs i = -1 ∧ ∃ S, Clo adj os S ∧ (∀ x, Goes adj i x → S x) ∧ S r), ?_, ?_⟩
  · intro i hi he x hx
    obtain ⟨S, hS, hall⟩ := h.shut i hi he
    exact decide_eq_true ⟨i, hi, he, S, hS, hall, hall x hx⟩
  · intro r hr
    obtain ⟨i, hi, he, S, hS, hall, hSr⟩ := of_decide_eq_true hr
    obtain ⟨j, ho, hj⟩ := hS r hSr
    exact ⟨j, ho, fun x hx => decide_eq_true ⟨i, hi, he, S, hS, hall, hj x hx⟩⟩
/-- So many on the right as have one that is reached. -/
theorem rights_le {R : Nat} {adj : List (List Int)} {hs os : Nat → Int} (hP : Pairs R adj hs os) (al : Nat → Bool) : cntP R (fun r => decide (∃ i, i < adj.length ∧ isR hs al i = true ∧ hs i = (r : Int))) ≤ cntP adj.length (isR hs al) := by
  have key : ∀ r : Nat, decide (∃ i, i < adj.length ∧ isR hs al i = true ∧ hs i = (r : Int)) = true → ∃ i : Nat, i < adj.length ∧ isR hs al i = true ∧ hs i = (r : Int) ∧ os r = (i : Int) := by
    intro r hr
    obtain ⟨i, hi, h1, h2⟩ := of_decide_eq_true hr
    rcases hP.l i hi with e | ⟨s, _, e, _, o⟩
    · omega
    · have : s = r := by omega
      subst this
      exact ⟨i, hi, h1, h2, o⟩
  refine cntP_inj (fun r => (os r).toNat) (fun r _ hr => ?_) (fun r q _ _ hr hq e => ?_)
  · obtain ⟨i, hi, h1, _, o⟩ := key r hr
    rw [o, Int.toNat_natCast]
    exact ⟨hi, h1⟩
  · obtain ⟨i, _, _, h2, o⟩ := key r hr
    obtain ⟨j, _, _, h4, o2⟩ := key q hq
    have e' : i = j := by
      rw [o, o2] at e
      simpa using e
    subst e'
    omega
/-- The greatest matchings have n. -/
def Big (R : Nat) (adj : List (List Int)) (n : Nat) : Prop := (∃ h, Mat R adj h ∧ msize adj h = n) ∧ ∃ A B, Cov adj A B ∧ cntP adj.length A + cntP R B ≤ n
theorem Big.eq {R : Nat} {adj : List (List Int)} {n m : Nat} (h : Big R adj n) (k : Big R adj m) : n = m := by
  obtain ⟨⟨h1, a1, a2⟩, A, B, a3, a4⟩ := h
  obtain ⟨⟨h2, b1, b2⟩, A', B', b3, b4⟩ := k
  have := mat_le_cov a1 b3
  have := mat_le_cov b1 a3
  omega
theorem great_big {R : Nat} {adj : List (List Int)} {hs os : Nat → Int} (h : Great R adj hs os adj.length) (hR : OnR R adj) : Big R adj (msize adj hs) := by
  obtain ⟨al, hal⟩ := great_reach h
  refine ⟨⟨hs, h.p.mat, rfl⟩, _, _, reach_cov h.p hal hR, ?_⟩
  have h1 := rights_le h.p al
  have h2 := reach_size hs al adj.length
  unfold msize
  omega
theorem Big.le {R : Nat} {adj : List (List Int)} {n : Nat} (h : Big R adj n) : n ≤ adj.length ∧ n ≤ R := by
  obtain ⟨⟨h1, a1, rfl⟩, _⟩ := h
  refine ⟨cntP_le _ _, ?_⟩
  have h2 : Cov adj (fun _ => false) (fun r => decide (r < R)) ∨ True := .inr trivial
  have key : ∀ i, i < adj.length → decide (h1 i ≠ -1) = true → ∃ r : Nat, r < R ∧ h1 i = (r : Int) := fun i hi hp => by
    rcases a1.ok i hi with e | ⟨r, hr, e, _⟩
    · rw [decide_eq_true_iff] at hp
      exact absurd e hp
    · exact ⟨r, hr, e⟩
  have := cntP_inj (n := adj.length) (R := R) (p := fun i => decide (h1 i ≠ -1)) (q := fun _ => true) (fun i => (h1 i).toNat) (fun i hi hp => by
    obtain ⟨r, hr, e⟩ := key i hi hp
    rw [e, Int.toNat_natCast]
    exact ⟨hr, rfl⟩) (fun i j hi hj hp hq e => by
    obtain ⟨r, hr, e1⟩ := key i hi hp
    obtain ⟨s, hs, e2⟩ := key j hj hq
    refine a1.inj i j hi hj ?_ (by rw [decide_eq_true_iff] at hp; exact hp)
    rw [e1, e2] at e ⊢
    have e3 : r = s := by simpa using e
    rw [e3])
  rw [cntP_all (p := fun _ => true) (n := R) fun _ _ => rfl] at this
  exact this

/-! ### One more on the left -/
theorem getD_app (adj : List (List Int)) (l : List Int) (i : Nat) : (adj ++ [l]).getD i [] = if i < adj.length then adj.getD i [] else if i = adj.length then l else [] := by
  rw [List.getD_eq_getElem?_getD, List.getElem?_append]
  split
  · rw [List.getD_eq_getElem?_getD]
  · rename_i h
    split
    · rename_i e
      subst e
      simp
    · rw [List.getElem?_eq_none (by simp; omega)]
      rfl
theorem goes_app {adj : List (List Int)} {l : List Int} {i r : Nat} : Goes (adj ++ [l]) i r ↔ (i < adj.length ∧ Goes adj i r) ∨ (i = adj.length ∧ (r : Int) ∈ l) := by
  unfold Goes
  rw [getD_app]
  by_cases h : i < adj.length
  · rw [if_pos h]
    constructor
    · exact fun k => .inl ⟨h, k⟩
    · rintro (⟨_, k⟩ | ⟨e, _⟩)
      · exact k
      · omega
  · rw [if_neg h]
    by_cases e : i = adj.length
    · rw [if_pos e]
      constructor
      · exact fun k => .inr ⟨e, k⟩
      · rintro (⟨k, _⟩ | ⟨_, k⟩)
        · omega
        · exact k
    · rw [if_neg e]
      constructor
      · intro k; simp at k
      · rintro (⟨k, _⟩ | ⟨k, _⟩)
        · omega
        · omega
/-- One put behind. -/
def putI (h : Nat → Int) (n : Nat) (x : Int) : Nat → Int := fun i => if i < n then h i else x
theorem mat_put {R : Nat} {adj : List (List Int)} {l : List Int} {h : Nat → Int} (hm : Mat R adj h) (x : Int) (hx : x = -1 ∨ ∃ r : Nat, r < R ∧ x = (r : Int) ∧ (r : Int) ∈ l ∧ ∀ i, i < adj.length → h i ≠ (r : Int)) :
    Mat R (adj ++ [l]) (putI h adj.length x) ∧ msize (adj ++ [l]) (putI h adj.length x) = msize adj h + if x = -1 then 0 else 1 := by
  have e1 : ∀ i, i < adj.length → putI h adj.length x i = h i := fun i hi => if_pos hi
  have e2 : putI h adj.length x adj.length = x := if_neg (Nat.lt_irrefl _)
  refine ⟨⟨fun i hi => ?_, fun i j hi hj e hn => ?_⟩, ?_⟩
  · rw [List.length_append] at hi
    by_cases hlt : i < adj.length
    · rw [e1 i hlt]
      rcases hm.ok i hlt with e | ⟨r, hr, e, hg⟩
      · exact .inl e
      · exact .inr ⟨r, hr, e, goes_app.2 (.inl ⟨hlt, hg⟩)⟩
    · have : i = adj.length := by simp at hi; omega
      subst this
      rw [e2]
      rcases hx with e | ⟨r, hr, e, hl, _⟩
      · exact .inl e
      · exact .inr ⟨r, hr, e, goes_app.2 (.inr ⟨rfl, hl⟩)⟩
  · rw [List.length_append] at hi hj
    simp at hi hj
    by_cases h1 : i < adj.length
    · by_cases h2 : j < adj.length
      · rw [e1 i h1, e1 j h2] at e
        rw [e1 i h1] at hn
        exact hm.inj i j h1 h2 e hn
      · have : j = adj.length := by omega
        subst this
        rw [e1 i h1, e2] at e
        rw [e1 i h1] at hn
        rcases hx with e3 | ⟨r, _, e3, _, h4⟩
        · rw [e3] at e; exact absurd e hn
        · exact absurd (e.trans e3) (h4 i h1)
    · have : i = adj.length := by omega
      subst this
      rw [e2] at hn e
      by_cases h2 : j < adj.length
      · rw [e1 j h2] at e
        rcases hx with e3 | ⟨r, _, e3, _, h4⟩
        · exact absurd e3 hn
        · exact absurd (e.symm.trans e3) (h4 j h2)
      · omega
  · unfold msize
    rw [List.length_append, show adj.length + [l].length = adj.length + 1 from rfl, cntP_succ, e2]
    congr 1
    · exact cntP_congr fun i hi => by rw [e1 i hi]
    · by_cases hx1 : x = -1
      · rw [hx1]; rfl
      · rw [if_neg hx1, if_pos (by simpa using hx1)]
def putB (A : Nat → Bool) (n : Nat) (b : Bool) : Nat → Bool := fun i => if i < n then A i else b
theorem cov_put {R n : Nat} {adj : List (List Int)} {l : List Int} {A B : Nat → Bool} (h : Cov adj A B) (hn : cntP adj.length A + cntP R B ≤ n) : Cov (adj ++ [l]) (putB A adj.length true) B ∧ cntP (adj ++ [l]).length (putB A adj.length true) + cntP R B ≤ n + 1 := by
  refine ⟨fun i r hg => ?_, ?_⟩
  · rcases goes_app.1 hg with ⟨hi, hg⟩ | ⟨e, _⟩
    · rcases h i r hg with h1 | h1
      · exact .inl (by unfold putB; rw [if_pos hi]; exact h1)
      · exact .inr h1
    · exact .inl (by unfold putB; rw [if_neg (by omega)])
  · rw [List.length_append, show adj.length + [l].length = adj.length + 1 from rfl, cntP_succ]
    have e1 : cntP adj.length (putB A adj.length true) = cntP adj.length A := cntP_congr fun i hi => if_pos hi
    rw [e1]
    split <;> omega
theorem Big.more {R n m : Nat} {adj : List (List Int)} {l : List Int} (h : Big R adj n) (k : Big R (adj ++ [l]) m) : m = n ∨ m = n + 1 := by
  obtain ⟨⟨h1, a1, rfl⟩, A, B, a3, a4⟩ := h
  obtain ⟨⟨h2, b1, rfl⟩, A', B', b3, b4⟩ := k
  obtain ⟨c1, c2⟩ := mat_put (l := l) a1 (-1) (.inl rfl)
  rw [if_pos rfl] at c2
  have d1 := mat_le_cov c1 b3
  obtain ⟨d2, d3⟩ := cov_put (R := R) (l := l) a3 a4
  have d4 := mat_le_cov b1 d2
  omega
/-- If not all on the right are had, there is one that is not. -/
theorem free_one {R : Nat} {adj : List (List Int)} {h : Nat → Int} (hlt : msize adj h < R) : ∃ r : Nat, r < R ∧ ∀ i, i < adj.length → h i ≠ (r : Int) := by
  refine Classical.byContradiction fun hno => ?_
  have key : ∀ r : Nat, r < R → ∃ i, i < adj.length ∧ h i = (r : Int) := fun r hr => Classical.byContradiction fun hc => hno ⟨r, hr, fun i hi e => hc ⟨i, hi, e⟩⟩
  have hf : ∀ r : Nat, ∃ i, r < R → i < adj.length ∧ h i = (r : Int) := fun r => by
    by_cases hr : r < R
    · obtain ⟨i, hi⟩ := key r hr
      exact ⟨i, fun _ => hi⟩
    · exact ⟨0, fun e => absurd e hr⟩
  have := cntP_inj (n := R) (R := adj.length) (p := fun _ => true) (q := fun i => decide (h i ≠ -1)) (fun r => (hf r).choose) (fun r hr _ => by
    obtain ⟨h1, h2⟩ := (hf r).choose_spec hr
    refine ⟨h1, decide_eq_true ?_⟩
    rw [h2]
    omega) (fun r q hr hq _ _ e => by
    have h2 := ((hf r).choose_spec hr).2
    have h4 := ((hf q).choose_spec hq).2
    rw [e] at h2
    omega)
  rw [cntP_all (p := fun _ => true) (n := R) fun _ _ => rfl] at this
  unfold msize at hlt
  omega
theorem Big.all {R n m : Nat} {adj : List (List Int)} {l : List Int} (hl : ∀ r : Nat, r < R → (r : Int) ∈ l) (h : Big R adj n) (k : Big R (adj ++ [l]) m) : m = min (n + 1) R := by
  have hle := k.le.2
  have hmo := h.more k
  obtain ⟨⟨h1, a1, rfl⟩, A, B, a3, a4⟩ := h
  obtain ⟨⟨h2, b1, rfl⟩, A', B', b3, b4⟩ := k
  by_cases hlt : msize adj h1 < R
  · obtain ⟨r, hr, hno⟩ := free_one hlt
    obtain ⟨c1, c2⟩ := mat_put (l := l) a1 (r : Int) (.inr ⟨r, hr, rfl, hl r hr, hno⟩)
    rw [if_neg (by omega)] at c2
    have d1 := mat_le_cov c1 b3
    omega
  · omega

/-! ### All with all, none with any -/
theorem big_all (n R : Nat) (adj : List (List Int)) (hn : adj.length = n) (h : ∀ i : Nat, i < n → ∀ r : Nat, r < R → Goes adj i r) (hR : OnR R adj) : Big R adj (min n R) := by
  subst hn
  refine ⟨⟨fun i => if i < R then (i : Int) else -1, ⟨fun i hi => ?_, fun i j hi hj e hne => ?_⟩, ?_⟩, ?_⟩
  · by_cases hr : i < R
    · exact .inr ⟨i, hr, if_pos hr, h i hi i hr⟩
    · exact .inl (if_neg hr)
  · have e : (if i < R then (i : Int) else -1) = (if j < R then (j : Int) else -1) := e
    have hne : (if i < R then (i : Int) else -1) ≠ -1 := hne
    split at e
    · split at e
      · omega
      · rename_i h1 _
        rw [if_pos h1] at hne
        omega
    · rename_i h1
      rw [if_neg h1] at hne
      exact absurd rfl hne
  · unfold msize
    rcases Nat.le_total adj.length R with hle | hle
    · rw [cntP_all fun i hi => decide_eq_true (by show (if i < R then (i : Int) else -1) ≠ -1; rw [if_pos (by omega)]; omega)]
      omega
    · have : ∀ n, R ≤ n → cntP n (fun i => decide ((if i < R then (i : Int) else -1) ≠ -1)) = R := by
        intro n hn
        induction n with
        | zero => have : R = 0 := by omega
                  subst this; rfl
        | succ n ih =>
          rw [cntP_succ]
          by_cases hrn : R ≤ n
          · rw [ih hrn, if_neg (by rw [if_neg (by omega)]; decide), Nat.add_zero]
          · have : R = n + 1 := by omega
            rw [if_pos (decide_eq_true (by rw [if_pos (by omega)]; omega)), cntP_all fun i hi => decide_eq_true (by rw [if_pos (by omega)]; omega)]
            omega
      rw [this _ hle]
      omega
  · rcases Nat.le_total adj.length R with hle | hle
    · refine ⟨fun _ => true, fun _ => false, fun _ _ _ => .inl rfl, ?_⟩
      rw [cntP_all fun _ _ => rfl, cntP_none fun _ _ => rfl]
      omega
    · refine ⟨fun _ => false, fun _ => true, fun _ _ _ => .inr rfl, ?_⟩
      rw [cntP_all (n := R) fun _ _ => rfl, cntP_none fun _ _ => rfl]
      omega
theorem big_none (R : Nat) (adj : List (List Int)) (h : ∀ i r : Nat, ¬ Goes adj i r) : Big R adj 0 := by
  refine ⟨⟨fun _ => -1, ⟨fun i _ => .inl rfl, fun i j _ _ _ hn => absurd rfl hn⟩, ?_⟩, fun _ => false, fun _ => false, fun i r hg => absurd hg (h i r), ?_⟩
  · unfold msize
    exact cntP_none fun _ _ => decide_eq_false (by simp)
  · rw [cntP_none fun _ _ => rfl, cntP_none fun _ _ => rfl]
    omega

end Go.Proofs.Ytjhkmilfhecdfaa.Wp
