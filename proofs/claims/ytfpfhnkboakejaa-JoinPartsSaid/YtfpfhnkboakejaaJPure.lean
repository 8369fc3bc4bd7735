/- What is connected, plain: graphs as lists of pairs, each vertex's least connected one, parts, the rank; the document's labels. Nothing of the program here. -/
import Derived.Lib.Hide
namespace Go.Proofs.Ytfpfhnkboakejaa.Wp

/-! ### How many numbers below n have a property -/
def cnt (p : Nat → Bool) (n : Nat) : Nat := ((List.range n).filter p).length
theorem cnt_succ (p : Nat → Bool) (n : Nat) : cnt p (n + 1) = cnt p n + if p n then 1 else 0 := by
  unfold cnt
  rw [List.range_succ, List.filter_append, List.length_append]
  cases h : p n <;> simp [h]
theorem cnt_le (p : Nat → Bool) : ∀ n, cnt p n ≤ n
  | 0 => by simp [cnt]
  | n + 1 => by
    rw [cnt_succ]
    have := cnt_le p n
    split <;> omega
theorem cnt_mono {p q : Nat → Bool} : ∀ {n : Nat}, (∀ v, v < n → p v = true → q v = true) → cnt p n ≤ cnt q n
  | 0, _ => by simp [cnt]
  | n + 1, h => by
    have ih := cnt_mono (p := p) (q := q) (n := n) fun v hv => h v (by omega)
    have hn := h n (by omega)
    rw [cnt_succ, cnt_succ]
    cases hp : p n
    · simp; omega
    · simp [hn hp]; omega
theorem cnt_lt {p q : Nat → Bool} : ∀ {n : Nat}, (∀ v, v < n → p v = true → q v = true) → (∃ y, y < n ∧ p y = false ∧ q y = true) → cnt p n < cnt q n
  | 0, _, ⟨y, hy, _⟩ => by omega
  | n + 1, h, ⟨y, hy, hp, hq⟩ => by
    rw [cnt_succ, cnt_succ]
    by_cases hyn : y = n
    · subst hyn
      have := cnt_mono (p := p) (q := q) (n := y) fun v hv => h v (by omega)
      simp [hp, hq]
      omega
    · have ih := cnt_lt (p := p) (q := q) (n := n) (fun v hv => h v (by omega)) ⟨y, by omega, hp, hq⟩
      have hn := h n (by omega)
      cases hpn : p n
      · simp; omega
      · simp [hn hpn]; omega
theorem cnt_one {p q : Nat → Bool} {y : Nat} (hp : p y = true) (hq : q y = false) (h : ∀ v, v ≠ y → p v = q v) : ∀ {n : Nat}, cnt p n = cnt q n + if y < n then 1 else 0
  | 0 => by simp [cnt]
  | n + 1 => by
    have ih := cnt_one hp hq h (n := n)
    rw [cnt_succ, cnt_succ, ih]
    by_cases hyn : y = n
    · subst hyn
      simp [hp, hq]
    · rw [h n (by omega)]
      by_cases hlt : y < n
      · rw [if_pos hlt, if_pos (show y < n + 1 by omega)]; omega
      · rw [if_neg hlt, if_neg (show ¬ y < n + 1 by omega)]; omega
theorem cnt_all {p : Nat → Bool} : ∀ {n : Nat}, cnt p n = n → ∀ v, v < n → p v = true
  | 0, _, v, hv => by omega
  | n + 1, h, v, hv => by
    rw [cnt_succ] at h
    have hl := cnt_le p n
    cases hp : p n
    · rw [hp] at h; simp at h; omega
    · rw [hp] at h
      simp at h
      by_cases hvn : v = n
      · subst hvn; exact hp
      · exact cnt_all h v (by omega)
theorem cnt_full {p : Nat → Bool} : ∀ {n : Nat}, (∀ v, v < n → p v = true) → cnt p n = n
  | 0, _ => by simp [cnt]
  | n + 1, h => by
    rw [cnt_succ, h n (by omega), cnt_full fun v hv => h v (by omega)]
    simp

/-! ### What is connected -/
/-- g tells no edge's ends apart. -/
def Cst (es : List (Nat × Nat)) (g : Nat → Nat) : Prop := ∀ e ∈ es, g e.1 = g e.2
/-- f tells of each vertex the least that it is connected with. -/
def Good (es : List (Nat × Nat)) (f : Nat → Nat) : Prop := Cst es f ∧ (∀ g, Cst es g → ∀ v, g (f v) = g v) ∧ ∀ v, f v ≤ v

theorem Good.uniq {es es' : List (Nat × Nat)} {f f' : Nat → Nat} (h : Good es f) (h' : Good es' f') (he : ∀ g, Cst es g ↔ Cst es' g) : f = f' := by
  funext v
  have a := h.2.1 f' ((he f').2 h'.1) v
  have b := h'.2.1 f ((he f).1 h.1) v
  have c := h'.2.2 (f v)
  have d := h.2.2 (f' v)
  omega
theorem Good.idem {es : List (Nat × Nat)} {f : Nat → Nat} (h : Good es f) (v : Nat) : f (f v) = f v := h.2.1 f h.1 v

theorem cst_append {a b : List (Nat × Nat)} {g : Nat → Nat} : Cst (a ++ b) g ↔ Cst a g ∧ Cst b g := by
  unfold Cst
  constructor
  · intro h
    exact ⟨fun e he => h e (List.mem_append.2 (.inl he)), fun e he => h e (List.mem_append.2 (.inr he))⟩
  · rintro ⟨h, k⟩ e he
    rcases List.mem_append.1 he with he | he
    · exact h e he
    · exact k e he
theorem cst_one {e : Nat × Nat} {g : Nat → Nat} : Cst [e] g ↔ g e.1 = g e.2 := by simp [Cst]
theorem cst_cons {e : Nat × Nat} {a : List (Nat × Nat)} {g : Nat → Nat} : Cst (e :: a) g ↔ g e.1 = g e.2 ∧ Cst a g := by simp [Cst]
theorem cst_nil (g : Nat → Nat) : Cst [] g := fun _ h => absurd h (by simp)

/-- One part of those whose least are a and b. -/
def mergeF (f : Nat → Nat) (a b : Nat) : Nat → Nat := fun v => if f v = max a b then min a b else f v
def compStep (f : Nat → Nat) (e : Nat × Nat) : Nat → Nat := mergeF f (f e.1) (f e.2)
/-- Each vertex's least connected one. -/
def compF (es : List (Nat × Nat)) : Nat → Nat := es.foldl compStep id

theorem merge_same (f : Nat → Nat) (a : Nat) : mergeF f a a = f := by
  funext v
  unfold mergeF
  split <;> omega
theorem good_nil : Good [] id := ⟨cst_nil _, fun _ _ _ => rfl, fun _ => Nat.le_refl _⟩
theorem good_step {es : List (Nat × Nat)} {f : Nat → Nat} (h : Good es f) (e : Nat × Nat) : Good (es ++ [e]) (compStep f e) := by
  obtain ⟨a, b⟩ := e
  have ia := h.idem a
  have ib := h.idem b
  refine ⟨?_, ?_, ?_⟩
  · rw [cst_append]
    refine ⟨fun e he => ?_, cst_one.2 ?_⟩
    · unfold compStep mergeF
      rw [h.1 e he]
    · unfold compStep mergeF
      simp only
      rcases Nat.le_total (f a) (f b) with hl | hl
      · rw [Nat.max_eq_right hl, Nat.min_eq_left hl]
        split <;> simp_all
      · rw [Nat.max_eq_left hl, Nat.min_eq_right hl]
        split <;> simp_all
  · intro g hg v
    rw [cst_append, cst_one] at hg
    have k := h.2.1 g hg.1
    have ka := k a
    have kb := k b
    have kv := k v
    have hab : g a = g b := hg.2
    show g (if f v = max (f a) (f b) then min (f a) (f b) else f v) = g v
    split
    · rename_i hm
      rcases Nat.le_total (f a) (f b) with hl | hl
      · rw [Nat.max_eq_right hl] at hm
        rw [Nat.min_eq_left hl, ka, hab, ← kb, ← hm, kv]
      · rw [Nat.max_eq_left hl] at hm
        rw [Nat.min_eq_right hl, kb, ← hab, ← ka, ← hm, kv]
    · exact kv
  · intro v
    have hv := h.2.2 v
    show (if f v = max (f a) (f b) then min (f a) (f b) else f v) ≤ v
    split <;> omega
theorem good_fold : ∀ (es pre : List (Nat × Nat)) (f : Nat → Nat), Good pre f → Good (pre ++ es) (es.foldl compStep f)
  | [], pre, f, h => by simpa using h
  | e :: es, pre, f, h => by
    have := good_fold es (pre ++ [e]) _ (good_step h e)
    simpa using this
theorem good_comp (es : List (Nat × Nat)) : Good es (compF es) := good_fold es [] id good_nil
theorem comp_snoc (es : List (Nat × Nat)) (e : Nat × Nat) : compF (es ++ [e]) = compStep (compF es) e := by
  unfold compF
  rw [List.foldl_append]
  rfl
theorem comp_same {a b : List (Nat × Nat)} (h : ∀ g, Cst a g ↔ Cst b g) : compF a = compF b := (good_comp a).uniq (good_comp b) h
theorem comp_le (es : List (Nat × Nat)) (v : Nat) : compF es v ≤ v := (good_comp es).2.2 v
theorem comp_idem (es : List (Nat × Nat)) (v : Nat) : compF es (compF es v) = compF es v := (good_comp es).idem v
theorem comp_edge {es : List (Nat × Nat)} {e : Nat × Nat} (h : e ∈ es) : compF es e.1 = compF es e.2 := (good_comp es).1 e h
theorem comp_more (a b : List (Nat × Nat)) (v : Nat) : compF (a ++ b) (compF a v) = compF (a ++ b) v :=
  (good_comp a).2.1 _ ((cst_append.1 (good_comp (a ++ b)).1).1) v

/-! ### How many parts there are -/
def rootB (f : Nat → Nat) (r : Nat) : Bool := decide (f r = r)
def nparts (n : Nat) (es : List (Nat × Nat)) : Nat := cnt (rootB (compF es)) n
theorem nparts_le (n : Nat) (es : List (Nat × Nat)) : nparts n es ≤ n := cnt_le _ _
theorem nparts_same {n : Nat} {a b : List (Nat × Nat)} (h : ∀ g, Cst a g ↔ Cst b g) : nparts n a = nparts n b := by unfold nparts; rw [comp_same h]
/-- An edge more between what is connected changes nothing. -/
theorem nparts_in {n : Nat} {es : List (Nat × Nat)} {e : Nat × Nat} (h : compF es e.1 = compF es e.2) : nparts n (es ++ [e]) = nparts n es := by
  unfold nparts
  rw [comp_snoc, compStep, h, merge_same]
/-- An edge more between what is apart makes one part less. -/
theorem nparts_out {n : Nat} {es : List (Nat × Nat)} {e : Nat × Nat} (h : compF es e.1 ≠ compF es e.2) (h1 : e.1 < n) (h2 : e.2 < n) : nparts n es = nparts n (es ++ [e]) + 1 := by
  obtain ⟨a, b⟩ := e
  unfold nparts
  rw [comp_snoc]
  have g := good_comp es
  generalize compF es = f at *
  have ia := g.idem a
  have ib := g.idem b
  have la := g.2.2 a
  have lb := g.2.2 b
  simp only at h h1 h2
  have hi : f (max (f a) (f b)) = max (f a) (f b) := by
    rcases Nat.le_total (f a) (f b) with hl | hl
    · rw [Nat.max_eq_right hl]; exact ib
    · rw [Nat.max_eq_left hl]; exact ia
  have lo : f (min (f a) (f b)) = min (f a) (f b) := by
    rcases Nat.le_total (f a) (f b) with hl | hl
    · rw [Nat.min_eq_left hl]; exact ia
    · rw [Nat.min_eq_right hl]; exact ib
  have := cnt_one (n := n) (p := rootB f) (q := rootB (compStep f (a, b))) (y := max (f a) (f b)) (by simpa [rootB] using hi) ?_ ?_
  · rw [this, if_pos (by omega)]
  · simp only [rootB, compStep, mergeF, decide_eq_false_iff_not]
    rw [if_pos hi]
    omega
  · intro v hv
    simp only [rootB, compStep, mergeF]
    rw [decide_eq_decide]
    by_cases hm : f v = max (f a) (f b)
    · rw [if_pos hm]
      constructor
      · intro he; omega
      · intro he
        rw [← he, lo] at hm
        omega
    · rw [if_neg hm]
theorem nparts_nil (n : Nat) : nparts n [] = n := cnt_full fun v _ => by simp [rootB, compF]
theorem nparts_step {n : Nat} {es : List (Nat × Nat)} {e : Nat × Nat} (h1 : e.1 < n) (h2 : e.2 < n) : nparts n (es ++ [e]) ≤ nparts n es ∧ nparts n es ≤ nparts n (es ++ [e]) + 1 := by
  by_cases h : compF es e.1 = compF es e.2
  · rw [nparts_in h]; omega
  · rw [nparts_out h h1 h2]; omega

/-- All edges lie below n. -/
def Lies (n : Nat) (es : List (Nat × Nat)) : Prop := ∀ e ∈ es, e.1 < n ∧ e.2 < n
theorem Lies.append {n : Nat} {a b : List (Nat × Nat)} : Lies n (a ++ b) ↔ Lies n a ∧ Lies n b := by
  unfold Lies
  constructor
  · intro h
    exact ⟨fun e he => h e (List.mem_append.2 (.inl he)), fun e he => h e (List.mem_append.2 (.inr he))⟩
  · rintro ⟨h, k⟩ e he
    rcases List.mem_append.1 he with he | he
    · exact h e he
    · exact k e he
theorem lies_one {n : Nat} {e : Nat × Nat} : Lies n [e] ↔ e.1 < n ∧ e.2 < n := by simp [Lies]

/-- A forest has as many parts less as it has edges; each graph so many at most. -/
theorem nparts_edges {n : Nat} : ∀ (b a : List (Nat × Nat)), Lies n b → nparts n a ≤ nparts n (a ++ b) + b.length
  | [], a, _ => by simp
  | e :: b, a, h => by
    have ih := nparts_edges b (a ++ [e]) (fun x hx => h x (by simp [hx]))
    have he := h e (by simp)
    have hs := nparts_step (es := a) he.1 he.2
    have hl : (a ++ [e]) ++ b = a ++ e :: b := by simp
    rw [hl] at ih
    rw [List.length_cons]
    omega
theorem nparts_more {n : Nat} : ∀ (b a : List (Nat × Nat)), Lies n b → nparts n (a ++ b) ≤ nparts n a
  | [], a, _ => by simp
  | e :: b, a, h => by
    have ih := nparts_more b (a ++ [e]) (fun x hx => h x (by simp [hx]))
    have he := h e (by simp)
    have hs := nparts_step (es := a) he.1 he.2
    have hl : (a ++ [e]) ++ b = a ++ e :: b := by simp
    rw [hl] at ih
    omega
theorem cst_comm (a b : List (Nat × Nat)) (g : Nat → Nat) : Cst (a ++ b) g ↔ Cst (b ++ a) g := by
  rw [cst_append, cst_append, and_comm]
theorem nparts_more' {n : Nat} (a b : List (Nat × Nat)) (h : Lies n a) : nparts n (a ++ b) ≤ nparts n b := by
  rw [nparts_same (cst_comm a b)]
  exact nparts_more a b h
/-- Both together have no greater rank than both ranks. -/
theorem nparts_sum {n : Nat} (a : List (Nat × Nat)) : ∀ (b c : List (Nat × Nat)), Lies n b → Lies n c → nparts n (a ++ c) + nparts n (c ++ b) ≤ nparts n (a ++ c ++ b) + nparts n c
  | [], c, _, _ => by simp
  | e :: b, c, h, hc => by
    have he := h e (by simp)
    have ih := nparts_sum a b (c ++ [e]) (fun x hx => h x (by simp [hx])) (Lies.append.2 ⟨hc, lies_one.2 he⟩)
    have e1 : c ++ [e] ++ b = c ++ e :: b := by simp
    have e2 : a ++ (c ++ [e]) = a ++ c ++ [e] := by simp
    have e3 : a ++ c ++ [e] ++ b = a ++ c ++ e :: b := by simp
    rw [e2, e1, e3] at ih
    by_cases hin : compF c e.1 = compF c e.2
    · have hin2 : compF (a ++ c) e.1 = compF (a ++ c) e.2 := by
        have k := (good_comp c).2.1 (compF (a ++ c)) (cst_append.1 (good_comp (a ++ c)).1).2
        rw [← k e.1, ← k e.2, hin]
      rw [nparts_in hin, nparts_in hin2] at ih
      omega
    · have := nparts_out hin he.1 he.2
      have := nparts_step (es := a ++ c) he.1 he.2
      omega

/-! ### The document's labels -/
def stepF (f : Nat → Nat) (e : Nat × Nat) : Nat → Nat := fun x => if x = e.2 then min (f e.1) (f e.2) else if x = e.1 then min (f e.1) (f e.2) else f x
def sweepF (es : List (Nat × Nat)) (f : Nat → Nat) : Nat → Nat := es.foldl stepF f
def roundsF (es : List (Nat × Nat)) : Nat → Nat → Nat
  | 0 => id
  | k + 1 => sweepF es (roundsF es k)
/-- Labels on their way. -/
def Inv (es : List (Nat × Nat)) (h : Nat → Nat) : Prop := (∀ g, Cst es g → ∀ v, g (h v) = g v) ∧ ∀ v, h v ≤ v

theorem inv_step {es : List (Nat × Nat)} {h : Nat → Nat} (hi : Inv es h) {e : Nat × Nat} (he : e ∈ es) : Inv es (stepF h e) := by
  refine ⟨fun g hg v => ?_, fun v => ?_⟩
  · have k1 := hi.1 g hg e.1
    have k2 := hi.1 g hg e.2
    have k3 := hg e he
    have km : g (min (h e.1) (h e.2)) = g e.2 := by
      rcases Nat.le_total (h e.1) (h e.2) with hl | hl
      · rw [Nat.min_eq_left hl, k1, k3]
      · rw [Nat.min_eq_right hl, k2]
    unfold stepF
    split
    · rename_i hv; rw [km, hv]
    · split
      · rename_i hv; rw [km, hv, k3]
      · exact hi.1 g hg v
  · have k1 := hi.2 e.1
    have k2 := hi.2 e.2
    have k3 := hi.2 v
    unfold stepF
    split
    · omega
    · split <;> omega
theorem step_le (h : Nat → Nat) (e : Nat × Nat) (x : Nat) : stepF h e x ≤ h x := by
  unfold stepF
  split
  · rename_i hx; rw [hx]; omega
  · split
    · rename_i hx; rw [hx]; omega
    · exact Nat.le_refl _
theorem inv_ge {es : List (Nat × Nat)} {h : Nat → Nat} (hi : Inv es h) (v : Nat) : compF es v ≤ h v := by
  have := hi.1 (compF es) (good_comp es).1 v
  have := comp_le es (h v)
  omega
theorem inv_fold {es : List (Nat × Nat)} : ∀ (t : List (Nat × Nat)) (h : Nat → Nat), Inv es h → (∀ e ∈ t, e ∈ es) →
    Inv es (t.foldl stepF h) ∧ (∀ v, h v = compF es v → t.foldl stepF h v = compF es v) ∧
      ∀ e ∈ t, h e.1 = compF es e.1 ∨ h e.2 = compF es e.2 → t.foldl stepF h e.1 = compF es e.1 ∧ t.foldl stepF h e.2 = compF es e.2
  | [], h, hi, _ => ⟨hi, fun _ hv => hv, fun e he => absurd he (by simp)⟩
  | e :: t, h, hi, hs => by
    have he := hs e (by simp)
    have hi' := inv_step hi he
    obtain ⟨a, b, c⟩ := inv_fold t (stepF h e) hi' (fun x hx => hs x (by simp [hx]))
    have keep : ∀ v, h v = compF es v → stepF h e v = compF es v := fun v hv => by
      have := step_le h e v
      have := inv_ge hi' v
      omega
    refine ⟨a, fun v hv => b v (keep v hv), fun x hx hr => ?_⟩
    rcases List.mem_cons.1 hx with rfl | hx
    · have hL := comp_edge he
      have g1 := inv_ge hi x.1
      have g2 := inv_ge hi x.2
      have hm : min (h x.1) (h x.2) = compF es x.2 := by rcases hr with hr | hr <;> omega
      refine ⟨b x.1 ?_, b x.2 ?_⟩
      · unfold stepF
        rw [if_pos rfl, hm]
        split <;> omega
      · unfold stepF
        rw [if_pos rfl, hm]
    · exact c x hx (hr.imp (keep _) (keep _))
theorem inv_rounds (es : List (Nat × Nat)) : ∀ k, Inv es (roundsF es k)
  | 0 => ⟨fun _ _ _ => rfl, fun _ => Nat.le_refl _⟩
  | k + 1 => (inv_fold es _ (inv_rounds es k) fun _ h => h).1

theorem rounds_cnt {n : Nat} {es : List (Nat × Nat)} (hl : Lies n es) : ∀ k, k ≤ n → k ≤ cnt (fun v => decide (roundsF es k v = compF es v)) n
  | 0, _ => Nat.zero_le _
  | k + 1, hk => by
    have ih := rounds_cnt hl k (by omega)
    obtain ⟨_, b, c⟩ := inv_fold es _ (inv_rounds es k) fun _ h => h
    have hi := inv_rounds es k
    show k + 1 ≤ cnt (fun v => decide (es.foldl stepF (roundsF es k) v = compF es v)) n
    generalize roundsF es k = h at *
    by_cases hall : cnt (fun v => decide (h v = compF es v)) n = n
    · have ha := cnt_all hall
      rw [cnt_full fun v hv => by simpa using b v (by simpa using ha v hv)]
      exact hk
    · have hcross : ∃ e ∈ es, (h e.1 = compF es e.1 ∧ h e.2 ≠ compF es e.2) ∨ (h e.2 = compF es e.2 ∧ h e.1 ≠ compF es e.1) := by
        refine Classical.byContradiction fun hno => hall (cnt_full fun v hv => ?_)
        have hc : Cst es (fun v => if h v = compF es v then 0 else 1) := by
          intro e he
          by_cases h1 : h e.1 = compF es e.1
          · by_cases h2 : h e.2 = compF es e.2
            · simp [h1, h2]
            · exact absurd ⟨e, he, .inl ⟨h1, h2⟩⟩ hno
          · by_cases h2 : h e.2 = compF es e.2
            · exact absurd ⟨e, he, .inr ⟨h2, h1⟩⟩ hno
            · simp [h1, h2]
        have hg := (good_comp es).2.1 _ hc v
        have hr : h (compF es v) = compF es (compF es v) := by
          have h1 := inv_ge hi (compF es v)
          have h2 := hi.2 (compF es v)
          rw [comp_idem] at h1 ⊢
          omega
        rw [if_pos hr] at hg
        by_cases hv' : h v = compF es v
        · simpa using hv'
        · rw [if_neg hv'] at hg; omega
      obtain ⟨e, he, hx⟩ := hcross
      have hlt := cnt_lt (p := fun v => decide (h v = compF es v)) (q := fun v => decide (es.foldl stepF h v = compF es v)) (n := n)
        (fun v _ hv => by simpa using b v (by simpa using hv)) (by
          have hle := hl e he
          rcases hx with ⟨h1, h2⟩ | ⟨h1, h2⟩
          · exact ⟨e.2, hle.2, by simpa using h2, by simpa using (c e he (.inl h1)).2⟩
          · exact ⟨e.1, hle.1, by simpa using h2, by simpa using (c e he (.inr h1)).1⟩)
      omega
/-- The document's labels are the least connected ones. -/
theorem rounds_comp {n : Nat} {es : List (Nat × Nat)} (hl : Lies n es) (v : Nat) (hv : v < n) : roundsF es n v = compF es v := by
  have h := rounds_cnt hl n (Nat.le_refl _)
  have h2 := cnt_le (fun v => decide (roundsF es n v = compF es v)) n
  simpa using cnt_all (Nat.le_antisymm h2 h) v hv

end Go.Proofs.Ytfpfhnkboakejaa.Wp
