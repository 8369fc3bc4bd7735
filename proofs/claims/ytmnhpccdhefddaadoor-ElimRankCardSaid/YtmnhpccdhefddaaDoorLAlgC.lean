/- The program's way, plain: from lines back to columns: by which numbers the columns of the basis come to a goal. Nothing of the program here. -/
import Derived.Test.YtmnhpccdhefddaaDoorLAlgB
namespace Go.Proofs.YtmnhpccdhefddaaDoor.Wp
variable {p : Int} {R : Nat}

theorem lin_append : ∀ {a : List Int} {u : List Vec} {b : List Int} {v : List Vec} {r : Nat}, a.length = u.length → lin (a ++ b) (u ++ v) r = lin a u r + lin b v r
  | [], [], b, v, r, _ => by simp [lin]
  | c :: a, x :: u, b, v, r, h => by
    simp only [List.cons_append, lin]
    rw [lin_append (a := a) (u := u) (by simpa using h)]
    omega
theorem lin_sub {α : Type} {f g h : α → Int} {u : α → Vec} {c : Int} {r : Nat} : ∀ {a : List α}, (∀ m ∈ a, p ∣ f m - (g m - c * h m)) → p ∣ lin (a.map f) (a.map u) r - (lin (a.map g) (a.map u) r - c * lin (a.map h) (a.map u) r)
  | [], _ => by simp [lin]
  | x :: a, hx => by
    have h1 := lin_sub (u := u) (r := r) (a := a) fun m hm => hx m (by simp [hm])
    have h2 := Int.dvd_trans (hx x (by simp)) (Int.dvd_mul_right _ (u x r))
    have h3 := Int.dvd_add h2 h1
    simp only [List.map_cons, lin]
    have e : (f x - (g x - c * h x)) * u x r + (lin (a.map f) (a.map u) r - (lin (a.map g) (a.map u) r - c * lin (a.map h) (a.map u) r))
        = f x * u x r + lin (a.map f) (a.map u) r - (g x * u x r + lin (a.map g) (a.map u) r - c * (h x * u x r + lin (a.map h) (a.map u) r)) := by
      rw [Int.sub_mul, Int.sub_mul, Int.mul_add, Int.mul_assoc]
      omega
    rwa [e] at h3
theorem lin_filter {P : Nat → Bool} {f : Nat → Int} {g : Nat → Vec} {r : Nat} : ∀ {l : List Nat}, (∀ i ∈ l, P i = false → f i = 0) → lin ((l.filter P).map f) ((l.filter P).map g) r = lin (l.map f) (l.map g) r
  | [], _ => rfl
  | x :: l, h => by
    have ih := lin_filter (g := g) (r := r) (l := l) fun i hi => h i (by simp [hi])
    simp only [List.map_cons, lin]
    cases hx : P x with
    | true =>
      rw [List.filter_cons_of_pos hx]
      simp only [List.map_cons, lin]
      rw [ih]
    | false =>
      rw [List.filter_cons_of_neg (by simp [hx]), ih, h x (by simp) hx]
      omega
theorem lin_congr {α : Type} {f g : α → Int} {u : α → Vec} {r : Nat} : ∀ {a : List α}, (∀ m ∈ a, f m = g m) → lin (a.map f) (a.map u) r = lin (a.map g) (a.map u) r := fun h => by rw [List.map_congr_left h]

structure Back (p : Int) (R : Nat) (cols : List (List Int)) (goal : List Int) (a b : List Line) (T : List Int) : Prop where
  len : T.length = cols.length
  rng : ∀ i, 0 ≤ T.getD i 0 ∧ T.getD i 0 < p
  off : ∀ x, (∀ l ∈ a ++ b, l.place ≠ x) → T.getD x 0 = 0
  sum : ∀ r, r < R → p ∣ goal.getD r 0 - lin (a.map fun l => T.getD l.place 0) (a.map fun l => vec l.left) r - lin (b.map fun l => T.getD l.place 0) (b.map fun l => colV cols l.place) r

theorem back_all (hp : 0 < p) {cols : List (List Int)} {goal : List Int} {ls : List Line} (h : Lines p R cols cols.length ls) {T0 : List Int} (h0 : Back p R cols goal ls [] T0) :
    ∀ {b a : List Line}, ls = a ++ b → Back p R cols goal a b (b.foldr (backL p) T0)
  | [], a, e => by
    rw [List.append_nil] at e
    subst e
    exact h0
  | l :: b, a, e => by
    have ih := back_all hp h h0 (b := b) (a := a ++ [l]) (by rw [e, List.append_assoc]; rfl)
    rw [List.foldr_cons]
    generalize b.foldr (backL p) T0 = T at ih ⊢
    obtain ⟨hfrom, hin⟩ := h.from_ a l b e
    have hpl := ech_at (e ▸ h.ech)
    have hok : LineOk p R l := ech_ok h.ech l (by rw [e]; simp)
    have hl : l.place < cols.length := h.lt (by rw [e]; simp)
    have hT : ∀ i, (backL p l T).getD i 0 = if l.by_ i = 0 then T.getD i 0 else (T.getD i 0 - T.getD l.place 0 * l.by_ i) % p := by
      intro i
      by_cases hi : i < T.length
      · exact backL_getD hi
      · have hz : l.by_ i = 0 := by
          apply Classical.byContradiction
          intro hn
          have := hok.byp i hn
          have := ih.len
          omega
        rw [if_pos hz, getD_out (by rw [backL_length]; omega), getD_out (by omega)]
    have hz : ∀ m, m = l ∨ m ∈ b → l.by_ m.place = 0 := by
      intro m hm
      apply Classical.byContradiction
      intro hn
      obtain ⟨k, hk, hke⟩ := hin _ hn
      have h1 := hpl.1 k hk
      rcases hm with rfl | hm
      · omega
      · have := hpl.2 m hm
        omega
    have hsame : ∀ m, m = l ∨ m ∈ b → (backL p l T).getD m.place 0 = T.getD m.place 0 := fun m hm => by rw [hT, if_pos (hz m hm)]
    refine ⟨by rw [backL_length]; exact ih.len, fun i => ?_, fun x hx => ?_, fun r hr => ?_⟩
    · rw [hT]
      split
      · exact ih.rng i
      · exact ⟨Int.emod_nonneg _ (by omega), Int.emod_lt_of_pos _ hp⟩
    · have hzx : l.by_ x = 0 := by
        apply Classical.byContradiction
        intro hn
        obtain ⟨k, hk, hke⟩ := hin _ hn
        exact hx k (by simp [hk]) hke
      rw [hT, if_pos hzx]
      exact ih.off x fun m hm => hx m (by simpa using hm)
    · have h1 := ih.sum r hr
      rw [List.map_append, List.map_append, lin_append (by simp)] at h1
      simp only [List.map_cons, List.map_nil, lin] at h1 ⊢
      rw [hsame l (.inl rfl), lin_congr (f := fun m => (backL p l T).getD m.place 0) (g := fun m => T.getD m.place 0) fun m hm => hsame m (.inr hm)]
      have h2 : p ∣ lin (a.map fun m => (backL p l T).getD m.place 0) (a.map fun m => vec m.left) r - (lin (a.map fun m => T.getD m.place 0) (a.map fun m => vec m.left) r - T.getD l.place 0 * lin (a.map fun m => l.by_ m.place) (a.map fun m => vec m.left) r) :=
        lin_sub fun m _ => by
          rw [hT]
          split
          · rename_i e0
            rw [e0]
            simp
          · rw [show (T.getD m.place 0 - T.getD l.place 0 * l.by_ m.place) % p - (T.getD m.place 0 - T.getD l.place 0 * l.by_ m.place) = -((T.getD m.place 0 - T.getD l.place 0 * l.by_ m.place) - (T.getD m.place 0 - T.getD l.place 0 * l.by_ m.place) % p) by omega]
            exact (Int.dvd_neg).2 (dvd_emod_sub _)
      have h3 := Int.dvd_trans (hfrom r hr) (Int.dvd_mul_left (T.getD l.place 0) _)
      rw [Int.mul_sub, Int.mul_sub] at h3
      have h4 := Int.dvd_sub (Int.dvd_sub h1 h2) h3
      unfold vec at h4 ⊢
      generalize lin (a.map fun m => (backL p l T).getD m.place 0) _ r = x1 at h4 ⊢
      generalize lin (a.map fun m => T.getD m.place 0) _ r = x2 at h4 ⊢
      generalize lin (a.map fun m => l.by_ m.place) _ r = x3 at h4 ⊢
      generalize lin (b.map fun m => T.getD m.place 0) _ r = x4 at h4 ⊢
      generalize colV cols l.place r = x5 at h4 ⊢
      generalize l.left.getD r 0 = x6 at h4 ⊢
      generalize T.getD l.place 0 = x7 at h4 ⊢
      generalize x7 * x3 = y1 at h4 ⊢
      generalize x7 * x5 = y2 at h4 ⊢
      generalize x7 * x6 = y3 at h4 ⊢
      rwa [show goal.getD r 0 - (x2 + (y3 + 0)) - x4 - (x1 - (x2 - y1)) - (y2 - y3 - y1) = goal.getD r 0 - x1 - (y2 + x4) by omega] at h4

/-- All columns that may be. -/
def ColsIn (p : Int) (R : Nat) (cols : List (List Int)) : Prop := ∀ i, i < cols.length → InR p R (cols.getD i [])
theorem firsts_all (cols : List (List Int)) : firsts cols cols.length = cols.map vec := by
  unfold firsts
  apply List.ext_getElem
  · simp
  · intro i h1 h2
    simp at h1
    simp [colV, List.getD, h1]
theorem map_getD (T : List Int) : (List.range T.length).map (fun i => T.getD i 0) = T := by
  apply List.ext_getElem
  · simp
  · intro i h1 h2
    simp [List.getD, h2]

structure Told (p : Int) (R : Nat) (cols : List (List Int)) (goal T : List Int) : Prop where
  len : T.length = cols.length
  rng : ∀ i, 0 ≤ T.getD i 0 ∧ T.getD i 0 < p
  off : ∀ i, T.getD i 0 ≠ 0 → i ∈ basN p R cols cols.length
  sum : ∀ r, r < R → p ∣ goal.getD r 0 - lin T (cols.map vec) r

/-- A goal is told just if it is a combination; and then by numbers that come to it. -/
theorem combo_told (hp : 0 < p) {inv : Int → Int} (hinv : ∀ x, 0 < x → x < p → p ∣ x * inv x - 1 ∧ 0 ≤ inv x ∧ inv x < p) {cols : List (List Int)} (hc : ColsIn p R cols) {goal : List Int} (hg : InR p R goal) :
    (comboL p inv cols goal = none ∧ ¬ InSp p R (cols.map vec) (vec goal)) ∨ ∃ T, comboL p inv cols goal = some T ∧ InSp p R (cols.map vec) (vec goal) ∧ Told p R cols goal T := by
  have h := lines_any hp hinv (k := cols.length) hc
  have hiff := h.in_iff hp hg
  rw [firsts_all] at hiff
  unfold comboL
  by_cases hneg : 0 ≤ leadI (takeT p (linesL p inv cols cols.length) goal).1
  · rw [if_pos hneg]
    exact .inl ⟨rfl, fun hin => by have := hiff.1 hin; omega⟩
  · rw [if_neg hneg]
    refine .inr ⟨_, rfl, hiff.2 (by omega), ?_⟩
    have ht := h.take hp hg
    generalize hls : linesL p inv cols cols.length = ls at *
    have hT0 : ∀ x, ((List.range cols.length).map (takeT p ls goal).2).getD x 0 = (takeT p ls goal).2 x := by
      intro x
      rw [getD_map_range]
      by_cases hx : x < cols.length
      · rw [if_pos hx]
      · rw [if_neg hx]
        exact (ht.off x fun l hl e => by have := h.lt hl; omega).symm
    have hleft : ∀ j, (takeT p ls goal).1.getD j 0 = 0 := by
      rcases leadI_cases (takeT p ls goal).1 with ⟨_, hz⟩ | ⟨i, _, hi, _⟩
      · exact hz
      · rw [hi] at hneg
        exact absurd (by omega) hneg
    have h0 : Back p R cols goal ls [] ((List.range cols.length).map (takeT p ls goal).2) := by
      refine ⟨by simp, fun i => ?_, fun x hx => ?_, fun r hr => ?_⟩
      · rw [hT0]
        exact ht.byr i
      · rw [hT0]
        exact ht.off x fun l hl => hx l (by simpa using hl)
      · have h1 := ht.sum r hr
        rw [hleft r, Int.sub_zero] at h1
        rw [lin_congr (a := ls) (f := fun l : Line => ((List.range cols.length).map (takeT p ls goal).2).getD l.place 0) (g := fun l : Line => (takeT p ls goal).2 l.place) fun l _ => hT0 l.place]
        simpa [lin] using h1
    have hB := back_all hp h h0 (b := ls) (a := []) rfl
    unfold timesL
    generalize ls.foldr (backL p) ((List.range cols.length).map (takeT p ls goal).2) = T at hB ⊢
    have hoff : ∀ i, T.getD i 0 ≠ 0 → i ∈ basN p R cols cols.length := by
      intro i hi
      apply Classical.byContradiction
      intro hn
      refine hi (hB.off i fun l hl e => hn ?_)
      rw [← h.pl, ← e]
      exact List.mem_map.2 ⟨l, by simpa using hl, rfl⟩
    refine ⟨hB.len, hB.rng, hoff, fun r hr => ?_⟩
    have h1 := hB.sum r hr
    simp only [List.map_nil, lin, Int.sub_zero] at h1
    have e1 : (ls.map fun l => T.getD l.place 0) = (basN p R cols cols.length).map fun i => T.getD i 0 := by rw [← h.pl, List.map_map]; rfl
    have e2 : (ls.map fun l => colV cols l.place) = (basN p R cols cols.length).map (colV cols) := by rw [← h.pl, List.map_map]; rfl
    rw [e1, e2] at h1
    unfold basN at h1
    rw [lin_filter (fun i hi hP => by
      apply Classical.byContradiction
      intro hn
      have := (basN_mem.1 (hoff i hn)).2
      simp [this] at hP)] at h1
    rw [← hB.len, map_getD] at h1
    have e3 : (List.range T.length).map (colV cols) = cols.map vec := by rw [hB.len]; exact firsts_all cols
    rw [e3] at h1
    exact h1

end Go.Proofs.YtmnhpccdhefddaaDoor.Wp
