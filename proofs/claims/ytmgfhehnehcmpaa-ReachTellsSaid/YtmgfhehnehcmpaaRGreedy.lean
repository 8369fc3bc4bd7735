/- A shortest way is the least one, step by step: plain. Nothing of the program here. -/
import Derived.Test.YtmgfhehnehcmpaaRWayP
namespace Go.Proofs.Ytmgfhehnehcmpaa.Wp

/-- From x one comes to one of dst by n arcs at most. -/
def Near (adj : List (List Int)) (dst : List Int) : Nat → Int → Prop
  | 0, x => x ∈ dst
  | n + 1, x => Near adj dst n x ∨ ∃ y ∈ adj.getD x.toNat [], Near adj dst n y
section
variable {adj : List (List Int)} {dst : List Int}
theorem near_mono {x : Int} {n : Nat} : ∀ {m : Nat}, n ≤ m → Near adj dst n x → Near adj dst m x
  | 0, h, hn => by rw [show n = 0 by omega] at hn; exact hn
  | m + 1, h, hn => by
    by_cases e : n = m + 1
    · rw [← e]; exact hn
    · exact .inl (near_mono (m := m) (by omega) hn)
/-- The least of the shortest ways from one of S. -/
inductive Greedy (adj : List (List Int)) (dst : List Int) : List Int → Nat → List Int → Prop
  | stop (S : List Int) (x : Int) : x ∈ S → x ∈ dst → (∀ y ∈ S, y < x → y ∉ dst) → Greedy adj dst S 0 [x]
  | step (S : List Int) (x : Int) (n : Nat) (l : List Int) : x ∈ S → Near adj dst (n + 1) x → (∀ y ∈ S, ¬ Near adj dst n y) → (∀ y ∈ S, y < x → ¬ Near adj dst (n + 1) y) → Greedy adj dst (adj.getD x.toNat []) n l → Greedy adj dst S (n + 1) (x :: l)
theorem Greedy.length {S : List Int} {n : Nat} {l : List Int} (h : Greedy adj dst S n l) : l.length = n + 1 := by
  induction h with
  | stop => rfl
  | step _ _ _ _ _ _ _ _ _ ih => rw [List.length_cons, ih]
theorem Greedy.unique {S : List Int} {n : Nat} {l : List Int} (h : Greedy adj dst S n l) : ∀ {m : Nat} {k : List Int}, Greedy adj dst S m k → l = k := by
  induction h with
  | stop S x hx hd hl =>
    intro m k hk
    cases hk with
    | stop _ y hy hdy hly =>
      have h1 := hl y hy
      have h2 := hly x hx
      rcases Int.lt_trichotomy x y with h | h | h
      · exact absurd hd (h2 h)
      · rw [h]
      · exact absurd hdy (h1 h)
    | step _ y n l hy hn hno _ _ => exact absurd (near_mono (Nat.zero_le n) hd) (hno x hx)
  | step S x n l hx hn hno hl _ ih =>
    intro m k hk
    cases hk with
    | stop _ y hy hdy hly => exact absurd (near_mono (Nat.zero_le n) hdy) (hno y hy)
    | step _ y n' l' hy hn' hno' hl' hg' =>
      have hnn : n = n' := by
        rcases Nat.lt_trichotomy n n' with h | h | h
        · exact absurd (near_mono (by omega) hn) (hno' x hx)
        · exact h
        · exact absurd (near_mono (by omega) hn') (hno y hy)
      subst hnn
      have hxy : x = y := by
        rcases Int.lt_trichotomy x y with h | h | h
        · exact absurd hn (hl' x hx h)
        · exact h
        · exact absurd hn' (hl y hy h)
      subst hxy
      rw [ih hg']
theorem Greedy.mem {S : List Int} {n : Nat} {x : Int} {l : List Int} (h : Greedy adj dst S n (x :: l)) : x ∈ S := by cases h <;> assumption
theorem Greedy.one {S : List Int} {n : Nat} {x : Int} {l : List Int} (h : Greedy adj dst S n (x :: l)) : Greedy adj dst [x] n (x :: l) := by
  cases h with
  | stop _ _ hx hd hl => exact .stop _ _ (by simp) hd fun y hy hlt => by rw [List.mem_singleton] at hy; omega
  | step _ _ n l hx hn hno hl hg =>
    refine .step _ _ _ _ (by simp) hn (fun y hy => ?_) (fun y hy hlt => ?_) hg
    · rw [List.mem_singleton] at hy; rw [hy]; exact hno x hx
    · rw [List.mem_singleton] at hy; omega
theorem Greedy.near {S : List Int} {n : Nat} {l : List Int} (h : Greedy adj dst S n l) : ∀ k, k < l.length → Near adj dst (n - k) (l.getD k 0) := by
  induction h with
  | stop S x hx hd hl =>
    intro k hk
    have : k = 0 := by simpa using hk
    subst this
    exact hd
  | step S x n l hx hn hno hl hg ih =>
    intro k hk
    cases k with
    | zero => exact hn
    | succ k =>
      have := ih k (by simpa using hk)
      rw [List.getD_cons_succ, show n + 1 - (k + 1) = n - k by omega]
      exact this
theorem Greedy.tail {S : List Int} {n : Nat} {x : Int} {l : List Int} (h : Greedy adj dst S n (x :: l)) (hl : 0 < l.length) : ∃ m, n = m + 1 ∧ Greedy adj dst (adj.getD x.toNat []) m l := by
  cases h with
  | stop => simp at hl
  | step _ _ n l hx hn hno hl hg => exact ⟨n, rfl, hg⟩
theorem Greedy.none {S : List Int} {n : Nat} {l : List Int} (h : Greedy adj dst S n l) : ∀ y ∈ S, ∀ m, m < n → ¬ Near adj dst m y := by
  cases h with
  | stop => intro y _ m hm; omega
  | step _ x n l hx hn hno hl hg => exact fun y hy m hm h => hno y hy (near_mono (by omega) h)
/-- No arc leads from one further on than to the next. -/
theorem Greedy.straight {S : List Int} {n : Nat} {l : List Int} (h : Greedy adj dst S n l) : ∀ i k, i + 2 ≤ k → k < l.length → l.getD k 0 ∉ adj.getD (l.getD i 0).toNat [] := by
  induction h with
  | stop S x hx hd hl =>
    intro i k h1 h2
    have : k < 1 := h2
    omega
  | step S x n l hx hn hno hl hg ih =>
    intro i k h1 h2 hin
    obtain ⟨k', rfl⟩ : ∃ k', k = k' + 1 := ⟨k - 1, by omega⟩
    rw [List.getD_cons_succ] at hin
    have hk' : k' < l.length := by simpa using h2
    have hlen := hg.length
    cases i with
    | zero =>
      rw [List.getD_cons_zero] at hin
      exact hg.none _ hin (n - k') (by omega) (hg.near k' hk')
    | succ i =>
      rw [List.getD_cons_succ] at hin
      exact ih i k' (by omega) hk' hin
end

/-- By how many arcs. -/
inductive Lev (par : Nat → Nat) (ns : Nat) : Nat → Nat → Prop
  | z (j : Nat) : j < ns → Lev par ns j 0
  | s (j k : Nat) : ns ≤ j → Lev par ns (par j) k → Lev par ns j (k + 1)
section
variable {adj : List (List Int)} {src dst come : List Int} {ah : Nat → Int} {par : Nat → Nat}
theorem lev_ex (h : Done adj src come ah par) : ∀ j, j < come.length → ∃ k, Lev par src.length j k := by
  have key : ∀ m j, j < m → j < come.length → ∃ k, Lev par src.length j k := by
    intro m
    induction m with
    | zero => intro j hj; omega
    | succ m ih =>
      intro j hj hjc
      by_cases hs : j < src.length
      · exact ⟨0, .z j hs⟩
      · obtain ⟨a, _⟩ := Bfs.old h j (by omega) hjc
        obtain ⟨k, hk⟩ := ih (par j) (by omega) (by omega)
        exact ⟨k + 1, .s j k (by omega) hk⟩
  exact fun j hj => key (j + 1) j (by omega) hj
theorem lev_mono (h : Done adj src come ah par) : ∀ {i a : Nat}, Lev par src.length i a → ∀ {j b : Nat}, Lev par src.length j b → i ≤ j → j < come.length → a ≤ b := by
  intro i a hi
  induction hi with
  | z => intros; omega
  | s i k hs hk ih =>
    intro j b hj hij hjc
    cases hj with
    | z _ hz => omega
    | s _ b' hs' hb =>
      obtain ⟨hp, _⟩ := Bfs.old h j hs' hjc
      have hpp : par i ≤ par j := by
        by_cases e : i = j
        · rw [e]; exact Nat.le_refl _
        · exact ((Bfs.mono h i j hs (by omega) hjc).1)
      have := ih hb hpp (by omega)
      omega
theorem lev_same (h : Done adj src come ah par) {i a b : Nat} (hi : i < come.length) (h1 : Lev par src.length i a) (h2 : Lev par src.length i b) : a = b :=
  Nat.le_antisymm (lev_mono h h1 h2 (Nat.le_refl _) hi) (lev_mono h h2 h1 (Nat.le_refl _) hi)
/-- Where an arc leads to. -/
theorem arc_lev (h : Done adj src come ah par) {i a : Nat} (hi : i < come.length) (ha : Lev par src.length i a) {y : Int} (hy : y ∈ adj.getD (cAt come i).toNat []) :
    ∃ m b, m < come.length ∧ cAt come m = y ∧ Lev par src.length m b ∧ b ≤ a + 1 ∧ (src.length ≤ m → par m ≤ i) := by
  obtain ⟨m, hm, e⟩ := mem_cAt (h.closed (cAt_mem hi) hy)
  obtain ⟨b, hb⟩ := lev_ex h m hm
  have hp : src.length ≤ m → par m ≤ i := fun hs => by
    refine Nat.le_of_not_lt fun hlt => ?_
    exact Bfs.first h m hs hm i hlt (by rw [e]; exact hy)
  refine ⟨m, b, hm, e, hb, ?_, hp⟩
  cases hb with
  | z => omega
  | s _ b' hs hb' =>
    have := lev_mono h hb' ha (hp hs) hi
    omega
theorem near_lev (h : Done adj src come ah par) {j D : Nat} (hno : ∀ i, i < j → cAt come i ∉ dst) (hjD : Lev par src.length j D) : ∀ (n i a : Nat), i < come.length → Lev par src.length i a → Near adj dst n (cAt come i) → D ≤ a + n
  | 0, i, a, hi, ha, hn => by
    have hji : j ≤ i := Nat.le_of_not_lt fun hlt => hno i hlt hn
    exact lev_mono h hjD ha hji hi
  | n + 1, i, a, hi, ha, hn => by
    rcases hn with hn | ⟨y, hy, hn⟩
    · have := near_lev h hno hjD n i a hi ha hn
      omega
    · obtain ⟨m, b, hm, e, hb, hle, _⟩ := arc_lev h hi ha hy
      rw [← e] at hn
      have := near_lev h hno hjD n m b hm hb hn
      omega
theorem src_order (h : Done adj src come ah par) (hs : src.Pairwise (· < ·)) {i m : Nat} (hi : i < src.length) (hm : m < src.length) (hlt : cAt come m < cAt come i) : m < i := by
  obtain ⟨rest, e⟩ := Bfs.pre h
  have key : ∀ k, k < src.length → ∀ hk : k < src.length, cAt come k = src[k] := fun k hk _ => by
    unfold cAt
    rw [e, List.getD_eq_getElem?_getD, List.getElem?_append_left hk, List.getElem?_eq_getElem hk]
    rfl
  rw [key m hm hm, key i hi hi] at hlt
  refine Nat.lt_of_not_le fun hle => ?_
  by_cases e : i = m
  · subst e; omega
  · have := List.pairwise_iff_getElem.1 hs i m hi hm (by omega)
    omega
/-- No earlier one, by as many arcs, from which it is as near. -/
def NoE (adj : List (List Int)) (dst come : List Int) (par : Nat → Nat) (ns i k n : Nat) : Prop := ∀ m, m < i → Lev par ns m k → ¬ Near adj dst n (cAt come m)
theorem greedy_way (h : Done adj src come ah par) (hs : src.Pairwise (· < ·)) {j D : Nat} (hno : ∀ i, i < j → cAt come i ∉ dst) (hjD : Lev par src.length j D) {i : Nat} {l : List Int} (hw : Way come par src.length i l) :
    i < come.length → ∀ k n tail, Lev par src.length i k → k + n = D → Near adj dst n (cAt come i) → NoE adj dst come par src.length i k n → ((n = 0 ∧ tail = []) ∨ ∃ n', n = n' + 1 ∧ Greedy adj dst (adj.getD (cAt come i).toNat []) n' tail) → Greedy adj dst src D (l ++ tail) := by
  have hNL := near_lev h hno hjD
  induction hw with
  | start i his =>
    intro hi k n tail hk hD hn hE ht
    have hk0 : k = 0 := lev_same h hi hk (.z i his)
    subst hk0
    have hsm : ∀ y ∈ src, ∃ m, m < src.length ∧ m < come.length ∧ cAt come m = y := fun y hy => by
      obtain ⟨rest, e⟩ := Bfs.pre h
      obtain ⟨m, hm, em⟩ := mem_cAt hy
      refine ⟨m, hm, by rw [e, List.length_append]; omega, ?_⟩
      rw [← em]
      unfold cAt
      rw [e, List.getD_eq_getElem?_getD, List.getElem?_append_left hm, ← List.getD_eq_getElem?_getD]
    rcases ht with ⟨rfl, rfl⟩ | ⟨n', rfl, hg⟩
    · have : D = 0 := by omega
      subst this
      refine .stop _ _ (cAt_src h his) hn fun y hy hlt => ?_
      obtain ⟨m, hm, _, rfl⟩ := hsm y hy
      exact hE m (src_order h hs his hm hlt) (.z m hm)
    · have : D = n' + 1 := by omega
      subst this
      refine .step _ _ _ _ (cAt_src h his) hn (fun y hy hc => ?_) (fun y hy hlt => ?_) hg
      · obtain ⟨m, hm, hmc, rfl⟩ := hsm y hy
        have := hNL _ _ _ hmc (.z m hm) hc
        omega
      · obtain ⟨m, hm, _, rfl⟩ := hsm y hy
        exact hE m (src_order h hs his hm hlt) (.z m hm)
  | next i l hsi hw ih =>
    intro hi k n tail hk hD hn hE ht
    obtain ⟨hpi, _, _, harc, _⟩ := Bfs.old h i hsi hi
    have hpc : par i < come.length := by omega
    cases hk with
    | z _ hz => omega
    | s _ k' _ hk' =>
    have harc' : cAt come i ∈ adj.getD (cAt come (par i)).toNat [] := harc
    have hR : Near adj dst (n + 1) (cAt come (par i)) := .inr ⟨_, harc', hn⟩
    -- one of those that the one ahead leads to, as near: by as many arcs, and no later than the i-th only if it is not less
    have hcand : ∀ q, q < come.length → Lev par src.length q k' → ∀ y ∈ adj.getD (cAt come q).toNat [], Near adj dst n y → ∃ m, m < come.length ∧ cAt come m = y ∧ Lev par src.length m (k' + 1) ∧ src.length ≤ m ∧ par m ≤ q := fun q hq hqk y hy hny => by
      obtain ⟨m, b, hm, e, hb, hle, hp⟩ := arc_lev h hq hqk hy
      rw [← e] at hny
      have hD' := hNL n m b hm hb hny
      have hb1 : b = k' + 1 := by omega
      subst hb1
      have hsm : src.length ≤ m := Nat.le_of_not_lt fun hlt => by
        have := lev_same h hm hb (.z m hlt)
        omega
      exact ⟨m, hm, e, hb, hsm, hp hsm⟩
    have hE' : NoE adj dst come par src.length (par i) k' (n + 1) := fun q hq hqk hny => by
      have hqc : q < come.length := by omega
      rcases hny with hny | ⟨y, hy, hny⟩
      · have := hNL n q k' hqc hqk hny
        omega
      · obtain ⟨m, hm, e, hb, hsm, hp⟩ := hcand q hqc hqk y hy hny
        rw [← e] at hny
        refine hE m (Nat.lt_of_not_le fun hle => ?_) hb hny
        by_cases ei : i = m
        · subst ei; omega
        · have := (Bfs.mono h i m hsi (by omega) hm).1
          omega
    have hsmall : ∀ y ∈ adj.getD (cAt come (par i)).toNat [], y < cAt come i → ¬ Near adj dst n y := fun y hy hlt hny => by
      obtain ⟨m, hm, e, hb, hsm, hp⟩ := hcand (par i) hpc hk' y hy hny
      rw [← e] at hny hlt
      refine hE m (Nat.lt_of_not_le fun hle => ?_) hb hny
      by_cases ei : i = m
      · subst ei; omega
      · obtain ⟨h1, h2⟩ := Bfs.mono h i m hsi (by omega) hm
        have := h2 (by omega)
        omega
    have hG : Greedy adj dst (adj.getD (cAt come (par i)).toNat []) n (cAt come i :: tail) := by
      rcases ht with ⟨rfl, rfl⟩ | ⟨n', rfl, hg⟩
      · exact .stop _ _ harc' hn fun y hy hlt hc => hsmall y hy hlt hc
      · refine .step _ _ _ _ harc' hn (fun y hy hc => ?_) hsmall hg
        obtain ⟨m, b, hm, e, hb, hle, _⟩ := arc_lev h hpc hk' hy
        rw [← e] at hc
        have := hNL n' m b hm hb hc
        omega
    have := ih hpc k' (n + 1) (cAt come i :: tail) hk' (by omega) hR hE' (.inr ⟨n, rfl, hG⟩)
    rw [List.append_assoc]
    exact this
/-- The way to the first of those come to that lies in dst. -/
theorem greedy_first (h : Done adj src come ah par) (hs : src.Pairwise (· < ·)) {j : Nat} (hj : j < come.length) (hin : cAt come j ∈ dst) (hno : ∀ i, i < j → cAt come i ∉ dst) {l : List Int} (hw : Way come par src.length j l) : ∃ n, Greedy adj dst src n l := by
  obtain ⟨D, hD⟩ := lev_ex h j hj
  have := greedy_way h hs hno hD hw hj D 0 [] hD (by omega) hin (fun m hm _ hc => hno m hm hc) (.inl ⟨rfl, rfl⟩)
  rw [List.append_nil] at this
  exact ⟨D, this⟩
end

end Go.Proofs.Ytmgfhehnehcmpaa.Wp
