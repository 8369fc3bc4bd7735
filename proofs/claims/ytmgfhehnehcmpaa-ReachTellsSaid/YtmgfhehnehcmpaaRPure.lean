/- What is come to, plain: points in the order in which they are come to, and the one ahead of each; the way back. Nothing of the program here. -/
import Derived.Test.YtmgfhehnehcmpaaKPure
namespace Go.Proofs.Ytmgfhehnehcmpaa.Wp

/-- A digraph: from each point arcs lead to rising points. -/
structure Dig (adj : List (List Int)) : Prop where
  up : ∀ x, (adj.getD x []).Pairwise (· < ·)
  pt : ∀ x, ∀ y ∈ adj.getD x [], 0 ≤ y ∧ y < (adj.length : Int)
/-- Rising points. -/
structure Pts (n : Nat) (l : List Int) : Prop where
  up : l.Pairwise (· < ·)
  pt : ∀ y ∈ l, 0 ≤ y ∧ y < (n : Int)
def cAt (come : List Int) (j : Nat) : Int := come.getD j 0
def arcsOf (adj : List (List Int)) (come : List Int) (j : Nat) : List Int := adj.getD (cAt come j).toNat []
theorem cAt_app {come : List Int} {q : Int} {j : Nat} (h : j < come.length) : cAt (come ++ [q]) j = cAt come j := by
  unfold cAt
  rw [List.getD_eq_getElem?_getD, List.getElem?_append_left h, ← List.getD_eq_getElem?_getD]
theorem cAt_new {come : List Int} {q : Int} : cAt (come ++ [q]) come.length = q := by
  unfold cAt
  rw [List.getD_eq_getElem?_getD, List.getElem?_append_right (Nat.le_refl _)]
  simp
theorem cAt_mem {come : List Int} {j : Nat} (h : j < come.length) : cAt come j ∈ come := by
  unfold cAt
  rw [show come.getD j 0 = come[j] by simp [List.getD, h]]
  exact List.getElem_mem h
theorem mem_cAt {come : List Int} {x : Int} (h : x ∈ come) : ∃ j, j < come.length ∧ cAt come j = x := by
  obtain ⟨j, hj, e⟩ := List.mem_iff_getElem.1 h
  exact ⟨j, hj, by unfold cAt; rw [← e]; simp [List.getD, hj]⟩

/-- The first i points that were come to have been left by all arcs, the next one by the first k. -/
structure Bfs (adj : List (List Int)) (src : List Int) (come : List Int) (ah : Nat → Int) (par : Nat → Nat) (i k : Nat) : Prop where
  nodup : come.Nodup
  pt : ∀ x ∈ come, 0 ≤ x ∧ x < (adj.length : Int)
  new : ∀ x : Nat, x < adj.length → (ah x = -1 ↔ (x : Int) ∉ come)
  pre : ∃ rest, come = src ++ rest
  start : ∀ j, j < src.length → ah (cAt come j).toNat = -2
  old : ∀ j, src.length ≤ j → j < come.length → par j < j ∧ par j ≤ i ∧ ah (cAt come j).toNat = cAt come (par j) ∧ cAt come j ∈ arcsOf adj come (par j) ∧ (par j = i → cAt come j ∈ (arcsOf adj come i).take k)
  first : ∀ j, src.length ≤ j → j < come.length → ∀ m, m < par j → cAt come j ∉ arcsOf adj come m
  mono : ∀ j l, src.length ≤ j → j < l → l < come.length → par j ≤ par l ∧ (par j = par l → cAt come j < cAt come l)
  closed : ∀ m, m < i → m < come.length → ∀ x ∈ arcsOf adj come m, x ∈ come
  some_ : i < come.length → ∀ x ∈ (arcsOf adj come i).take k, x ∈ come

section
variable {adj : List (List Int)} {src come : List Int} {ah : Nat → Int} {par : Nat → Nat} {i k : Nat}
theorem bfs_start (hs : Pts adj.length src) (ha : ∀ x : Nat, ah x = if (x : Int) ∈ src then -2 else -1) : Bfs adj src src ah (fun _ => 0) 0 0 := by
  refine ⟨hs.up.imp fun hab e => by omega, hs.pt, fun x _ => ?_, ⟨[], by simp⟩, fun j hj => ?_, fun j h1 h2 => by omega, fun j h1 h2 => by omega, fun j l h1 h2 h3 => by omega, fun m hm => by omega, fun _ x hx => by simp at hx⟩
  · rw [ha]
    split
    · rename_i h
      exact ⟨fun e => by omega, fun e => absurd h e⟩
    · rename_i h
      exact ⟨fun _ => h, fun _ => rfl⟩
  · have hm := cAt_mem hj
    have := hs.pt _ hm
    rw [ha, if_pos]
    rwa [Int.toNat_of_nonneg this.1]
theorem Bfs.skip (h : Bfs adj src come ah par i k) (hi : i < come.length) (q : Nat) (hq : (arcsOf adj come i)[k]? = some (q : Int)) (hqn : q < adj.length) (ha : ah q ≠ -1) : Bfs adj src come ah par i (k + 1) := by
  have hk : k < (arcsOf adj come i).length := (List.getElem?_eq_some_iff.1 hq).1
  have ht : (arcsOf adj come i).take (k + 1) = (arcsOf adj come i).take k ++ [(q : Int)] := by
    rw [List.take_succ_eq_append_getElem hk, (List.getElem?_eq_some_iff.1 hq).2]
  have hin : (q : Int) ∈ come := Classical.byContradiction fun hn => ha ((h.new q hqn).2 hn)
  refine ⟨h.nodup, h.pt, h.new, h.pre, h.start, fun j h1 h2 => ?_, h.first, h.mono, h.closed, fun _ x hx => ?_⟩
  · obtain ⟨a, b, c, d, e⟩ := h.old j h1 h2
    exact ⟨a, b, c, d, fun hp => by rw [ht]; exact List.mem_append.2 (.inl (e hp))⟩
  · rw [ht, List.mem_append, List.mem_singleton] at hx
    rcases hx with hx | hx
    · exact h.some_ hi x hx
    · rw [hx]; exact hin
theorem arcs_app {come : List Int} {q : Int} {m : Nat} (h : m < come.length) : arcsOf adj (come ++ [q]) m = arcsOf adj come m := by unfold arcsOf; rw [cAt_app h]
theorem Bfs.visit (hd : Dig adj) (h : Bfs adj src come ah par i k) (hi : i < come.length) (q : Nat) (hq : (arcsOf adj come i)[k]? = some (q : Int)) (hqn : q < adj.length) (ha : ah q = -1) :
    Bfs adj src (come ++ [(q : Int)]) (updI ah q (cAt come i)) (fun j => if j = come.length then i else par j) i (k + 1) := by
  have hk : k < (arcsOf adj come i).length := (List.getElem?_eq_some_iff.1 hq).1
  have ht : (arcsOf adj come i).take (k + 1) = (arcsOf adj come i).take k ++ [(q : Int)] := by
    rw [List.take_succ_eq_append_getElem hk, (List.getElem?_eq_some_iff.1 hq).2]
  have hout : (q : Int) ∉ come := (h.new q hqn).1 ha
  have hqm : (q : Int) ∈ arcsOf adj come i := List.mem_iff_getElem?.2 ⟨k, hq⟩
  have hne : ∀ x ∈ come, x.toNat ≠ q := fun x hx e => hout (by
    have := (h.pt x hx).1
    rw [show (q : Int) = x by omega]
    exact hx)
  have hah : ∀ x ∈ come, updI ah q (cAt come i) x.toNat = ah x.toNat := fun x hx => if_neg (hne x hx)
  obtain ⟨rest, hrest⟩ := h.pre
  have hsl : src.length ≤ come.length := by rw [hrest, List.length_append]; omega
  have hlt : ∀ {j}, j < (come ++ [(q : Int)]).length → j < come.length ∨ j = come.length := fun {j} hj => by rw [List.length_append] at hj; simp at hj; omega
  refine ⟨?_, fun x hx => ?_, fun x hx => ?_, ⟨rest ++ [(q : Int)], by rw [hrest, List.append_assoc]⟩, fun j hj => ?_, fun j h1 h2 => ?_, fun j h1 h2 m hm => ?_, fun j l h1 h2 h3 => ?_, fun m hm hmc x hx => ?_, fun _ x hx => ?_⟩
  · rw [List.nodup_append]
    refine ⟨h.nodup, by simp, fun a ha b hb e => hout ?_⟩
    rw [List.mem_singleton] at hb
    rw [← hb, ← e]
    exact ha
  · rw [List.mem_append, List.mem_singleton] at hx
    rcases hx with hx | hx
    · exact h.pt x hx
    · rw [hx]; omega
  · rw [List.mem_append, List.mem_singleton, not_or]
    by_cases e : x = q
    · subst e
      rw [show updI ah x (cAt come i) x = cAt come i from if_pos rfl]
      have := (h.pt _ (cAt_mem hi)).1
      exact ⟨fun hc => by omega, fun hc => absurd rfl hc.2⟩
    · rw [show updI ah q (cAt come i) x = ah x from if_neg e, h.new x hx]
      exact ⟨fun hc => ⟨hc, by omega⟩, fun hc => hc.1⟩
  · rw [cAt_app (by omega), hah _ (cAt_mem (by omega))]
    exact h.start j hj
  · rcases hlt h2 with hj | hj
    · rw [if_neg (by omega), cAt_app hj, hah _ (cAt_mem hj)]
      obtain ⟨a, b, c, d, e⟩ := h.old j h1 hj
      rw [cAt_app (by omega), arcs_app (by omega)]
      refine ⟨a, b, c, d, fun hp => ?_⟩
      rw [arcs_app hi, ht]
      exact List.mem_append.2 (.inl (e hp))
    · subst hj
      rw [if_pos rfl, cAt_new, cAt_app hi, arcs_app hi]
      refine ⟨hi, Nat.le_refl _, ?_, hqm, fun _ => ?_⟩
      · rw [Int.toNat_natCast]
        exact if_pos rfl
      · rw [ht]
        exact List.mem_append.2 (.inr (by simp))
  · rcases hlt h2 with hj | hj
    · rw [if_neg (by omega)] at hm
      have := (h.old j h1 hj).1
      rw [cAt_app hj, arcs_app (by omega)]
      exact h.first j h1 hj m hm
    · subst hj
      rw [if_pos rfl] at hm
      rw [cAt_new, arcs_app (by omega)]
      exact fun hx => hout (h.closed m hm (by omega) _ hx)
  · rcases hlt h3 with hl | hl
    · rw [if_neg (by omega), if_neg (by omega), cAt_app (by omega), cAt_app hl]
      exact h.mono j l h1 h2 hl
    · subst hl
      rw [if_neg (by omega), if_pos rfl, cAt_app h2, cAt_new]
      obtain ⟨_, b, _, _, e⟩ := h.old j h1 h2
      refine ⟨b, fun hp => ?_⟩
      have hm := e hp
      obtain ⟨m, hm1, hm2⟩ := List.mem_iff_getElem.1 hm
      rw [List.length_take] at hm1
      rw [List.getElem_take] at hm2
      have := List.pairwise_iff_getElem.1 (hd.up (cAt come i).toNat) m k (by show m < (arcsOf adj come i).length; omega) hk (by omega)
      rw [← hm2, ← (List.getElem?_eq_some_iff.1 hq).2]
      exact this
  · have hmc' : m < come.length := by omega
    rw [arcs_app hmc'] at hx
    exact List.mem_append.2 (.inl (h.closed m hm hmc' x hx))
  · rw [arcs_app hi, ht, List.mem_append, List.mem_singleton] at hx
    rcases hx with hx | hx
    · exact List.mem_append.2 (.inl (h.some_ hi x hx))
    · rw [hx]; exact List.mem_append.2 (.inr (by simp))
theorem Bfs.next (h : Bfs adj src come ah par i k) (hk : (arcsOf adj come i).length ≤ k) : Bfs adj src come ah par (i + 1) 0 := by
  refine ⟨h.nodup, h.pt, h.new, h.pre, h.start, fun j h1 h2 => ?_, h.first, h.mono, fun m hm hmc x hx => ?_, fun _ x hx => by simp at hx⟩
  · obtain ⟨a, b, c, d, e⟩ := h.old j h1 h2
    exact ⟨a, by omega, c, d, fun hp => by omega⟩
  · by_cases e : m = i
    · subst e
      exact h.some_ hmc x (by rw [List.take_of_length_le hk]; exact hx)
    · exact h.closed m (by omega) hmc x hx
theorem Bfs.len (h : Bfs adj src come ah par i k) : come.length ≤ adj.length := by
  have := nodup_le (b := (List.range adj.length).map Int.ofNat) h.nodup fun x hx => by
    have := h.pt x hx
    exact List.mem_map.2 ⟨x.toNat, List.mem_range.2 (by omega), by show (x.toNat : Int) = x; omega⟩
  simpa using this

/-- All has been left. -/
def Done (adj : List (List Int)) (src come : List Int) (ah : Nat → Int) (par : Nat → Nat) : Prop := Bfs adj src come ah par come.length 0
theorem Done.closed (h : Done adj src come ah par) {x y : Int} (hx : x ∈ come) (hy : y ∈ adj.getD x.toNat []) : y ∈ come := by
  obtain ⟨j, hj, rfl⟩ := mem_cAt hx
  exact Bfs.closed h j hj hj y hy
theorem Done.has (h : Done adj src come ah par) {x : Int} (hx : x ∈ src) : x ∈ come := by
  obtain ⟨rest, e⟩ := Bfs.pre h
  rw [e]
  exact List.mem_append.2 (.inl hx)
/-- Nothing more than what one must come to. -/
theorem Done.least (h : Done adj src come ah par) (S : Int → Prop) (h1 : ∀ x ∈ src, S x) (h2 : ∀ x y, x ∈ come → S x → y ∈ adj.getD x.toNat [] → S y) : ∀ x ∈ come, S x := by
  have key : ∀ m j, j < m → j < come.length → S (cAt come j) := by
    intro m
    induction m with
    | zero => intro j hj; omega
    | succ m ih =>
      intro j hj hjc
      obtain ⟨rest, e⟩ := Bfs.pre h
      by_cases hs : j < src.length
      · refine h1 _ ?_
        have : cAt come j = cAt src j := by
          unfold cAt
          rw [e, List.getD_eq_getElem?_getD, List.getElem?_append_left hs, ← List.getD_eq_getElem?_getD]
        rw [this]
        exact cAt_mem hs
      · obtain ⟨a, _, _, d, _⟩ := Bfs.old h j (by omega) hjc
        exact h2 _ _ (cAt_mem (by omega)) (ih _ (by omega) (by omega)) d
  intro x hx
  obtain ⟨j, hj, rfl⟩ := mem_cAt hx
  exact key (j + 1) j (by omega) hj

/-- The way to the j-th. -/
inductive Way (come : List Int) (par : Nat → Nat) (ns : Nat) : Nat → List Int → Prop
  | start (j : Nat) : j < ns → Way come par ns j [cAt come j]
  | next (j : Nat) (l : List Int) : ns ≤ j → Way come par ns (par j) l → Way come par ns j (l ++ [cAt come j])
theorem way_ex (h : Done adj src come ah par) : ∀ j, j < come.length → ∃ l, Way come par src.length j l := by
  have key : ∀ m j, j < m → j < come.length → ∃ l, Way come par src.length j l := by
    intro m
    induction m with
    | zero => intro j hj; omega
    | succ m ih =>
      intro j hj hjc
      by_cases hs : j < src.length
      · exact ⟨_, .start j hs⟩
      · obtain ⟨a, _⟩ := Bfs.old h j (by omega) hjc
        obtain ⟨l, hl⟩ := ih (par j) (by omega) (by omega)
        exact ⟨_, .next j l (by omega) hl⟩
  exact fun j hj => key (j + 1) j (by omega) hj
end

end Go.Proofs.Ytmgfhehnehcmpaa.Wp
