/- The points of a way, plain: where it begins and ends, that an arc leads from each to the next one. Nothing of the program here. -/
import Derived.Test.YtmgfhehnehcmpaaRRun
namespace Go.Proofs.Ytmgfhehnehcmpaa.Wp

section
variable {adj : List (List Int)} {src come : List Int} {ah : Nat → Int} {par : Nat → Nat}
theorem cAt_src (h : Done adj src come ah par) {j : Nat} (hj : j < src.length) : cAt come j ∈ src := by
  obtain ⟨rest, e⟩ := Bfs.pre h
  have : cAt come j = cAt src j := by
    unfold cAt
    rw [e, List.getD_eq_getElem?_getD, List.getElem?_append_left hj, ← List.getD_eq_getElem?_getD]
  rw [this]
  exact cAt_mem hj
theorem cAt_inj (h : Done adj src come ah par) {i j : Nat} (hi : i < come.length) (hj : j < come.length) (e : cAt come i = cAt come j) : i = j := by
  have h1 : cAt come i = come[i] := by unfold cAt; simp [List.getD, hi]
  have h2 : cAt come j = come[j] := by unfold cAt; simp [List.getD, hj]
  have e2 : come[i] = come[j] := h1.symm.trans (e.trans h2)
  rcases Nat.lt_trichotomy i j with hlt | he | hgt
  · exact absurd e2 (List.pairwise_iff_getElem.1 (Bfs.nodup h) i j hi hj hlt)
  · exact he
  · exact absurd e2.symm (List.pairwise_iff_getElem.1 (Bfs.nodup h) j i hj hi hgt)
theorem cAt_not (h : Done adj src come ah par) {j : Nat} (hj : j < come.length) (hs : src.length ≤ j) : cAt come j ∉ src := by
  intro hin
  obtain ⟨k, hk, e⟩ := mem_cAt hin
  obtain ⟨rest, er⟩ := Bfs.pre h
  have e2 : cAt come k = cAt src k := by
    unfold cAt
    rw [er, List.getD_eq_getElem?_getD, List.getElem?_append_left hk, ← List.getD_eq_getElem?_getD]
  have := cAt_inj h (by rw [er, List.length_append]; omega) hj (e2.trans e)
  omega
/-- Of each point which one it is of those come to. -/
structure WayF (adj : List (List Int)) (src come : List Int) (j : Nat) (l : List Int) : Prop where
  pos : 0 < l.length
  last : l.getD (l.length - 1) 0 = cAt come j
  head : l.getD 0 0 ∈ src
  each : ∀ i, i < l.length → ∃ m, m ≤ j ∧ l.getD i 0 = cAt come m ∧ (i + 1 < l.length → m < j) ∧ (0 < i → src.length ≤ m)
  arc : ∀ i, i + 1 < l.length → l.getD (i + 1) 0 ∈ adj.getD (l.getD i 0).toNat []
theorem getD_app1 {l : List Int} {q : Int} {i : Nat} (h : i < l.length) : (l ++ [q]).getD i 0 = l.getD i 0 := by
  rw [List.getD_eq_getElem?_getD, List.getElem?_append_left h, ← List.getD_eq_getElem?_getD]
theorem getD_app2 {l : List Int} {q : Int} : (l ++ [q]).getD l.length 0 = q := by
  rw [List.getD_eq_getElem?_getD, List.getElem?_append_right (Nat.le_refl _)]
  simp
theorem way_facts (hd : Done adj src come ah par) {j : Nat} {l : List Int} (hw : Way come par src.length j l) : j < come.length → WayF adj src come j l := by
  induction hw with
  | start j hs =>
    intro hj
    refine ⟨by simp, rfl, cAt_src hd hs, fun i hi => ?_, fun i hi => ?_⟩
    · have : i = 0 := by simpa using hi
      subst this
      exact ⟨j, Nat.le_refl _, rfl, fun h => by simp at h, fun h => by omega⟩
    · simp at hi
  | next j l hs hw ih =>
    intro hj
    obtain ⟨a1, _, _, a4, _⟩ := Bfs.old hd j hs hj
    have f := ih (by omega)
    have hp := f.pos
    have hlen : (l ++ [cAt come j]).length = l.length + 1 := by simp
    refine ⟨by omega, by rw [hlen, Nat.add_sub_cancel, getD_app2], by rw [getD_app1 hp]; exact f.head, fun i hi => ?_, fun i hi => ?_⟩
    · rw [hlen] at hi ⊢
      by_cases e : i = l.length
      · subst e
        exact ⟨j, Nat.le_refl _, getD_app2, fun h => by omega, fun _ => hs⟩
      · obtain ⟨m, h1, h2, h3, h4⟩ := f.each i (by omega)
        exact ⟨m, by omega, by rw [getD_app1 (by omega)]; exact h2, fun _ => by omega, h4⟩
    · rw [hlen] at hi
      by_cases e : i + 1 = l.length
      · rw [e, getD_app2, getD_app1 (by omega), show i = l.length - 1 by omega, f.last]
        exact a4
      · rw [getD_app1 (by omega), getD_app1 (by omega)]
        exact f.arc i (by omega)
end

/-! ### Along a path -/
/-- From each of n points one arc leads to the next one. -/
def lineA (n : Nat) : List (List Int) := (List.range n).map fun i => if i + 1 < n then [((i + 1 : Nat) : Int)] else []
theorem line_len (n : Nat) : (lineA n).length = n := by simp [lineA]
theorem line_getD (n i : Nat) : (lineA n).getD i [] = if i + 1 < n then [((i + 1 : Nat) : Int)] else [] := by
  unfold lineA
  rw [List.getD_eq_getElem?_getD, List.getElem?_map]
  by_cases h : i < n
  · rw [List.getElem?_range h]
    rfl
  · rw [List.getElem?_eq_none (by simp; omega), if_neg (by omega)]
    rfl
theorem line_dig (n : Nat) : Dig (lineA n) := by
  refine ⟨fun x => ?_, fun x y hy => ?_⟩
  · rw [line_getD]
    split <;> simp
  · rw [line_getD] at hy
    split at hy
    · rw [List.mem_singleton] at hy
      rw [line_len]
      omega
    · simp at hy
theorem line_up {n : Nat} {come : List Int} {ah : Nat → Int} {par : Nat → Nat} (h : Done (lineA n) [0] come ah par) {j : Nat} {l : List Int} (hw : WayF (lineA n) [0] come j l) : ∀ i, i < l.length → l.getD i 0 = (i : Int)
  | 0, _ => by simpa using hw.head
  | i + 1, hi => by
    have ih := line_up h hw i (by omega)
    have := hw.arc i hi
    rw [ih, Int.toNat_natCast, line_getD] at this
    split at this
    · exact List.mem_singleton.1 this
    · simp at this
theorem line_all {n : Nat} {come : List Int} {ah : Nat → Int} {par : Nat → Nat} (h : Done (lineA n) [0] come ah par) : ∀ i : Nat, i < n → (i : Int) ∈ come
  | 0, _ => h.has (by simp)
  | i + 1, hi => by
    have ih := line_all h i (by omega)
    refine h.closed ih ?_
    rw [Int.toNat_natCast, line_getD, if_pos hi]
    simp
theorem line_back {n : Nat} {come : List Int} {ah : Nat → Int} {par : Nat → Nat} (hn : 1 ≤ n) (h : Done (lineA n) [(n : Int) - 1] come ah par) : ∀ x ∈ come, x = (n : Int) - 1 :=
  h.least (fun x => x = (n : Int) - 1) (fun x hx => by simpa using hx) fun x y _ hx hy => by
    rw [hx, line_getD, if_neg (by omega)] at hy
    simp at hy

end Go.Proofs.Ytmgfhehnehcmpaa.Wp
