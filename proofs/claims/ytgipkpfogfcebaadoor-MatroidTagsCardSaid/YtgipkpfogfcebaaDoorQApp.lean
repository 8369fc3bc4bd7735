/- Lists of lists, and of matroids, that the call itself makes by append out of old ones. -/
import Derived.Test.YtgipkpfogfcebaaDoorQLit
import Derived.Deep.Slices
namespace Go.Proofs.YtgipkpfogfcebaaDoor
open Go.RowKit
namespace Wp

theorem infoL : (Tryd.prog.info? 26).map (fun i => (i.zero, i.size, i.bytes)) = some (some (.slice none 0 0), 1, 24) := by kernel_rfl
theorem infoMat : (Tryd.prog.info? 25).map (fun i => (i.zero, i.size, i.bytes)) = some (some (.agg #[.int .i64 0, .int .i64 0, .int .i64 0, .int .i64 0, .slice none 0 0, .slice none 0 0]), 6, 80) := by kernel_rfl

/-- The cells hold the old lists. -/
def OldR (w : World) (B : Nat) (us : List Value) (pp : List (List Int)) : Prop := us.length = pp.length ∧ ∀ (i : Nat) (u : Value) (p : List Int), us[i]? = some u → pp[i]? = some p → Row w B u p
theorem OldR.nil_ (w : World) (B : Nat) : OldR w B [] [] := ⟨rfl, fun i u p h => by simp at h⟩
theorem OldR.below {w w' : World} {B : Nat} {us : List Value} {pp : List (List Int)} (h : OldR w B us pp) (hb : Below B w w') : OldR w' B us pp := ⟨h.1, fun i u p h1 h2 => (h.2 i u p h1 h2).below hb⟩
theorem OldR.append {w : World} {B : Nat} {us ts : List Value} {pp qq : List (List Int)} (h : OldR w B us pp) (k : OldR w B ts qq) : OldR w B (us ++ ts) (pp ++ qq) := by
  refine ⟨by rw [List.length_append, List.length_append, h.1, k.1], fun i u p h1 h2 => ?_⟩
  by_cases hi : i < us.length
  · rw [List.getElem?_append_left hi] at h1
    rw [List.getElem?_append_left (by rw [← h.1]; exact hi)] at h2
    exact h.2 i u p h1 h2
  · rw [List.getElem?_append_right (by omega)] at h1
    rw [List.getElem?_append_right (by rw [← h.1]; omega), ← h.1] at h2
    exact k.2 _ u p h1 h2
theorem row_empty (w : World) (B : Nat) (a : Addr) : Row w B (.slice (some a) 0 0) [] := ⟨some a, 0, rfl, ⟨Nat.le_refl _, by decide, fun e => by cases e⟩, fun k hk => absurd hk (by simp)⟩
theorem OldR.three (w : World) (B : Nat) (a b c : Addr) : OldR w B [.slice (some a) 0 0, .slice (some b) 0 0, .slice (some c) 0 0] [[], [], []] := by
  refine ⟨rfl, fun i u p h1 h2 => ?_⟩
  match i, h1, h2 with
  | 0, h1, h2 => simp at h1 h2; subst h1 h2; exact row_empty _ _ _
  | 1, h1, h2 => simp at h1 h2; subst h1 h2; exact row_empty _ _ _
  | 2, h1, h2 => simp at h1 h2; subst h1 h2; exact row_empty _ _ _
theorem rows2_of_own {w : World} {base B : Nat} {v : Value} {us : List Value} {pp : List (List Int)} (h : w.ownsRow base 26 1 v us.length us) (ho : OldR w B us pp) (hB : B ≤ w.heap.size) : Rows2 w w.heap.size v pp := by
  rcases h.2 with ⟨rfl, h0⟩ | ⟨g, cap, cur, rfl, hb, hg, hcl, hcm, _⟩
  · have hp0 : pp.length = 0 := by rw [← ho.1]; exact h0
    have : pp = [] := List.eq_nil_of_length_eq_zero hp0
    subst this
    exact rows2_nil _ _
  · refine ⟨some ⟨g, 0, none⟩, cap, by rw [ho.1], ⟨by rw [← ho.1]; exact hcl, hcm, fun e => by cases e⟩, fun k hk => ?_⟩
    have hkv : k < us.length := by rw [ho.1]; exact hk
    refine ⟨⟨g, 0, none⟩, us[k], rfl, (h.lt g rfl).2, h.cells (g := g) rfl k _ (List.getElem?_eq_getElem hkv), ?_⟩
    rw [show pp.getD k [] = pp[k] by simp [List.getD, hk]]
    exact (ho.2 k _ _ (List.getElem?_eq_getElem hkv) (List.getElem?_eq_getElem hk)).mono hB
/-- The cells of a list of lists. -/
theorem rows2_cells {w : World} {B : Nat} {A : Option Addr} {n c : Nat} {pp : List (List Int)} (h : Rows2 w B (.slice A n c) pp) :
    ∃ us, OldR w B us pp ∧ n = us.length ∧ (A = none → c = 0) ∧ (∀ ad, A = some ad → ∀ j u, us[j]? = some u → w.cell? (ad.add j) = some u) ∧ (∀ u ∈ us, u.oneCell' = true) ∧ (A = none → us = []) := by
  obtain ⟨A', c', hv, hn, hk⟩ := h
  injection hv with e1 e2 e3
  subst e1 e2 e3
  obtain ⟨q, hq⟩ := Go.Deep.choose_lt (α := Value) (n := pp.length) (p := fun k u => (∀ ad, A = some ad → w.cell? (ad.add k) = some u) ∧ Row w B u (pp.getD k []) ∧ A ≠ none) (fun k hk' => by
    obtain ⟨ad, u, h1, _, h3, h4⟩ := hk k hk'
    exact ⟨u, fun ad' e => by rw [h1] at e; injection e with e; rw [← e]; exact h3, h4, by rw [h1]; simp⟩)
  have hget : ∀ j u, ((List.range pp.length).map q)[j]? = some u → j < pp.length ∧ u = q j := by
    intro j u hj
    have hjl : j < pp.length := by
      have := (List.getElem?_eq_some_iff.1 hj).1
      simpa using this
    rw [List.getElem?_map, List.getElem?_range hjl] at hj
    exact ⟨hjl, (Option.some.inj hj).symm⟩
  refine ⟨(List.range pp.length).map q, ⟨by simp, fun i u p h1 h2 => ?_⟩, by simp, hn.2.2, fun ad hA j u hj => ?_, fun u hu => ?_, fun hA => ?_⟩
  · obtain ⟨hil, rfl⟩ := hget i u h1
    have := (hq i hil).2.1
    rw [show pp.getD i [] = p by rw [List.getD_eq_getElem?_getD, h2]; rfl] at this
    exact this
  · obtain ⟨hjl, rfl⟩ := hget j u hj
    exact (hq j hjl).1 ad hA
  · obtain ⟨j, hj, rfl⟩ := List.mem_map.1 hu
    obtain ⟨A1, c1, h1, _⟩ := (hq j (List.mem_range.1 hj)).2.1
    rw [h1]
    rfl
  · have : pp.length = 0 := by
      rcases Nat.eq_zero_or_pos pp.length with h0 | h0
      · exact h0
      · exact absurd hA (hq 0 h0).2.2
    rw [this]
    rfl

/-- 'append(zs, ls...)', zs the call's own, ls old lists, nil or not. -/
theorem wpList_append_lists {w : World} {ops : Array Oper} {rest : List Oper} {o : Oper} {a : Act} {Q : Exit → Act → World → Prop} (hgd : o.guard = none) (s x : Operand)
    (ho : o.op = .call { callee := .builtin .append, args := #[s, x], argTypes := #[22, 22] })
    (base : Nat) (v : Value) (us ts : List Value) (A : Option Addr) (c : Nat) (hs : a.eval s = v) (hx : a.eval x = .slice A ts.length c) (hown : w.ownsRow base 26 1 v us.length us)
    (hcell : ∀ ad, A = some ad → ∀ j u, ts[j]? = some u → w.cell? (ad.add j) = some u) (hone : ∀ u ∈ ts, u.oneCell' = true) (hnil : A = none → ts = [] ∧ c = 0) (hz : us.length ≤ 1048576) (hy : ts.length ≤ 1048576) (hb : base ≤ w.heap.size)
    (h : ∀ v' w', w'.ownsRow base 26 1 v' (us ++ ts).length (us ++ ts) → w.grownBy w' v.ownBlock → wpList Tryd.prog ops Q rest (a.put o.dst v') w') : wpList Tryd.prog ops Q (o :: rest) a w := by
  obtain ⟨i0, hi, hz0, hz1, hz2⟩ := info_parts infoL
  cases A with
  | some ad =>
    refine wpList_append_own w hgd s x _ ho base 26 i0 (.slice none 0 0) 1 24 (by kernel_rfl) hi hz0 hz1 hz2 rfl (by decide) v us.length us hs hown ad ts.length c ts hx (by simp) (hcell ad rfl) hone (by unfold maxLen; omega) (by omega) hb ?_
    intro v' w' h1 h2 _
    exact h v' w' (by rw [List.length_append]; exact h1) h2
  | none =>
    obtain ⟨rfl, rfl⟩ := hnil rfl
    refine wpList_append_own_none hgd s x _ ho base 26 i0 1 (by kernel_rfl) hi v us.length us hs hown hx ?_
    exact h v w (by rw [List.append_nil]; exact hown) ⟨rfl, rfl, rfl, Nat.le_refl _, fun _ _ _ => rfl⟩

/-! ### Lists of matroids: six cells each -/
def flat6 (S : Nat → List Value) (n : Nat) : List Value := (List.range n).flatMap S
theorem flat6_succ (S : Nat → List Value) (n : Nat) : flat6 S (n + 1) = flat6 S n ++ S n := by
  unfold flat6
  rw [List.range_succ, List.flatMap_append]
  simp
theorem flat6_len {S : Nat → List Value} (h6 : ∀ k, (S k).length = 6) : ∀ n, (flat6 S n).length = n * 6
  | 0 => rfl
  | n + 1 => by rw [flat6_succ, List.length_append, flat6_len h6 n, h6]; omega
theorem flat6_at {S : Nat → List Value} (h6 : ∀ k, (S k).length = 6) : ∀ (n k j : Nat), k < n → j < 6 → (flat6 S n)[k * 6 + j]? = (S k)[j]?
  | n + 1, k, j, hk, hj => by
    rw [flat6_succ]
    by_cases e : k = n
    · subst e
      rw [List.getElem?_append_right (by rw [flat6_len h6]; omega), flat6_len h6]
      congr 1
      omega
    · rw [List.getElem?_append_left (by rw [flat6_len h6]; omega)]
      exact flat6_at h6 n k j (by omega) hj
theorem add_more (a : Addr) (p j : Nat) (hj : j ≠ 0) : (⟨(a.add p).block, (a.add p).off + j, none⟩ : Addr) = a.add (p + j) := by
  unfold Addr.add
  by_cases hp : p = 0
  · subst hp; simp [hj]
  · simp [hp, hj, Nat.add_assoc]

/-- The six cells of each. -/
def SixM (w : World) (B : Nat) (S : Nat → List Value) (i : List Mat) : Prop :=
  (∀ k, (S k).length = 6) ∧ ∀ k, k < i.length → ∃ x0 x1 x2 x3 x4 x5, S k = [x0, x1, x2, x3, x4, x5] ∧ MatV w B (.agg #[x0, x1, x2, x3, x4, x5]) (i.getD k default)
theorem SixM.below {w w' : World} {B : Nat} {S : Nat → List Value} {i : List Mat} (h : SixM w B S i) (hb : Below B w w') : SixM w' B S i := ⟨h.1, fun k hk => by
  obtain ⟨x0, x1, x2, x3, x4, x5, h1, h2⟩ := h.2 k hk
  exact ⟨x0, x1, x2, x3, x4, x5, h1, h2.bel hb⟩⟩
theorem SixM.more {w : World} {B : Nat} {S : Nat → List Value} {i : List Mat} (h : SixM w B S i) (x0 x1 x2 x3 x4 x5 : Value) (m : Mat) (hm : MatV w B (.agg #[x0, x1, x2, x3, x4, x5]) m) :
    ∃ S', SixM w B S' (i ++ [m]) ∧ flat6 S' (i.length + 1) = flat6 S i.length ++ [x0, x1, x2, x3, x4, x5] := by
  refine ⟨fun k => if k < i.length then S k else [x0, x1, x2, x3, x4, x5], ⟨fun k => ?_, fun k hk => ?_⟩, ?_⟩
  · show (if k < i.length then S k else [x0, x1, x2, x3, x4, x5]).length = 6
    split
    · exact h.1 k
    · rfl
  · by_cases hki : k < i.length
    · obtain ⟨y0, y1, y2, y3, y4, y5, h1, h2⟩ := h.2 k hki
      refine ⟨y0, y1, y2, y3, y4, y5, (if_pos hki).trans h1, ?_⟩
      rw [show (i ++ [m]).getD k default = i.getD k default by simp [List.getD, List.getElem?_append_left hki]]
      exact h2
    · have hke : k = i.length := by rw [List.length_append] at hk; simp at hk; omega
      subst hke
      refine ⟨x0, x1, x2, x3, x4, x5, if_neg hki, ?_⟩
      rw [show (i ++ [m]).getD i.length default = m by simp [List.getD]]
      exact hm
  · rw [flat6_succ]
    congr 1
    · unfold flat6
      rw [List.flatMap_def, List.flatMap_def]
      congr 1
      exact List.map_congr_left fun k hk => if_pos (List.mem_range.1 hk)
    · exact if_neg (by omega)
theorem matL_cells {w : World} {B : Nat} {A : Option Addr} {n c : Nat} {i : List Mat} (h : MatL w B (.slice A n c) i) :
    ∃ S, SixM w B S i ∧ n = i.length ∧ (A = none → c = 0 ∧ i = []) ∧ (∀ ad, A = some ad → ∀ j u, (flat6 S i.length)[j]? = some u → w.cell? (ad.add j) = some u) ∧ (∀ u ∈ flat6 S i.length, u.oneCell' = true) := by
  obtain ⟨A', c', hv, hn, hk⟩ := h
  injection hv with e1 e2 e3
  subst e1 e2 e3
  obtain ⟨q, hq⟩ := Go.Deep.choose_lt (α := List Value) (n := i.length) (p := fun k l => ∃ x0 x1 x2 x3 x4 x5, l = [x0, x1, x2, x3, x4, x5] ∧ MatV w B (.agg #[x0, x1, x2, x3, x4, x5]) (i.getD k default) ∧ A ≠ none ∧ (∀ u ∈ l, u.oneCell' = true) ∧
      ∀ ad, A = some ad → ∀ j u, l[j]? = some u → w.cell? (ad.add (k * 6 + j)) = some u) (fun k hk' => by
    obtain ⟨ad, u, h1, _, h3, h4⟩ := hk k hk'
    obtain ⟨lv, iv, hu, ⟨Al, cl, rfl, _⟩, ⟨Ai, ci, rfl, _⟩⟩ := h4.open
    obtain ⟨x0, x1, x2, x3, x4, x5, hu2, c0, c1, c2, c3, c4, c5⟩ := h3
    rw [hu2] at h4
    have hu3 := hu.symm.trans hu2
    injection hu3 with hu3
    injection hu3 with hu3
    injection hu3 with e0 hu3
    injection hu3 with e1 hu3
    injection hu3 with e2 hu3
    injection hu3 with e3 hu3
    injection hu3 with e4 hu3
    injection hu3 with e5 _
    subst e0 e1 e2 e3 e4 e5
    refine ⟨_, _, _, _, _, _, _, rfl, h4, by rw [h1]; simp, fun u hu => ?_, fun ad' e j u hj => ?_⟩
    · simp at hu
      rcases hu with rfl | rfl | rfl | rfl | rfl | rfl <;> rfl
    · rw [h1] at e
      injection e with e
      subst e
      match j, hj with
      | 0, hj => simp at hj; subst hj; exact c0
      | 1, hj => simp at hj; subst hj; rw [← add_more _ _ 1 (by decide)]; exact c1
      | 2, hj => simp at hj; subst hj; rw [← add_more _ _ 2 (by decide)]; exact c2
      | 3, hj => simp at hj; subst hj; rw [← add_more _ _ 3 (by decide)]; exact c3
      | 4, hj => simp at hj; subst hj; rw [← add_more _ _ 4 (by decide)]; exact c4
      | 5, hj => simp at hj; subst hj; rw [← add_more _ _ 5 (by decide)]; exact c5)
  have h6 : ∀ k, (if k < i.length then q k else [.nilIface, .nilIface, .nilIface, .nilIface, .nilIface, .nilIface]).length = 6 := fun k => by
    split
    · rename_i hki
      obtain ⟨x0, x1, x2, x3, x4, x5, h1, _⟩ := hq k hki
      rw [h1]
      rfl
    · rfl
  refine ⟨fun k => if k < i.length then q k else [.nilIface, .nilIface, .nilIface, .nilIface, .nilIface, .nilIface], ⟨h6, fun k hki => ?_⟩, rfl, fun hA => ⟨hn.2.2 hA, ?_⟩, fun ad hA j u hj => ?_, fun u hu => ?_⟩
  · obtain ⟨x0, x1, x2, x3, x4, x5, h1, h2, _⟩ := hq k hki
    exact ⟨x0, x1, x2, x3, x4, x5, (if_pos hki).trans h1, h2⟩
  · rcases Nat.eq_zero_or_pos i.length with h0 | h0
    · exact List.eq_nil_of_length_eq_zero h0
    · obtain ⟨x0, x1, x2, x3, x4, x5, h1, h2, h3, _⟩ := hq 0 h0
      exact absurd hA h3
  · have hjl : j < i.length * 6 := by
      have := (List.getElem?_eq_some_iff.1 hj).1
      rwa [flat6_len h6] at this
    have hkl : j / 6 < i.length := by omega
    have ej : j = j / 6 * 6 + j % 6 := by omega
    rw [ej, flat6_at h6 _ _ _ hkl (by omega), if_pos hkl] at hj
    obtain ⟨x0, x1, x2, x3, x4, x5, _, _, _, _, h5⟩ := hq (j / 6) hkl
    rw [ej]
    exact h5 ad hA _ u hj
  · unfold flat6 at hu
    obtain ⟨k, hk1, hk2⟩ := List.mem_flatMap.1 hu
    have hki := List.mem_range.1 hk1
    rw [if_pos hki] at hk2
    obtain ⟨x0, x1, x2, x3, x4, x5, _, _, _, h4, _⟩ := hq k hki
    exact h4 u hk2
theorem matL_of_own {w : World} {base B : Nat} {v : Value} {S : Nat → List Value} {i : List Mat} (h : w.ownsRow base 25 6 v i.length (flat6 S i.length)) (hS : SixM w B S i) (hB : B ≤ w.heap.size) : MatL w w.heap.size v i := by
  rcases h.2 with ⟨rfl, h0⟩ | ⟨g, cap, cur, rfl, hb, hg, hcl, hcm, _⟩
  · have : i = [] := List.eq_nil_of_length_eq_zero h0
    subst this
    exact MatL.nil_ _ _
  · refine ⟨some ⟨g, 0, none⟩, cap, rfl, ⟨hcl, hcm, fun e => by cases e⟩, fun k hk => ?_⟩
    obtain ⟨x0, x1, x2, x3, x4, x5, h1, h2⟩ := hS.2 k hk
    have hc : ∀ j u, j < 6 → (S k)[j]? = some u → w.cell? ((⟨g, 0, none⟩ : Addr).add (k * 6 + j)) = some u := fun j u hj hu =>
      h.cells (g := g) rfl (k * 6 + j) u (by rw [flat6_at hS.1 _ _ _ hk hj]; exact hu)
    rw [h1] at hc
    refine ⟨⟨g, 0, none⟩, _, rfl, (h.lt g rfl).2, ⟨x0, x1, x2, x3, x4, x5, rfl, hc 0 _ (by decide) rfl, ?_, ?_, ?_, ?_, ?_⟩, h2.mono hB⟩
    · rw [add_more _ _ 1 (by decide)]; exact hc 1 _ (by decide) rfl
    · rw [add_more _ _ 2 (by decide)]; exact hc 2 _ (by decide) rfl
    · rw [add_more _ _ 3 (by decide)]; exact hc 3 _ (by decide) rfl
    · rw [add_more _ _ 4 (by decide)]; exact hc 4 _ (by decide) rfl
    · rw [add_more _ _ 5 (by decide)]; exact hc 5 _ (by decide) rfl
/-- 'append(zs, ms...)' of matroids. -/
theorem wpList_append_mats {w : World} {ops : Array Oper} {rest : List Oper} {o : Oper} {a : Act} {Q : Exit → Act → World → Prop} (hgd : o.guard = none) (s x : Operand)
    (ho : o.op = .call { callee := .builtin .append, args := #[s, x], argTypes := #[23, 23] })
    (base n k : Nat) (v : Value) (us ts : List Value) (A : Option Addr) (c : Nat) (hs : a.eval s = v) (hx : a.eval x = .slice A k c) (hown : w.ownsRow base 25 6 v n us) (hl : ts.length = k * 6)
    (hcell : ∀ ad, A = some ad → ∀ j u, ts[j]? = some u → w.cell? (ad.add j) = some u) (hone : ∀ u ∈ ts, u.oneCell' = true) (hnil : A = none → k = 0 ∧ c = 0) (hz : n ≤ 1048576) (hy : k ≤ 1048576) (hb : base ≤ w.heap.size)
    (h : ∀ v' w', w'.ownsRow base 25 6 v' (n + k) (us ++ ts) → w.grownBy w' v.ownBlock → wpList Tryd.prog ops Q rest (a.put o.dst v') w') : wpList Tryd.prog ops Q (o :: rest) a w := by
  obtain ⟨i0, hi, hz0, hz1, hz2⟩ := info_parts infoMat
  cases A with
  | some ad =>
    refine wpList_append_own w hgd s x _ ho base 25 i0 (.agg #[.int .i64 0, .int .i64 0, .int .i64 0, .int .i64 0, .slice none 0 0, .slice none 0 0]) 6 80 (by kernel_rfl) hi hz0 hz1 hz2 rfl (by decide) v n us hs hown ad k c ts hx hl (hcell ad rfl) hone (by unfold maxLen; omega) (by omega) hb ?_
    intro v' w' h1 h2 _
    exact h v' w' h1 h2
  | none =>
    obtain ⟨rfl, rfl⟩ := hnil rfl
    have : ts = [] := List.eq_nil_of_length_eq_zero (by omega)
    subst this
    refine wpList_append_own_none hgd s x _ ho base 25 i0 6 (by kernel_rfl) hi v n us hs hown hx ?_
    exact h v w (by rw [List.append_nil]; exact hown) ⟨rfl, rfl, rfl, Nat.le_refl _, fun _ _ _ => rfl⟩

/-- Three boxes of one content, made one behind the other. -/
theorem three_boxes (w : World) (cs : Array Value) (t : TypeId) : Blk ((((w.alloc (.cells cs t)).alloc (.cells cs t)).alloc (.cells cs t)).drew) w.heap.size t cs ∧ Blk ((((w.alloc (.cells cs t)).alloc (.cells cs t)).alloc (.cells cs t)).drew) (w.heap.size + 1) t cs ∧
    Blk ((((w.alloc (.cells cs t)).alloc (.cells cs t)).alloc (.cells cs t)).drew) (w.heap.size + 1 + 1) t cs ∧ Below w.heap.size w ((((w.alloc (.cells cs t)).alloc (.cells cs t)).alloc (.cells cs t)).drew) := by
  have h0 := ((Blk.new w t cs).alloc (.cells cs t)).alloc (.cells cs t)
  have h1 := (Blk.new (w.alloc (.cells cs t)) t cs).alloc (.cells cs t)
  have h2 := Blk.new ((w.alloc (.cells cs t)).alloc (.cells cs t)) t cs
  simp only [size_more] at h1 h2
  exact ⟨h0, h1, h2, ((((Below.refl _ w).alloc (Nat.le_refl _) _).alloc (by simp only [size_more]; omega) _).alloc (by simp only [size_more]; omega) _).drew⟩

end Wp
end Go.Proofs.YtgipkpfogfcebaaDoor
