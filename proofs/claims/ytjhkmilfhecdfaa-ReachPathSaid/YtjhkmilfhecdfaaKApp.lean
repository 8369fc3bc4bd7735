/- A row of rows of the call's own that shares its rows with others: append of a list of rows, or of one. -/
import Derived.Test.YtjhkmilfhecdfaaKLit
import Derived.Deep.AppendLies
import Derived.Laws.AppendOwnNone
namespace Go.Proofs.Ytjhkmilfhecdfaa
open Go.RowKit
namespace Wp

theorem info24 : (Try.prog.info? 25).map (fun i => (i.zero, i.size, i.bytes)) = some (some (.slice none 0 0), 1, 24) := by kernel_rfl
theorem own_kept_none {w w' : World} {base : Nat} {e : TypeId} {size : Nat} {v : Value} {n : Nat} {xs : List Value} (h : w.ownsRow base e size v n xs) (hb : Below w.heap.size w w') : w'.ownsRow base e size v n xs :=
  h.kept (only_of_below hb none) (by
    rcases v.ownBlock with _ | q
    · exact .inl rfl
    · exact .inr (by simp))
/-- A list of integers that lies in no cell of block o. -/
def RowO (w : World) (o : Option Nat) (v : Value) (zs : List Int) : Prop :=
  ∃ A c, v = .slice A zs.length c ∧ (zs.length ≤ c ∧ c ≤ maxLen ∧ (A = none → c = 0)) ∧ ∀ k, k < zs.length → ∃ ad : Addr, A = some ad ∧ ad.block < w.heap.size ∧ some ad.block ≠ o ∧ w.cell? (ad.add k) = some (.int .i64 (zs.getD k 0))
theorem RowO.row {w : World} {o : Option Nat} {v : Value} {zs : List Int} (h : RowO w o v zs) : Row w w.heap.size v zs := by
  obtain ⟨A, c, hv, hn, hk⟩ := h
  refine ⟨A, c, hv, hn, fun k hlt => ?_⟩
  obtain ⟨ad, h1, h2, _, h4⟩ := hk k hlt
  exact ⟨ad, h1, h2, h4⟩
theorem RowO.of_row {w : World} {B : Nat} {o : Option Nat} {v : Value} {zs : List Int} (h : Row w B v zs) (hB : B ≤ w.heap.size) (ho : ∀ g, o = some g → B ≤ g) : RowO w o v zs := by
  obtain ⟨A, c, hv, hn, hk⟩ := h
  refine ⟨A, c, hv, hn, fun k hlt => ?_⟩
  obtain ⟨ad, h1, h2, h4⟩ := hk k hlt
  refine ⟨ad, h1, by omega, fun e => ?_, h4⟩
  have := ho _ e.symm
  omega
theorem RowO.grown {w w' : World} {o o' : Option Nat} {v : Value} {zs : List Int} (h : RowO w o v zs) (hg : w.grownBy w' o) (ho : o' = o ∨ o' = some w.heap.size) : RowO w' o' v zs := by
  obtain ⟨A, c, hv, hn, hk⟩ := h
  refine ⟨A, c, hv, hn, fun k hlt => ?_⟩
  obtain ⟨ad, h1, h2, h3, h4⟩ := hk k hlt
  refine ⟨ad, h1, Nat.lt_of_lt_of_le h2 hg.size, ?_, hg.cell h4 (by rw [add_block]; exact h3)⟩
  rcases ho with rfl | rfl
  · exact h3
  · intro e
    injection e with e
    omega
theorem RowO.below {w w' : World} {o : Option Nat} {v : Value} {zs : List Int} (h : RowO w o v zs) (hb : Below w.heap.size w w') : RowO w' o v zs := by
  obtain ⟨A, c, hv, hn, hk⟩ := h
  refine ⟨A, c, hv, hn, fun k hlt => ?_⟩
  obtain ⟨ad, h1, h2, h3, h4⟩ := hk k hlt
  exact ⟨ad, h1, Nat.lt_of_lt_of_le h2 hb.size, h3, (hb.cell (p := ad.add k) (by rw [add_block]; exact h2)).trans h4⟩

/-- A list of rows whose cells are read now, none of the rows in block o. -/
def ListO (w : World) (o : Option Nat) (v : Value) (qq : List (List Int)) : Prop :=
  ∃ A c, v = .slice A qq.length c ∧ (A = none → c = 0) ∧ ∀ k, k < qq.length → ∃ (ad : Addr) (u : Value), A = some ad ∧ w.cell? (ad.add k) = some u ∧ RowO w o u (qq.getD k [])
theorem ListO.of_rows {w : World} {B : Nat} {o : Option Nat} {v : Value} {qq : List (List Int)} (h : Rows2 w B v qq) (hB : B ≤ w.heap.size) (ho : ∀ g, o = some g → B ≤ g) : ListO w o v qq := by
  obtain ⟨A, c, hv, hn, hk⟩ := h
  refine ⟨A, c, hv, hn.2.2, fun k hlt => ?_⟩
  obtain ⟨ad, u, h1, _, h3, h4⟩ := hk k hlt
  exact ⟨ad, u, h1, h3, .of_row h4 hB ho⟩
theorem ListO.one {W : World} {o : Option Nat} {u : Value} {zs : List Int} (n : Nat) (hn : W.heap.size = n) (h : RowO W o u zs) : ListO (W.alloc (.cells #[u] 25)) o (.slice (some ⟨n, 0, none⟩) 1 1) [zs] := by
  subst hn
  refine ⟨_, 1, rfl, (fun e => by cases e), fun k hk => ⟨⟨W.heap.size, 0, none⟩, u, rfl, ?_, ?_⟩⟩
  · match k, hk with
    | 0, _ => exact (Blk.new W 25 #[u]).cell 0
  · match k, hk with
    | 0, _ => exact h.below ((Below.refl _ W).alloc (Nat.le_refl _) _)

/-- The call's own row of rows. -/
def OwnR (w : World) (base : Nat) (v : Value) (pp : List (List Int)) : Prop :=
  ∃ vs, w.ownsRow base 25 1 v vs.length vs ∧ vs.length = pp.length ∧ ∀ (i : Nat) (u : Value) (p : List Int), vs[i]? = some u → pp[i]? = some p → RowO w v.ownBlock u p
theorem OwnR.lt {w : World} {base : Nat} {v : Value} {pp : List (List Int)} (h : OwnR w base v pp) : ∀ g, v.ownBlock = some g → base ≤ g := by
  obtain ⟨vs, ho, _⟩ := h
  exact fun g hg => (ho.lt g hg).1
theorem OwnR.new (W : World) (base n : Nat) (hb : base ≤ W.heap.size) (hn : W.heap.size = n) : OwnR (W.alloc (.cells #[] 25)) base (.slice (some ⟨n, 0, none⟩) 0 0) [] := by
  subst hn
  exact ⟨[], World.ownsRow_lit W #[] 0 hb (by unfold maxLen; omega) rfl, rfl, fun i u p h => by simp at h⟩
theorem OwnR.below {w w' : World} {base : Nat} {v : Value} {pp : List (List Int)} (h : OwnR w base v pp) (hb : Below w.heap.size w w') : OwnR w' base v pp := by
  obtain ⟨vs, ho, hl, hr⟩ := h
  exact ⟨vs, own_kept_none ho hb, hl, fun i u p h1 h2 => (hr i u p h1 h2).below hb⟩
theorem OwnR.upA {w : World} {base : Nat} {v : Value} {pp : List (List Int)} (h : OwnR w base v pp) (o : Obj) : OwnR (w.alloc o) base v pp := h.below ((Below.refl _ w).alloc (Nat.le_refl _) o)
theorem OwnR.rows {w : World} {base : Nat} {v : Value} {pp : List (List Int)} (h : OwnR w base v pp) : Rows2 w w.heap.size v pp := by
  obtain ⟨vs, ho, hl, hr⟩ := h
  rcases ho.2 with ⟨rfl, h0⟩ | ⟨g, cap, cur, rfl, hb, hg, hcl, hcm, _⟩
  · have : pp = [] := List.eq_nil_of_length_eq_zero (by omega)
    subst this
    exact ⟨none, 0, rfl, ⟨Nat.le_refl _, by decide, fun _ => rfl⟩, fun k hk => absurd hk (by simp)⟩
  · refine ⟨some ⟨g, 0, none⟩, cap, by rw [hl], ⟨by rw [← hl]; exact hcl, hcm, fun e => by cases e⟩, fun k hk => ?_⟩
    have hkv : k < vs.length := by omega
    refine ⟨_, vs[k], rfl, (ho.lt g rfl).2, ho.cells (g := g) rfl k _ (List.getElem?_eq_getElem hkv), ?_⟩
    rw [show pp.getD k [] = pp[k] from by simp [List.getD, hk]]
    exact (hr k _ _ (List.getElem?_eq_getElem hkv) (List.getElem?_eq_getElem hk)).row
/-- 'append(v, v2...)'. -/
theorem OwnR.app (ty : TypeId) {w : World} {base : Nat} {v v2 : Value} {pp qq : List (List Int)} (h : OwnR w base v pp) (hr : ListO w v.ownBlock v2 qq) (hb : base ≤ w.heap.size) (hl : pp.length + qq.length ≤ 4194304) :
    ∃ v' w', (Builtin.append_ #[22, 22] ty #[v, v2]).run Try.prog w = .ok v' w' ∧ OwnR w' base v' (pp ++ qq) ∧ w.grownBy w' v.ownBlock := by
  obtain ⟨i0, hi, hz0, hz1, hz2⟩ := info_parts info24
  obtain ⟨vs, ho, hvl, hvr⟩ := h
  obtain ⟨A, c, rfl, hn, hk⟩ := hr
  cases A with
  | none =>
    have hq0 : qq = [] := by
      cases qq with
      | nil => rfl
      | cons y r =>
        obtain ⟨_, _, hA, _⟩ := hk 0 (by simp)
        cases hA
    subst hq0
    obtain rfl := hn rfl
    have hO : OwnR w base v (pp ++ []) := by rw [List.append_nil]; exact ⟨vs, ho, hvl, hvr⟩
    exact ⟨v, w, run_append_owned_none (P := Try.prog) (w := w) base 22 ty 25 i0 1 (by kernel_rfl) hi v vs.length vs ho, hO, ⟨rfl, rfl, rfl, Nat.le_refl _, fun _ _ _ => rfl⟩⟩
  | some ad =>
    obtain ⟨us, hus⟩ : ∃ us : List Value, us = (List.range qq.length).map fun k => (w.cell? (ad.add k)).getD undef := ⟨_, rfl⟩
    have hul : us.length = qq.length := by rw [hus]; simp
    have hget : ∀ k (u : Value), us[k]? = some u → w.cell? (ad.add k) = some u ∧ RowO w v.ownBlock u (qq.getD k []) := by
      intro k u hu
      have hkl : k < qq.length := by have := (List.getElem?_eq_some_iff.1 hu).1; omega
      obtain ⟨ad', u', hA, h1, h2⟩ := hk k hkl
      injection hA with hA
      subst hA
      rw [hus] at hu
      simp [hkl, h1] at hu
      subst hu
      exact ⟨h1, h2⟩
    obtain ⟨v', w', h1, h2, h3, _, h5⟩ := run_append_own_at (P := Try.prog) w base 22 ty 25 i0 (.slice none 0 0) 1 24 (by kernel_rfl) hi hz0 hz1 hz2 rfl (by decide) v vs.length vs ho ad qq.length c us (by rw [hul]; simp) (fun j u hj => (hget j u hj).1)
      (fun u hu => by
        obtain ⟨k, hk', rfl⟩ := List.mem_iff_getElem.1 hu
        obtain ⟨A', c', e, _⟩ := (hget k _ (List.getElem?_eq_getElem hk')).2
        rw [e]
        rfl) (by unfold maxLen; omega) (by omega) hb
    have hO : OwnR w' base v' (pp ++ qq) := by
      refine ⟨vs ++ us, by rw [List.length_append, hul]; exact h2, by simp [hvl, hul], fun i u p hu hp => ?_⟩
      by_cases hi' : i < vs.length
      · rw [List.getElem?_append_left hi'] at hu
        rw [List.getElem?_append_left (by omega)] at hp
        exact (hvr i u p hu hp).grown h3 h5
      · rw [List.getElem?_append_right (by omega)] at hu hp
        rw [hvl] at hu
        have h6 := (hget _ u hu).2
        rw [show qq.getD (i - pp.length) [] = p by simp [List.getD, hp]] at h6
        exact h6.grown h3 h5
    exact ⟨v', w', h1, hO, h3⟩

/-- The same, in a walk; the operation may stand behind a guard that lets it be. -/
theorem wpList_append_rows {w : World} {ops : Array Oper} {rest : List Oper} {o : Oper} {a : Act} {Q : Exit → Act → World → Prop} (hw : Region.wanted o (yielded ops a.tmps) = true) (s x : Operand)
    (ho : o.op = .call { callee := .builtin .append, args := #[s, x], argTypes := #[22, 22] })
    (base : Nat) (v v2 : Value) (pp qq : List (List Int)) (hs : a.eval s = v) (hx : a.eval x = v2) (h : OwnR w base v pp) (hr : ListO w v.ownBlock v2 qq) (hb : base ≤ w.heap.size) (hl : pp.length + qq.length ≤ 4194304)
    (hk : ∀ v' w', OwnR w' base v' (pp ++ qq) → w.grownBy w' v.ownBlock → wpList Try.prog ops Q rest (a.put o.dst v') w') : wpList Try.prog ops Q (o :: rest) a w := by
  refine wpList_step fun K hK => ?_
  rw [if_pos hw]
  obtain ⟨v', w', hrun, h2, h3⟩ := h.app o.type hr hb hl
  unfold Oper.wp execOp
  simp only [ho, resolve, invoke, builtin, Sem.run_bind, Sem.run_pure, Result.andThen_ok, List.map_toArray, List.map_cons, List.map_nil, hs, hx, hrun]
  exact hK _ _ (hk v' w' h2 h3)

end Wp
end Go.Proofs.Ytjhkmilfhecdfaa
