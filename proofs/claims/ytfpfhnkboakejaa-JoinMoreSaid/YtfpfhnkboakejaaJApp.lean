/- Edges that the call itself makes, by append. -/
import Derived.Test.YtfpfhnkboakejaaJComps
namespace Go.Proofs.Ytfpfhnkboakejaa
open Go.RowKit
namespace Wp

/-- Edges' cells, one behind the other. -/
def flatE : List (Nat × Nat) → List Value
  | [] => []
  | e :: r => .int .i64 (e.1 : Int) :: .int .i64 (e.2 : Int) :: flatE r
theorem flatE_length : ∀ ns, (flatE ns).length = ns.length * 2
  | [] => rfl
  | e :: r => by
    simp [flatE, flatE_length r]
    omega
theorem flatE_append : ∀ (a b : List (Nat × Nat)), flatE (a ++ b) = flatE a ++ flatE b
  | [], b => rfl
  | e :: a, b => by simp [flatE, flatE_append a b]
theorem flatE_even : ∀ (ns : List (Nat × Nat)) (k : Nat), k < ns.length → (flatE ns)[k * 2]? = some (.int .i64 ((ns.getD k (0, 0)).1 : Int)) ∧ (flatE ns)[k * 2 + 1]? = some (.int .i64 ((ns.getD k (0, 0)).2 : Int))
  | [], k, h => absurd h (by simp)
  | e :: r, 0, _ => by simp [flatE, List.getD]
  | e :: r, k + 1, h => by
    have ih := flatE_even r k (by simp at h; omega)
    have e1 : (k + 1) * 2 = k * 2 + 1 + 1 := by omega
    rw [e1]
    simp only [flatE, List.getElem?_cons_succ, List.getD_cons_succ]
    exact ih
theorem flatE_one (ns : List (Nat × Nat)) : ∀ u ∈ flatE ns, u.oneCell' = true := by
  induction ns with
  | nil => intro u hu; simp [flatE] at hu
  | cons e r ih =>
    intro u hu
    simp only [flatE, List.mem_cons] at hu
    rcases hu with rfl | rfl | hu
    · rfl
    · rfl
    · exact ih u hu
theorem add_succ (a : Addr) (j : Nat) : (⟨(a.add j).block, (a.add j).off + 1, none⟩ : Addr) = a.add (j + 1) := by
  unfold Addr.add
  by_cases hj : j = 0
  · subst hj; simp
  · simp [hj, Nat.add_assoc]

theorem Edges.cells {w : World} {B : Nat} {A : Option Addr} {n c : Nat} {ns : List (Nat × Nat)} (h : Edges w B (.slice A n c) (castE ns)) {ad : Addr} (hA : A = some ad) : ∀ j u, (flatE ns)[j]? = some u → w.cell? (ad.add j) = some u := by
  intro j u hj
  obtain ⟨A', c', hv, _, hk⟩ := h
  injection hv with hA' _ _
  have hjl : j < ns.length * 2 := by
    have := (List.getElem?_eq_some_iff.1 hj).1
    rwa [flatE_length] at this
  have hkl : j / 2 < ns.length := by omega
  obtain ⟨ad', e', _, h1, h2⟩ := hk (j / 2) (by rw [castE_length]; exact hkl)
  rw [← hA', hA] at e'
  injection e' with e'
  subst e'
  rw [castE_getD] at h1 h2
  have he := flatE_even ns (j / 2) hkl
  rcases Nat.mod_two_eq_zero_or_one j with hm | hm
  · have ej : j = j / 2 * 2 := by omega
    rw [ej, he.1] at hj
    injection hj with hj
    rw [ej, ← hj]
    exact h1
  · have ej : j = j / 2 * 2 + 1 := by omega
    rw [ej, he.2] at hj
    injection hj with hj
    rw [add_succ] at h2
    rw [ej, ← hj]
    exact h2

theorem info16 : (Try.prog.info? 37).map (fun i => (i.zero, i.size, i.bytes)) = some (some (.agg #[.int .i64 0, .int .i64 0]), 2, 16) := by kernel_rfl

/-- The call's own edges. -/
def OwnE (w : World) (base : Nat) (v : Value) (ns : List (Nat × Nat)) : Prop := w.ownsRow base 37 2 v ns.length (flatE ns)
theorem OwnE.edges {w : World} {base : Nat} {v : Value} {ns : List (Nat × Nat)} (h : OwnE w base v ns) : Edges w w.heap.size v (castE ns) := by
  rcases h.2 with ⟨rfl, h0⟩ | ⟨g, cap, cur, rfl, hb, hg, hcl, hcm, _⟩
  · have : ns = [] := List.eq_nil_of_length_eq_zero h0
    subst this
    exact ⟨none, 0, rfl, ⟨Nat.le_refl _, by decide, fun _ => rfl⟩, fun k hk => absurd hk (by simp [castE])⟩
  · refine ⟨_, cap, by rw [castE_length], ⟨by rw [castE_length]; exact hcl, hcm, fun e => by cases e⟩, fun k hk => ⟨⟨g, 0, none⟩, rfl, (World.ownsRow.lt h g rfl).2, ?_, ?_⟩⟩
    · rw [castE_length] at hk
      rw [castE_getD]
      exact World.ownsRow.cells h (g := g) rfl _ _ (flatE_even ns k hk).1
    · rw [castE_length] at hk
      rw [castE_getD, add_succ]
      exact World.ownsRow.cells h (g := g) rfl _ _ (flatE_even ns k hk).2
theorem OwnE.slice {w : World} {base : Nat} {v : Value} {ns : List (Nat × Nat)} (h : OwnE w base v ns) : ∃ A cap, v = .slice A ns.length cap := by
  rcases h.2 with ⟨rfl, h0⟩ | ⟨g, cap, _, hv, _⟩
  · exact ⟨none, 0, by rw [h0]⟩
  · exact ⟨_, cap, hv⟩

/-- 'append(v, ys...)': v the call's own edges, ys edges that lie anywhere, nil or not. -/
theorem wpList_append_edges {w : World} {ops : Array Oper} {rest : List Oper} {o : Oper} {a : Act} {Q : Exit → Act → World → Prop} (hgd : o.guard = none) (s x : Operand)
    (ho : o.op = .call { callee := .builtin .append, args := #[s, x], argTypes := #[22, 22] })
    (base B : Nat) (v v2 : Value) (zs ys : List (Nat × Nat)) (hs : a.eval s = v) (hx : a.eval x = v2) (hown : OwnE w base v zs) (hr : Edges w B v2 (castE ys))
    (hz : zs.length ≤ 4194304) (hy : ys.length ≤ 4194304) (hb : base ≤ w.heap.size)
    (h : ∀ v' w', OwnE w' base v' (zs ++ ys) → w.grownBy w' v.ownBlock → wpList Try.prog ops Q rest (a.put o.dst v') w') : wpList Try.prog ops Q (o :: rest) a w := by
  obtain ⟨i0, hi, hz0, hz1, hz2⟩ := info_parts info16
  have Hr := hr
  obtain ⟨A, c, hv2, hn, hk⟩ := hr
  rw [castE_length] at hv2 hn
  subst hv2
  cases A with
  | some ad =>
    refine wpList_append_own w hgd s x _ ho base 37 i0 (.agg #[.int .i64 0, .int .i64 0]) 2 16 (by kernel_rfl) hi hz0 hz1 hz2 rfl (by decide) v zs.length (flatE zs) hs hown ad ys.length c (flatE ys) hx (flatE_length ys) (Hr.cells rfl) (flatE_one ys) ?_ ?_ hb ?_
    · unfold maxLen; omega
    · omega
    · intro v' w' h1 h2 _
      refine h v' w' ?_ h2
      unfold OwnE
      rw [flatE_append, List.length_append]
      exact h1
  | none =>
    have hy0 : ys = [] := by
      cases ys with
      | nil => rfl
      | cons y r =>
        obtain ⟨_, hA, _⟩ := hk 0 (by simp [castE])
        cases hA
    subst hy0
    have hc := hn.2.2 rfl
    subst hc
    refine wpList_append_own_none hgd s x _ ho base 37 i0 2 (by kernel_rfl) hi v zs.length (flatE zs) hs hown hx ?_
    exact h v w (by rw [List.append_nil]; exact hown) ⟨rfl, rfl, rfl, Nat.le_refl _, fun _ _ _ => rfl⟩

end Wp
end Go.Proofs.Ytfpfhnkboakejaa
