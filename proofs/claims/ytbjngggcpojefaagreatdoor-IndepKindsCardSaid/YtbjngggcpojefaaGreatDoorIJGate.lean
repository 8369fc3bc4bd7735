/- The rows' frame for edges: a list of pairs that came in, as the walks take it. -/
import Derived.Test.YtbjngggcpojefaaGreatDoorQGateE
import Derived.Test.YtbjngggcpojefaaGreatDoorZJ
import Derived.Laws.IdiomArrays
import Derived.SizedLaws
namespace Go.Proofs.YtbjngggcpojefaaGreatDoor
open Go.ChangeShapes Go.WideShapes Go.ChangeAt Go.RowKit
namespace Wp

section
variable {H : Type} {enc : TypeId × Value → H} {P : Program} {w : World} {base : Nat} {spare : Nat → Bool} {held : Bool}
theorem trod_array2 {t e : TypeId} {fuel : Nat} {c0 c1 : Value} {x : DataW H × List MemPlace} (ht : P.underlying t = some (.array 2 e)) (hce : P.cellsOf e = 1)
    (h : DataW.trod enc P w base spare held fuel t [c0, c1] = some x) :
    ∃ y0 y1 n, x = (.agg [y0.1, y1.1], y0.2 ++ y1.2) ∧ DataW.trod enc P w base spare held n e [c0] = some y0 ∧ DataW.trod enc P w base spare held n e [c1] = some y1 := by
  cases fuel with
  | zero => simp [DataW.trod] at h
  | succ n =>
    unfold DataW.trod at h
    rw [ht] at h
    have r2 : List.range 2 = [0, 1] := rfl
    simp [r2, hce] at h
    obtain ⟨_, h⟩ := h
    cases h0 : DataW.trod enc P w base spare held n e [c0] with
    | none => simp [h0] at h
    | some y0 =>
      cases h1 : DataW.trod enc P w base spare held n e [c1] with
      | none => simp [h0, h1] at h
      | some y1 =>
        simp [h0, h1] at h
        exact ⟨y0, y1, n, h.symm, h0, h1⟩
end

theorem cellsP : Tryz.prog.cellsOf 38 = 2 := by kernel_rfl

set_option maxRecDepth 100000 in
set_option maxRecDepth 100000 in
theorem edges_of_arg_data {H : Type} {enc : TypeId × Value → H} {W : World} {v : Value} {d : DataW H} {ps : List MemPlace} {base : Nat} (hv : Value.okWide Tryz.prog W .any base 36 v)
    (h : DataW.Trod enc Tryz.prog W 0 (fun _ => true) true 36 v d ps) (hlt : ∀ x ∈ ps, x.block < W.heap.size) : ∃ es, Edges W W.heap.size v es ∧ (es = [] ∨ ∃ elems spare, d = .slice elems spare ∧ elems.length = es.length) := by
  obtain ⟨a0, len, cap, rfl⟩ := okWide_slice Tryz.underlying36 hv
  obtain ⟨fuel, hf⟩ := h
  rcases Go.Deep.open_slice Tryz.underlying36 hf with ⟨hcs, _⟩ | ⟨a, len', cap', m, n, D, Pl, hcs, _, hl, hm, hmm, hx, hcell⟩
  · simp [Value.cells] at hcs
    obtain ⟨rfl, rfl, rfl⟩ := hcs
    exact ⟨[], ⟨none, 0, rfl, ⟨Nat.le_refl _, by decide, fun _ => rfl⟩, fun k hk => absurd hk (by simp)⟩, .inl rfl⟩
  · simp [Value.cells] at hcs
    obtain ⟨rfl, rfl, rfl⟩ := hcs
    simp only [if_true] at hmm
    subst hmm
    have hpl : 0 < m → a.block < W.heap.size := by
      intro h0
      simp only [Prod.mk.injEq] at hx
      have h1 := hlt (.cell a.block a.off) (by
        rw [hx.2]
        exact List.mem_append.2 (.inl (MemPlace.mem_row.2 ⟨0, by rw [cellsP]; omega, by simp⟩)))
      exact h1
    obtain ⟨q, hq⟩ := Go.Deep.choose_lt (α := Int × Int) (n := m) (p := fun i e => W.cell? (a.add (i * 2)) = some (.int .i64 e.1) ∧ W.cell? ⟨(a.add (i * 2)).block, (a.add (i * 2)).off + 1, none⟩ = some (.int .i64 e.2)) (fun i hi => by
      obtain ⟨cs', h1, h2⟩ := hcell i hi
      rw [cellsP] at h1
      obtain ⟨_, hlen, hat⟩ := World.cells?_some h1
      match cs', hlen with
      | [c0, c1], _ =>
        obtain ⟨y0, y1, n', _, t0, t1⟩ := trod_array2 Tryz.underlying38 cellsI h2
        obtain ⟨x0, e0, _⟩ := DataW.trod_int Tryz.underlying3 t0
        obtain ⟨x1, e1, _⟩ := DataW.trod_int Tryz.underlying3 t1
        simp at e0 e1
        subst e0 e1
        have g0 := hat 0 (by omega)
        have g1 := hat 1 (by omega)
        rw [add_zero] at g0
        exact ⟨(x0, x1), by simpa using g0, by simpa [Addr.add] using g1⟩)
    have hd : ∃ elems spare, d = .slice elems spare ∧ elems.length = len := by
      simp only [Prod.mk.injEq] at hx
      exact ⟨_, _, hx.1, by simp⟩
    refine ⟨(List.range len).map q, ⟨some a, m, by simp, ⟨by simpa using hl, hm, fun e => by cases e⟩, fun k hk => ⟨a, rfl, ?_, ?_, ?_⟩⟩, .inr (by simpa using hd)⟩
    · simp at hk
      exact hpl (by omega)
    · simp at hk
      have := (hq k (by omega)).1
      simpa [List.getD, hk] using this
    · simp at hk
      have := (hq k (by omega)).2
      simpa [List.getD, hk] using this

set_option maxRecDepth 100000 in
theorem edges_of_arg {H : Type} {enc : TypeId × Value → H} {W : World} {v : Value} {d : DataW H} {ps : List MemPlace} {base : Nat} (hv : Value.okWide Tryz.prog W .any base 36 v)
    (h : DataW.Trod enc Tryz.prog W 0 (fun _ => true) true 36 v d ps) (hlt : ∀ x ∈ ps, x.block < W.heap.size) : ∃ es, Edges W W.heap.size v es := by
  obtain ⟨es, he, _⟩ := edges_of_arg_data hv h hlt
  exact ⟨es, he⟩

end Wp
end Go.Proofs.YtbjngggcpojefaaGreatDoor
