/- The rows' frame for a queue's calls: a list of them that came in, as the walks take it. -/
import Derived.Test.YtcdfjhmlpdhelaaSGate
import Derived.Test.YtcdfjhmlpdhelaaOTells
import Derived.Deep.Strs
import Derived.Deep.Slices
namespace Go.Proofs.Ytcdfjhmlpdhelaa
open Go.ChangeShapes Go.WideShapes Go.ChangeAt Go.RowKit
namespace Wp

theorem cellsC : Try.prog.cellsOf 42 = 3 := by kernel_rfl
theorem cellsBo : Try.prog.cellsOf 4 = 1 := by kernel_rfl

set_option maxRecDepth 100000 in
theorem cmds_of_arg {H : Type} {enc : TypeId × Value → H} {W : World} {v : Value} {d : DataW H} {ps : List MemPlace} {base : Nat} (hv : Value.okWide Try.prog W .any base 34 v)
    (h : DataW.Trod enc Try.prog W 0 (fun _ => true) true 34 v d ps) (hlt : ∀ x ∈ ps, x.block < W.heap.size) : ∃ es, Cmds W W.heap.size v es := by
  obtain ⟨a0, len, cap, rfl⟩ := okWide_slice Try.underlying34 hv
  obtain ⟨fuel, hf⟩ := h
  rcases Go.Deep.open_slice Try.underlying34 hf with ⟨hcs, _⟩ | ⟨a, len', cap', m, n, D, Pl, hcs, _, hl, hm, hmm, hx, hcell⟩
  · simp [Value.cells] at hcs
    obtain ⟨rfl, rfl, rfl⟩ := hcs
    exact ⟨[], none, 0, rfl, fun k hk => absurd hk (by simp)⟩
  · simp [Value.cells] at hcs
    obtain ⟨rfl, rfl, rfl⟩ := hcs
    simp only [if_true] at hmm
    subst hmm
    have hpl : 0 < m → a.block < W.heap.size := by
      intro h0
      simp only [Prod.mk.injEq] at hx
      have h1 := hlt (.cell a.block a.off) (by
        rw [hx.2]
        exact List.mem_append.2 (.inl (MemPlace.mem_row.2 ⟨0, by rw [cellsC]; omega, by simp⟩)))
      exact h1
    obtain ⟨q, hq⟩ := Go.Deep.choose_lt (α := Int × Int × Bool) (n := m) (p := fun i e => W.cell? (a.add (i * 3)) = some (.int .i64 e.1) ∧ W.cell? ⟨(a.add (i * 3)).block, (a.add (i * 3)).off + 1, none⟩ = some (.int .i64 e.2.1) ∧ W.cell? ⟨(a.add (i * 3)).block, (a.add (i * 3)).off + 2, none⟩ = some (.bool e.2.2)) (fun i hi => by
      obtain ⟨cs', h1, h2⟩ := hcell i hi
      rw [cellsC] at h1
      obtain ⟨_, hlen, hat⟩ := World.cells?_some h1
      match cs', hlen with
      | [c0, c1, c2], _ =>
        obtain ⟨y0, y1, y2, n', _, _, t0, t1, t2⟩ := Go.Deep.trod_struct3 Try.underlying42 h2
        rw [cellsI] at t0 t1
        rw [cellsBo] at t2
        obtain ⟨x0, e0, _⟩ := DataW.trod_int Try.underlying3 t0
        obtain ⟨x1, e1, _⟩ := DataW.trod_int Try.underlying3 t1
        obtain ⟨x2, e2, _⟩ := DataW.trod_bool Try.underlying4 t2
        simp at e0 e1 e2
        subst e0 e1 e2
        have g0 := hat 0 (by omega)
        have g1 := hat 1 (by omega)
        have g2 := hat 2 (by omega)
        rw [add_zero] at g0
        exact ⟨(x0, x1, x2), by simpa using g0, by simpa [Addr.add] using g1, by simpa [Addr.add] using g2⟩)
    refine ⟨(List.range len).map q, some a, m, by simp, fun k hk => ⟨a, rfl, ?_, ?_, ?_, ?_⟩⟩
    · simp at hk
      exact hpl (by omega)
    · simp at hk
      have := (hq k (by omega)).1
      simpa [List.getD, hk] using this
    · simp at hk
      have := (hq k (by omega)).2.1
      simpa [List.getD, hk] using this
    · simp at hk
      have := (hq k (by omega)).2.2
      simpa [List.getD, hk] using this

end Wp
end Go.Proofs.Ytcdfjhmlpdhelaa
