/- A list of lists of integers that came in as an argument, as the walks take it. -/
import Derived.Test.YtimmmfppehmfcaaDoorMArg
import Derived.Test.YtimmmfppehmfcaaDoorLRows
import Derived.Deep.Slices
namespace Go.Proofs.YtimmmfppehmfcaaDoor
open Go.ChangeShapes Go.WideShapes Go.ChangeAt Go.RowKit
namespace Wp

theorem cellsI : Tryd.prog.cellsOf 3 = 1 := by kernel_rfl
theorem cellsL : Tryd.prog.cellsOf 26 = 1 := by kernel_rfl

set_option maxRecDepth 100000 in
/-- A cell that reads as a list of integers holds one. -/
theorem row_of_trod {H : Type} {enc : TypeId × Value → H} {W : World} {u : Value} {d : DataW H} {ps : List MemPlace} {fuel : Nat}
    (hf : DataW.trod enc Tryd.prog W 0 (fun _ => true) true fuel 26 [u] = some (d, ps)) (hlt : ∀ x ∈ ps, x.block < W.heap.size) : ∃ zs, Row W W.heap.size u zs := by
  rcases open_ints Tryd.underlying26 Tryd.underlying3 cellsI hf with ⟨hcs, hx⟩ | ⟨a, len, cap, zs, hcs, _, hl, hm, hz, hx, hcell, hwz⟩
  · injection hcs with hcs _
    subst hcs
    exact ⟨[], none, 0, rfl, ⟨Nat.le_refl _, by decide, fun _ => rfl⟩, fun k hk => absurd hk (by simp)⟩
  · injection hcs with hcs _
    subst hcs
    simp only [Prod.mk.injEq] at hx
    obtain ⟨_, rfl⟩ := hx
    simp only [if_true] at hz
    have hlen : (zs.take len).length = len := by rw [List.length_take]; omega
    refine ⟨zs.take len, some a, cap, by rw [hlen], ⟨by rw [hlen]; exact hl, hm, fun e => by cases e⟩, fun k hk => ⟨a, rfl, ?_, ?_⟩⟩
    · exact hlt (.cell a.block a.off) (MemPlace.mem_row.2 ⟨0, by omega, by simp⟩)
    · rw [hcell k (by omega)]
      congr 2
      rw [hlen] at hk
      simp [List.getD, hk]

set_option maxRecDepth 100000 in
theorem rows2_of_arg {H : Type} {enc : TypeId × Value → H} {W : World} {v : Value} {d : DataW H} {ps : List MemPlace} {base : Nat} (hv : Value.okWide Tryd.prog W .any base 22 v)
    (h : DataW.Trod enc Tryd.prog W 0 (fun _ => true) true 22 v d ps) (hlt : ∀ x ∈ ps, x.block < W.heap.size) : ∃ pp, Rows2 W W.heap.size v pp := by
  obtain ⟨a0, len, cap, rfl⟩ := okWide_slice Tryd.underlying22 hv
  obtain ⟨fuel, hf⟩ := h
  rcases Go.Deep.open_slice1 Tryd.underlying22 cellsL hf with ⟨hcs, _⟩ | ⟨a, len', cap', m, n, V, D, Pl, hcs, _, hl, hm, hmm, hx, hcell⟩
  · simp [Value.cells] at hcs
    obtain ⟨rfl, rfl, rfl⟩ := hcs
    exact ⟨[], none, 0, rfl, ⟨Nat.le_refl _, by decide, fun _ => rfl⟩, fun k hk => absurd hk (by simp)⟩
  · simp [Value.cells] at hcs
    obtain ⟨rfl, rfl, rfl⟩ := hcs
    simp only [if_true] at hmm
    subst hmm
    simp only [Prod.mk.injEq] at hx
    have hblk : 0 < m → a.block < W.heap.size := fun h0 => hlt (.cell a.block a.off) (by
      rw [hx.2]
      exact List.mem_append.2 (.inl (MemPlace.mem_row.2 ⟨0, by omega, by simp⟩)))
    obtain ⟨q, hq⟩ := Go.Deep.choose_lt (α := List Int) (n := m) (p := fun i zs => Row W W.heap.size (V i) zs) (fun i hi => by
      obtain ⟨_, h2⟩ := hcell i hi
      exact row_of_trod h2 fun x hx' => hlt x (by
        rw [hx.2]
        exact List.mem_append.2 (.inr (List.mem_flatMap.2 ⟨i, List.mem_range.2 hi, hx'⟩))))
    refine ⟨(List.range len).map q, some a, m, by simp, ⟨by simpa using hl, hm, fun e => by cases e⟩, fun k hk => ⟨a, V k, rfl, ?_, ?_, ?_⟩⟩
    · simp at hk
      exact hblk (by omega)
    · simp at hk
      exact (hcell k (by omega)).1
    · simp at hk
      have := hq k (by omega)
      simpa [List.getD, hk] using this

set_option maxRecDepth 100000 in
theorem row_of_arg {H : Type} {enc : TypeId × Value → H} {W : World} {v : Value} {d : DataW H} {ps : List MemPlace} {base : Nat} (hv : Value.okWide Tryd.prog W .any base 26 v)
    (h : DataW.Trod enc Tryd.prog W 0 (fun _ => true) true 26 v d ps) (hlt : ∀ x ∈ ps, x.block < W.heap.size) : ∃ zs, Row W W.heap.size v zs := by
  obtain ⟨a0, len, cap, rfl⟩ := okWide_slice Tryd.underlying26 hv
  obtain ⟨fuel, hf⟩ := h
  rcases open_ints Tryd.underlying26 Tryd.underlying3 cellsI hf with ⟨hcs, hx⟩ | ⟨a, len', cap', zs, hcs, _, hl, hm, hz, hx, hcell, hwz⟩
  · simp [Value.cells] at hcs
    obtain ⟨rfl, rfl, rfl⟩ := hcs
    exact ⟨[], none, 0, rfl, ⟨Nat.le_refl _, by decide, fun _ => rfl⟩, fun k hk => absurd hk (by simp)⟩
  · simp [Value.cells] at hcs
    obtain ⟨rfl, rfl, rfl⟩ := hcs
    simp only [Prod.mk.injEq] at hx
    obtain ⟨_, rfl⟩ := hx
    simp only [if_true] at hz
    have hlen : (zs.take len).length = len := by rw [List.length_take]; omega
    refine ⟨zs.take len, some a, cap, by rw [hlen], ⟨by rw [hlen]; exact hl, hm, fun e => by cases e⟩, fun k hk => ⟨a, rfl, ?_, ?_⟩⟩
    · have h1 := hlt (.cell a.block a.off) (MemPlace.mem_row.2 ⟨0, by omega, by simp⟩)
      exact h1
    · rw [hcell k (by omega)]
      congr 2
      rw [hlen] at hk
      simp [List.getD, hk]

end Wp
end Go.Proofs.YtimmmfppehmfcaaDoor
