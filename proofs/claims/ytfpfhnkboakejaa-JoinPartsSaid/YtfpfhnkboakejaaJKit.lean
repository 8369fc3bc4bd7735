/- Memory of this seat: edges (pairs of integers in a row), as the walks take them. -/
import Derived.Test.YtfpfhnkboakejaaJParts
import Derived.Test.YtfpfhnkboakejaaSPlain
import Derived.Deep.Slices
import Derived.Deep.OwnRows
namespace Go.Proofs.Ytfpfhnkboakejaa
open Go.RowKit
namespace Wp

/-- A list of edges in memory, below block B. -/
def Edges (w : World) (B : Nat) (v : Value) (es : List (Int × Int)) : Prop :=
  ∃ A c, v = .slice A es.length c ∧ (es.length ≤ c ∧ c ≤ maxLen ∧ (A = none → c = 0)) ∧
    ∀ k, k < es.length → ∃ ad : Addr, A = some ad ∧ ad.block < B ∧ w.cell? (ad.add (k * 2)) = some (.int .i64 (es.getD k (0, 0)).1) ∧ w.cell? ⟨(ad.add (k * 2)).block, (ad.add (k * 2)).off + 1, none⟩ = some (.int .i64 (es.getD k (0, 0)).2)

theorem Edges.below {w w' : World} {B : Nat} {v : Value} {es : List (Int × Int)} (h : Edges w B v es) (hb : Below B w w') : Edges w' B v es := by
  obtain ⟨A, c, hv, hn, hk⟩ := h
  refine ⟨A, c, hv, hn, fun k hlt => ?_⟩
  obtain ⟨ad, hA, hB, h1, h2⟩ := hk k hlt
  exact ⟨ad, hA, hB, (hb.cell (by rw [add_block]; exact hB)).trans h1, (hb.cell (by rw [add_block]; exact hB)).trans h2⟩
theorem Edges.mono {w : World} {B B' : Nat} {v : Value} {es : List (Int × Int)} (h : Edges w B v es) (hB : B ≤ B') : Edges w B' v es := by
  obtain ⟨A, c, hv, hn, hk⟩ := h
  refine ⟨A, c, hv, hn, fun k hlt => ?_⟩
  obtain ⟨ad, hA, hb, h1, h2⟩ := hk k hlt
  exact ⟨ad, hA, by omega, h1, h2⟩
theorem Edges.up {w w' : World} {v : Value} {es : List (Int × Int)} (h : Edges w w.heap.size v es) (hb : Below w.heap.size w w') : Edges w' w'.heap.size v es := (h.below hb).mono hb.size
theorem Edges.upA {w : World} {v : Value} {es : List (Int × Int)} (h : Edges w w.heap.size v es) (o : Obj) : Edges (w.alloc o) (w.alloc o).heap.size v es := h.up ((Below.refl _ w).alloc (Nat.le_refl _) o)

end Wp
end Go.Proofs.Ytfpfhnkboakejaa
