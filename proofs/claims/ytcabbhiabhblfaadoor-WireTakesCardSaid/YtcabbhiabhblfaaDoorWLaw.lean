/- What the laws on bytes share: plain facts, and the document's fixed calls once more. -/
import Derived.Test.YtcabbhiabhblfaaDoorWFixed
namespace Go.Proofs.YtcabbhiabhblfaaDoor
open Go.RowKit
namespace Wp

theorem Met.more {E : Nat → Addr} {B B' : Nat} {w : World} (h : Met E B w) (hB : B ≤ B') : Met E B' w where
  g1 := h.g1
  g2 := h.g2
  g3 := h.g3
  g4 := h.g4
  gt := h.gt
  five := by have := h.five; omega
  blk := fun k h1 h2 => by
    obtain ⟨cs, t, hc, hl⟩ := h.blk k h1 h2
    exact ⟨cs, t, hc, by omega⟩
  ne := h.ne

/-- A law answers true, and what was there before is as it was. -/
def Truly (w : World) (e : Ending) (w' : World) : Prop := e = .returned (.bool true) ∧ Below w.heap.size w w'

theorem intB_pos {n : Int} (h0 : 0 ≤ n) (h1 : n ≤ 562949953421312) : intB n = numB (2 * n) := by
  unfold intB
  rw [if_neg (by omega), if_neg (by omega)]
theorem intB_minus {n : Int} (h0 : 0 < n) (h1 : n ≤ 562949953421312) : intB (-n) = numB (2 * n - 1) := by
  unfold intB
  rw [if_neg (by omega), if_pos (by omega), show -2 * -n - 1 = 2 * n - 1 from by omega]
theorem numB_len {n : Int} (h0 : 0 ≤ n) (h1 : n ≤ 1125899906842624) : (numB n).size = (Lib.uvarint n.toNat).length := by
  unfold numB
  rw [if_neg (by omega)]
  show (Lib.uvarint n.toNat).toArray.size = _
  simp

theorem twice_fixed (E : Nat → Addr) (w w1 : World) (hM : Met E w.heap.size w) (hb : Below w.heap.size w w1) : Calls Tryd.prog 10 #[] w1 (Truly w) :=
  (fixed_any E w1 ((hM.below hb).more hb.size)).mono fun _ _ ⟨h1, h2⟩ => ⟨h1, hb.trans (h2.mono hb.size)⟩

end Wp
end Go.Proofs.YtcabbhiabhblfaaDoor
