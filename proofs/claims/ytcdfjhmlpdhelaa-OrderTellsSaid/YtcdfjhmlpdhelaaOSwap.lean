/- Two pairs change places: the program's Swap, walked. -/
import Derived.Test.YtcdfjhmlpdhelaaOKit
import Derived.BigRegion
namespace Go.Proofs.Ytcdfjhmlpdhelaa
open Go Go.RowKit
namespace Wp

theorem OwnP.drew {w : World} {v : Value} {ps : List (Int × Int)} (h : OwnP w v ps) : OwnP w.drew v ps := h
theorem only_self (w : World) (row : Option Nat) : w.grownBy w row := ⟨rfl, rfl, rfl, Nat.le_refl _, fun _ _ _ => rfl⟩

set_option maxHeartbeats 8000000 in
set_option maxRecDepth 1000000 in
theorem swap_any (v : Value) (ps : List (Int × Int)) (i j : Nat) (hi : i < ps.length) (hj : j < ps.length) (w : World) (h : OwnP w v ps) :
    Calls Try.prog 117 #[v, .int .i64 (i : Int), .int .i64 (j : Int)] w fun e w' => e = .returned (.tuple #[]) ∧ OwnP w' v (swapL ps i j) ∧ w.grownBy w' v.ownBlock := by
  obtain ⟨g, cap, cur, hb⟩ := h.some_ (by omega)
  have HB := Lib.hid hb
  obtain ⟨ci1, ci2⟩ := hb.cells i hi
  obtain ⟨cj1, cj2⟩ := hb.cells j hj
  have hv := hb.val
  subst hv
  have hiI : (i : Int) < (ps.length : Int) := by omega
  have hjI : (j : Int) < (ps.length : Int) := by omega
  have f1 := fun k => hb.blk.frozen k
  clear hb h
  have HE : Hid (OwnP (((((w.setCell ⟨g, i * 2, none⟩ (.int .i64 (atP ps j).1)).setCell ⟨g, i * 2 + 1, none⟩ (.int .i64 (atP ps j).2)).setCell ⟨g, j * 2, none⟩ (.int .i64 (atP ps i).1)).setCell ⟨g, j * 2 + 1, none⟩ (.int .i64 (atP ps i).2)).drew) (.slice (some ⟨g, 0, none⟩) ps.length cap) (swapL ps i j)) := Lib.hid (by
    have h2 := ((HB.out.set_ i (atP ps j)).set_ j (atP ps i)).own
    exact OwnP.drew h2)
  have HG : Hid (w.grownBy (((((w.setCell ⟨g, i * 2, none⟩ (.int .i64 (atP ps j).1)).setCell ⟨g, i * 2 + 1, none⟩ (.int .i64 (atP ps j).2)).setCell ⟨g, j * 2, none⟩ (.int .i64 (atP ps i).1)).setCell ⟨g, j * 2 + 1, none⟩ (.int .i64 (atP ps i).2)).drew) (some g)) :=
    Lib.hid (by
    have h1 := only_setCell (only_self w (some g)) (p := ⟨g, i * 2, none⟩) (.inl rfl) (.int .i64 (atP ps j).1)
    have h2 := only_setCell h1 (p := ⟨g, i * 2 + 1, none⟩) (.inl rfl) (.int .i64 (atP ps j).2)
    have h3 := only_setCell h2 (p := ⟨g, j * 2, none⟩) (.inl rfl) (.int .i64 (atP ps i).1)
    have h4 := only_setCell h3 (p := ⟨g, j * 2 + 1, none⟩) (.inl rfl) (.int .i64 (atP ps i).2)
    exact only_drew h4)
  by_cases hij : i = j
  · subst hij
    go_enter Try.func117, Try.ntmps117
    go_region
    go_end0
    exact ⟨rfl, HE.out, HG.out⟩
  · have hji : ¬ j = i := fun e => hij e.symm
    go_enter Try.func117, Try.ntmps117
    go_region
    go_end0
    exact ⟨rfl, HE.out, HG.out⟩
end Wp
end Go.Proofs.Ytcdfjhmlpdhelaa
