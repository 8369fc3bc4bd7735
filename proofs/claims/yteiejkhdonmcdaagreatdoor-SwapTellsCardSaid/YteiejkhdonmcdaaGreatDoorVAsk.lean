/- Two lists that came in as one argument, as the walks take them. -/
import Derived.Test.YteiejkhdonmcdaaGreatDoorZG
namespace Go.Proofs.YteiejkhdonmcdaaGreatDoor
open Go.ChangeShapes Go.WideShapes Go.ChangeAt Go.RowKit
namespace Wp

set_option maxRecDepth 100000 in
theorem ask2_of_arg {H : Type} {enc : TypeId × Value → H} {W : World} {v : Value} {d : DataW H} {ps : List MemPlace} {base : Nat} (hv : Value.okWide Tryz.prog W .any base 28 v)
    (h : DataW.Trod enc Tryz.prog W 0 (fun _ => true) true 28 v d ps) (hlt : ∀ x ∈ ps, x.block < W.heap.size) :
    ∃ (sv pv : Value) (zs ys : List Int), v = .agg #[sv, pv] ∧ Row W W.heap.size sv zs ∧ Row W W.heap.size pv ys := by
  obtain ⟨cs, rfl, _⟩ := okWide_struct Tryz.underlying28 hv
  obtain ⟨fuel, hf⟩ := h
  obtain ⟨ys, n, hx, hy, hc, hff⟩ := T4_ Tryz.underlying28 (by kernel_rfl) (by kernel_rfl) hf
  obtain ⟨cl⟩ := cs
  have hc' : cl.length = 2 := hc
  match ys, hy, cl, hc' with
  | [y0, y1], _, [c0, c1], _ =>
    have t0 := hff 0 _ c0 rfl rfl
    have t1 := hff 1 _ c1 rfl rfl
    simp only [Prod.mk.injEq] at hx
    obtain ⟨hd, hp⟩ := hx
    subst hd hp
    obtain ⟨zs, hr⟩ := Zb3 t0 (fun x hx => hlt x (by simp [hx]))
    obtain ⟨us, hs⟩ := Zb3 t1 (fun x hx => hlt x (by simp [hx]))
    exact ⟨c0, c1, zs, us, rfl, hr, hs⟩

end Wp
end Go.Proofs.YteiejkhdonmcdaaGreatDoor
