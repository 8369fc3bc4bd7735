/- A number and a list that came in as one argument, as the walks take them. -/
import Derived.Test.YtolnkgghejhaeaaGreatDoorZG
namespace Go.Proofs.YtolnkgghejhaeaaGreatDoor
open Go.ChangeShapes Go.WideShapes Go.ChangeAt Go.RowKit
namespace Wp

set_option maxRecDepth 100000 in
theorem ask_of_arg {H : Type} {enc : TypeId × Value → H} {W : World} {v : Value} {d : DataW H} {ps : List MemPlace} {base : Nat} (hv : Value.okWide Tryz.prog W .any base 28 v)
    (h : DataW.Trod enc Tryz.prog W 0 (fun _ => true) true 28 v d ps) (hlt : ∀ x ∈ ps, x.block < W.heap.size) :
    ∃ (k : Int) (sv : Value) (zs : List Int), v = .agg #[.int .i64 k, sv] ∧ Row W W.heap.size sv zs := by
  obtain ⟨cs, rfl, _⟩ := okWide_struct Tryz.underlying28 hv
  obtain ⟨fuel, hf⟩ := h
  obtain ⟨ys, n, hx, hy, hc, hff⟩ := trod_cellwise Tryz.underlying28 (by kernel_rfl) (by kernel_rfl) hf
  obtain ⟨cl⟩ := cs
  have hc' : cl.length = 2 := hc
  match ys, hy, cl, hc' with
  | [y0, y1], _, [c0, c1], _ =>
    have t0 := hff 0 _ c0 rfl rfl
    have t1 := hff 1 _ c1 rfl rfl
    simp only [Prod.mk.injEq] at hx
    obtain ⟨hd, hp⟩ := hx
    subst hd hp
    obtain ⟨x0, e0, _⟩ := DataW.trod_int Tryz.underlying3 t0
    simp at e0
    subst e0
    obtain ⟨zs, hr⟩ := row_of_trod t1 (fun x hx => hlt x (by simp [hx]))
    exact ⟨x0, c1, zs, rfl, hr⟩

end Wp
end Go.Proofs.YtolnkgghejhaeaaGreatDoor
