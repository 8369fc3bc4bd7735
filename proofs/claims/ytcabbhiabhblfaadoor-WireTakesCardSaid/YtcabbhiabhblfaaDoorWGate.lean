/- What the listed package-level variables give the walks; and a world that holds them. -/
import Derived.Test.YtcabbhiabhblfaaDoorCards
import Derived.Test.YtcabbhiabhblfaaDoorTie
import Derived.Test.YtcabbhiabhblfaaDoorWLaw
import Derived.WalkKit
import Derived.ProofKit
import Derived.OpenShut
import Derived.LaidMore
import Derived.LaidHandle
import Derived.LaidLaws
import Derived.RowKitTokens
import Derived.Stop.Joined
import Derived.Stop.LaidErr
import Derived.Deep.DeepHandedRow
import Derived.Deep.DeepWitnessRowRef
namespace Go.Proofs.YtcabbhiabhblfaaDoor
open Go.ChangeShapes Go.WideShapes Go.ChangeAt Go.RowKit
namespace Wp

theorem own : ownKnob Tryd.prog.godebug = none := by kernel_rfl
theorem et : Tryd.prog.globalNamed "errors.errorType" = some 4 := by kernel_rfl
theorem gn1 : Tryd.prog.globalNamed "greenwood/wire.errCut" = some 1 := by kernel_rfl
theorem gn2 : Tryd.prog.globalNamed "greenwood/wire.errLong" = some 2 := by kernel_rfl
theorem gn3 : Tryd.prog.globalNamed "greenwood/wire.errMany" = some 3 := by kernel_rfl
theorem gn4 : Tryd.prog.globalNamed "greenwood/wire.errLeft" = some 0 := by kernel_rfl
theorem gt1 : (Tryd.prog.globals[1]?).map (·.type) = some 47 := by kernel_rfl
theorem gt2 : (Tryd.prog.globals[2]?).map (·.type) = some 47 := by kernel_rfl
theorem gt3 : (Tryd.prog.globals[3]?).map (·.type) = some 47 := by kernel_rfl
theorem gt4 : (Tryd.prog.globals[0]?).map (·.type) = some 47 := by kernel_rfl
theorem rt : (Tryd.prog.cutTypes.find? (·.1 == "internal/reflectlite.rtype")).map (·.2) = some 86 := by kernel_rfl
theorem nTypes : Tryd.prog.types.size = 132 := by kernel_rfl
theorem oneRow : ((List.range 132).filter fun t => Tryd.prog.rowNamed t [101, 114, 114, 111, 114]) = [47] := by kernel_rfl
theorem cellsX : Tryd.prog.cellsOf 120 = 1 := by kernel_rfl
theorem cellsS : Tryd.prog.cellsOf 9 = 1 := by kernel_rfl
theorem star : "*" ++ "errors.errorString" = "*errors.errorString" := by decide
theorem rowX (u : TypeId) (h : Tryd.prog.typeName? 3 u = some "*errors.errorString") : u = 101 :=
  typeName_ptr_named (nm := "errors.errorString") (by rw [star]; kernel_rfl) (by kernel_rfl) (by decide) u (by rw [star]; exact h)

/-- The list of the rows of this seat. -/
def laid5 : List (String × DataW Unit) := [("errors.errorType", Rows.laid_errors_errorType), ("greenwood/wire.errCut", Rows.laid_greenwood_wire_errCut), ("greenwood/wire.errLong", Rows.laid_greenwood_wire_errLong), ("greenwood/wire.errMany", Rows.laid_greenwood_wire_errMany), ("greenwood/wire.errLeft", Rows.laid_greenwood_wire_errLeft)]

set_option maxRecDepth 100000 in
theorem handle_of_laid {W : World} (h : laidMetH Tryd.prog laid5 W) : W.cell? ⟨4, 0, none⟩ = some (.iface 86 (.agg #[.pointer (some ⟨5, 47, none⟩)])) := by
  have h' : laidMet Tryd.prog _ W ∧ handlesMet Tryd.prog [("errors.errorType", Rows.laid_errors_errorType)] W := h
  obtain ⟨name, u, ty, e1, e2, e3, e4, e5⟩ := h'.2 _ (List.mem_singleton.2 rfl)
  have en : name = [101, 114, 114, 111, 114] := (Option.some.inj e1).symm
  subst en
  obtain rfl := Option.some.inj (rt.symm.trans e2)
  have hm : ty ∈ (List.range 132).filter fun t => Tryd.prog.rowNamed t [101, 114, 114, 111, 114] := List.mem_filter.2 ⟨List.mem_range.2 (by rw [← nTypes]; exact e3), e4⟩
  rw [oneRow] at hm
  obtain rfl := List.mem_singleton.1 hm
  have hh : typeHandle Tryd.prog 47 = .pointer (some ⟨5, 47, none⟩) := by kernel_rfl
  rw [hh] at e5
  simpa using World.var?_cell et e5 0

theorem lt_of_heap {W : World} {k : Nat} {o : Obj} (h : W.heap[k]? = some o) : k < W.heap.size := by
  rcases Nat.lt_or_ge k W.heap.size with h' | h'
  · exact h'
  · rw [Array.getElem?_eq_none h'] at h; cases h

set_option maxRecDepth 100000 in
theorem met_of_laid {W : World} (hL : laidMetH Tryd.prog laid5 W) : ∃ E, Met E W.heap.size W := by
  have hT := handle_of_laid hL
  have h' : laidMet Tryd.prog [("greenwood/wire.errCut", Rows.laid_greenwood_wire_errCut), ("greenwood/wire.errLong", Rows.laid_greenwood_wire_errLong), ("greenwood/wire.errMany", Rows.laid_greenwood_wire_errMany), ("greenwood/wire.errLeft", Rows.laid_greenwood_wire_errLeft)] W ∧ handlesMet Tryd.prog [("errors.errorType", Rows.laid_errors_errorType)] W := hL
  obtain ⟨ps, ⟨g1, t1, cs1, f1, p1, q1, hg1, ht1, hv1, hd1, ⟨g2, t2, cs2, f2, p2, q2, hg2, ht2, hv2, hd2, ⟨g3, t3, cs3, f3, p3, q3, hg3, ht3, hv3, hd3, ⟨g4, t4, cs4, f4, p4, q4, hg4, ht4, hv4, hd4, hq4, e4⟩, e3⟩, e2⟩, e1⟩, hnd, hrows⟩ := h'.1
  obtain rfl := Option.some.inj (gn1.symm.trans hg1)
  obtain rfl := Option.some.inj (gn2.symm.trans hg2)
  obtain rfl := Option.some.inj (gn3.symm.trans hg3)
  obtain rfl := Option.some.inj (gn4.symm.trans hg4)
  obtain rfl := Option.some.inj (gt1.symm.trans ht1)
  obtain rfl := Option.some.inj (gt2.symm.trans ht2)
  obtain rfl := Option.some.inj (gt3.symm.trans ht3)
  obtain rfl := Option.some.inj (gt4.symm.trans ht4)
  have hq4' : q4 = [] := hq4
  subst hq4'
  subst e4
  subst e3
  subst e2
  subst e1
  obtain ⟨l1⟩ := cs1
  obtain ⟨l2⟩ := cs2
  obtain ⟨l3⟩ := cs3
  obtain ⟨l4⟩ := cs4
  have ok1 : ∀ u v, l1 = [.iface u v] → Value.okWide Tryd.prog W .any 0 u v := fun u v e => by
    subst e
    exact (hrows 1 0 (by simp [MemPlace.row])).2 u v (by simpa using World.var?_cell gn1 hv1 0)
  have ok2 : ∀ u v, l2 = [.iface u v] → Value.okWide Tryd.prog W .any 0 u v := fun u v e => by
    subst e
    exact (hrows 2 0 (by simp [MemPlace.row])).2 u v (by simpa using World.var?_cell gn2 hv2 0)
  have ok3 : ∀ u v, l3 = [.iface u v] → Value.okWide Tryd.prog W .any 0 u v := fun u v e => by
    subst e
    exact (hrows 3 0 (by simp [MemPlace.row])).2 u v (by simpa using World.var?_cell gn3 hv3 0)
  have ok4 : ∀ u v, l4 = [.iface u v] → Value.okWide Tryd.prog W .any 0 u v := fun u v e => by
    subst e
    exact (hrows 0 0 (by simp [MemPlace.row])).2 u v (by simpa using World.var?_cell gn4 hv4 0)
  obtain ⟨a1, s1, rfl, hc1, _, _, rfl⟩ := errorString_of_trod Tryd.underlying47 rowX Tryd.underlying101 Tryd.underlying120 rfl rfl Tryd.underlying9 cellsX cellsS hd1 ok1
  obtain ⟨a2, s2, rfl, hc2, _, _, rfl⟩ := errorString_of_trod Tryd.underlying47 rowX Tryd.underlying101 Tryd.underlying120 rfl rfl Tryd.underlying9 cellsX cellsS hd2 ok2
  obtain ⟨a3, s3, rfl, hc3, _, _, rfl⟩ := errorString_of_trod Tryd.underlying47 rowX Tryd.underlying101 Tryd.underlying120 rfl rfl Tryd.underlying9 cellsX cellsS hd3 ok3
  obtain ⟨a4, s4, rfl, hc4, _, _, rfl⟩ := errorString_of_trod Tryd.underlying47 rowX Tryd.underlying101 Tryd.underlying120 rfl rfl Tryd.underlying9 cellsX cellsS hd4 ok4
  have b1 := (hrows a1.block a1.off (by simp [MemPlace.row])).1
  have b2 := (hrows a2.block a2.off (by simp [MemPlace.row])).1
  have b3 := (hrows a3.block a3.off (by simp [MemPlace.row])).1
  have b4 := (hrows a4.block a4.off (by simp [MemPlace.row])).1
  have n12 : a1 ≠ a2 := by rintro rfl; simp [MemPlace.row] at hnd
  have n13 : a1 ≠ a3 := by rintro rfl; simp [MemPlace.row] at hnd
  have n14 : a1 ≠ a4 := by rintro rfl; simp [MemPlace.row] at hnd
  have n23 : a2 ≠ a3 := by rintro rfl; simp [MemPlace.row] at hnd
  have n24 : a2 ≠ a4 := by rintro rfl; simp [MemPlace.row] at hnd
  have n34 : a3 ≠ a4 := by rintro rfl; simp [MemPlace.row] at hnd
  refine ⟨fun k => if k = 1 then a1 else if k = 2 then a2 else if k = 3 then a3 else a4, ?_⟩
  exact {
    g1 := by simpa using World.var?_cell gn1 hv1 0
    g2 := by simpa using World.var?_cell gn2 hv2 0
    g3 := by simpa using World.var?_cell gn3 hv3 0
    g4 := by simpa using World.var?_cell gn4 hv4 0
    gt := hT
    five := by
      rcases Nat.lt_or_ge 4 W.heap.size with h | h
      · omega
      · simp [World.cell?, Array.getElem?_eq_none h] at hT
    blk := by
      intro k h1 h2
      have hk : k = 1 ∨ k = 2 ∨ k = 3 ∨ k = 4 := by omega
      rcases hk with rfl | rfl | rfl | rfl
      · obtain ⟨c, t, hb⟩ := b1; exact ⟨c, t, hb, lt_of_heap hb⟩
      · obtain ⟨c, t, hb⟩ := b2; exact ⟨c, t, hb, lt_of_heap hb⟩
      · obtain ⟨c, t, hb⟩ := b3; exact ⟨c, t, hb, lt_of_heap hb⟩
      · obtain ⟨c, t, hb⟩ := b4; exact ⟨c, t, hb, lt_of_heap hb⟩
    ne := by
      intro i j h1 h2 h3
      have hk : (i = 1 ∧ j = 2) ∨ (i = 1 ∧ j = 3) ∨ (i = 1 ∧ j = 4) ∨ (i = 2 ∧ j = 3) ∨ (i = 2 ∧ j = 4) ∨ (i = 3 ∧ j = 4) := by omega
      rcases hk with ⟨rfl, rfl⟩ | ⟨rfl, rfl⟩ | ⟨rfl, rfl⟩ | ⟨rfl, rfl⟩ | ⟨rfl, rfl⟩ | ⟨rfl, rfl⟩
      · exact n12
      · exact n13
      · exact n14
      · exact n23
      · exact n24
      · exact n34 }

/-- The heap that the program's own start leaves holds the list. -/
theorem door_met (os : Os) (args : Array Value) : laidMetH Tryd.prog laid5 ((World.doorLaid Tryd.prog 400 os).forCall (fun _ _ => 0) ⟨#[], args, []⟩).memory :=
  laidMetH_of_parts (laidMet_of_run' 8 (by kernel_rfl) (by kernel_rfl)) (by kernel_rfl)

end Wp
end Go.Proofs.YtcabbhiabhblfaaDoor
