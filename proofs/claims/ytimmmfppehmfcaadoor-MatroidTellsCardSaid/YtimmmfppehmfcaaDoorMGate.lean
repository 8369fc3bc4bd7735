/- What the library's listed tables give the walks; and a world that holds them. -/
import Derived.Test.YtimmmfppehmfcaaDoorCards
import Derived.Test.YtimmmfppehmfcaaDoorTie
import Derived.Test.YtimmmfppehmfcaaDoorMKit
import Derived.WalkKit
import Derived.ProofKit
import Derived.OpenShut
import Derived.LaidMore
import Derived.LaidHandle
import Derived.LaidLaws
import Derived.RowKitTokens
import Derived.Stop.Joined
import Derived.Stop.LaidErr
import Derived.Deep.DeepHandedRow
import Derived.Deep.DeepWitnessRowRef
import Derived.Lib.LaidU8
namespace Go.Proofs.YtimmmfppehmfcaaDoor
open Go.ChangeShapes Go.WideShapes Go.ChangeAt Go.RowKit
namespace Wp

theorem own : ownKnob Tryd.prog.godebug = none := by kernel_rfl
theorem gn64 : Tryd.prog.globalNamed "math/bits.deBruijn64tab" = some 8 := by kernel_rfl
theorem gt64 : (Tryd.prog.globals[8]?).map (·.type) = some 108 := by kernel_rfl
theorem cellsU8 : Tryd.prog.cellsOf 5 = 1 := by kernel_rfl

/-- The list of the rows of this seat. -/
def laidM : List (String × DataW Unit) := [("math/bits.deBruijn32tab", Rows.laid_math_bits_deBruijn32tab), ("math/bits.deBruijn64tab", Rows.laid_math_bits_deBruijn64tab)]

set_option maxRecDepth 100000 in
theorem met_of_laid {W : World} (hL : laidMetH Tryd.prog laidM W) : Met W := by
  have h' : laidMet Tryd.prog laidM W := hL
  obtain ⟨g, t, cs, fuel, p, hg, ht, hv, hd⟩ := Lib.laidMet.reads h' (n := "math/bits.deBruijn64tab") (d := Rows.laid_math_bits_deBruijn64tab) (by unfold laidM; simp)
  obtain rfl := Option.some.inj (gn64.symm.trans hg)
  obtain rfl := Option.some.inj (gt64.symm.trans ht)
  have hd' : DataW.trod (fun _ => ()) Tryd.prog W 0 (fun _ => true) false fuel 108 cs.toList = some (.agg (Lib.deBruijn64tab.map fun z : Nat => DataW.lit (.int .u8 (z : Int))), p) := hd
  have key : ∀ i, i < 64 → W.cell? ⟨8, i, none⟩ = some (.int .u8 (Lib.deBruijn64tab.getD i 0 : Nat)) := by
    intro i hi
    obtain ⟨f', d, q, h1, h2⟩ := Lib.array_elem Tryd.underlying108 hd' i hi
    rw [cellsU8, Nat.mul_one] at h2
    obtain ⟨z, hz, hdq, _⟩ := DataW.trod_int Tryd.underlying5 h2
    obtain rfl : d = .lit (.int .u8 z) := congrArg Prod.fst hdq
    have h3 : cs.toList[i]? = some (.int .u8 z) := by
      have := congrArg (·[0]?) hz
      simpa [List.getElem?_take, List.getElem?_drop] using this
    have h4 : i < Lib.deBruijn64tab.length := hi
    rw [List.getElem?_map, List.getElem?_eq_getElem h4] at h1
    simp only [Option.map_some, Option.some.injEq, DataW.lit.injEq, Lit.int.injEq, true_and] at h1
    have h5 := World.var?_cell gn64 hv i
    rw [h5, ← Array.getElem?_toList, h3, ← h1]
    simp [List.getD, h4]
  refine ⟨?_, key⟩
  rcases Nat.lt_or_ge 8 W.heap.size with h | h
  · exact h
  · have := key 0 (by decide)
    simp [World.cell?, Array.getElem?_eq_none h] at this

/-- The heap that the program's own start leaves holds the list. -/
theorem door_met (os : Os) (args : Array Value) : laidMetH Tryd.prog laidM ((World.doorLaid Tryd.prog 400 os).forCall (fun _ _ => 0) ⟨#[], args, []⟩).memory :=
  laidMetH_of_parts (laidMet_of_run' 8 (by kernel_rfl) (by kernel_rfl)) (by kernel_rfl)

end Wp
end Go.Proofs.YtimmmfppehmfcaaDoor
