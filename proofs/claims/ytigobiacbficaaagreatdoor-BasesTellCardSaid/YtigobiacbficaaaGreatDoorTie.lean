/-
  DERIVED. GIVEN WITH THE SEED: THE PROGRAM's TIES (one call each: nine closed facts by the kernel) AND EACH ROW's TIE, after the 31st guide's Derived/Test/Toyas{Tie, Card}.lean. No idea stands in it: it is a product of the set-up. Laid BY PROGRAM, IN A SANDBOX (cutbox-door.mjs). By AI agents, Wed Nov 11 2026. No macro, syntax, notation, axiom, sorry.
-/
import Derived.Test.YtigobiacbficaaaGreatDoorRows
import Derived.LaidByTextLater
import Derived.SevenTiedAt
import Derived.LaidSub
import Derived.LaidOnce
namespace Go.Proofs.YtigobiacbficaaaGreatDoor
open Go
set_option maxRecDepth 100000
theorem seatTie1 : Tryz.prog.laidByTextLater [("math/bits.deBruijn32tab", Rows.laid_math_bits_deBruijn32tab), ("math/bits.deBruijn64tab", Rows.laid_math_bits_deBruijn64tab), ("errors.errorType", Rows.laid_errors_errorType), ("greenwood/matroid.forms", Rows.laid_greenwood_matroid_forms), ("greenwood/matroid.errDeep", Rows.laid_greenwood_matroid_errDeep), ("greenwood/matroid.errKind", Rows.laid_greenwood_matroid_errKind), ("greenwood/matroid.errMany", Rows.laid_greenwood_matroid_errMany), ("greenwood/matroid.errForm", Rows.laid_greenwood_matroid_errForm), ("greenwood/matroid.errFit", Rows.laid_greenwood_matroid_errFit)] [.data, .data, .handle, .data, .sentinel, .sentinel, .sentinel, .sentinel, .sentinel] true :=
  Program.laidByTextLater_by_one 136 8 65 (by kernel_rfl) (by kernel_rfl) (by kernel_rfl) (by kernel_rfl) (by kernel_rfl) (by kernel_rfl) (fun _ _ => by kernel_rfl)
theorem noOwnUnsafe : Tryz.pinned.checked.prog.headLifts.contains "ownunsafe" = false := by kernel_rfl
theorem tie : Tryz.prog.laidByTextLater [("math/bits.deBruijn32tab", Rows.laid_math_bits_deBruijn32tab), ("math/bits.deBruijn64tab", Rows.laid_math_bits_deBruijn64tab), ("errors.errorType", Rows.laid_errors_errorType), ("greenwood/matroid.forms", Rows.laid_greenwood_matroid_forms), ("greenwood/matroid.errDeep", Rows.laid_greenwood_matroid_errDeep), ("greenwood/matroid.errKind", Rows.laid_greenwood_matroid_errKind), ("greenwood/matroid.errMany", Rows.laid_greenwood_matroid_errMany), ("greenwood/matroid.errForm", Rows.laid_greenwood_matroid_errForm), ("greenwood/matroid.errFit", Rows.laid_greenwood_matroid_errFit)] [.data, .data, .handle, .data, .sentinel, .sentinel, .sentinel, .sentinel, .sentinel] true :=
  Program.laidByTextLater.sub seatTie1 ["math/bits.deBruijn32tab", "math/bits.deBruijn64tab", "errors.errorType", "greenwood/matroid.forms", "greenwood/matroid.errDeep", "greenwood/matroid.errKind", "greenwood/matroid.errMany", "greenwood/matroid.errForm", "greenwood/matroid.errFit"] (by kernel_rfl) (by kernel_rfl)
theorem basesTell_row_tie : Rows.basesTellRow.laidByTextAt .later Tryz.pinned [.data, .data, .handle, .data, .sentinel, .sentinel, .sentinel, .sentinel, .sentinel] true :=
  OpenClaim.laidByTextAt_later rfl rfl tie noOwnUnsafe
theorem basesTellUpto_row_tie : Rows.basesTellUptoRow.laidByTextAt .later Tryz.pinned [.data, .data, .handle, .data, .sentinel, .sentinel, .sentinel, .sentinel, .sentinel] true :=
  OpenClaim.laidByTextAt_later rfl rfl tie noOwnUnsafe
end Go.Proofs.YtigobiacbficaaaGreatDoor
