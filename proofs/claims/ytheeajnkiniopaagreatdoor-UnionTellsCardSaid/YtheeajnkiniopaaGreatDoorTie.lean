/-
  DERIVED. GIVEN WITH THE SEED: THE PROGRAM's TIES (one call each: nine closed facts by the kernel) AND EACH ROW's TIE, after the 31st guide's Derived/Test/Toyas{Tie, Card}.lean. No idea stands in it: it is a product of the set-up. Laid BY PROGRAM, IN A SANDBOX (cutbox-door.mjs). By AI agents, Wed Nov 11 2026. No macro, syntax, notation, axiom, sorry.
-/
import Derived.Test.YtheeajnkiniopaaGreatDoorRows
import Derived.LaidByTextLater
import Derived.SevenTiedAt
import Derived.LaidSub
import Derived.LaidOnce
namespace Go.Proofs.YtheeajnkiniopaaGreatDoor
open Go
set_option maxRecDepth 100000
theorem seatTie1 : Tryz.prog.laidByTextLater [("math/bits.deBruijn32tab", Rows.laid_math_bits_deBruijn32tab), ("math/bits.deBruijn64tab", Rows.laid_math_bits_deBruijn64tab), ("errors.errorType", Rows.laid_errors_errorType), ("greenwood/matroid.forms", Rows.laid_greenwood_matroid_forms), ("greenwood/matroid.errDeep", Rows.laid_greenwood_matroid_errDeep), ("greenwood/matroid.errKind", Rows.laid_greenwood_matroid_errKind), ("greenwood/matroid.errMany", Rows.laid_greenwood_matroid_errMany), ("greenwood/matroid.errForm", Rows.laid_greenwood_matroid_errForm), ("greenwood/matroid.errFit", Rows.laid_greenwood_matroid_errFit)] [.data, .data, .handle, .data, .sentinel, .sentinel, .sentinel, .sentinel, .sentinel] true :=
  Program.laidByTextLater_by_one 136 8 65 (by kernel_rfl) (by kernel_rfl) (by kernel_rfl) (by kernel_rfl) (by kernel_rfl) (by kernel_rfl) (fun _ _ => by kernel_rfl)
theorem noOwnUnsafe : Tryz.pinned.checked.prog.headLifts.contains "ownunsafe" = false := by kernel_rfl
theorem tie : Tryz.prog.laidByTextLater [("math/bits.deBruijn32tab", Rows.laid_math_bits_deBruijn32tab), ("math/bits.deBruijn64tab", Rows.laid_math_bits_deBruijn64tab), ("errors.errorType", Rows.laid_errors_errorType), ("greenwood/matroid.forms", Rows.laid_greenwood_matroid_forms), ("greenwood/matroid.errDeep", Rows.laid_greenwood_matroid_errDeep), ("greenwood/matroid.errKind", Rows.laid_greenwood_matroid_errKind), ("greenwood/matroid.errMany", Rows.laid_greenwood_matroid_errMany), ("greenwood/matroid.errForm", Rows.laid_greenwood_matroid_errForm), ("greenwood/matroid.errFit", Rows.laid_greenwood_matroid_errFit)] [.data, .data, .handle, .data, .sentinel, .sentinel, .sentinel, .sentinel, .sentinel] true :=
  Program.laidByTextLater.sub seatTie1 ["math/bits.deBruijn32tab", "math/bits.deBruijn64tab", "errors.errorType", "greenwood/matroid.forms", "greenwood/matroid.errDeep", "greenwood/matroid.errKind", "greenwood/matroid.errMany", "greenwood/matroid.errForm", "greenwood/matroid.errFit"] (by kernel_rfl) (by kernel_rfl)
theorem unionTells_row_tie : Rows.unionTellsRow.laidByTextAt .later Tryz.pinned [.data, .data, .handle, .data, .sentinel, .sentinel, .sentinel, .sentinel, .sentinel] true :=
  OpenClaim.laidByTextAt_later rfl rfl tie noOwnUnsafe
theorem unionGreatest_row_tie : Rows.unionGreatestRow.laidByTextAt .later Tryz.pinned [.data, .data, .handle, .data, .sentinel, .sentinel, .sentinel, .sentinel, .sentinel] true :=
  OpenClaim.laidByTextAt_later rfl rfl tie noOwnUnsafe
theorem unionMore_row_tie : Rows.unionMoreRow.laidByTextAt .later Tryz.pinned [.data, .data, .handle, .data, .sentinel, .sentinel, .sentinel, .sentinel, .sentinel] true :=
  OpenClaim.laidByTextAt_later rfl rfl tie noOwnUnsafe
theorem unionUniform_row_tie : Rows.unionUniformRow.laidByTextAt .later Tryz.pinned [.data, .data, .handle, .data, .sentinel, .sentinel, .sentinel, .sentinel, .sentinel] true :=
  OpenClaim.laidByTextAt_later rfl rfl tie noOwnUnsafe
theorem unionTurned_row_tie : Rows.unionTurnedRow.laidByTextAt .later Tryz.pinned [.data, .data, .handle, .data, .sentinel, .sentinel, .sentinel, .sentinel, .sentinel] true :=
  OpenClaim.laidByTextAt_later rfl rfl tie noOwnUnsafe
theorem basesTell_row_tie : Rows.basesTellRow.laidByTextAt .later Tryz.pinned [.data, .data, .handle, .data, .sentinel, .sentinel, .sentinel, .sentinel, .sentinel] true :=
  OpenClaim.laidByTextAt_later rfl rfl tie noOwnUnsafe
theorem basesSteps_row_tie : Rows.basesStepsRow.laidByTextAt .later Tryz.pinned [.data, .data, .handle, .data, .sentinel, .sentinel, .sentinel, .sentinel, .sentinel] true :=
  OpenClaim.laidByTextAt_later rfl rfl tie noOwnUnsafe
theorem basesUniform_row_tie : Rows.basesUniformRow.laidByTextAt .later Tryz.pinned [.data, .data, .handle, .data, .sentinel, .sentinel, .sentinel, .sentinel, .sentinel] true :=
  OpenClaim.laidByTextAt_later rfl rfl tie noOwnUnsafe
theorem unionTellsUpto_row_tie : Rows.unionTellsUptoRow.laidByTextAt .later Tryz.pinned [.data, .data, .handle, .data, .sentinel, .sentinel, .sentinel, .sentinel, .sentinel] true :=
  OpenClaim.laidByTextAt_later rfl rfl tie noOwnUnsafe
theorem unionGreatestUpto_row_tie : Rows.unionGreatestUptoRow.laidByTextAt .later Tryz.pinned [.data, .data, .handle, .data, .sentinel, .sentinel, .sentinel, .sentinel, .sentinel] true :=
  OpenClaim.laidByTextAt_later rfl rfl tie noOwnUnsafe
theorem unionMoreUpto_row_tie : Rows.unionMoreUptoRow.laidByTextAt .later Tryz.pinned [.data, .data, .handle, .data, .sentinel, .sentinel, .sentinel, .sentinel, .sentinel] true :=
  OpenClaim.laidByTextAt_later rfl rfl tie noOwnUnsafe
theorem unionUniformUpto_row_tie : Rows.unionUniformUptoRow.laidByTextAt .later Tryz.pinned [.data, .data, .handle, .data, .sentinel, .sentinel, .sentinel, .sentinel, .sentinel] true :=
  OpenClaim.laidByTextAt_later rfl rfl tie noOwnUnsafe
theorem unionTurnedUpto_row_tie : Rows.unionTurnedUptoRow.laidByTextAt .later Tryz.pinned [.data, .data, .handle, .data, .sentinel, .sentinel, .sentinel, .sentinel, .sentinel] true :=
  OpenClaim.laidByTextAt_later rfl rfl tie noOwnUnsafe
theorem basesTellUpto_row_tie : Rows.basesTellUptoRow.laidByTextAt .later Tryz.pinned [.data, .data, .handle, .data, .sentinel, .sentinel, .sentinel, .sentinel, .sentinel] true :=
  OpenClaim.laidByTextAt_later rfl rfl tie noOwnUnsafe
theorem basesStepsUpto_row_tie : Rows.basesStepsUptoRow.laidByTextAt .later Tryz.pinned [.data, .data, .handle, .data, .sentinel, .sentinel, .sentinel, .sentinel, .sentinel] true :=
  OpenClaim.laidByTextAt_later rfl rfl tie noOwnUnsafe
theorem basesUniformUpto_row_tie : Rows.basesUniformUptoRow.laidByTextAt .later Tryz.pinned [.data, .data, .handle, .data, .sentinel, .sentinel, .sentinel, .sentinel, .sentinel] true :=
  OpenClaim.laidByTextAt_later rfl rfl tie noOwnUnsafe
end Go.Proofs.YtheeajnkiniopaaGreatDoor
