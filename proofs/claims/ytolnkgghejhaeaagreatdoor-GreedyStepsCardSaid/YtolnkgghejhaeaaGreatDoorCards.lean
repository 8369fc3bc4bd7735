/-
  DERIVED. GIVEN WITH THE SEED: THE CARDS: each row of YtolnkgghejhaeaaGreatDoorRows.lean that lists a variable, with what it lists TIED to the program's text (the seventh form; the later family's looks); each row that meets fmt, with fmt's text TOLD by the authors' own Lean function (tested against real Go, not proved from fmt's source: count such statements apart). THE CARD IS WHAT COUNTS. Prove the row's statement (the work); the ties are given (YtolnkgghejhaeaaGreatDoorTie.lean); close each card by the builder's one call (the guide's Derived/Test/ToyasCard.lean, 'card_holds'). Laid BY PROGRAM, IN A SANDBOX (cutbox-door.mjs). By AI agents, Wed Nov 11 2026. No macro, syntax, notation, axiom, sorry.
-/
import Derived.Test.YtolnkgghejhaeaaGreatDoorRows
import GoSem.ClaimSeven
namespace Go.Proofs.YtolnkgghejhaeaaGreatDoor
namespace Rows

/-- THE TIED CARD OF 'greenwoodlaw12.GreedySteps'. -/
def greedyStepsCard : Claim7 := { stood := { row := greedyStepsRow, standIns := [], harness := (true, "bd03fb278850ddd8a7779b1bc3762dd7f15ee688656a78d78174754a811231f0"), looks := true }, kinds := [], alts := [], laidByText := true, laidKinds := [.data, .data, .handle, .data, .sentinel, .sentinel, .sentinel, .sentinel, .sentinel], laidTests := true, laidLooks := .later }
def GreedyStepsCardSaid : Prop := Claim7.holds Tryz.pinned (.plain (OpenSpec.ofChange greedyStepsSpec)) greedyStepsCard

/-- THE TIED CARD OF 'greenwoodlaw12.GreedyDual'. -/
def greedyDualCard : Claim7 := { stood := { row := greedyDualRow, standIns := [], harness := (true, "bd03fb278850ddd8a7779b1bc3762dd7f15ee688656a78d78174754a811231f0"), looks := true }, kinds := [], alts := [], laidByText := true, laidKinds := [.data, .data, .handle, .data, .sentinel, .sentinel, .sentinel, .sentinel, .sentinel], laidTests := true, laidLooks := .later }
def GreedyDualCardSaid : Prop := Claim7.holds Tryz.pinned (.plain (OpenSpec.ofChange greedyDualSpec)) greedyDualCard

/-- THE SECOND FORM's CARD OF 'greenwoodlaw12.GreedySteps'. -/
def greedyStepsUptoCard : Claim7 := { stood := { row := greedyStepsUptoRow, standIns := [], harness := (true, "bd03fb278850ddd8a7779b1bc3762dd7f15ee688656a78d78174754a811231f0"), looks := true }, kinds := [], alts := [], laidByText := true, laidKinds := [.data, .data, .handle, .data, .sentinel, .sentinel, .sentinel, .sentinel, .sentinel], laidTests := true, laidLooks := .later }
def GreedyStepsUptoCardSaid : Prop := Claim7.holds Tryz.pinned (.plain (OpenSpec.upto greedyStepsSpec)) greedyStepsUptoCard

/-- THE SECOND FORM's CARD OF 'greenwoodlaw12.GreedyDual'. -/
def greedyDualUptoCard : Claim7 := { stood := { row := greedyDualUptoRow, standIns := [], harness := (true, "bd03fb278850ddd8a7779b1bc3762dd7f15ee688656a78d78174754a811231f0"), looks := true }, kinds := [], alts := [], laidByText := true, laidKinds := [.data, .data, .handle, .data, .sentinel, .sentinel, .sentinel, .sentinel, .sentinel], laidTests := true, laidLooks := .later }
def GreedyDualUptoCardSaid : Prop := Claim7.holds Tryz.pinned (.plain (OpenSpec.upto greedyDualSpec)) greedyDualUptoCard
end Rows
end Go.Proofs.YtolnkgghejhaeaaGreatDoor
