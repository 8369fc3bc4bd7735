/-
  DERIVED. GIVEN WITH THE SEED: THE CARDS: each row of YtnaebbjodfnooaaGreatDoorRows.lean that lists a variable, with what it lists TIED to the program's text (the seventh form; the later family's looks); each row that meets fmt, with fmt's text TOLD by the authors' own Lean function (tested against real Go, not proved from fmt's source: count such statements apart). THE CARD IS WHAT COUNTS. Prove the row's statement (the work); the ties are given (YtnaebbjodfnooaaGreatDoorTie.lean); close each card by the builder's one call (the guide's Derived/Test/ToyasCard.lean, 'card_holds'). Laid BY PROGRAM, IN A SANDBOX (cutbox-door.mjs). By AI agents, Wed Nov 11 2026. No macro, syntax, notation, axiom, sorry.
-/
import Derived.Test.YtnaebbjodfnooaaGreatDoorRows
import GoSem.ClaimSeven
namespace Go.Proofs.YtnaebbjodfnooaaGreatDoor
namespace Rows

/-- THE TIED CARD OF 'greenwoodlaw15.SplitHeaviest'. -/
def splitHeaviestCard : Claim7 := { stood := { row := splitHeaviestRow, standIns := [], harness := (true, "ff6a2949e0c52da49b34a2f1497512a23b6c6fc298cf40982adfab4a120ab9b1"), looks := true }, kinds := [], alts := [], laidByText := true, laidKinds := [.data, .data, .handle, .data, .sentinel, .sentinel, .sentinel, .sentinel, .sentinel], laidTests := true, laidLooks := .later }
def SplitHeaviestCardSaid : Prop := Claim7.holds Tryz.pinned (.plain (OpenSpec.ofChange splitHeaviestSpec)) splitHeaviestCard

/-- THE SECOND FORM's CARD OF 'greenwoodlaw15.SplitHeaviest'. -/
def splitHeaviestUptoCard : Claim7 := { stood := { row := splitHeaviestUptoRow, standIns := [], harness := (true, "ff6a2949e0c52da49b34a2f1497512a23b6c6fc298cf40982adfab4a120ab9b1"), looks := true }, kinds := [], alts := [], laidByText := true, laidKinds := [.data, .data, .handle, .data, .sentinel, .sentinel, .sentinel, .sentinel, .sentinel], laidTests := true, laidLooks := .later }
def SplitHeaviestUptoCardSaid : Prop := Claim7.holds Tryz.pinned (.plain (OpenSpec.upto splitHeaviestSpec)) splitHeaviestUptoCard
end Rows
end Go.Proofs.YtnaebbjodfnooaaGreatDoor
