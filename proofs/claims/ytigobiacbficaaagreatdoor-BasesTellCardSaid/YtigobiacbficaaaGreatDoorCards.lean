/-
  DERIVED. GIVEN WITH THE SEED: THE CARDS: each row of YtigobiacbficaaaGreatDoorRows.lean that lists a variable, with what it lists TIED to the program's text (the seventh form; the later family's looks); each row that meets fmt, with fmt's text TOLD by the authors' own Lean function (tested against real Go, not proved from fmt's source: count such statements apart). THE CARD IS WHAT COUNTS. Prove the row's statement (the work); the ties are given (YtigobiacbficaaaGreatDoorTie.lean); close each card by the builder's one call (the guide's Derived/Test/ToyasCard.lean, 'card_holds'). Laid BY PROGRAM, IN A SANDBOX (cutbox-door.mjs). By AI agents, Wed Nov 11 2026. No macro, syntax, notation, axiom, sorry.
-/
import Derived.Test.YtigobiacbficaaaGreatDoorRows
import GoSem.ClaimSeven
namespace Go.Proofs.YtigobiacbficaaaGreatDoor
namespace Rows

/-- THE TIED CARD OF 'greenwoodlaw17.BasesTell'. -/
def basesTellCard : Claim7 := { stood := { row := basesTellRow, standIns := [], harness := (true, "5b2bba3df01defa96766a5a02f4c3a5e328d3c8d9c76fb118089c51da229758d"), looks := true }, kinds := [], alts := [], laidByText := true, laidKinds := [.data, .data, .handle, .data, .sentinel, .sentinel, .sentinel, .sentinel, .sentinel], laidTests := true, laidLooks := .later }
def BasesTellCardSaid : Prop := Claim7.holds Tryz.pinned (.plain (OpenSpec.ofChange basesTellSpec)) basesTellCard

/-- THE SECOND FORM's CARD OF 'greenwoodlaw17.BasesTell'. -/
def basesTellUptoCard : Claim7 := { stood := { row := basesTellUptoRow, standIns := [], harness := (true, "5b2bba3df01defa96766a5a02f4c3a5e328d3c8d9c76fb118089c51da229758d"), looks := true }, kinds := [], alts := [], laidByText := true, laidKinds := [.data, .data, .handle, .data, .sentinel, .sentinel, .sentinel, .sentinel, .sentinel], laidTests := true, laidLooks := .later }
def BasesTellUptoCardSaid : Prop := Claim7.holds Tryz.pinned (.plain (OpenSpec.upto basesTellSpec)) basesTellUptoCard
end Rows
end Go.Proofs.YtigobiacbficaaaGreatDoor
