/-
  DERIVED. GIVEN WITH THE SEED: THE CARDS: each row of YtimmmfppehmfcaaGreatDoorRows.lean that lists a variable, with what it lists TIED to the program's text (the seventh form; the later family's looks); each row that meets fmt, with fmt's text TOLD by the authors' own Lean function (tested against real Go, not proved from fmt's source: count such statements apart). THE CARD IS WHAT COUNTS. Prove the row's statement (the work); the ties are given (YtimmmfppehmfcaaGreatDoorTie.lean); close each card by the builder's one call (the guide's Derived/Test/ToyasCard.lean, 'card_holds'). Laid BY PROGRAM, IN A SANDBOX (cutbox-door.mjs). By AI agents, Wed Nov 11 2026. No macro, syntax, notation, axiom, sorry.
-/
import Derived.Test.YtimmmfppehmfcaaGreatDoorRows
import GoSem.ClaimSeven
namespace Go.Proofs.YtimmmfppehmfcaaGreatDoor
namespace Rows

/-- THE TIED CARD OF 'greenwoodlaw10.IndepExchanges'. -/
def indepExchangesCard : Claim7 := { stood := { row := indepExchangesRow, standIns := [], harness := (true, "57e56d2ed7e05a7040931829b00a01b01bb3c21eadbab9cefa6929ec27b4e8e8"), looks := true }, kinds := [], alts := [], laidByText := true, laidKinds := [.data, .data, .handle, .data, .sentinel, .sentinel, .sentinel, .sentinel, .sentinel], laidTests := true, laidLooks := .later }
def IndepExchangesCardSaid : Prop := Claim7.holds Tryz.pinned (.plain (OpenSpec.ofChange indepExchangesSpec)) indepExchangesCard

/-- THE TIED CARD OF 'greenwoodlaw10.IndepRanks'. -/
def indepRanksCard : Claim7 := { stood := { row := indepRanksRow, standIns := [], harness := (true, "57e56d2ed7e05a7040931829b00a01b01bb3c21eadbab9cefa6929ec27b4e8e8"), looks := true }, kinds := [], alts := [], laidByText := true, laidKinds := [.data, .data, .handle, .data, .sentinel, .sentinel, .sentinel, .sentinel, .sentinel], laidTests := true, laidLooks := .later }
def IndepRanksCardSaid : Prop := Claim7.holds Tryz.pinned (.plain (OpenSpec.ofChange indepRanksSpec)) indepRanksCard

/-- THE TIED CARD OF 'greenwoodlaw10.IndepDuals'. -/
def indepDualsCard : Claim7 := { stood := { row := indepDualsRow, standIns := [], harness := (true, "57e56d2ed7e05a7040931829b00a01b01bb3c21eadbab9cefa6929ec27b4e8e8"), looks := true }, kinds := [], alts := [], laidByText := true, laidKinds := [.data, .data, .handle, .data, .sentinel, .sentinel, .sentinel, .sentinel, .sentinel], laidTests := true, laidLooks := .later }
def IndepDualsCardSaid : Prop := Claim7.holds Tryz.pinned (.plain (OpenSpec.ofChange indepDualsSpec)) indepDualsCard

/-- THE TIED CARD OF 'greenwoodlaw10.IndepKinds'. -/
def indepKindsCard : Claim7 := { stood := { row := indepKindsRow, standIns := [], harness := (true, "57e56d2ed7e05a7040931829b00a01b01bb3c21eadbab9cefa6929ec27b4e8e8"), looks := true }, kinds := [], alts := [], laidByText := true, laidKinds := [.data, .data, .handle, .data, .sentinel, .sentinel, .sentinel, .sentinel, .sentinel], laidTests := true, laidLooks := .later }
def IndepKindsCardSaid : Prop := Claim7.holds Tryz.pinned (.plain (OpenSpec.ofChange indepKindsSpec)) indepKindsCard

/-- THE TIED CARD OF 'greenwoodlaw10.IndepMinors'. -/
def indepMinorsCard : Claim7 := { stood := { row := indepMinorsRow, standIns := [], harness := (true, "57e56d2ed7e05a7040931829b00a01b01bb3c21eadbab9cefa6929ec27b4e8e8"), looks := true }, kinds := [], alts := [], laidByText := true, laidKinds := [.data, .data, .handle, .data, .sentinel, .sentinel, .sentinel, .sentinel, .sentinel], laidTests := true, laidLooks := .later }
def IndepMinorsCardSaid : Prop := Claim7.holds Tryz.pinned (.plain (OpenSpec.ofChange indepMinorsSpec)) indepMinorsCard

/-- THE SECOND FORM's CARD OF 'greenwoodlaw10.IndepExchanges'. -/
def indepExchangesUptoCard : Claim7 := { stood := { row := indepExchangesUptoRow, standIns := [], harness := (true, "57e56d2ed7e05a7040931829b00a01b01bb3c21eadbab9cefa6929ec27b4e8e8"), looks := true }, kinds := [], alts := [], laidByText := true, laidKinds := [.data, .data, .handle, .data, .sentinel, .sentinel, .sentinel, .sentinel, .sentinel], laidTests := true, laidLooks := .later }
def IndepExchangesUptoCardSaid : Prop := Claim7.holds Tryz.pinned (.plain (OpenSpec.upto indepExchangesSpec)) indepExchangesUptoCard

/-- THE SECOND FORM's CARD OF 'greenwoodlaw10.IndepRanks'. -/
def indepRanksUptoCard : Claim7 := { stood := { row := indepRanksUptoRow, standIns := [], harness := (true, "57e56d2ed7e05a7040931829b00a01b01bb3c21eadbab9cefa6929ec27b4e8e8"), looks := true }, kinds := [], alts := [], laidByText := true, laidKinds := [.data, .data, .handle, .data, .sentinel, .sentinel, .sentinel, .sentinel, .sentinel], laidTests := true, laidLooks := .later }
def IndepRanksUptoCardSaid : Prop := Claim7.holds Tryz.pinned (.plain (OpenSpec.upto indepRanksSpec)) indepRanksUptoCard

/-- THE SECOND FORM's CARD OF 'greenwoodlaw10.IndepDuals'. -/
def indepDualsUptoCard : Claim7 := { stood := { row := indepDualsUptoRow, standIns := [], harness := (true, "57e56d2ed7e05a7040931829b00a01b01bb3c21eadbab9cefa6929ec27b4e8e8"), looks := true }, kinds := [], alts := [], laidByText := true, laidKinds := [.data, .data, .handle, .data, .sentinel, .sentinel, .sentinel, .sentinel, .sentinel], laidTests := true, laidLooks := .later }
def IndepDualsUptoCardSaid : Prop := Claim7.holds Tryz.pinned (.plain (OpenSpec.upto indepDualsSpec)) indepDualsUptoCard

/-- THE SECOND FORM's CARD OF 'greenwoodlaw10.IndepKinds'. -/
def indepKindsUptoCard : Claim7 := { stood := { row := indepKindsUptoRow, standIns := [], harness := (true, "57e56d2ed7e05a7040931829b00a01b01bb3c21eadbab9cefa6929ec27b4e8e8"), looks := true }, kinds := [], alts := [], laidByText := true, laidKinds := [.data, .data, .handle, .data, .sentinel, .sentinel, .sentinel, .sentinel, .sentinel], laidTests := true, laidLooks := .later }
def IndepKindsUptoCardSaid : Prop := Claim7.holds Tryz.pinned (.plain (OpenSpec.upto indepKindsSpec)) indepKindsUptoCard

/-- THE SECOND FORM's CARD OF 'greenwoodlaw10.IndepMinors'. -/
def indepMinorsUptoCard : Claim7 := { stood := { row := indepMinorsUptoRow, standIns := [], harness := (true, "57e56d2ed7e05a7040931829b00a01b01bb3c21eadbab9cefa6929ec27b4e8e8"), looks := true }, kinds := [], alts := [], laidByText := true, laidKinds := [.data, .data, .handle, .data, .sentinel, .sentinel, .sentinel, .sentinel, .sentinel], laidTests := true, laidLooks := .later }
def IndepMinorsUptoCardSaid : Prop := Claim7.holds Tryz.pinned (.plain (OpenSpec.upto indepMinorsSpec)) indepMinorsUptoCard
end Rows
end Go.Proofs.YtimmmfppehmfcaaGreatDoor
