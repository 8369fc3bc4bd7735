/-
  DERIVED. GIVEN WITH THE SEED: THE CARDS: each row of YtbjngggcpojefaaGreatDoorRows.lean that lists a variable, with what it lists TIED to the program's text (the seventh form; the later family's looks); each row that meets fmt, with fmt's text TOLD by the authors' own Lean function (tested against real Go, not proved from fmt's source: count such statements apart). THE CARD IS WHAT COUNTS. Prove the row's statement (the work); the ties are given (YtbjngggcpojefaaGreatDoorTie.lean); close each card by the builder's one call (the guide's Derived/Test/ToyasCard.lean, 'card_holds'). Laid BY PROGRAM, IN A SANDBOX (cutbox-door.mjs). By AI agents, Wed Nov 11 2026. No macro, syntax, notation, axiom, sorry.
-/
import Derived.Test.YtbjngggcpojefaaGreatDoorRows
import GoSem.ClaimSeven
namespace Go.Proofs.YtbjngggcpojefaaGreatDoor
namespace Rows

/-- THE TIED CARD OF 'greenwoodlaw10.IndepExchanges'. -/
def indepExchangesCard : Claim7 := { stood := { row := indepExchangesRow, standIns := [], harness := (true, "626e0f70a93dd45eb9b6f16a7503471860f66456ca6e6c569df1109e45bf521d"), looks := true }, kinds := [], alts := [], laidByText := true, laidKinds := [.data, .data, .handle, .data, .sentinel, .sentinel, .sentinel, .sentinel, .sentinel], laidTests := true, laidLooks := .later }
def IndepExchangesCardSaid : Prop := Claim7.holds Tryz.pinned (.plain (OpenSpec.ofChange indepExchangesSpec)) indepExchangesCard

/-- THE TIED CARD OF 'greenwoodlaw10.IndepDuals'. -/
def indepDualsCard : Claim7 := { stood := { row := indepDualsRow, standIns := [], harness := (true, "626e0f70a93dd45eb9b6f16a7503471860f66456ca6e6c569df1109e45bf521d"), looks := true }, kinds := [], alts := [], laidByText := true, laidKinds := [.data, .data, .handle, .data, .sentinel, .sentinel, .sentinel, .sentinel, .sentinel], laidTests := true, laidLooks := .later }
def IndepDualsCardSaid : Prop := Claim7.holds Tryz.pinned (.plain (OpenSpec.ofChange indepDualsSpec)) indepDualsCard

/-- THE TIED CARD OF 'greenwoodlaw10.IndepKinds'. -/
def indepKindsCard : Claim7 := { stood := { row := indepKindsRow, standIns := [], harness := (true, "626e0f70a93dd45eb9b6f16a7503471860f66456ca6e6c569df1109e45bf521d"), looks := true }, kinds := [], alts := [], laidByText := true, laidKinds := [.data, .data, .handle, .data, .sentinel, .sentinel, .sentinel, .sentinel, .sentinel], laidTests := true, laidLooks := .later }
def IndepKindsCardSaid : Prop := Claim7.holds Tryz.pinned (.plain (OpenSpec.ofChange indepKindsSpec)) indepKindsCard

/-- THE TIED CARD OF 'greenwoodlaw10.IndepMinors'. -/
def indepMinorsCard : Claim7 := { stood := { row := indepMinorsRow, standIns := [], harness := (true, "626e0f70a93dd45eb9b6f16a7503471860f66456ca6e6c569df1109e45bf521d"), looks := true }, kinds := [], alts := [], laidByText := true, laidKinds := [.data, .data, .handle, .data, .sentinel, .sentinel, .sentinel, .sentinel, .sentinel], laidTests := true, laidLooks := .later }
def IndepMinorsCardSaid : Prop := Claim7.holds Tryz.pinned (.plain (OpenSpec.ofChange indepMinorsSpec)) indepMinorsCard

/-- THE TIED CARD OF 'greenwoodlaw11.SpanCocircuits'. -/
def spanCocircuitsCard : Claim7 := { stood := { row := spanCocircuitsRow, standIns := [], harness := (true, "626e0f70a93dd45eb9b6f16a7503471860f66456ca6e6c569df1109e45bf521d"), looks := true }, kinds := [], alts := [], laidByText := true, laidKinds := [.data, .data, .handle, .data, .sentinel, .sentinel, .sentinel, .sentinel, .sentinel], laidTests := true, laidLooks := .later }
def SpanCocircuitsCardSaid : Prop := Claim7.holds Tryz.pinned (.plain (OpenSpec.ofChange spanCocircuitsSpec)) spanCocircuitsCard

/-- THE SECOND FORM's CARD OF 'greenwoodlaw10.IndepExchanges'. -/
def indepExchangesUptoCard : Claim7 := { stood := { row := indepExchangesUptoRow, standIns := [], harness := (true, "626e0f70a93dd45eb9b6f16a7503471860f66456ca6e6c569df1109e45bf521d"), looks := true }, kinds := [], alts := [], laidByText := true, laidKinds := [.data, .data, .handle, .data, .sentinel, .sentinel, .sentinel, .sentinel, .sentinel], laidTests := true, laidLooks := .later }
def IndepExchangesUptoCardSaid : Prop := Claim7.holds Tryz.pinned (.plain (OpenSpec.upto indepExchangesSpec)) indepExchangesUptoCard

/-- THE SECOND FORM's CARD OF 'greenwoodlaw10.IndepDuals'. -/
def indepDualsUptoCard : Claim7 := { stood := { row := indepDualsUptoRow, standIns := [], harness := (true, "626e0f70a93dd45eb9b6f16a7503471860f66456ca6e6c569df1109e45bf521d"), looks := true }, kinds := [], alts := [], laidByText := true, laidKinds := [.data, .data, .handle, .data, .sentinel, .sentinel, .sentinel, .sentinel, .sentinel], laidTests := true, laidLooks := .later }
def IndepDualsUptoCardSaid : Prop := Claim7.holds Tryz.pinned (.plain (OpenSpec.upto indepDualsSpec)) indepDualsUptoCard

/-- THE SECOND FORM's CARD OF 'greenwoodlaw10.IndepKinds'. -/
def indepKindsUptoCard : Claim7 := { stood := { row := indepKindsUptoRow, standIns := [], harness := (true, "626e0f70a93dd45eb9b6f16a7503471860f66456ca6e6c569df1109e45bf521d"), looks := true }, kinds := [], alts := [], laidByText := true, laidKinds := [.data, .data, .handle, .data, .sentinel, .sentinel, .sentinel, .sentinel, .sentinel], laidTests := true, laidLooks := .later }
def IndepKindsUptoCardSaid : Prop := Claim7.holds Tryz.pinned (.plain (OpenSpec.upto indepKindsSpec)) indepKindsUptoCard

/-- THE SECOND FORM's CARD OF 'greenwoodlaw10.IndepMinors'. -/
def indepMinorsUptoCard : Claim7 := { stood := { row := indepMinorsUptoRow, standIns := [], harness := (true, "626e0f70a93dd45eb9b6f16a7503471860f66456ca6e6c569df1109e45bf521d"), looks := true }, kinds := [], alts := [], laidByText := true, laidKinds := [.data, .data, .handle, .data, .sentinel, .sentinel, .sentinel, .sentinel, .sentinel], laidTests := true, laidLooks := .later }
def IndepMinorsUptoCardSaid : Prop := Claim7.holds Tryz.pinned (.plain (OpenSpec.upto indepMinorsSpec)) indepMinorsUptoCard

/-- THE SECOND FORM's CARD OF 'greenwoodlaw11.SpanCocircuits'. -/
def spanCocircuitsUptoCard : Claim7 := { stood := { row := spanCocircuitsUptoRow, standIns := [], harness := (true, "626e0f70a93dd45eb9b6f16a7503471860f66456ca6e6c569df1109e45bf521d"), looks := true }, kinds := [], alts := [], laidByText := true, laidKinds := [.data, .data, .handle, .data, .sentinel, .sentinel, .sentinel, .sentinel, .sentinel], laidTests := true, laidLooks := .later }
def SpanCocircuitsUptoCardSaid : Prop := Claim7.holds Tryz.pinned (.plain (OpenSpec.upto spanCocircuitsSpec)) spanCocircuitsUptoCard
end Rows
end Go.Proofs.YtbjngggcpojefaaGreatDoor
