/-
  DERIVED. GIVEN WITH THE SEED: THE CARDS: each row of YtheeajnkiniopaaGreatDoorRows.lean that lists a variable, with what it lists TIED to the program's text (the seventh form; the later family's looks); each row that meets fmt, with fmt's text TOLD by the authors' own Lean function (tested against real Go, not proved from fmt's source: count such statements apart). THE CARD IS WHAT COUNTS. Prove the row's statement (the work); the ties are given (YtheeajnkiniopaaGreatDoorTie.lean); close each card by the builder's one call (the guide's Derived/Test/ToyasCard.lean, 'card_holds'). Laid BY PROGRAM, IN A SANDBOX (cutbox-door.mjs). By AI agents, Wed Nov 11 2026. No macro, syntax, notation, axiom, sorry.
-/
import Derived.Test.YtheeajnkiniopaaGreatDoorRows
import GoSem.ClaimSeven
namespace Go.Proofs.YtheeajnkiniopaaGreatDoor
namespace Rows

/-- THE TIED CARD OF 'greenwoodlaw16.UnionTells'. -/
def unionTellsCard : Claim7 := { stood := { row := unionTellsRow, standIns := [], harness := (true, "cd031cdd7f241b91cebe249c38835adddf16d6dace2cb06414b246e2de0b2c55"), looks := true }, kinds := [], alts := [], laidByText := true, laidKinds := [.data, .data, .handle, .data, .sentinel, .sentinel, .sentinel, .sentinel, .sentinel], laidTests := true, laidLooks := .later }
def UnionTellsCardSaid : Prop := Claim7.holds Tryz.pinned (.plain (OpenSpec.ofChange unionTellsSpec)) unionTellsCard

/-- THE TIED CARD OF 'greenwoodlaw16.UnionGreatest'. -/
def unionGreatestCard : Claim7 := { stood := { row := unionGreatestRow, standIns := [], harness := (true, "cd031cdd7f241b91cebe249c38835adddf16d6dace2cb06414b246e2de0b2c55"), looks := true }, kinds := [], alts := [], laidByText := true, laidKinds := [.data, .data, .handle, .data, .sentinel, .sentinel, .sentinel, .sentinel, .sentinel], laidTests := true, laidLooks := .later }
def UnionGreatestCardSaid : Prop := Claim7.holds Tryz.pinned (.plain (OpenSpec.ofChange unionGreatestSpec)) unionGreatestCard

/-- THE TIED CARD OF 'greenwoodlaw16.UnionMore'. -/
def unionMoreCard : Claim7 := { stood := { row := unionMoreRow, standIns := [], harness := (true, "cd031cdd7f241b91cebe249c38835adddf16d6dace2cb06414b246e2de0b2c55"), looks := true }, kinds := [], alts := [], laidByText := true, laidKinds := [.data, .data, .handle, .data, .sentinel, .sentinel, .sentinel, .sentinel, .sentinel], laidTests := true, laidLooks := .later }
def UnionMoreCardSaid : Prop := Claim7.holds Tryz.pinned (.plain (OpenSpec.ofChange unionMoreSpec)) unionMoreCard

/-- THE TIED CARD OF 'greenwoodlaw16.UnionUniform'. -/
def unionUniformCard : Claim7 := { stood := { row := unionUniformRow, standIns := [], harness := (true, "cd031cdd7f241b91cebe249c38835adddf16d6dace2cb06414b246e2de0b2c55"), looks := true }, kinds := [], alts := [], laidByText := true, laidKinds := [.data, .data, .handle, .data, .sentinel, .sentinel, .sentinel, .sentinel, .sentinel], laidTests := true, laidLooks := .later }
def UnionUniformCardSaid : Prop := Claim7.holds Tryz.pinned (.plain (OpenSpec.ofChange unionUniformSpec)) unionUniformCard

/-- THE TIED CARD OF 'greenwoodlaw16.UnionTurned'. -/
def unionTurnedCard : Claim7 := { stood := { row := unionTurnedRow, standIns := [], harness := (true, "cd031cdd7f241b91cebe249c38835adddf16d6dace2cb06414b246e2de0b2c55"), looks := true }, kinds := [], alts := [], laidByText := true, laidKinds := [.data, .data, .handle, .data, .sentinel, .sentinel, .sentinel, .sentinel, .sentinel], laidTests := true, laidLooks := .later }
def UnionTurnedCardSaid : Prop := Claim7.holds Tryz.pinned (.plain (OpenSpec.ofChange unionTurnedSpec)) unionTurnedCard

/-- THE TIED CARD OF 'greenwoodlaw17.BasesTell'. -/
def basesTellCard : Claim7 := { stood := { row := basesTellRow, standIns := [], harness := (true, "cd031cdd7f241b91cebe249c38835adddf16d6dace2cb06414b246e2de0b2c55"), looks := true }, kinds := [], alts := [], laidByText := true, laidKinds := [.data, .data, .handle, .data, .sentinel, .sentinel, .sentinel, .sentinel, .sentinel], laidTests := true, laidLooks := .later }
def BasesTellCardSaid : Prop := Claim7.holds Tryz.pinned (.plain (OpenSpec.ofChange basesTellSpec)) basesTellCard

/-- THE TIED CARD OF 'greenwoodlaw17.BasesSteps'. -/
def basesStepsCard : Claim7 := { stood := { row := basesStepsRow, standIns := [], harness := (true, "cd031cdd7f241b91cebe249c38835adddf16d6dace2cb06414b246e2de0b2c55"), looks := true }, kinds := [], alts := [], laidByText := true, laidKinds := [.data, .data, .handle, .data, .sentinel, .sentinel, .sentinel, .sentinel, .sentinel], laidTests := true, laidLooks := .later }
def BasesStepsCardSaid : Prop := Claim7.holds Tryz.pinned (.plain (OpenSpec.ofChange basesStepsSpec)) basesStepsCard

/-- THE TIED CARD OF 'greenwoodlaw17.BasesUniform'. -/
def basesUniformCard : Claim7 := { stood := { row := basesUniformRow, standIns := [], harness := (true, "cd031cdd7f241b91cebe249c38835adddf16d6dace2cb06414b246e2de0b2c55"), looks := true }, kinds := [], alts := [], laidByText := true, laidKinds := [.data, .data, .handle, .data, .sentinel, .sentinel, .sentinel, .sentinel, .sentinel], laidTests := true, laidLooks := .later }
def BasesUniformCardSaid : Prop := Claim7.holds Tryz.pinned (.plain (OpenSpec.ofChange basesUniformSpec)) basesUniformCard

/-- THE SECOND FORM's CARD OF 'greenwoodlaw16.UnionTells'. -/
def unionTellsUptoCard : Claim7 := { stood := { row := unionTellsUptoRow, standIns := [], harness := (true, "cd031cdd7f241b91cebe249c38835adddf16d6dace2cb06414b246e2de0b2c55"), looks := true }, kinds := [], alts := [], laidByText := true, laidKinds := [.data, .data, .handle, .data, .sentinel, .sentinel, .sentinel, .sentinel, .sentinel], laidTests := true, laidLooks := .later }
def UnionTellsUptoCardSaid : Prop := Claim7.holds Tryz.pinned (.plain (OpenSpec.upto unionTellsSpec)) unionTellsUptoCard

/-- THE SECOND FORM's CARD OF 'greenwoodlaw16.UnionGreatest'. -/
def unionGreatestUptoCard : Claim7 := { stood := { row := unionGreatestUptoRow, standIns := [], harness := (true, "cd031cdd7f241b91cebe249c38835adddf16d6dace2cb06414b246e2de0b2c55"), looks := true }, kinds := [], alts := [], laidByText := true, laidKinds := [.data, .data, .handle, .data, .sentinel, .sentinel, .sentinel, .sentinel, .sentinel], laidTests := true, laidLooks := .later }
def UnionGreatestUptoCardSaid : Prop := Claim7.holds Tryz.pinned (.plain (OpenSpec.upto unionGreatestSpec)) unionGreatestUptoCard

/-- THE SECOND FORM's CARD OF 'greenwoodlaw16.UnionMore'. -/
def unionMoreUptoCard : Claim7 := { stood := { row := unionMoreUptoRow, standIns := [], harness := (true, "cd031cdd7f241b91cebe249c38835adddf16d6dace2cb06414b246e2de0b2c55"), looks := true }, kinds := [], alts := [], laidByText := true, laidKinds := [.data, .data, .handle, .data, .sentinel, .sentinel, .sentinel, .sentinel, .sentinel], laidTests := true, laidLooks := .later }
def UnionMoreUptoCardSaid : Prop := Claim7.holds Tryz.pinned (.plain (OpenSpec.upto unionMoreSpec)) unionMoreUptoCard

/-- THE SECOND FORM's CARD OF 'greenwoodlaw16.UnionUniform'. -/
def unionUniformUptoCard : Claim7 := { stood := { row := unionUniformUptoRow, standIns := [], harness := (true, "cd031cdd7f241b91cebe249c38835adddf16d6dace2cb06414b246e2de0b2c55"), looks := true }, kinds := [], alts := [], laidByText := true, laidKinds := [.data, .data, .handle, .data, .sentinel, .sentinel, .sentinel, .sentinel, .sentinel], laidTests := true, laidLooks := .later }
def UnionUniformUptoCardSaid : Prop := Claim7.holds Tryz.pinned (.plain (OpenSpec.upto unionUniformSpec)) unionUniformUptoCard

/-- THE SECOND FORM's CARD OF 'greenwoodlaw16.UnionTurned'. -/
def unionTurnedUptoCard : Claim7 := { stood := { row := unionTurnedUptoRow, standIns := [], harness := (true, "cd031cdd7f241b91cebe249c38835adddf16d6dace2cb06414b246e2de0b2c55"), looks := true }, kinds := [], alts := [], laidByText := true, laidKinds := [.data, .data, .handle, .data, .sentinel, .sentinel, .sentinel, .sentinel, .sentinel], laidTests := true, laidLooks := .later }
def UnionTurnedUptoCardSaid : Prop := Claim7.holds Tryz.pinned (.plain (OpenSpec.upto unionTurnedSpec)) unionTurnedUptoCard

/-- THE SECOND FORM's CARD OF 'greenwoodlaw17.BasesTell'. -/
def basesTellUptoCard : Claim7 := { stood := { row := basesTellUptoRow, standIns := [], harness := (true, "cd031cdd7f241b91cebe249c38835adddf16d6dace2cb06414b246e2de0b2c55"), looks := true }, kinds := [], alts := [], laidByText := true, laidKinds := [.data, .data, .handle, .data, .sentinel, .sentinel, .sentinel, .sentinel, .sentinel], laidTests := true, laidLooks := .later }
def BasesTellUptoCardSaid : Prop := Claim7.holds Tryz.pinned (.plain (OpenSpec.upto basesTellSpec)) basesTellUptoCard

/-- THE SECOND FORM's CARD OF 'greenwoodlaw17.BasesSteps'. -/
def basesStepsUptoCard : Claim7 := { stood := { row := basesStepsUptoRow, standIns := [], harness := (true, "cd031cdd7f241b91cebe249c38835adddf16d6dace2cb06414b246e2de0b2c55"), looks := true }, kinds := [], alts := [], laidByText := true, laidKinds := [.data, .data, .handle, .data, .sentinel, .sentinel, .sentinel, .sentinel, .sentinel], laidTests := true, laidLooks := .later }
def BasesStepsUptoCardSaid : Prop := Claim7.holds Tryz.pinned (.plain (OpenSpec.upto basesStepsSpec)) basesStepsUptoCard

/-- THE SECOND FORM's CARD OF 'greenwoodlaw17.BasesUniform'. -/
def basesUniformUptoCard : Claim7 := { stood := { row := basesUniformUptoRow, standIns := [], harness := (true, "cd031cdd7f241b91cebe249c38835adddf16d6dace2cb06414b246e2de0b2c55"), looks := true }, kinds := [], alts := [], laidByText := true, laidKinds := [.data, .data, .handle, .data, .sentinel, .sentinel, .sentinel, .sentinel, .sentinel], laidTests := true, laidLooks := .later }
def BasesUniformUptoCardSaid : Prop := Claim7.holds Tryz.pinned (.plain (OpenSpec.upto basesUniformSpec)) basesUniformUptoCard
end Rows
end Go.Proofs.YtheeajnkiniopaaGreatDoor
