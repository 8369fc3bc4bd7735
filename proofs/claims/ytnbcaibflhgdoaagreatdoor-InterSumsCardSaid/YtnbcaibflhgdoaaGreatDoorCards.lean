/-
  DERIVED. GIVEN WITH THE SEED: THE CARDS: each row of YtnbcaibflhgdoaaGreatDoorRows.lean that lists a variable, with what it lists TIED to the program's text (the seventh form; the later family's looks); each row that meets fmt, with fmt's text TOLD by the authors' own Lean function (tested against real Go, not proved from fmt's source: count such statements apart). THE CARD IS WHAT COUNTS. Prove the row's statement (the work); the ties are given (YtnbcaibflhgdoaaGreatDoorTie.lean); close each card by the builder's one call (the guide's Derived/Test/ToyasCard.lean, 'card_holds'). Laid BY PROGRAM, IN A SANDBOX (cutbox-door.mjs). By AI agents, Wed Nov 11 2026. No macro, syntax, notation, axiom, sorry.
-/
import Derived.Test.YtnbcaibflhgdoaaGreatDoorRows
import GoSem.ClaimSeven
namespace Go.Proofs.YtnbcaibflhgdoaaGreatDoor
namespace Rows

/-- THE TIED CARD OF 'greenwoodlaw14.InterTells'. -/
def interTellsCard : Claim7 := { stood := { row := interTellsRow, standIns := [], harness := (true, "7b66cfcf9effbc25cd7c6de092380f2c1f5e43548875da8145bf619fd0829746"), looks := true }, kinds := [], alts := [], laidByText := true, laidKinds := [.data, .data, .handle, .data, .sentinel, .sentinel, .sentinel, .sentinel, .sentinel], laidTests := true, laidLooks := .later }
def InterTellsCardSaid : Prop := Claim7.holds Tryz.pinned (.plain (OpenSpec.ofChange interTellsSpec)) interTellsCard

/-- THE TIED CARD OF 'greenwoodlaw14.InterMatching'. -/
def interMatchingCard : Claim7 := { stood := { row := interMatchingRow, standIns := [], harness := (true, "7b66cfcf9effbc25cd7c6de092380f2c1f5e43548875da8145bf619fd0829746"), looks := true }, kinds := [], alts := [], laidByText := true, laidKinds := [.data, .data, .handle, .data, .sentinel, .sentinel, .sentinel, .sentinel, .sentinel], laidTests := true, laidLooks := .later }
def InterMatchingCardSaid : Prop := Claim7.holds Tryz.pinned (.plain (OpenSpec.ofChange interMatchingSpec)) interMatchingCard

/-- THE TIED CARD OF 'greenwoodlaw14.InterSums'. -/
def interSumsCard : Claim7 := { stood := { row := interSumsRow, standIns := [], harness := (true, "7b66cfcf9effbc25cd7c6de092380f2c1f5e43548875da8145bf619fd0829746"), looks := true }, kinds := [], alts := [], laidByText := true, laidKinds := [.data, .data, .handle, .data, .sentinel, .sentinel, .sentinel, .sentinel, .sentinel], laidTests := true, laidLooks := .later }
def InterSumsCardSaid : Prop := Claim7.holds Tryz.pinned (.plain (OpenSpec.ofChange interSumsSpec)) interSumsCard

/-- THE SECOND FORM's CARD OF 'greenwoodlaw14.InterTells'. -/
def interTellsUptoCard : Claim7 := { stood := { row := interTellsUptoRow, standIns := [], harness := (true, "7b66cfcf9effbc25cd7c6de092380f2c1f5e43548875da8145bf619fd0829746"), looks := true }, kinds := [], alts := [], laidByText := true, laidKinds := [.data, .data, .handle, .data, .sentinel, .sentinel, .sentinel, .sentinel, .sentinel], laidTests := true, laidLooks := .later }
def InterTellsUptoCardSaid : Prop := Claim7.holds Tryz.pinned (.plain (OpenSpec.upto interTellsSpec)) interTellsUptoCard

/-- THE SECOND FORM's CARD OF 'greenwoodlaw14.InterMatching'. -/
def interMatchingUptoCard : Claim7 := { stood := { row := interMatchingUptoRow, standIns := [], harness := (true, "7b66cfcf9effbc25cd7c6de092380f2c1f5e43548875da8145bf619fd0829746"), looks := true }, kinds := [], alts := [], laidByText := true, laidKinds := [.data, .data, .handle, .data, .sentinel, .sentinel, .sentinel, .sentinel, .sentinel], laidTests := true, laidLooks := .later }
def InterMatchingUptoCardSaid : Prop := Claim7.holds Tryz.pinned (.plain (OpenSpec.upto interMatchingSpec)) interMatchingUptoCard

/-- THE SECOND FORM's CARD OF 'greenwoodlaw14.InterSums'. -/
def interSumsUptoCard : Claim7 := { stood := { row := interSumsUptoRow, standIns := [], harness := (true, "7b66cfcf9effbc25cd7c6de092380f2c1f5e43548875da8145bf619fd0829746"), looks := true }, kinds := [], alts := [], laidByText := true, laidKinds := [.data, .data, .handle, .data, .sentinel, .sentinel, .sentinel, .sentinel, .sentinel], laidTests := true, laidLooks := .later }
def InterSumsUptoCardSaid : Prop := Claim7.holds Tryz.pinned (.plain (OpenSpec.upto interSumsSpec)) interSumsUptoCard
end Rows
end Go.Proofs.YtnbcaibflhgdoaaGreatDoor
