/-
  DERIVED. GIVEN WITH THE SEED: THE CARDS: each row of YtgpljiijjnaofaaGreatDoorRows.lean that lists a variable, with what it lists TIED to the program's text (the seventh form; the later family's looks); each row that meets fmt, with fmt's text TOLD by the authors' own Lean function (tested against real Go, not proved from fmt's source: count such statements apart). THE CARD IS WHAT COUNTS. Prove the row's statement (the work); the ties are given (YtgpljiijjnaofaaGreatDoorTie.lean); close each card by the builder's one call (the guide's Derived/Test/ToyasCard.lean, 'card_holds'). Laid BY PROGRAM, IN A SANDBOX (cutbox-door.mjs). By AI agents, Wed Nov 11 2026. No macro, syntax, notation, axiom, sorry.
-/
import Derived.Test.YtgpljiijjnaofaaGreatDoorRows
import GoSem.ClaimSeven
namespace Go.Proofs.YtgpljiijjnaofaaGreatDoor
namespace Rows

/-- THE TIED CARD OF 'greenwoodlaw15.SplitHeaviest'. -/
def splitHeaviestCard : Claim7 := { stood := { row := splitHeaviestRow, standIns := [], harness := (true, "201496641769f5b0de1fb6c686d68c1d79c314acf59783bb91fd3e7a740f0686"), looks := true }, kinds := [], alts := [], laidByText := true, laidKinds := [.data, .data, .handle, .data, .sentinel, .sentinel, .sentinel, .sentinel, .sentinel], laidTests := true, laidLooks := .later }
def SplitHeaviestCardSaid : Prop := Claim7.holds Tryz.pinned (.plain (OpenSpec.ofChange splitHeaviestSpec)) splitHeaviestCard

/-- THE TIED CARD OF 'greenwoodlaw15.SplitShifts'. -/
def splitShiftsCard : Claim7 := { stood := { row := splitShiftsRow, standIns := [], harness := (true, "201496641769f5b0de1fb6c686d68c1d79c314acf59783bb91fd3e7a740f0686"), looks := true }, kinds := [], alts := [], laidByText := true, laidKinds := [.data, .data, .handle, .data, .sentinel, .sentinel, .sentinel, .sentinel, .sentinel], laidTests := true, laidLooks := .later }
def SplitShiftsCardSaid : Prop := Claim7.holds Tryz.pinned (.plain (OpenSpec.ofChange splitShiftsSpec)) splitShiftsCard

/-- THE TIED CARD OF 'greenwoodlaw15.SplitNone'. -/
def splitNoneCard : Claim7 := { stood := { row := splitNoneRow, standIns := [], harness := (true, "201496641769f5b0de1fb6c686d68c1d79c314acf59783bb91fd3e7a740f0686"), looks := true }, kinds := [], alts := [], laidByText := true, laidKinds := [.data, .data, .handle, .data, .sentinel, .sentinel, .sentinel, .sentinel, .sentinel], laidTests := true, laidLooks := .later }
def SplitNoneCardSaid : Prop := Claim7.holds Tryz.pinned (.plain (OpenSpec.ofChange splitNoneSpec)) splitNoneCard

/-- THE TIED CARD OF 'greenwoodlaw15.SplitConcave'. -/
def splitConcaveCard : Claim7 := { stood := { row := splitConcaveRow, standIns := [], harness := (true, "201496641769f5b0de1fb6c686d68c1d79c314acf59783bb91fd3e7a740f0686"), looks := true }, kinds := [], alts := [], laidByText := true, laidKinds := [.data, .data, .handle, .data, .sentinel, .sentinel, .sentinel, .sentinel, .sentinel], laidTests := true, laidLooks := .later }
def SplitConcaveCardSaid : Prop := Claim7.holds Tryz.pinned (.plain (OpenSpec.ofChange splitConcaveSpec)) splitConcaveCard

/-- THE SECOND FORM's CARD OF 'greenwoodlaw15.SplitHeaviest'. -/
def splitHeaviestUptoCard : Claim7 := { stood := { row := splitHeaviestUptoRow, standIns := [], harness := (true, "201496641769f5b0de1fb6c686d68c1d79c314acf59783bb91fd3e7a740f0686"), looks := true }, kinds := [], alts := [], laidByText := true, laidKinds := [.data, .data, .handle, .data, .sentinel, .sentinel, .sentinel, .sentinel, .sentinel], laidTests := true, laidLooks := .later }
def SplitHeaviestUptoCardSaid : Prop := Claim7.holds Tryz.pinned (.plain (OpenSpec.upto splitHeaviestSpec)) splitHeaviestUptoCard

/-- THE SECOND FORM's CARD OF 'greenwoodlaw15.SplitShifts'. -/
def splitShiftsUptoCard : Claim7 := { stood := { row := splitShiftsUptoRow, standIns := [], harness := (true, "201496641769f5b0de1fb6c686d68c1d79c314acf59783bb91fd3e7a740f0686"), looks := true }, kinds := [], alts := [], laidByText := true, laidKinds := [.data, .data, .handle, .data, .sentinel, .sentinel, .sentinel, .sentinel, .sentinel], laidTests := true, laidLooks := .later }
def SplitShiftsUptoCardSaid : Prop := Claim7.holds Tryz.pinned (.plain (OpenSpec.upto splitShiftsSpec)) splitShiftsUptoCard

/-- THE SECOND FORM's CARD OF 'greenwoodlaw15.SplitNone'. -/
def splitNoneUptoCard : Claim7 := { stood := { row := splitNoneUptoRow, standIns := [], harness := (true, "201496641769f5b0de1fb6c686d68c1d79c314acf59783bb91fd3e7a740f0686"), looks := true }, kinds := [], alts := [], laidByText := true, laidKinds := [.data, .data, .handle, .data, .sentinel, .sentinel, .sentinel, .sentinel, .sentinel], laidTests := true, laidLooks := .later }
def SplitNoneUptoCardSaid : Prop := Claim7.holds Tryz.pinned (.plain (OpenSpec.upto splitNoneSpec)) splitNoneUptoCard

/-- THE SECOND FORM's CARD OF 'greenwoodlaw15.SplitConcave'. -/
def splitConcaveUptoCard : Claim7 := { stood := { row := splitConcaveUptoRow, standIns := [], harness := (true, "201496641769f5b0de1fb6c686d68c1d79c314acf59783bb91fd3e7a740f0686"), looks := true }, kinds := [], alts := [], laidByText := true, laidKinds := [.data, .data, .handle, .data, .sentinel, .sentinel, .sentinel, .sentinel, .sentinel], laidTests := true, laidLooks := .later }
def SplitConcaveUptoCardSaid : Prop := Claim7.holds Tryz.pinned (.plain (OpenSpec.upto splitConcaveSpec)) splitConcaveUptoCard
end Rows
end Go.Proofs.YtgpljiijjnaofaaGreatDoor
