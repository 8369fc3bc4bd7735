/-
  DERIVED. GIVEN WITH THE SEED: THE CARDS: each row of YtgadbnbhgpehjaaGreatDoorRows.lean that lists a variable, with what it lists TIED to the program's text (the seventh form; the later family's looks); each row that meets fmt, with fmt's text TOLD by the authors' own Lean function (tested against real Go, not proved from fmt's source: count such statements apart). THE CARD IS WHAT COUNTS. Prove the row's statement (the work); the ties are given (YtgadbnbhgpehjaaGreatDoorTie.lean); close each card by the builder's one call (the guide's Derived/Test/ToyasCard.lean, 'card_holds'). Laid BY PROGRAM, IN A SANDBOX (cutbox-door.mjs). By AI agents, Wed Nov 11 2026. No macro, syntax, notation, axiom, sorry.
-/
import Derived.Test.YtgadbnbhgpehjaaGreatDoorRows
import GoSem.ClaimSeven
namespace Go.Proofs.YtgadbnbhgpehjaaGreatDoor
namespace Rows

/-- THE TIED CARD OF 'greenwoodlaw13.SwapTells'. -/
def swapTellsCard : Claim7 := { stood := { row := swapTellsRow, standIns := [], harness := (true, "f83cde138ecc745d72288cd696e033453afcddca51f437a0afe44558e3f58324"), looks := true }, kinds := [], alts := [], laidByText := true, laidKinds := [.data, .data, .handle, .data, .sentinel, .sentinel, .sentinel, .sentinel, .sentinel], laidTests := true, laidLooks := .later }
def SwapTellsCardSaid : Prop := Claim7.holds Tryz.pinned (.plain (OpenSpec.ofChange swapTellsSpec)) swapTellsCard

/-- THE TIED CARD OF 'greenwoodlaw13.SwapAugments'. -/
def swapAugmentsCard : Claim7 := { stood := { row := swapAugmentsRow, standIns := [], harness := (true, "f83cde138ecc745d72288cd696e033453afcddca51f437a0afe44558e3f58324"), looks := true }, kinds := [], alts := [], laidByText := true, laidKinds := [.data, .data, .handle, .data, .sentinel, .sentinel, .sentinel, .sentinel, .sentinel], laidTests := true, laidLooks := .later }
def SwapAugmentsCardSaid : Prop := Claim7.holds Tryz.pinned (.plain (OpenSpec.ofChange swapAugmentsSpec)) swapAugmentsCard

/-- THE TIED CARD OF 'greenwoodlaw13.SwapStuck'. -/
def swapStuckCard : Claim7 := { stood := { row := swapStuckRow, standIns := [], harness := (true, "f83cde138ecc745d72288cd696e033453afcddca51f437a0afe44558e3f58324"), looks := true }, kinds := [], alts := [], laidByText := true, laidKinds := [.data, .data, .handle, .data, .sentinel, .sentinel, .sentinel, .sentinel, .sentinel], laidTests := true, laidLooks := .later }
def SwapStuckCardSaid : Prop := Claim7.holds Tryz.pinned (.plain (OpenSpec.ofChange swapStuckSpec)) swapStuckCard

/-- THE TIED CARD OF 'greenwoodlaw13.SwapBack'. -/
def swapBackCard : Claim7 := { stood := { row := swapBackRow, standIns := [], harness := (true, "f83cde138ecc745d72288cd696e033453afcddca51f437a0afe44558e3f58324"), looks := true }, kinds := [], alts := [], laidByText := true, laidKinds := [.data, .data, .handle, .data, .sentinel, .sentinel, .sentinel, .sentinel, .sentinel], laidTests := true, laidLooks := .later }
def SwapBackCardSaid : Prop := Claim7.holds Tryz.pinned (.plain (OpenSpec.ofChange swapBackSpec)) swapBackCard

/-- THE TIED CARD OF 'greenwoodlaw13.SwapNone'. -/
def swapNoneCard : Claim7 := { stood := { row := swapNoneRow, standIns := [], harness := (true, "f83cde138ecc745d72288cd696e033453afcddca51f437a0afe44558e3f58324"), looks := true }, kinds := [], alts := [], laidByText := true, laidKinds := [.data, .data, .handle, .data, .sentinel, .sentinel, .sentinel, .sentinel, .sentinel], laidTests := true, laidLooks := .later }
def SwapNoneCardSaid : Prop := Claim7.holds Tryz.pinned (.plain (OpenSpec.ofChange swapNoneSpec)) swapNoneCard

/-- THE TIED CARD OF 'greenwoodlaw13.SwapSame'. -/
def swapSameCard : Claim7 := { stood := { row := swapSameRow, standIns := [], harness := (true, "f83cde138ecc745d72288cd696e033453afcddca51f437a0afe44558e3f58324"), looks := true }, kinds := [], alts := [], laidByText := true, laidKinds := [.data, .data, .handle, .data, .sentinel, .sentinel, .sentinel, .sentinel, .sentinel], laidTests := true, laidLooks := .later }
def SwapSameCardSaid : Prop := Claim7.holds Tryz.pinned (.plain (OpenSpec.ofChange swapSameSpec)) swapSameCard

/-- THE SECOND FORM's CARD OF 'greenwoodlaw13.SwapTells'. -/
def swapTellsUptoCard : Claim7 := { stood := { row := swapTellsUptoRow, standIns := [], harness := (true, "f83cde138ecc745d72288cd696e033453afcddca51f437a0afe44558e3f58324"), looks := true }, kinds := [], alts := [], laidByText := true, laidKinds := [.data, .data, .handle, .data, .sentinel, .sentinel, .sentinel, .sentinel, .sentinel], laidTests := true, laidLooks := .later }
def SwapTellsUptoCardSaid : Prop := Claim7.holds Tryz.pinned (.plain (OpenSpec.upto swapTellsSpec)) swapTellsUptoCard

/-- THE SECOND FORM's CARD OF 'greenwoodlaw13.SwapAugments'. -/
def swapAugmentsUptoCard : Claim7 := { stood := { row := swapAugmentsUptoRow, standIns := [], harness := (true, "f83cde138ecc745d72288cd696e033453afcddca51f437a0afe44558e3f58324"), looks := true }, kinds := [], alts := [], laidByText := true, laidKinds := [.data, .data, .handle, .data, .sentinel, .sentinel, .sentinel, .sentinel, .sentinel], laidTests := true, laidLooks := .later }
def SwapAugmentsUptoCardSaid : Prop := Claim7.holds Tryz.pinned (.plain (OpenSpec.upto swapAugmentsSpec)) swapAugmentsUptoCard

/-- THE SECOND FORM's CARD OF 'greenwoodlaw13.SwapStuck'. -/
def swapStuckUptoCard : Claim7 := { stood := { row := swapStuckUptoRow, standIns := [], harness := (true, "f83cde138ecc745d72288cd696e033453afcddca51f437a0afe44558e3f58324"), looks := true }, kinds := [], alts := [], laidByText := true, laidKinds := [.data, .data, .handle, .data, .sentinel, .sentinel, .sentinel, .sentinel, .sentinel], laidTests := true, laidLooks := .later }
def SwapStuckUptoCardSaid : Prop := Claim7.holds Tryz.pinned (.plain (OpenSpec.upto swapStuckSpec)) swapStuckUptoCard

/-- THE SECOND FORM's CARD OF 'greenwoodlaw13.SwapBack'. -/
def swapBackUptoCard : Claim7 := { stood := { row := swapBackUptoRow, standIns := [], harness := (true, "f83cde138ecc745d72288cd696e033453afcddca51f437a0afe44558e3f58324"), looks := true }, kinds := [], alts := [], laidByText := true, laidKinds := [.data, .data, .handle, .data, .sentinel, .sentinel, .sentinel, .sentinel, .sentinel], laidTests := true, laidLooks := .later }
def SwapBackUptoCardSaid : Prop := Claim7.holds Tryz.pinned (.plain (OpenSpec.upto swapBackSpec)) swapBackUptoCard

/-- THE SECOND FORM's CARD OF 'greenwoodlaw13.SwapNone'. -/
def swapNoneUptoCard : Claim7 := { stood := { row := swapNoneUptoRow, standIns := [], harness := (true, "f83cde138ecc745d72288cd696e033453afcddca51f437a0afe44558e3f58324"), looks := true }, kinds := [], alts := [], laidByText := true, laidKinds := [.data, .data, .handle, .data, .sentinel, .sentinel, .sentinel, .sentinel, .sentinel], laidTests := true, laidLooks := .later }
def SwapNoneUptoCardSaid : Prop := Claim7.holds Tryz.pinned (.plain (OpenSpec.upto swapNoneSpec)) swapNoneUptoCard

/-- THE SECOND FORM's CARD OF 'greenwoodlaw13.SwapSame'. -/
def swapSameUptoCard : Claim7 := { stood := { row := swapSameUptoRow, standIns := [], harness := (true, "f83cde138ecc745d72288cd696e033453afcddca51f437a0afe44558e3f58324"), looks := true }, kinds := [], alts := [], laidByText := true, laidKinds := [.data, .data, .handle, .data, .sentinel, .sentinel, .sentinel, .sentinel, .sentinel], laidTests := true, laidLooks := .later }
def SwapSameUptoCardSaid : Prop := Claim7.holds Tryz.pinned (.plain (OpenSpec.upto swapSameSpec)) swapSameUptoCard
end Rows
end Go.Proofs.YtgadbnbhgpehjaaGreatDoor
