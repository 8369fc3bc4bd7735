/-
  DERIVED. GIVEN WITH THE SEED: THE CARDS: each row of YtmnhpccdhefddaaDoorRows.lean that lists a variable, with what it lists TIED to the program's text (the seventh form; the later family's looks); each row that meets fmt, with fmt's text TOLD by the authors' own Lean function (tested against real Go, not proved from fmt's source: count such statements apart). THE CARD IS WHAT COUNTS. Prove the row's statement (the work); the ties are given (YtmnhpccdhefddaaDoorTie.lean); close each card by the builder's one call (the guide's Derived/Test/ToyasCard.lean, 'card_holds'). Laid BY PROGRAM, IN A SANDBOX (cutbox-door.mjs). By AI agents, Wed Nov 11 2026. No macro, syntax, notation, axiom, sorry.
-/
import Derived.Test.YtmnhpccdhefddaaDoorRows
import GoSem.ClaimSeven
namespace Go.Proofs.YtmnhpccdhefddaaDoor
namespace Rows

/-- THE TIED CARD OF 'greenwoodlaw05.ElimTells'. -/
def elimTellsCard : Claim7 := { stood := { row := elimTellsRow, standIns := [], harness := (true, "23a4716494403bdf1b8bb956d91accea4fca206a2e484468e017e077da4cb9b1"), looks := false }, kinds := [], alts := [], laidByText := true, laidKinds := [.data, .data], laidTests := true, laidLooks := .later }
def ElimTellsCardSaid : Prop := Claim7.holds Tryd.pinned (.plain (OpenSpec.ofChange elimTellsSpec)) elimTellsCard

/-- THE TIED CARD OF 'greenwoodlaw05.ElimCombines'. -/
def elimCombinesCard : Claim7 := { stood := { row := elimCombinesRow, standIns := [], harness := (true, "23a4716494403bdf1b8bb956d91accea4fca206a2e484468e017e077da4cb9b1"), looks := false }, kinds := [], alts := [], laidByText := true, laidKinds := [.data, .data], laidTests := true, laidLooks := .later }
def ElimCombinesCardSaid : Prop := Claim7.holds Tryd.pinned (.plain (OpenSpec.ofChange elimCombinesSpec)) elimCombinesCard

/-- THE TIED CARD OF 'greenwoodlaw05.ElimRank'. -/
def elimRankCard : Claim7 := { stood := { row := elimRankRow, standIns := [], harness := (true, "23a4716494403bdf1b8bb956d91accea4fca206a2e484468e017e077da4cb9b1"), looks := false }, kinds := [], alts := [], laidByText := true, laidKinds := [.data, .data], laidTests := true, laidLooks := .later }
def ElimRankCardSaid : Prop := Claim7.holds Tryd.pinned (.plain (OpenSpec.ofChange elimRankSpec)) elimRankCard

/-- THE TIED CARD OF 'greenwoodlaw05.ElimUnits'. -/
def elimUnitsCard : Claim7 := { stood := { row := elimUnitsRow, standIns := [], harness := (true, "23a4716494403bdf1b8bb956d91accea4fca206a2e484468e017e077da4cb9b1"), looks := false }, kinds := [], alts := [], laidByText := true, laidKinds := [.data, .data], laidTests := true, laidLooks := .later }
def ElimUnitsCardSaid : Prop := Claim7.holds Tryd.pinned (.plain (OpenSpec.ofChange elimUnitsSpec)) elimUnitsCard

/-- THE TIED CARD OF 'greenwoodlaw05.ElimTwice'. -/
def elimTwiceCard : Claim7 := { stood := { row := elimTwiceRow, standIns := [], harness := (true, "23a4716494403bdf1b8bb956d91accea4fca206a2e484468e017e077da4cb9b1"), looks := false }, kinds := [], alts := [], laidByText := true, laidKinds := [.data, .data], laidTests := true, laidLooks := .later }
def ElimTwiceCardSaid : Prop := Claim7.holds Tryd.pinned (.plain (OpenSpec.ofChange elimTwiceSpec)) elimTwiceCard

/-- THE SECOND FORM's CARD OF 'greenwoodlaw05.ElimTells'. -/
def elimTellsUptoCard : Claim7 := { stood := { row := elimTellsUptoRow, standIns := [], harness := (true, "23a4716494403bdf1b8bb956d91accea4fca206a2e484468e017e077da4cb9b1"), looks := false }, kinds := [], alts := [], laidByText := true, laidKinds := [.data, .data], laidTests := true, laidLooks := .later }
def ElimTellsUptoCardSaid : Prop := Claim7.holds Tryd.pinned (.plain (OpenSpec.upto elimTellsSpec)) elimTellsUptoCard

/-- THE SECOND FORM's CARD OF 'greenwoodlaw05.ElimCombines'. -/
def elimCombinesUptoCard : Claim7 := { stood := { row := elimCombinesUptoRow, standIns := [], harness := (true, "23a4716494403bdf1b8bb956d91accea4fca206a2e484468e017e077da4cb9b1"), looks := false }, kinds := [], alts := [], laidByText := true, laidKinds := [.data, .data], laidTests := true, laidLooks := .later }
def ElimCombinesUptoCardSaid : Prop := Claim7.holds Tryd.pinned (.plain (OpenSpec.upto elimCombinesSpec)) elimCombinesUptoCard

/-- THE SECOND FORM's CARD OF 'greenwoodlaw05.ElimRank'. -/
def elimRankUptoCard : Claim7 := { stood := { row := elimRankUptoRow, standIns := [], harness := (true, "23a4716494403bdf1b8bb956d91accea4fca206a2e484468e017e077da4cb9b1"), looks := false }, kinds := [], alts := [], laidByText := true, laidKinds := [.data, .data], laidTests := true, laidLooks := .later }
def ElimRankUptoCardSaid : Prop := Claim7.holds Tryd.pinned (.plain (OpenSpec.upto elimRankSpec)) elimRankUptoCard

/-- THE SECOND FORM's CARD OF 'greenwoodlaw05.ElimUnits'. -/
def elimUnitsUptoCard : Claim7 := { stood := { row := elimUnitsUptoRow, standIns := [], harness := (true, "23a4716494403bdf1b8bb956d91accea4fca206a2e484468e017e077da4cb9b1"), looks := false }, kinds := [], alts := [], laidByText := true, laidKinds := [.data, .data], laidTests := true, laidLooks := .later }
def ElimUnitsUptoCardSaid : Prop := Claim7.holds Tryd.pinned (.plain (OpenSpec.upto elimUnitsSpec)) elimUnitsUptoCard

/-- THE SECOND FORM's CARD OF 'greenwoodlaw05.ElimTwice'. -/
def elimTwiceUptoCard : Claim7 := { stood := { row := elimTwiceUptoRow, standIns := [], harness := (true, "23a4716494403bdf1b8bb956d91accea4fca206a2e484468e017e077da4cb9b1"), looks := false }, kinds := [], alts := [], laidByText := true, laidKinds := [.data, .data], laidTests := true, laidLooks := .later }
def ElimTwiceUptoCardSaid : Prop := Claim7.holds Tryd.pinned (.plain (OpenSpec.upto elimTwiceSpec)) elimTwiceUptoCard
end Rows
end Go.Proofs.YtmnhpccdhefddaaDoor
