/-
  DERIVED. GIVEN WITH THE SEED: THE CARDS: each row of YtcfaomadhnbjkaaDoorRows.lean that lists a variable, with what it lists TIED to the program's text (the seventh form; the later family's looks); each row that meets fmt, with fmt's text TOLD by the authors' own Lean function (tested against real Go, not proved from fmt's source: count such statements apart). THE CARD IS WHAT COUNTS. Prove the row's statement (the work); the ties are given (YtcfaomadhnbjkaaDoorTie.lean); close each card by the builder's one call (the guide's Derived/Test/ToyasCard.lean, 'card_holds'). Laid BY PROGRAM, IN A SANDBOX (cutbox-door.mjs). By AI agents, Wed Nov 11 2026. No macro, syntax, notation, axiom, sorry.
-/
import Derived.Test.YtcfaomadhnbjkaaDoorRows
import GoSem.ClaimSeven
namespace Go.Proofs.YtcfaomadhnbjkaaDoor
namespace Rows

/-- THE TIED CARD OF 'greenwoodlaw04.ModpTells'. -/
def modpTellsCard : Claim7 := { stood := { row := modpTellsRow, standIns := [], harness := (true, "496e33a203aa597c52634adb891d72020c590e8938d0e0ae982a12ebd8de9a6d"), looks := false }, kinds := [], alts := [], laidByText := true, laidKinds := [.data, .data], laidTests := true, laidLooks := .later }
def ModpTellsCardSaid : Prop := Claim7.holds Tryd.pinned (.plain (OpenSpec.ofChange modpTellsSpec)) modpTellsCard

/-- THE TIED CARD OF 'greenwoodlaw04.ModpInverts'. -/
def modpInvertsCard : Claim7 := { stood := { row := modpInvertsRow, standIns := [], harness := (true, "496e33a203aa597c52634adb891d72020c590e8938d0e0ae982a12ebd8de9a6d"), looks := false }, kinds := [], alts := [], laidByText := true, laidKinds := [.data, .data], laidTests := true, laidLooks := .later }
def ModpInvertsCardSaid : Prop := Claim7.holds Tryd.pinned (.plain (OpenSpec.ofChange modpInvertsSpec)) modpInvertsCard

/-- THE TIED CARD OF 'greenwoodlaw04.ModpPowers'. -/
def modpPowersCard : Claim7 := { stood := { row := modpPowersRow, standIns := [], harness := (true, "496e33a203aa597c52634adb891d72020c590e8938d0e0ae982a12ebd8de9a6d"), looks := false }, kinds := [], alts := [], laidByText := true, laidKinds := [.data, .data], laidTests := true, laidLooks := .later }
def ModpPowersCardSaid : Prop := Claim7.holds Tryd.pinned (.plain (OpenSpec.ofChange modpPowersSpec)) modpPowersCard

/-- THE TIED CARD OF 'greenwoodlaw04.ModpLinear'. -/
def modpLinearCard : Claim7 := { stood := { row := modpLinearRow, standIns := [], harness := (true, "496e33a203aa597c52634adb891d72020c590e8938d0e0ae982a12ebd8de9a6d"), looks := false }, kinds := [], alts := [], laidByText := true, laidKinds := [.data, .data], laidTests := true, laidLooks := .later }
def ModpLinearCardSaid : Prop := Claim7.holds Tryd.pinned (.plain (OpenSpec.ofChange modpLinearSpec)) modpLinearCard

/-- THE TIED CARD OF 'greenwoodlaw04.ModpPrimes'. -/
def modpPrimesCard : Claim7 := { stood := { row := modpPrimesRow, standIns := [], harness := (true, "496e33a203aa597c52634adb891d72020c590e8938d0e0ae982a12ebd8de9a6d"), looks := false }, kinds := [], alts := [], laidByText := true, laidKinds := [.data, .data], laidTests := true, laidLooks := .later }
def ModpPrimesCardSaid : Prop := Claim7.holds Tryd.pinned (.plain (OpenSpec.ofChange modpPrimesSpec)) modpPrimesCard

/-- THE SECOND FORM's CARD OF 'greenwoodlaw04.ModpTells'. -/
def modpTellsUptoCard : Claim7 := { stood := { row := modpTellsUptoRow, standIns := [], harness := (true, "496e33a203aa597c52634adb891d72020c590e8938d0e0ae982a12ebd8de9a6d"), looks := false }, kinds := [], alts := [], laidByText := true, laidKinds := [.data, .data], laidTests := true, laidLooks := .later }
def ModpTellsUptoCardSaid : Prop := Claim7.holds Tryd.pinned (.plain (OpenSpec.upto modpTellsSpec)) modpTellsUptoCard

/-- THE SECOND FORM's CARD OF 'greenwoodlaw04.ModpInverts'. -/
def modpInvertsUptoCard : Claim7 := { stood := { row := modpInvertsUptoRow, standIns := [], harness := (true, "496e33a203aa597c52634adb891d72020c590e8938d0e0ae982a12ebd8de9a6d"), looks := false }, kinds := [], alts := [], laidByText := true, laidKinds := [.data, .data], laidTests := true, laidLooks := .later }
def ModpInvertsUptoCardSaid : Prop := Claim7.holds Tryd.pinned (.plain (OpenSpec.upto modpInvertsSpec)) modpInvertsUptoCard

/-- THE SECOND FORM's CARD OF 'greenwoodlaw04.ModpPowers'. -/
def modpPowersUptoCard : Claim7 := { stood := { row := modpPowersUptoRow, standIns := [], harness := (true, "496e33a203aa597c52634adb891d72020c590e8938d0e0ae982a12ebd8de9a6d"), looks := false }, kinds := [], alts := [], laidByText := true, laidKinds := [.data, .data], laidTests := true, laidLooks := .later }
def ModpPowersUptoCardSaid : Prop := Claim7.holds Tryd.pinned (.plain (OpenSpec.upto modpPowersSpec)) modpPowersUptoCard

/-- THE SECOND FORM's CARD OF 'greenwoodlaw04.ModpLinear'. -/
def modpLinearUptoCard : Claim7 := { stood := { row := modpLinearUptoRow, standIns := [], harness := (true, "496e33a203aa597c52634adb891d72020c590e8938d0e0ae982a12ebd8de9a6d"), looks := false }, kinds := [], alts := [], laidByText := true, laidKinds := [.data, .data], laidTests := true, laidLooks := .later }
def ModpLinearUptoCardSaid : Prop := Claim7.holds Tryd.pinned (.plain (OpenSpec.upto modpLinearSpec)) modpLinearUptoCard

/-- THE SECOND FORM's CARD OF 'greenwoodlaw04.ModpPrimes'. -/
def modpPrimesUptoCard : Claim7 := { stood := { row := modpPrimesUptoRow, standIns := [], harness := (true, "496e33a203aa597c52634adb891d72020c590e8938d0e0ae982a12ebd8de9a6d"), looks := false }, kinds := [], alts := [], laidByText := true, laidKinds := [.data, .data], laidTests := true, laidLooks := .later }
def ModpPrimesUptoCardSaid : Prop := Claim7.holds Tryd.pinned (.plain (OpenSpec.upto modpPrimesSpec)) modpPrimesUptoCard
end Rows
end Go.Proofs.YtcfaomadhnbjkaaDoor
