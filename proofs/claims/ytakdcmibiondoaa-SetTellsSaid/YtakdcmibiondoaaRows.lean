/-
  No cell of these rows narrows 'for every input' (looked for: loops, veiled, ifaces, maps, wideKeys, modest, calm, conditions, laid).
  DERIVED. THE GIVEN ROWS OF THIS SEAT. 5 by the template 'for every input the law returns true; each argument reads behind the call as it read before'; 0 by the template 'total and deterministic' (their statements: YtakdcmibiondoaaTotals.lean).
  GIVEN WITH THE SEED: the statements are not yours to turn. If you find one false, say at which input.
  Laid BY PROGRAM, IN A SANDBOX (cutbox-rows.mjs): the forced cells as the released guide's own fill.sh prints them over the translation 0d191256886bea93… (all of the seat's roots in one cut). By AI agents, Wed Nov 11 2026. No macro, syntax, notation, axiom, sorry.
-/
import Derived.Test.YtakdcmibiondoaaChecked
import GoSem.Claim
import GoSem.ClaimJoined
import GoSem.ClaimMapViews
import Derived.JoinedTies
import Derived.KernelRfl
namespace Go.Proofs.Ytakdcmibiondoaa
/- THE CELL 'sum', in the pinned program and in every row, IS THE sha256 OF THE DUMP (.gsa) THAT YtakdcmibiondoaaProg.lean LOADS. Nothing in Lean hashes anything: it is a label: what it is worth is what the hold of that sum in a sandbox is worth. -/
noncomputable def Try.pinned : Pinned := { name := "ytakdcmibiondoaa", sum := "0d191256886bea93bf0c70e78dcc078de35111c933ab0cd8847395b9a570f53e", checked := Try.checked }
namespace Rows
def none {H : Type} : Left H := { results := [], args := [] }

/-- 'greenwoodlaw02.SetTells': WHATEVER THE INPUT: true; the input reads as it did. -/
def setTellsSpec : ChangeSpec := { name := "setTells", fn := fun _ => fun
  | [d1, d2, d3] => { results := [.lit (.bool true)], args := [d1, d2, d3] }
  | _ => none }
def setTellsRow : OpenClaim := { program := "ytakdcmibiondoaa", sum := "0d191256886bea93bf0c70e78dcc078de35111c933ab0cd8847395b9a570f53e", func := "greenwood/greenwoodlaw02.SetTells", spec := "setTells", recurses := true, apart := false }
def SetTellsSaid : Prop := setTellsRow.holds Try.pinned (OpenSpec.ofChange setTellsSpec)

/-- ITS FALSE NEIGHBOUR: 'it returns false'. Refute it at one input. -/
def setTellsWrong : ChangeSpec := { name := "setTells", fn := fun _ => fun
  | [d1, d2, d3] => { results := [.lit (.bool false)], args := [d1, d2, d3] }
  | _ => none }
def SetTellsWrongFalsely : Prop := setTellsRow.holds Try.pinned (OpenSpec.ofChange setTellsWrong)

/-- 'greenwoodlaw02.SetAlgebra': WHATEVER THE INPUT: true; the input reads as it did. -/
def setAlgebraSpec : ChangeSpec := { name := "setAlgebra", fn := fun _ => fun
  | [d1, d2, d3] => { results := [.lit (.bool true)], args := [d1, d2, d3] }
  | _ => none }
def setAlgebraRow : OpenClaim := { program := "ytakdcmibiondoaa", sum := "0d191256886bea93bf0c70e78dcc078de35111c933ab0cd8847395b9a570f53e", func := "greenwood/greenwoodlaw02.SetAlgebra", spec := "setAlgebra", recurses := true, apart := false }
def SetAlgebraSaid : Prop := setAlgebraRow.holds Try.pinned (OpenSpec.ofChange setAlgebraSpec)

/-- ITS FALSE NEIGHBOUR: 'it returns false'. Refute it at one input. -/
def setAlgebraWrong : ChangeSpec := { name := "setAlgebra", fn := fun _ => fun
  | [d1, d2, d3] => { results := [.lit (.bool false)], args := [d1, d2, d3] }
  | _ => none }
def SetAlgebraWrongFalsely : Prop := setAlgebraRow.holds Try.pinned (OpenSpec.ofChange setAlgebraWrong)

/-- 'greenwoodlaw02.SetMembers': WHATEVER THE INPUT: true; the input reads as it did. -/
def setMembersSpec : ChangeSpec := { name := "setMembers", fn := fun _ => fun
  | [d1, d2, d3] => { results := [.lit (.bool true)], args := [d1, d2, d3] }
  | _ => none }
def setMembersRow : OpenClaim := { program := "ytakdcmibiondoaa", sum := "0d191256886bea93bf0c70e78dcc078de35111c933ab0cd8847395b9a570f53e", func := "greenwood/greenwoodlaw02.SetMembers", spec := "setMembers", recurses := true, apart := false }
def SetMembersSaid : Prop := setMembersRow.holds Try.pinned (OpenSpec.ofChange setMembersSpec)

/-- ITS FALSE NEIGHBOUR: 'it returns false'. Refute it at one input. -/
def setMembersWrong : ChangeSpec := { name := "setMembers", fn := fun _ => fun
  | [d1, d2, d3] => { results := [.lit (.bool false)], args := [d1, d2, d3] }
  | _ => none }
def SetMembersWrongFalsely : Prop := setMembersRow.holds Try.pinned (OpenSpec.ofChange setMembersWrong)

/-- 'greenwoodlaw02.SetSorts': WHATEVER THE INPUT: true; the input reads as it did. -/
def setSortsSpec : ChangeSpec := { name := "setSorts", fn := fun _ => fun
  | [d1, d2] => { results := [.lit (.bool true)], args := [d1, d2] }
  | _ => none }
def setSortsRow : OpenClaim := { program := "ytakdcmibiondoaa", sum := "0d191256886bea93bf0c70e78dcc078de35111c933ab0cd8847395b9a570f53e", func := "greenwood/greenwoodlaw02.SetSorts", spec := "setSorts", recurses := true, apart := false }
def SetSortsSaid : Prop := setSortsRow.holds Try.pinned (OpenSpec.ofChange setSortsSpec)

/-- ITS FALSE NEIGHBOUR: 'it returns false'. Refute it at one input. -/
def setSortsWrong : ChangeSpec := { name := "setSorts", fn := fun _ => fun
  | [d1, d2] => { results := [.lit (.bool false)], args := [d1, d2] }
  | _ => none }
def SetSortsWrongFalsely : Prop := setSortsRow.holds Try.pinned (OpenSpec.ofChange setSortsWrong)

/-- 'greenwoodlaw02.SetAll': WHATEVER THE INPUT: true; the input reads as it did. -/
def setAllSpec : ChangeSpec := { name := "setAll", fn := fun _ => fun
  | [d1, d2] => { results := [.lit (.bool true)], args := [d1, d2] }
  | _ => none }
def setAllRow : OpenClaim := { program := "ytakdcmibiondoaa", sum := "0d191256886bea93bf0c70e78dcc078de35111c933ab0cd8847395b9a570f53e", func := "greenwood/greenwoodlaw02.SetAll", spec := "setAll", recurses := true, apart := false }
def SetAllSaid : Prop := setAllRow.holds Try.pinned (OpenSpec.ofChange setAllSpec)

/-- ITS FALSE NEIGHBOUR: 'it returns false'. Refute it at one input. -/
def setAllWrong : ChangeSpec := { name := "setAll", fn := fun _ => fun
  | [d1, d2] => { results := [.lit (.bool false)], args := [d1, d2] }
  | _ => none }
def SetAllWrongFalsely : Prop := setAllRow.holds Try.pinned (OpenSpec.ofChange setAllWrong)

/- THE SECOND FORM. 'bulk': how many values and letters a reading holds, each counted each time it is reached (what is shared counts as often as it is met; a slice's spare places count too). A statement '..UptoSaid' is the law's where the arguments, and the package variables that the reading takes, are together of bulk at most 1048576: NARROWER than '..Said'. Prove '..Said' where nothing that the law and all that it calls make is longer than what came in: it says more and counts as full. Else prove '..UptoSaid'. A law counts once. -/
mutual
def uptoBulk {H : Type} : DataW H → Nat
  | .lit (.string bytes) => bytes.length + 1
  | .lit _ => 1
  | .nil => 1
  | .ptr d => uptoBulk d + 1
  | .slice elems spare => uptoBulkAll elems + uptoBulkAll spare + 1
  | .agg parts => uptoBulkAll parts + 1
  | .iface _ d => uptoBulk d + 1
  | .map entries => uptoBulkEntries entries + 1
  | .held _ => 1
def uptoBulkAll {H : Type} : List (DataW H) → Nat
  | [] => 0
  | d :: r => uptoBulk d + uptoBulkAll r
def uptoBulkEntries {H : Type} : List (Lit × DataW H) → Nat
  | [] => 0
  | x :: r => uptoBulkEntry x + uptoBulkEntries r
def uptoBulkEntry {H : Type} : Lit × DataW H → Nat
  | (.string bytes, d) => bytes.length + uptoBulk d + 1
  | (_, d) => uptoBulk d + 1
 end
def uptoSmall : (H : Type) → List (DataW H) → Bool := fun _ ds => decide (uptoBulkAll ds ≤ 1048576)
def OpenSpec.upto (s : _root_.Go.ChangeSpec) : _root_.Go.OpenSpec := { _root_.Go.OpenSpec.ofChange s with cond := some uptoSmall }

/-- 'greenwoodlaw02.SetTells', WHERE WHAT IT READS IS OF BULK AT MOST 1048576: true; the input reads as it did. -/
def setTellsUptoRow : OpenClaim := { program := "ytakdcmibiondoaa", sum := "0d191256886bea93bf0c70e78dcc078de35111c933ab0cd8847395b9a570f53e", func := "greenwood/greenwoodlaw02.SetTells", spec := "setTells", recurses := true, apart := false, narrowed := true }
def SetTellsUptoSaid : Prop := setTellsUptoRow.holds Try.pinned (OpenSpec.upto setTellsSpec)

/-- 'greenwoodlaw02.SetAlgebra', WHERE WHAT IT READS IS OF BULK AT MOST 1048576: true; the input reads as it did. -/
def setAlgebraUptoRow : OpenClaim := { program := "ytakdcmibiondoaa", sum := "0d191256886bea93bf0c70e78dcc078de35111c933ab0cd8847395b9a570f53e", func := "greenwood/greenwoodlaw02.SetAlgebra", spec := "setAlgebra", recurses := true, apart := false, narrowed := true }
def SetAlgebraUptoSaid : Prop := setAlgebraUptoRow.holds Try.pinned (OpenSpec.upto setAlgebraSpec)

/-- 'greenwoodlaw02.SetMembers', WHERE WHAT IT READS IS OF BULK AT MOST 1048576: true; the input reads as it did. -/
def setMembersUptoRow : OpenClaim := { program := "ytakdcmibiondoaa", sum := "0d191256886bea93bf0c70e78dcc078de35111c933ab0cd8847395b9a570f53e", func := "greenwood/greenwoodlaw02.SetMembers", spec := "setMembers", recurses := true, apart := false, narrowed := true }
def SetMembersUptoSaid : Prop := setMembersUptoRow.holds Try.pinned (OpenSpec.upto setMembersSpec)

/-- 'greenwoodlaw02.SetSorts', WHERE WHAT IT READS IS OF BULK AT MOST 1048576: true; the input reads as it did. -/
def setSortsUptoRow : OpenClaim := { program := "ytakdcmibiondoaa", sum := "0d191256886bea93bf0c70e78dcc078de35111c933ab0cd8847395b9a570f53e", func := "greenwood/greenwoodlaw02.SetSorts", spec := "setSorts", recurses := true, apart := false, narrowed := true }
def SetSortsUptoSaid : Prop := setSortsUptoRow.holds Try.pinned (OpenSpec.upto setSortsSpec)

/-- 'greenwoodlaw02.SetAll', WHERE WHAT IT READS IS OF BULK AT MOST 1048576: true; the input reads as it did. -/
def setAllUptoRow : OpenClaim := { program := "ytakdcmibiondoaa", sum := "0d191256886bea93bf0c70e78dcc078de35111c933ab0cd8847395b9a570f53e", func := "greenwood/greenwoodlaw02.SetAll", spec := "setAll", recurses := true, apart := false, narrowed := true }
def SetAllUptoSaid : Prop := setAllUptoRow.holds Try.pinned (OpenSpec.upto setAllSpec)

end Rows
end Go.Proofs.Ytakdcmibiondoaa
