/-
  NARROWER THAN 'FOR EVERY INPUT', by the rows' own cells (each row's printed sentence says how): WireTakes: laid · WireWrites: laid · WireBack: laid · WireOne: laid · WireSigns: laid · WireCut: laid · WireMany: laid.
  DERIVED. THE GIVEN ROWS OF THIS SEAT. 7 by the template 'for every input the law returns true; each argument reads behind the call as it read before'; 0 by the template 'total and deterministic' (their statements: YtcabbhiabhblfaaDoorTotals.lean).
  GIVEN WITH THE SEED: the statements are not yours to turn. If you find one false, say at which input.
  Laid BY PROGRAM, IN A SANDBOX (cutbox-rows.mjs): the forced cells as the released guide's own fill.sh prints them over the translation 03b11fcb0b2d5ea5… (all of the seat's roots in one cut). By AI agents, Wed Nov 11 2026. No macro, syntax, notation, axiom, sorry.
-/
import Derived.Test.YtcabbhiabhblfaaDoorChecked
import GoSem.Claim
import GoSem.ClaimJoined
import GoSem.ClaimMapViews
import Derived.JoinedTies
import Derived.KernelRfl
namespace Go.Proofs.YtcabbhiabhblfaaDoor
/- THE CELL 'sum', in the pinned program and in every row, IS THE sha256 OF THE DUMP (.gsa) THAT YtcabbhiabhblfaaDoorProg.lean LOADS. Nothing in Lean hashes anything: it is a label: what it is worth is what the hold of that sum in a sandbox is worth. -/
noncomputable def Tryd.pinned : Pinned := { name := "ytcabbhiabhblfaadoor", sum := "03b11fcb0b2d5ea513c5567ae8ff15593ba0b25fdde3a2cf06842f857680807e", checked := Tryd.checked }
namespace Rows
def none {H : Type} : Left H := { results := [], args := [] }

/- WHAT THE LISTED PACKAGE-LEVEL VARIABLES READ AS WHEN THE CALL BEGINS. Each datum BY PROGRAM (the guide's laid-datum.mjs) off the statement by which the dump's own 'gosem.cut.vars' lays the variable. In a bare row this is a premise. The card (YtcabbhiabhblfaaDoorCards.lean) ties it to the program's text. -/
def laid_errors_errorType {H : Type} : DataW H := .iface "internal/reflectlite.rtype" (.agg [.ptr (.lit (.string [101, 114, 114, 111, 114]))])
def laid_greenwood_wire_errCut {H : Type} : DataW H := .iface "*errors.errorString" (.ptr (.agg [.lit (.string [116, 104, 101, 32, 98, 121, 116, 101, 115, 32, 101, 110, 100, 32, 119, 105, 116, 104, 105, 110, 32, 97, 32, 110, 117, 109, 98, 101, 114])]))
def laid_greenwood_wire_errLong {H : Type} : DataW H := .iface "*errors.errorString" (.ptr (.agg [.lit (.string [97, 32, 110, 117, 109, 98, 101, 114, 32, 105, 115, 32, 119, 114, 105, 116, 116, 101, 110, 32, 116, 111, 111, 32, 108, 111, 110, 103, 44, 32, 111, 114, 32, 105, 115, 32, 116, 111, 111, 32, 103, 114, 101, 97, 116])]))
def laid_greenwood_wire_errMany {H : Type} : DataW H := .iface "*errors.errorString" (.ptr (.agg [.lit (.string [97, 32, 108, 105, 115, 116, 32, 104, 97, 115, 32, 116, 111, 111, 32, 109, 97, 110, 121, 32, 110, 117, 109, 98, 101, 114, 115])]))
def laid_greenwood_wire_errLeft {H : Type} : DataW H := .iface "*errors.errorString" (.ptr (.agg [.lit (.string [98, 121, 116, 101, 115, 32, 97, 114, 101, 32, 108, 101, 102, 116])]))

/-- 'greenwoodlaw01.WireTakes': WHATEVER THE INPUT: true; the input reads as it did. -/
def wireTakesSpec : ChangeSpec := { name := "wireTakes", fn := fun _ => fun
  | [d1, d2, d3] => { results := [.lit (.bool true)], args := [d1, d2, d3] }
  | _ => none }
def wireTakesRow : OpenClaim := { program := "ytcabbhiabhblfaadoor", sum := "03b11fcb0b2d5ea513c5567ae8ff15593ba0b25fdde3a2cf06842f857680807e", func := "greenwood/greenwoodlaw01.WireTakes", spec := "wireTakes", inPlace := ["internal/abi.NoEscape", "internal/reflectlite.ValueOf", "(internal/reflectlite.Value).Type", "(internal/reflectlite.Value).IsNil", "internal/reflectlite.TypeOf", "(internal/reflectlite.Value).Elem", "(internal/reflectlite.Value).Set"], unfollowed := true, recurses := true, named := ["greenwood/wire.errCut", "greenwood/wire.errLong", "greenwood/wire.errMany", "greenwood/wire.errLeft", "errors.errorType"], apart := false, laid := [("errors.errorType", laid_errors_errorType), ("greenwood/wire.errCut", laid_greenwood_wire_errCut), ("greenwood/wire.errLong", laid_greenwood_wire_errLong), ("greenwood/wire.errMany", laid_greenwood_wire_errMany), ("greenwood/wire.errLeft", laid_greenwood_wire_errLeft)] }
def WireTakesSaid : Prop := wireTakesRow.holds Tryd.pinned (OpenSpec.ofChange wireTakesSpec)

/-- ITS FALSE NEIGHBOUR: 'it returns false'. Refute it at one input. -/
def wireTakesWrong : ChangeSpec := { name := "wireTakes", fn := fun _ => fun
  | [d1, d2, d3] => { results := [.lit (.bool false)], args := [d1, d2, d3] }
  | _ => none }
def WireTakesWrongFalsely : Prop := wireTakesRow.holds Tryd.pinned (OpenSpec.ofChange wireTakesWrong)

/-- 'greenwoodlaw01.WireWrites': WHATEVER THE INPUT: true; the input reads as it did. -/
def wireWritesSpec : ChangeSpec := { name := "wireWrites", fn := fun _ => fun
  | [d1, d2] => { results := [.lit (.bool true)], args := [d1, d2] }
  | _ => none }
def wireWritesRow : OpenClaim := { program := "ytcabbhiabhblfaadoor", sum := "03b11fcb0b2d5ea513c5567ae8ff15593ba0b25fdde3a2cf06842f857680807e", func := "greenwood/greenwoodlaw01.WireWrites", spec := "wireWrites", inPlace := ["internal/abi.NoEscape", "internal/reflectlite.ValueOf", "(internal/reflectlite.Value).Type", "(internal/reflectlite.Value).IsNil", "internal/reflectlite.TypeOf", "(internal/reflectlite.Value).Elem", "(internal/reflectlite.Value).Set"], unfollowed := true, recurses := true, named := ["greenwood/wire.errCut", "greenwood/wire.errLong", "greenwood/wire.errMany", "greenwood/wire.errLeft", "errors.errorType"], apart := false, laid := [("errors.errorType", laid_errors_errorType), ("greenwood/wire.errCut", laid_greenwood_wire_errCut), ("greenwood/wire.errLong", laid_greenwood_wire_errLong), ("greenwood/wire.errMany", laid_greenwood_wire_errMany), ("greenwood/wire.errLeft", laid_greenwood_wire_errLeft)] }
def WireWritesSaid : Prop := wireWritesRow.holds Tryd.pinned (OpenSpec.ofChange wireWritesSpec)

/-- ITS FALSE NEIGHBOUR: 'it returns false'. Refute it at one input. -/
def wireWritesWrong : ChangeSpec := { name := "wireWrites", fn := fun _ => fun
  | [d1, d2] => { results := [.lit (.bool false)], args := [d1, d2] }
  | _ => none }
def WireWritesWrongFalsely : Prop := wireWritesRow.holds Tryd.pinned (OpenSpec.ofChange wireWritesWrong)

/-- 'greenwoodlaw01.WireBack': WHATEVER THE INPUT: true; the input reads as it did. -/
def wireBackSpec : ChangeSpec := { name := "wireBack", fn := fun _ => fun
  | [d1, d2] => { results := [.lit (.bool true)], args := [d1, d2] }
  | _ => none }
def wireBackRow : OpenClaim := { program := "ytcabbhiabhblfaadoor", sum := "03b11fcb0b2d5ea513c5567ae8ff15593ba0b25fdde3a2cf06842f857680807e", func := "greenwood/greenwoodlaw01.WireBack", spec := "wireBack", inPlace := ["internal/abi.NoEscape", "internal/reflectlite.ValueOf", "(internal/reflectlite.Value).Type", "(internal/reflectlite.Value).IsNil", "internal/reflectlite.TypeOf", "(internal/reflectlite.Value).Elem", "(internal/reflectlite.Value).Set"], unfollowed := true, recurses := true, named := ["greenwood/wire.errCut", "greenwood/wire.errLong", "greenwood/wire.errMany", "greenwood/wire.errLeft", "errors.errorType"], apart := false, laid := [("errors.errorType", laid_errors_errorType), ("greenwood/wire.errCut", laid_greenwood_wire_errCut), ("greenwood/wire.errLong", laid_greenwood_wire_errLong), ("greenwood/wire.errMany", laid_greenwood_wire_errMany), ("greenwood/wire.errLeft", laid_greenwood_wire_errLeft)] }
def WireBackSaid : Prop := wireBackRow.holds Tryd.pinned (OpenSpec.ofChange wireBackSpec)

/-- ITS FALSE NEIGHBOUR: 'it returns false'. Refute it at one input. -/
def wireBackWrong : ChangeSpec := { name := "wireBack", fn := fun _ => fun
  | [d1, d2] => { results := [.lit (.bool false)], args := [d1, d2] }
  | _ => none }
def WireBackWrongFalsely : Prop := wireBackRow.holds Tryd.pinned (OpenSpec.ofChange wireBackWrong)

/-- 'greenwoodlaw01.WireOne': WHATEVER THE INPUT: true; the input reads as it did. -/
def wireOneSpec : ChangeSpec := { name := "wireOne", fn := fun _ => fun
  | [d1, d2, d3] => { results := [.lit (.bool true)], args := [d1, d2, d3] }
  | _ => none }
def wireOneRow : OpenClaim := { program := "ytcabbhiabhblfaadoor", sum := "03b11fcb0b2d5ea513c5567ae8ff15593ba0b25fdde3a2cf06842f857680807e", func := "greenwood/greenwoodlaw01.WireOne", spec := "wireOne", inPlace := ["internal/abi.NoEscape", "internal/reflectlite.ValueOf", "(internal/reflectlite.Value).Type", "(internal/reflectlite.Value).IsNil", "internal/reflectlite.TypeOf", "(internal/reflectlite.Value).Elem", "(internal/reflectlite.Value).Set"], unfollowed := true, recurses := true, named := ["greenwood/wire.errCut", "greenwood/wire.errLong", "greenwood/wire.errMany", "greenwood/wire.errLeft", "errors.errorType"], apart := false, laid := [("errors.errorType", laid_errors_errorType), ("greenwood/wire.errCut", laid_greenwood_wire_errCut), ("greenwood/wire.errLong", laid_greenwood_wire_errLong), ("greenwood/wire.errMany", laid_greenwood_wire_errMany), ("greenwood/wire.errLeft", laid_greenwood_wire_errLeft)] }
def WireOneSaid : Prop := wireOneRow.holds Tryd.pinned (OpenSpec.ofChange wireOneSpec)

/-- ITS FALSE NEIGHBOUR: 'it returns false'. Refute it at one input. -/
def wireOneWrong : ChangeSpec := { name := "wireOne", fn := fun _ => fun
  | [d1, d2, d3] => { results := [.lit (.bool false)], args := [d1, d2, d3] }
  | _ => none }
def WireOneWrongFalsely : Prop := wireOneRow.holds Tryd.pinned (OpenSpec.ofChange wireOneWrong)

/-- 'greenwoodlaw01.WireSigns': WHATEVER THE INPUT: true; the input reads as it did. -/
def wireSignsSpec : ChangeSpec := { name := "wireSigns", fn := fun _ => fun
  | [d1, d2] => { results := [.lit (.bool true)], args := [d1, d2] }
  | _ => none }
def wireSignsRow : OpenClaim := { program := "ytcabbhiabhblfaadoor", sum := "03b11fcb0b2d5ea513c5567ae8ff15593ba0b25fdde3a2cf06842f857680807e", func := "greenwood/greenwoodlaw01.WireSigns", spec := "wireSigns", inPlace := ["internal/abi.NoEscape", "internal/reflectlite.ValueOf", "(internal/reflectlite.Value).Type", "(internal/reflectlite.Value).IsNil", "internal/reflectlite.TypeOf", "(internal/reflectlite.Value).Elem", "(internal/reflectlite.Value).Set"], unfollowed := true, recurses := true, named := ["greenwood/wire.errCut", "greenwood/wire.errLong", "greenwood/wire.errMany", "greenwood/wire.errLeft", "errors.errorType"], apart := false, laid := [("errors.errorType", laid_errors_errorType), ("greenwood/wire.errCut", laid_greenwood_wire_errCut), ("greenwood/wire.errLong", laid_greenwood_wire_errLong), ("greenwood/wire.errMany", laid_greenwood_wire_errMany), ("greenwood/wire.errLeft", laid_greenwood_wire_errLeft)] }
def WireSignsSaid : Prop := wireSignsRow.holds Tryd.pinned (OpenSpec.ofChange wireSignsSpec)

/-- ITS FALSE NEIGHBOUR: 'it returns false'. Refute it at one input. -/
def wireSignsWrong : ChangeSpec := { name := "wireSigns", fn := fun _ => fun
  | [d1, d2] => { results := [.lit (.bool false)], args := [d1, d2] }
  | _ => none }
def WireSignsWrongFalsely : Prop := wireSignsRow.holds Tryd.pinned (OpenSpec.ofChange wireSignsWrong)

/-- 'greenwoodlaw01.WireCut': WHATEVER THE INPUT: true; the input reads as it did. -/
def wireCutSpec : ChangeSpec := { name := "wireCut", fn := fun _ => fun
  | [d1, d2] => { results := [.lit (.bool true)], args := [d1, d2] }
  | _ => none }
def wireCutRow : OpenClaim := { program := "ytcabbhiabhblfaadoor", sum := "03b11fcb0b2d5ea513c5567ae8ff15593ba0b25fdde3a2cf06842f857680807e", func := "greenwood/greenwoodlaw01.WireCut", spec := "wireCut", inPlace := ["internal/abi.NoEscape", "internal/reflectlite.ValueOf", "(internal/reflectlite.Value).Type", "(internal/reflectlite.Value).IsNil", "internal/reflectlite.TypeOf", "(internal/reflectlite.Value).Elem", "(internal/reflectlite.Value).Set"], unfollowed := true, recurses := true, named := ["greenwood/wire.errCut", "greenwood/wire.errLong", "greenwood/wire.errMany", "greenwood/wire.errLeft", "errors.errorType"], apart := false, laid := [("errors.errorType", laid_errors_errorType), ("greenwood/wire.errCut", laid_greenwood_wire_errCut), ("greenwood/wire.errLong", laid_greenwood_wire_errLong), ("greenwood/wire.errMany", laid_greenwood_wire_errMany), ("greenwood/wire.errLeft", laid_greenwood_wire_errLeft)] }
def WireCutSaid : Prop := wireCutRow.holds Tryd.pinned (OpenSpec.ofChange wireCutSpec)

/-- ITS FALSE NEIGHBOUR: 'it returns false'. Refute it at one input. -/
def wireCutWrong : ChangeSpec := { name := "wireCut", fn := fun _ => fun
  | [d1, d2] => { results := [.lit (.bool false)], args := [d1, d2] }
  | _ => none }
def WireCutWrongFalsely : Prop := wireCutRow.holds Tryd.pinned (OpenSpec.ofChange wireCutWrong)

/-- 'greenwoodlaw01.WireMany': WHATEVER THE INPUT: true; the input reads as it did. -/
def wireManySpec : ChangeSpec := { name := "wireMany", fn := fun _ => fun
  | [d1, d2] => { results := [.lit (.bool true)], args := [d1, d2] }
  | _ => none }
def wireManyRow : OpenClaim := { program := "ytcabbhiabhblfaadoor", sum := "03b11fcb0b2d5ea513c5567ae8ff15593ba0b25fdde3a2cf06842f857680807e", func := "greenwood/greenwoodlaw01.WireMany", spec := "wireMany", inPlace := ["internal/abi.NoEscape", "internal/reflectlite.ValueOf", "(internal/reflectlite.Value).Type", "(internal/reflectlite.Value).IsNil", "internal/reflectlite.TypeOf", "(internal/reflectlite.Value).Elem", "(internal/reflectlite.Value).Set"], unfollowed := true, recurses := true, named := ["greenwood/wire.errCut", "greenwood/wire.errLong", "greenwood/wire.errMany", "greenwood/wire.errLeft", "errors.errorType"], apart := false, laid := [("errors.errorType", laid_errors_errorType), ("greenwood/wire.errCut", laid_greenwood_wire_errCut), ("greenwood/wire.errLong", laid_greenwood_wire_errLong), ("greenwood/wire.errMany", laid_greenwood_wire_errMany), ("greenwood/wire.errLeft", laid_greenwood_wire_errLeft)] }
def WireManySaid : Prop := wireManyRow.holds Tryd.pinned (OpenSpec.ofChange wireManySpec)

/-- ITS FALSE NEIGHBOUR: 'it returns false'. Refute it at one input. -/
def wireManyWrong : ChangeSpec := { name := "wireMany", fn := fun _ => fun
  | [d1, d2] => { results := [.lit (.bool false)], args := [d1, d2] }
  | _ => none }
def WireManyWrongFalsely : Prop := wireManyRow.holds Tryd.pinned (OpenSpec.ofChange wireManyWrong)

/- THE SECOND FORM. 'bulk': how many values and letters a reading holds, each counted each time it is reached (what is shared counts as often as it is met; a slice's spare places count too). A statement '..UptoSaid' is the law's where the arguments, and the package variables that the reading takes, are together of bulk at most 1048576: NARROWER than '..Said'. Prove '..Said' where nothing that the law and all that it calls make is longer than what came in: it says more and counts as full. Else prove '..UptoSaid'. A law counts once. -/
mutual
def uptoBulk {H : Type} : DataW H → Nat
  | .lit (.string bytes) => bytes.length + 1
  | .lit _ => 1
  | .nil => 1
  | .ptr d => uptoBulk d + 1
  | .slice elems spare => uptoBulkAll elems + uptoBulkAll spare + 1
  | .agg parts => uptoBulkAll parts + 1
  | .iface _ d => uptoBulk d + 1
  | .map entries => uptoBulkEntries entries + 1
  | .held _ => 1
def uptoBulkAll {H : Type} : List (DataW H) → Nat
  | [] => 0
  | d :: r => uptoBulk d + uptoBulkAll r
def uptoBulkEntries {H : Type} : List (Lit × DataW H) → Nat
  | [] => 0
  | x :: r => uptoBulkEntry x + uptoBulkEntries r
def uptoBulkEntry {H : Type} : Lit × DataW H → Nat
  | (.string bytes, d) => bytes.length + uptoBulk d + 1
  | (_, d) => uptoBulk d + 1
 end
def uptoSmall : (H : Type) → List (DataW H) → Bool := fun _ ds => decide (uptoBulkAll ds ≤ 1048576)
def OpenSpec.upto (s : _root_.Go.ChangeSpec) : _root_.Go.OpenSpec := { _root_.Go.OpenSpec.ofChange s with cond := some uptoSmall }

/-- 'greenwoodlaw01.WireTakes', WHERE WHAT IT READS IS OF BULK AT MOST 1048576: true; the input reads as it did. -/
def wireTakesUptoRow : OpenClaim := { program := "ytcabbhiabhblfaadoor", sum := "03b11fcb0b2d5ea513c5567ae8ff15593ba0b25fdde3a2cf06842f857680807e", func := "greenwood/greenwoodlaw01.WireTakes", spec := "wireTakes", inPlace := ["internal/abi.NoEscape", "internal/reflectlite.ValueOf", "(internal/reflectlite.Value).Type", "(internal/reflectlite.Value).IsNil", "internal/reflectlite.TypeOf", "(internal/reflectlite.Value).Elem", "(internal/reflectlite.Value).Set"], unfollowed := true, recurses := true, named := ["greenwood/wire.errCut", "greenwood/wire.errLong", "greenwood/wire.errMany", "greenwood/wire.errLeft", "errors.errorType"], apart := false, laid := [("errors.errorType", laid_errors_errorType), ("greenwood/wire.errCut", laid_greenwood_wire_errCut), ("greenwood/wire.errLong", laid_greenwood_wire_errLong), ("greenwood/wire.errMany", laid_greenwood_wire_errMany), ("greenwood/wire.errLeft", laid_greenwood_wire_errLeft)], narrowed := true }
def WireTakesUptoSaid : Prop := wireTakesUptoRow.holds Tryd.pinned (OpenSpec.upto wireTakesSpec)

/-- 'greenwoodlaw01.WireWrites', WHERE WHAT IT READS IS OF BULK AT MOST 1048576: true; the input reads as it did. -/
def wireWritesUptoRow : OpenClaim := { program := "ytcabbhiabhblfaadoor", sum := "03b11fcb0b2d5ea513c5567ae8ff15593ba0b25fdde3a2cf06842f857680807e", func := "greenwood/greenwoodlaw01.WireWrites", spec := "wireWrites", inPlace := ["internal/abi.NoEscape", "internal/reflectlite.ValueOf", "(internal/reflectlite.Value).Type", "(internal/reflectlite.Value).IsNil", "internal/reflectlite.TypeOf", "(internal/reflectlite.Value).Elem", "(internal/reflectlite.Value).Set"], unfollowed := true, recurses := true, named := ["greenwood/wire.errCut", "greenwood/wire.errLong", "greenwood/wire.errMany", "greenwood/wire.errLeft", "errors.errorType"], apart := false, laid := [("errors.errorType", laid_errors_errorType), ("greenwood/wire.errCut", laid_greenwood_wire_errCut), ("greenwood/wire.errLong", laid_greenwood_wire_errLong), ("greenwood/wire.errMany", laid_greenwood_wire_errMany), ("greenwood/wire.errLeft", laid_greenwood_wire_errLeft)], narrowed := true }
def WireWritesUptoSaid : Prop := wireWritesUptoRow.holds Tryd.pinned (OpenSpec.upto wireWritesSpec)

/-- 'greenwoodlaw01.WireBack', WHERE WHAT IT READS IS OF BULK AT MOST 1048576: true; the input reads as it did. -/
def wireBackUptoRow : OpenClaim := { program := "ytcabbhiabhblfaadoor", sum := "03b11fcb0b2d5ea513c5567ae8ff15593ba0b25fdde3a2cf06842f857680807e", func := "greenwood/greenwoodlaw01.WireBack", spec := "wireBack", inPlace := ["internal/abi.NoEscape", "internal/reflectlite.ValueOf", "(internal/reflectlite.Value).Type", "(internal/reflectlite.Value).IsNil", "internal/reflectlite.TypeOf", "(internal/reflectlite.Value).Elem", "(internal/reflectlite.Value).Set"], unfollowed := true, recurses := true, named := ["greenwood/wire.errCut", "greenwood/wire.errLong", "greenwood/wire.errMany", "greenwood/wire.errLeft", "errors.errorType"], apart := false, laid := [("errors.errorType", laid_errors_errorType), ("greenwood/wire.errCut", laid_greenwood_wire_errCut), ("greenwood/wire.errLong", laid_greenwood_wire_errLong), ("greenwood/wire.errMany", laid_greenwood_wire_errMany), ("greenwood/wire.errLeft", laid_greenwood_wire_errLeft)], narrowed := true }
def WireBackUptoSaid : Prop := wireBackUptoRow.holds Tryd.pinned (OpenSpec.upto wireBackSpec)

/-- 'greenwoodlaw01.WireOne', WHERE WHAT IT READS IS OF BULK AT MOST 1048576: true; the input reads as it did. -/
def wireOneUptoRow : OpenClaim := { program := "ytcabbhiabhblfaadoor", sum := "03b11fcb0b2d5ea513c5567ae8ff15593ba0b25fdde3a2cf06842f857680807e", func := "greenwood/greenwoodlaw01.WireOne", spec := "wireOne", inPlace := ["internal/abi.NoEscape", "internal/reflectlite.ValueOf", "(internal/reflectlite.Value).Type", "(internal/reflectlite.Value).IsNil", "internal/reflectlite.TypeOf", "(internal/reflectlite.Value).Elem", "(internal/reflectlite.Value).Set"], unfollowed := true, recurses := true, named := ["greenwood/wire.errCut", "greenwood/wire.errLong", "greenwood/wire.errMany", "greenwood/wire.errLeft", "errors.errorType"], apart := false, laid := [("errors.errorType", laid_errors_errorType), ("greenwood/wire.errCut", laid_greenwood_wire_errCut), ("greenwood/wire.errLong", laid_greenwood_wire_errLong), ("greenwood/wire.errMany", laid_greenwood_wire_errMany), ("greenwood/wire.errLeft", laid_greenwood_wire_errLeft)], narrowed := true }
def WireOneUptoSaid : Prop := wireOneUptoRow.holds Tryd.pinned (OpenSpec.upto wireOneSpec)

/-- 'greenwoodlaw01.WireSigns', WHERE WHAT IT READS IS OF BULK AT MOST 1048576: true; the input reads as it did. -/
def wireSignsUptoRow : OpenClaim := { program := "ytcabbhiabhblfaadoor", sum := "03b11fcb0b2d5ea513c5567ae8ff15593ba0b25fdde3a2cf06842f857680807e", func := "greenwood/greenwoodlaw01.WireSigns", spec := "wireSigns", inPlace := ["internal/abi.NoEscape", "internal/reflectlite.ValueOf", "(internal/reflectlite.Value).Type", "(internal/reflectlite.Value).IsNil", "internal/reflectlite.TypeOf", "(internal/reflectlite.Value).Elem", "(internal/reflectlite.Value).Set"], unfollowed := true, recurses := true, named := ["greenwood/wire.errCut", "greenwood/wire.errLong", "greenwood/wire.errMany", "greenwood/wire.errLeft", "errors.errorType"], apart := false, laid := [("errors.errorType", laid_errors_errorType), ("greenwood/wire.errCut", laid_greenwood_wire_errCut), ("greenwood/wire.errLong", laid_greenwood_wire_errLong), ("greenwood/wire.errMany", laid_greenwood_wire_errMany), ("greenwood/wire.errLeft", laid_greenwood_wire_errLeft)], narrowed := true }
def WireSignsUptoSaid : Prop := wireSignsUptoRow.holds Tryd.pinned (OpenSpec.upto wireSignsSpec)

/-- 'greenwoodlaw01.WireCut', WHERE WHAT IT READS IS OF BULK AT MOST 1048576: true; the input reads as it did. -/
def wireCutUptoRow : OpenClaim := { program := "ytcabbhiabhblfaadoor", sum := "03b11fcb0b2d5ea513c5567ae8ff15593ba0b25fdde3a2cf06842f857680807e", func := "greenwood/greenwoodlaw01.WireCut", spec := "wireCut", inPlace := ["internal/abi.NoEscape", "internal/reflectlite.ValueOf", "(internal/reflectlite.Value).Type", "(internal/reflectlite.Value).IsNil", "internal/reflectlite.TypeOf", "(internal/reflectlite.Value).Elem", "(internal/reflectlite.Value).Set"], unfollowed := true, recurses := true, named := ["greenwood/wire.errCut", "greenwood/wire.errLong", "greenwood/wire.errMany", "greenwood/wire.errLeft", "errors.errorType"], apart := false, laid := [("errors.errorType", laid_errors_errorType), ("greenwood/wire.errCut", laid_greenwood_wire_errCut), ("greenwood/wire.errLong", laid_greenwood_wire_errLong), ("greenwood/wire.errMany", laid_greenwood_wire_errMany), ("greenwood/wire.errLeft", laid_greenwood_wire_errLeft)], narrowed := true }
def WireCutUptoSaid : Prop := wireCutUptoRow.holds Tryd.pinned (OpenSpec.upto wireCutSpec)

/-- 'greenwoodlaw01.WireMany', WHERE WHAT IT READS IS OF BULK AT MOST 1048576: true; the input reads as it did. -/
def wireManyUptoRow : OpenClaim := { program := "ytcabbhiabhblfaadoor", sum := "03b11fcb0b2d5ea513c5567ae8ff15593ba0b25fdde3a2cf06842f857680807e", func := "greenwood/greenwoodlaw01.WireMany", spec := "wireMany", inPlace := ["internal/abi.NoEscape", "internal/reflectlite.ValueOf", "(internal/reflectlite.Value).Type", "(internal/reflectlite.Value).IsNil", "internal/reflectlite.TypeOf", "(internal/reflectlite.Value).Elem", "(internal/reflectlite.Value).Set"], unfollowed := true, recurses := true, named := ["greenwood/wire.errCut", "greenwood/wire.errLong", "greenwood/wire.errMany", "greenwood/wire.errLeft", "errors.errorType"], apart := false, laid := [("errors.errorType", laid_errors_errorType), ("greenwood/wire.errCut", laid_greenwood_wire_errCut), ("greenwood/wire.errLong", laid_greenwood_wire_errLong), ("greenwood/wire.errMany", laid_greenwood_wire_errMany), ("greenwood/wire.errLeft", laid_greenwood_wire_errLeft)], narrowed := true }
def WireManyUptoSaid : Prop := wireManyUptoRow.holds Tryd.pinned (OpenSpec.upto wireManySpec)

end Rows
end Go.Proofs.YtcabbhiabhblfaaDoor
