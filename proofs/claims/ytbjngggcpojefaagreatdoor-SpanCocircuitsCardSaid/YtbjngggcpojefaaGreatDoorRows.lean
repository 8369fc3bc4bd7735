/-
  NARROWER THAN 'FOR EVERY INPUT', by the rows' own cells (each row's printed sentence says how): IndepExchanges: loops, laid · IndepDuals: loops, laid · IndepKinds: laid · IndepMinors: loops, laid · SpanCocircuits: loops, laid.
  DERIVED. THE GIVEN ROWS OF THIS SEAT. 5 by the template 'for every input the law returns true; each argument reads behind the call as it read before'; 0 by the template 'total and deterministic' (their statements: YtbjngggcpojefaaGreatDoorTotals.lean).
  GIVEN WITH THE SEED: the statements are not yours to turn. If you find one false, say at which input.
  Laid BY PROGRAM, IN A SANDBOX (cutbox-rows.mjs): the forced cells as the released guide's own fill.sh prints them over the translation 051aca2136598d7f… (all of the seat's roots in one cut). By AI agents, Wed Nov 11 2026. No macro, syntax, notation, axiom, sorry.
-/
import Derived.Test.YtbjngggcpojefaaGreatDoorChecked
import GoSem.Claim
import GoSem.ClaimJoined
import GoSem.ClaimMapViews
import Derived.JoinedTies
import Derived.KernelRfl
namespace Go.Proofs.YtbjngggcpojefaaGreatDoor
/- THE CELL 'sum', in the pinned program and in every row, IS THE sha256 OF THE DUMP (.gsa) THAT YtbjngggcpojefaaGreatDoorProg.lean LOADS. Nothing in Lean hashes anything: it is a label: what it is worth is what the hold of that sum in a sandbox is worth. -/
noncomputable def Tryz.pinned : Pinned := { name := "ytbjngggcpojefaagreatdoor", sum := "051aca2136598d7f32ca3c709dd195c84b101f8dceb606072001c99003b32e99", checked := Tryz.checked }
namespace Rows
def none {H : Type} : Left H := { results := [], args := [] }

/- WHAT THE LISTED PACKAGE-LEVEL VARIABLES READ AS WHEN THE CALL BEGINS. Each datum BY PROGRAM (the guide's laid-datum.mjs) off the statement by which the dump's own 'gosem.cut.vars' lays the variable. In a bare row this is a premise. The card (YtbjngggcpojefaaGreatDoorCards.lean) ties it to the program's text. -/
def laid_math_bits_deBruijn32tab {H : Type} : DataW H := .agg [.lit (.int .u8 0), .lit (.int .u8 1), .lit (.int .u8 28), .lit (.int .u8 2), .lit (.int .u8 29), .lit (.int .u8 14), .lit (.int .u8 24), .lit (.int .u8 3), .lit (.int .u8 30), .lit (.int .u8 22), .lit (.int .u8 20), .lit (.int .u8 15), .lit (.int .u8 25), .lit (.int .u8 17), .lit (.int .u8 4), .lit (.int .u8 8), .lit (.int .u8 31), .lit (.int .u8 27), .lit (.int .u8 13), .lit (.int .u8 23), .lit (.int .u8 21), .lit (.int .u8 19), .lit (.int .u8 16), .lit (.int .u8 7), .lit (.int .u8 26), .lit (.int .u8 12), .lit (.int .u8 18), .lit (.int .u8 6), .lit (.int .u8 11), .lit (.int .u8 5), .lit (.int .u8 10), .lit (.int .u8 9)]
def laid_math_bits_deBruijn64tab {H : Type} : DataW H := .agg [.lit (.int .u8 0), .lit (.int .u8 1), .lit (.int .u8 56), .lit (.int .u8 2), .lit (.int .u8 57), .lit (.int .u8 49), .lit (.int .u8 28), .lit (.int .u8 3), .lit (.int .u8 61), .lit (.int .u8 58), .lit (.int .u8 42), .lit (.int .u8 50), .lit (.int .u8 38), .lit (.int .u8 29), .lit (.int .u8 17), .lit (.int .u8 4), .lit (.int .u8 62), .lit (.int .u8 47), .lit (.int .u8 59), .lit (.int .u8 36), .lit (.int .u8 45), .lit (.int .u8 43), .lit (.int .u8 51), .lit (.int .u8 22), .lit (.int .u8 53), .lit (.int .u8 39), .lit (.int .u8 33), .lit (.int .u8 30), .lit (.int .u8 24), .lit (.int .u8 18), .lit (.int .u8 12), .lit (.int .u8 5), .lit (.int .u8 63), .lit (.int .u8 55), .lit (.int .u8 48), .lit (.int .u8 27), .lit (.int .u8 60), .lit (.int .u8 41), .lit (.int .u8 37), .lit (.int .u8 16), .lit (.int .u8 46), .lit (.int .u8 35), .lit (.int .u8 44), .lit (.int .u8 21), .lit (.int .u8 52), .lit (.int .u8 32), .lit (.int .u8 23), .lit (.int .u8 11), .lit (.int .u8 54), .lit (.int .u8 26), .lit (.int .u8 40), .lit (.int .u8 15), .lit (.int .u8 34), .lit (.int .u8 20), .lit (.int .u8 31), .lit (.int .u8 10), .lit (.int .u8 25), .lit (.int .u8 14), .lit (.int .u8 19), .lit (.int .u8 9), .lit (.int .u8 13), .lit (.int .u8 8), .lit (.int .u8 7), .lit (.int .u8 6)]
def laid_errors_errorType {H : Type} : DataW H := .iface "internal/reflectlite.rtype" (.agg [.ptr (.lit (.string [101, 114, 114, 111, 114]))])
def laid_greenwood_matroid_forms {H : Type} : DataW H := .agg [.agg [.lit (.bool true), .lit (.bool false), .lit (.int .i64 0), .lit (.int .i64 0), .lit (.int .i64 0)], .agg [.lit (.bool true), .lit (.bool false), .lit (.int .i64 (-1)), .lit (.int .i64 0), .lit (.int .i64 0)], .agg [.lit (.bool true), .lit (.bool false), .lit (.int .i64 2), .lit (.int .i64 0), .lit (.int .i64 0)], .agg [.lit (.bool true), .lit (.bool false), .lit (.int .i64 (-1)), .lit (.int .i64 0), .lit (.int .i64 0)], .agg [.lit (.bool true), .lit (.bool true), .lit (.int .i64 (-1)), .lit (.int .i64 0), .lit (.int .i64 0)], .agg [.lit (.bool false), .lit (.bool false), .lit (.int .i64 1), .lit (.int .i64 1), .lit (.int .i64 1)], .agg [.lit (.bool false), .lit (.bool false), .lit (.int .i64 1), .lit (.int .i64 1), .lit (.int .i64 1)], .agg [.lit (.bool true), .lit (.bool false), .lit (.int .i64 0), .lit (.int .i64 1), .lit (.int .i64 1)], .agg [.lit (.bool false), .lit (.bool false), .lit (.int .i64 0), .lit (.int .i64 1), .lit (.int .i64 1)], .agg [.lit (.bool false), .lit (.bool false), .lit (.int .i64 0), .lit (.int .i64 1), .lit (.int .i64 8)]]
def laid_greenwood_matroid_errDeep {H : Type} : DataW H := .iface "*errors.errorString" (.ptr (.agg [.lit (.string [109, 97, 116, 114, 111, 105, 100, 115, 32, 108, 105, 101, 32, 116, 111, 111, 32, 100, 101, 101, 112, 32, 119, 105, 116, 104, 105, 110, 32, 111, 110, 101, 32, 97, 110, 111, 116, 104, 101, 114])]))
def laid_greenwood_matroid_errKind {H : Type} : DataW H := .iface "*errors.errorString" (.ptr (.agg [.lit (.string [116, 104, 101, 114, 101, 32, 105, 115, 32, 110, 111, 32, 115, 117, 99, 104, 32, 107, 105, 110, 100])]))
def laid_greenwood_matroid_errMany {H : Type} : DataW H := .iface "*errors.errorString" (.ptr (.agg [.lit (.string [116, 104, 101, 114, 101, 32, 97, 114, 101, 32, 116, 111, 111, 32, 109, 97, 110, 121, 44, 32, 111, 114, 32, 98, 101, 108, 111, 119, 32, 110, 111, 110, 101])]))
def laid_greenwood_matroid_errForm {H : Type} : DataW H := .iface "*errors.errorString" (.ptr (.agg [.lit (.string [116, 104, 101, 32, 107, 105, 110, 100, 32, 116, 97, 107, 101, 115, 32, 109, 111, 114, 101, 44, 32, 111, 114, 32, 108, 101, 115, 115])]))
def laid_greenwood_matroid_errFit {H : Type} : DataW H := .iface "*errors.errorString" (.ptr (.agg [.lit (.string [119, 104, 97, 116, 32, 105, 116, 32, 104, 97, 115, 32, 109, 97, 121, 32, 110, 111, 116, 32, 98, 101, 32, 116, 111, 103, 101, 116, 104, 101, 114])]))

/-- 'greenwoodlaw10.IndepExchanges': WHATEVER THE INPUT: true; the input reads as it did. -/
def indepExchangesSpec : ChangeSpec := { name := "indepExchanges", fn := fun _ => fun
  | [d1, d2, d3] => { results := [.lit (.bool true)], args := [d1, d2, d3] }
  | _ => none }
def indepExchangesRow : OpenClaim := { program := "ytbjngggcpojefaagreatdoor", sum := "051aca2136598d7f32ca3c709dd195c84b101f8dceb606072001c99003b32e99", func := "greenwood/greenwoodlaw10.IndepExchanges", spec := "indepExchanges", inPlace := ["internal/reflectlite.TypeOf", "internal/reflectlite.ValueOf", "(internal/reflectlite.Value).Type", "(internal/reflectlite.Value).IsNil", "(internal/reflectlite.Value).Elem", "(internal/reflectlite.Value).Set"], unfollowed := true, recurses := true, named := ["greenwood/matroid.errDeep", "errors.errorType", "greenwood/matroid.errKind", "greenwood/matroid.errMany", "greenwood/matroid.forms", "greenwood/matroid.errForm", "greenwood/matroid.errFit", "math/bits.deBruijn32tab", "math/bits.deBruijn64tab"], loops := true, apart := false, laid := [("math/bits.deBruijn32tab", laid_math_bits_deBruijn32tab), ("math/bits.deBruijn64tab", laid_math_bits_deBruijn64tab), ("errors.errorType", laid_errors_errorType), ("greenwood/matroid.forms", laid_greenwood_matroid_forms), ("greenwood/matroid.errDeep", laid_greenwood_matroid_errDeep), ("greenwood/matroid.errKind", laid_greenwood_matroid_errKind), ("greenwood/matroid.errMany", laid_greenwood_matroid_errMany), ("greenwood/matroid.errForm", laid_greenwood_matroid_errForm), ("greenwood/matroid.errFit", laid_greenwood_matroid_errFit)] }
def IndepExchangesSaid : Prop := indepExchangesRow.holds Tryz.pinned (OpenSpec.ofChange indepExchangesSpec)

/-- ITS FALSE NEIGHBOUR: 'it returns false'. Refute it at one input. -/
def indepExchangesWrong : ChangeSpec := { name := "indepExchanges", fn := fun _ => fun
  | [d1, d2, d3] => { results := [.lit (.bool false)], args := [d1, d2, d3] }
  | _ => none }
def IndepExchangesWrongFalsely : Prop := indepExchangesRow.holds Tryz.pinned (OpenSpec.ofChange indepExchangesWrong)

/-- 'greenwoodlaw10.IndepDuals': WHATEVER THE INPUT: true; the input reads as it did. -/
def indepDualsSpec : ChangeSpec := { name := "indepDuals", fn := fun _ => fun
  | [d1, d2, d3] => { results := [.lit (.bool true)], args := [d1, d2, d3] }
  | _ => none }
def indepDualsRow : OpenClaim := { program := "ytbjngggcpojefaagreatdoor", sum := "051aca2136598d7f32ca3c709dd195c84b101f8dceb606072001c99003b32e99", func := "greenwood/greenwoodlaw10.IndepDuals", spec := "indepDuals", inPlace := ["internal/reflectlite.TypeOf", "internal/reflectlite.ValueOf", "(internal/reflectlite.Value).Type", "(internal/reflectlite.Value).IsNil", "(internal/reflectlite.Value).Elem", "(internal/reflectlite.Value).Set"], unfollowed := true, recurses := true, named := ["greenwood/matroid.errDeep", "errors.errorType", "greenwood/matroid.errKind", "greenwood/matroid.errMany", "greenwood/matroid.forms", "greenwood/matroid.errForm", "greenwood/matroid.errFit", "math/bits.deBruijn32tab", "math/bits.deBruijn64tab"], loops := true, apart := false, laid := [("math/bits.deBruijn32tab", laid_math_bits_deBruijn32tab), ("math/bits.deBruijn64tab", laid_math_bits_deBruijn64tab), ("errors.errorType", laid_errors_errorType), ("greenwood/matroid.forms", laid_greenwood_matroid_forms), ("greenwood/matroid.errDeep", laid_greenwood_matroid_errDeep), ("greenwood/matroid.errKind", laid_greenwood_matroid_errKind), ("greenwood/matroid.errMany", laid_greenwood_matroid_errMany), ("greenwood/matroid.errForm", laid_greenwood_matroid_errForm), ("greenwood/matroid.errFit", laid_greenwood_matroid_errFit)] }
def IndepDualsSaid : Prop := indepDualsRow.holds Tryz.pinned (OpenSpec.ofChange indepDualsSpec)

/-- ITS FALSE NEIGHBOUR: 'it returns false'. Refute it at one input. -/
def indepDualsWrong : ChangeSpec := { name := "indepDuals", fn := fun _ => fun
  | [d1, d2, d3] => { results := [.lit (.bool false)], args := [d1, d2, d3] }
  | _ => none }
def IndepDualsWrongFalsely : Prop := indepDualsRow.holds Tryz.pinned (OpenSpec.ofChange indepDualsWrong)

/-- 'greenwoodlaw10.IndepKinds': WHATEVER THE INPUT: true; the input reads as it did. -/
def indepKindsSpec : ChangeSpec := { name := "indepKinds", fn := fun _ => fun
  | [d1, d2, d3] => { results := [.lit (.bool true)], args := [d1, d2, d3] }
  | _ => none }
def indepKindsRow : OpenClaim := { program := "ytbjngggcpojefaagreatdoor", sum := "051aca2136598d7f32ca3c709dd195c84b101f8dceb606072001c99003b32e99", func := "greenwood/greenwoodlaw10.IndepKinds", spec := "indepKinds", inPlace := ["internal/reflectlite.TypeOf", "internal/reflectlite.ValueOf", "(internal/reflectlite.Value).Type", "(internal/reflectlite.Value).IsNil", "(internal/reflectlite.Value).Elem", "(internal/reflectlite.Value).Set"], unfollowed := true, recurses := true, named := ["greenwood/matroid.errDeep", "errors.errorType", "greenwood/matroid.errKind", "greenwood/matroid.errMany", "greenwood/matroid.forms", "greenwood/matroid.errForm", "greenwood/matroid.errFit", "math/bits.deBruijn32tab", "math/bits.deBruijn64tab"], apart := false, laid := [("math/bits.deBruijn32tab", laid_math_bits_deBruijn32tab), ("math/bits.deBruijn64tab", laid_math_bits_deBruijn64tab), ("errors.errorType", laid_errors_errorType), ("greenwood/matroid.forms", laid_greenwood_matroid_forms), ("greenwood/matroid.errDeep", laid_greenwood_matroid_errDeep), ("greenwood/matroid.errKind", laid_greenwood_matroid_errKind), ("greenwood/matroid.errMany", laid_greenwood_matroid_errMany), ("greenwood/matroid.errForm", laid_greenwood_matroid_errForm), ("greenwood/matroid.errFit", laid_greenwood_matroid_errFit)] }
def IndepKindsSaid : Prop := indepKindsRow.holds Tryz.pinned (OpenSpec.ofChange indepKindsSpec)

/-- ITS FALSE NEIGHBOUR: 'it returns false'. Refute it at one input. -/
def indepKindsWrong : ChangeSpec := { name := "indepKinds", fn := fun _ => fun
  | [d1, d2, d3] => { results := [.lit (.bool false)], args := [d1, d2, d3] }
  | _ => none }
def IndepKindsWrongFalsely : Prop := indepKindsRow.holds Tryz.pinned (OpenSpec.ofChange indepKindsWrong)

/-- 'greenwoodlaw10.IndepMinors': WHATEVER THE INPUT: true; the input reads as it did. -/
def indepMinorsSpec : ChangeSpec := { name := "indepMinors", fn := fun _ => fun
  | [d1, d2, d3] => { results := [.lit (.bool true)], args := [d1, d2, d3] }
  | _ => none }
def indepMinorsRow : OpenClaim := { program := "ytbjngggcpojefaagreatdoor", sum := "051aca2136598d7f32ca3c709dd195c84b101f8dceb606072001c99003b32e99", func := "greenwood/greenwoodlaw10.IndepMinors", spec := "indepMinors", inPlace := ["internal/reflectlite.TypeOf", "internal/reflectlite.ValueOf", "(internal/reflectlite.Value).Type", "(internal/reflectlite.Value).IsNil", "(internal/reflectlite.Value).Elem", "(internal/reflectlite.Value).Set"], unfollowed := true, recurses := true, named := ["greenwood/matroid.errDeep", "errors.errorType", "greenwood/matroid.errKind", "greenwood/matroid.errMany", "greenwood/matroid.forms", "greenwood/matroid.errForm", "greenwood/matroid.errFit", "math/bits.deBruijn32tab", "math/bits.deBruijn64tab"], loops := true, apart := false, laid := [("math/bits.deBruijn32tab", laid_math_bits_deBruijn32tab), ("math/bits.deBruijn64tab", laid_math_bits_deBruijn64tab), ("errors.errorType", laid_errors_errorType), ("greenwood/matroid.forms", laid_greenwood_matroid_forms), ("greenwood/matroid.errDeep", laid_greenwood_matroid_errDeep), ("greenwood/matroid.errKind", laid_greenwood_matroid_errKind), ("greenwood/matroid.errMany", laid_greenwood_matroid_errMany), ("greenwood/matroid.errForm", laid_greenwood_matroid_errForm), ("greenwood/matroid.errFit", laid_greenwood_matroid_errFit)] }
def IndepMinorsSaid : Prop := indepMinorsRow.holds Tryz.pinned (OpenSpec.ofChange indepMinorsSpec)

/-- ITS FALSE NEIGHBOUR: 'it returns false'. Refute it at one input. -/
def indepMinorsWrong : ChangeSpec := { name := "indepMinors", fn := fun _ => fun
  | [d1, d2, d3] => { results := [.lit (.bool false)], args := [d1, d2, d3] }
  | _ => none }
def IndepMinorsWrongFalsely : Prop := indepMinorsRow.holds Tryz.pinned (OpenSpec.ofChange indepMinorsWrong)

/-- 'greenwoodlaw11.SpanCocircuits': WHATEVER THE INPUT: true; the input reads as it did. -/
def spanCocircuitsSpec : ChangeSpec := { name := "spanCocircuits", fn := fun _ => fun
  | [d1, d2, d3] => { results := [.lit (.bool true)], args := [d1, d2, d3] }
  | _ => none }
def spanCocircuitsRow : OpenClaim := { program := "ytbjngggcpojefaagreatdoor", sum := "051aca2136598d7f32ca3c709dd195c84b101f8dceb606072001c99003b32e99", func := "greenwood/greenwoodlaw11.SpanCocircuits", spec := "spanCocircuits", inPlace := ["internal/reflectlite.TypeOf", "internal/reflectlite.ValueOf", "(internal/reflectlite.Value).Type", "(internal/reflectlite.Value).IsNil", "(internal/reflectlite.Value).Elem", "(internal/reflectlite.Value).Set"], unfollowed := true, recurses := true, named := ["greenwood/matroid.errDeep", "errors.errorType", "greenwood/matroid.errKind", "greenwood/matroid.errMany", "greenwood/matroid.forms", "greenwood/matroid.errForm", "greenwood/matroid.errFit", "math/bits.deBruijn32tab", "math/bits.deBruijn64tab"], loops := true, apart := false, laid := [("math/bits.deBruijn32tab", laid_math_bits_deBruijn32tab), ("math/bits.deBruijn64tab", laid_math_bits_deBruijn64tab), ("errors.errorType", laid_errors_errorType), ("greenwood/matroid.forms", laid_greenwood_matroid_forms), ("greenwood/matroid.errDeep", laid_greenwood_matroid_errDeep), ("greenwood/matroid.errKind", laid_greenwood_matroid_errKind), ("greenwood/matroid.errMany", laid_greenwood_matroid_errMany), ("greenwood/matroid.errForm", laid_greenwood_matroid_errForm), ("greenwood/matroid.errFit", laid_greenwood_matroid_errFit)] }
def SpanCocircuitsSaid : Prop := spanCocircuitsRow.holds Tryz.pinned (OpenSpec.ofChange spanCocircuitsSpec)

/-- ITS FALSE NEIGHBOUR: 'it returns false'. Refute it at one input. -/
def spanCocircuitsWrong : ChangeSpec := { name := "spanCocircuits", fn := fun _ => fun
  | [d1, d2, d3] => { results := [.lit (.bool false)], args := [d1, d2, d3] }
  | _ => none }
def SpanCocircuitsWrongFalsely : Prop := spanCocircuitsRow.holds Tryz.pinned (OpenSpec.ofChange spanCocircuitsWrong)

/- THE SECOND FORM. 'bulk': how many values and letters a reading holds, each counted each time it is reached (what is shared counts as often as it is met; a slice's spare places count too). A statement '..UptoSaid' is the law's where the arguments, and the package variables that the reading takes, are together of bulk at most 1048576: NARROWER than '..Said'. Prove '..Said' where nothing that the law and all that it calls make is longer than what came in: it says more and counts as full. Else prove '..UptoSaid'. A law counts once. -/
mutual
def uptoBulk {H : Type} : DataW H → Nat
  | .lit (.string bytes) => bytes.length + 1
  | .lit _ => 1
  | .nil => 1
  | .ptr d => uptoBulk d + 1
  | .slice elems spare => uptoBulkAll elems + uptoBulkAll spare + 1
  | .agg parts => uptoBulkAll parts + 1
  | .iface _ d => uptoBulk d + 1
  | .map entries => uptoBulkEntries entries + 1
  | .held _ => 1
def uptoBulkAll {H : Type} : List (DataW H) → Nat
  | [] => 0
  | d :: r => uptoBulk d + uptoBulkAll r
def uptoBulkEntries {H : Type} : List (Lit × DataW H) → Nat
  | [] => 0
  | x :: r => uptoBulkEntry x + uptoBulkEntries r
def uptoBulkEntry {H : Type} : Lit × DataW H → Nat
  | (.string bytes, d) => bytes.length + uptoBulk d + 1
  | (_, d) => uptoBulk d + 1
 end
def uptoSmall : (H : Type) → List (DataW H) → Bool := fun _ ds => decide (uptoBulkAll ds ≤ 1048576)
def OpenSpec.upto (s : _root_.Go.ChangeSpec) : _root_.Go.OpenSpec := { _root_.Go.OpenSpec.ofChange s with cond := some uptoSmall }

/-- 'greenwoodlaw10.IndepExchanges', WHERE WHAT IT READS IS OF BULK AT MOST 1048576: true; the input reads as it did. -/
def indepExchangesUptoRow : OpenClaim := { program := "ytbjngggcpojefaagreatdoor", sum := "051aca2136598d7f32ca3c709dd195c84b101f8dceb606072001c99003b32e99", func := "greenwood/greenwoodlaw10.IndepExchanges", spec := "indepExchanges", inPlace := ["internal/reflectlite.TypeOf", "internal/reflectlite.ValueOf", "(internal/reflectlite.Value).Type", "(internal/reflectlite.Value).IsNil", "(internal/reflectlite.Value).Elem", "(internal/reflectlite.Value).Set"], unfollowed := true, recurses := true, named := ["greenwood/matroid.errDeep", "errors.errorType", "greenwood/matroid.errKind", "greenwood/matroid.errMany", "greenwood/matroid.forms", "greenwood/matroid.errForm", "greenwood/matroid.errFit", "math/bits.deBruijn32tab", "math/bits.deBruijn64tab"], loops := true, apart := false, laid := [("math/bits.deBruijn32tab", laid_math_bits_deBruijn32tab), ("math/bits.deBruijn64tab", laid_math_bits_deBruijn64tab), ("errors.errorType", laid_errors_errorType), ("greenwood/matroid.forms", laid_greenwood_matroid_forms), ("greenwood/matroid.errDeep", laid_greenwood_matroid_errDeep), ("greenwood/matroid.errKind", laid_greenwood_matroid_errKind), ("greenwood/matroid.errMany", laid_greenwood_matroid_errMany), ("greenwood/matroid.errForm", laid_greenwood_matroid_errForm), ("greenwood/matroid.errFit", laid_greenwood_matroid_errFit)], narrowed := true }
def IndepExchangesUptoSaid : Prop := indepExchangesUptoRow.holds Tryz.pinned (OpenSpec.upto indepExchangesSpec)

/-- 'greenwoodlaw10.IndepDuals', WHERE WHAT IT READS IS OF BULK AT MOST 1048576: true; the input reads as it did. -/
def indepDualsUptoRow : OpenClaim := { program := "ytbjngggcpojefaagreatdoor", sum := "051aca2136598d7f32ca3c709dd195c84b101f8dceb606072001c99003b32e99", func := "greenwood/greenwoodlaw10.IndepDuals", spec := "indepDuals", inPlace := ["internal/reflectlite.TypeOf", "internal/reflectlite.ValueOf", "(internal/reflectlite.Value).Type", "(internal/reflectlite.Value).IsNil", "(internal/reflectlite.Value).Elem", "(internal/reflectlite.Value).Set"], unfollowed := true, recurses := true, named := ["greenwood/matroid.errDeep", "errors.errorType", "greenwood/matroid.errKind", "greenwood/matroid.errMany", "greenwood/matroid.forms", "greenwood/matroid.errForm", "greenwood/matroid.errFit", "math/bits.deBruijn32tab", "math/bits.deBruijn64tab"], loops := true, apart := false, laid := [("math/bits.deBruijn32tab", laid_math_bits_deBruijn32tab), ("math/bits.deBruijn64tab", laid_math_bits_deBruijn64tab), ("errors.errorType", laid_errors_errorType), ("greenwood/matroid.forms", laid_greenwood_matroid_forms), ("greenwood/matroid.errDeep", laid_greenwood_matroid_errDeep), ("greenwood/matroid.errKind", laid_greenwood_matroid_errKind), ("greenwood/matroid.errMany", laid_greenwood_matroid_errMany), ("greenwood/matroid.errForm", laid_greenwood_matroid_errForm), ("greenwood/matroid.errFit", laid_greenwood_matroid_errFit)], narrowed := true }
def IndepDualsUptoSaid : Prop := indepDualsUptoRow.holds Tryz.pinned (OpenSpec.upto indepDualsSpec)

/-- 'greenwoodlaw10.IndepKinds', WHERE WHAT IT READS IS OF BULK AT MOST 1048576: true; the input reads as it did. -/
def indepKindsUptoRow : OpenClaim := { program := "ytbjngggcpojefaagreatdoor", sum := "051aca2136598d7f32ca3c709dd195c84b101f8dceb606072001c99003b32e99", func := "greenwood/greenwoodlaw10.IndepKinds", spec := "indepKinds", inPlace := ["internal/reflectlite.TypeOf", "internal/reflectlite.ValueOf", "(internal/reflectlite.Value).Type", "(internal/reflectlite.Value).IsNil", "(internal/reflectlite.Value).Elem", "(internal/reflectlite.Value).Set"], unfollowed := true, recurses := true, named := ["greenwood/matroid.errDeep", "errors.errorType", "greenwood/matroid.errKind", "greenwood/matroid.errMany", "greenwood/matroid.forms", "greenwood/matroid.errForm", "greenwood/matroid.errFit", "math/bits.deBruijn32tab", "math/bits.deBruijn64tab"], apart := false, laid := [("math/bits.deBruijn32tab", laid_math_bits_deBruijn32tab), ("math/bits.deBruijn64tab", laid_math_bits_deBruijn64tab), ("errors.errorType", laid_errors_errorType), ("greenwood/matroid.forms", laid_greenwood_matroid_forms), ("greenwood/matroid.errDeep", laid_greenwood_matroid_errDeep), ("greenwood/matroid.errKind", laid_greenwood_matroid_errKind), ("greenwood/matroid.errMany", laid_greenwood_matroid_errMany), ("greenwood/matroid.errForm", laid_greenwood_matroid_errForm), ("greenwood/matroid.errFit", laid_greenwood_matroid_errFit)], narrowed := true }
def IndepKindsUptoSaid : Prop := indepKindsUptoRow.holds Tryz.pinned (OpenSpec.upto indepKindsSpec)

/-- 'greenwoodlaw10.IndepMinors', WHERE WHAT IT READS IS OF BULK AT MOST 1048576: true; the input reads as it did. -/
def indepMinorsUptoRow : OpenClaim := { program := "ytbjngggcpojefaagreatdoor", sum := "051aca2136598d7f32ca3c709dd195c84b101f8dceb606072001c99003b32e99", func := "greenwood/greenwoodlaw10.IndepMinors", spec := "indepMinors", inPlace := ["internal/reflectlite.TypeOf", "internal/reflectlite.ValueOf", "(internal/reflectlite.Value).Type", "(internal/reflectlite.Value).IsNil", "(internal/reflectlite.Value).Elem", "(internal/reflectlite.Value).Set"], unfollowed := true, recurses := true, named := ["greenwood/matroid.errDeep", "errors.errorType", "greenwood/matroid.errKind", "greenwood/matroid.errMany", "greenwood/matroid.forms", "greenwood/matroid.errForm", "greenwood/matroid.errFit", "math/bits.deBruijn32tab", "math/bits.deBruijn64tab"], loops := true, apart := false, laid := [("math/bits.deBruijn32tab", laid_math_bits_deBruijn32tab), ("math/bits.deBruijn64tab", laid_math_bits_deBruijn64tab), ("errors.errorType", laid_errors_errorType), ("greenwood/matroid.forms", laid_greenwood_matroid_forms), ("greenwood/matroid.errDeep", laid_greenwood_matroid_errDeep), ("greenwood/matroid.errKind", laid_greenwood_matroid_errKind), ("greenwood/matroid.errMany", laid_greenwood_matroid_errMany), ("greenwood/matroid.errForm", laid_greenwood_matroid_errForm), ("greenwood/matroid.errFit", laid_greenwood_matroid_errFit)], narrowed := true }
def IndepMinorsUptoSaid : Prop := indepMinorsUptoRow.holds Tryz.pinned (OpenSpec.upto indepMinorsSpec)

/-- 'greenwoodlaw11.SpanCocircuits', WHERE WHAT IT READS IS OF BULK AT MOST 1048576: true; the input reads as it did. -/
def spanCocircuitsUptoRow : OpenClaim := { program := "ytbjngggcpojefaagreatdoor", sum := "051aca2136598d7f32ca3c709dd195c84b101f8dceb606072001c99003b32e99", func := "greenwood/greenwoodlaw11.SpanCocircuits", spec := "spanCocircuits", inPlace := ["internal/reflectlite.TypeOf", "internal/reflectlite.ValueOf", "(internal/reflectlite.Value).Type", "(internal/reflectlite.Value).IsNil", "(internal/reflectlite.Value).Elem", "(internal/reflectlite.Value).Set"], unfollowed := true, recurses := true, named := ["greenwood/matroid.errDeep", "errors.errorType", "greenwood/matroid.errKind", "greenwood/matroid.errMany", "greenwood/matroid.forms", "greenwood/matroid.errForm", "greenwood/matroid.errFit", "math/bits.deBruijn32tab", "math/bits.deBruijn64tab"], loops := true, apart := false, laid := [("math/bits.deBruijn32tab", laid_math_bits_deBruijn32tab), ("math/bits.deBruijn64tab", laid_math_bits_deBruijn64tab), ("errors.errorType", laid_errors_errorType), ("greenwood/matroid.forms", laid_greenwood_matroid_forms), ("greenwood/matroid.errDeep", laid_greenwood_matroid_errDeep), ("greenwood/matroid.errKind", laid_greenwood_matroid_errKind), ("greenwood/matroid.errMany", laid_greenwood_matroid_errMany), ("greenwood/matroid.errForm", laid_greenwood_matroid_errForm), ("greenwood/matroid.errFit", laid_greenwood_matroid_errFit)], narrowed := true }
def SpanCocircuitsUptoSaid : Prop := spanCocircuitsUptoRow.holds Tryz.pinned (OpenSpec.upto spanCocircuitsSpec)

end Rows
end Go.Proofs.YtbjngggcpojefaaGreatDoor
