/-
  No cell of these rows narrows 'for every input' (looked for: loops, veiled, ifaces, maps, wideKeys, modest, calm, conditions, laid).
  DERIVED. THE GIVEN ROWS OF THIS SEAT. 10 by the template 'for every input the law returns true; each argument reads behind the call as it read before'; 0 by the template 'total and deterministic' (their statements: YtjhkmilfhecdfaaTotals.lean).
  GIVEN WITH THE SEED: the statements are not yours to turn. If you find one false, say at which input.
  Laid BY PROGRAM, IN A SANDBOX (cutbox-rows.mjs): the forced cells as the released guide's own fill.sh prints them over the translation c398debfa16fa415… (all of the seat's roots in one cut). By AI agents, Wed Nov 11 2026. No macro, syntax, notation, axiom, sorry.
-/
import Derived.Test.YtjhkmilfhecdfaaChecked
import GoSem.Claim
import GoSem.ClaimJoined
import GoSem.ClaimMapViews
import Derived.JoinedTies
import Derived.KernelRfl
namespace Go.Proofs.Ytjhkmilfhecdfaa
/- THE CELL 'sum', in the pinned program and in every row, IS THE sha256 OF THE DUMP (.gsa) THAT YtjhkmilfhecdfaaProg.lean LOADS. Nothing in Lean hashes anything: it is a label: what it is worth is what the hold of that sum in a sandbox is worth. -/
noncomputable def Try.pinned : Pinned := { name := "ytjhkmilfhecdfaa", sum := "c398debfa16fa41528ac92ed739ef88a3efca29be79ef056ab3387bb5916a676", checked := Try.checked }
namespace Rows
def none {H : Type} : Left H := { results := [], args := [] }

/-- 'greenwoodlaw06.MatchSizes': WHATEVER THE INPUT: true; the input reads as it did. -/
def matchSizesSpec : ChangeSpec := { name := "matchSizes", fn := fun _ => fun
  | [d1, d2] => { results := [.lit (.bool true)], args := [d1, d2] }
  | _ => none }
def matchSizesRow : OpenClaim := { program := "ytjhkmilfhecdfaa", sum := "c398debfa16fa41528ac92ed739ef88a3efca29be79ef056ab3387bb5916a676", func := "greenwood/greenwoodlaw06.MatchSizes", spec := "matchSizes", unfollowed := true, recurses := true, apart := false }
def MatchSizesSaid : Prop := matchSizesRow.holds Try.pinned (OpenSpec.ofChange matchSizesSpec)

/-- ITS FALSE NEIGHBOUR: 'it returns false'. Refute it at one input. -/
def matchSizesWrong : ChangeSpec := { name := "matchSizes", fn := fun _ => fun
  | [d1, d2] => { results := [.lit (.bool false)], args := [d1, d2] }
  | _ => none }
def MatchSizesWrongFalsely : Prop := matchSizesRow.holds Try.pinned (OpenSpec.ofChange matchSizesWrong)

/-- 'greenwoodlaw06.MatchCertified': WHATEVER THE INPUT: true; the input reads as it did. -/
def matchCertifiedSpec : ChangeSpec := { name := "matchCertified", fn := fun _ => fun
  | [d1, d2] => { results := [.lit (.bool true)], args := [d1, d2] }
  | _ => none }
def matchCertifiedRow : OpenClaim := { program := "ytjhkmilfhecdfaa", sum := "c398debfa16fa41528ac92ed739ef88a3efca29be79ef056ab3387bb5916a676", func := "greenwood/greenwoodlaw06.MatchCertified", spec := "matchCertified", unfollowed := true, recurses := true, apart := false }
def MatchCertifiedSaid : Prop := matchCertifiedRow.holds Try.pinned (OpenSpec.ofChange matchCertifiedSpec)

/-- ITS FALSE NEIGHBOUR: 'it returns false'. Refute it at one input. -/
def matchCertifiedWrong : ChangeSpec := { name := "matchCertified", fn := fun _ => fun
  | [d1, d2] => { results := [.lit (.bool false)], args := [d1, d2] }
  | _ => none }
def MatchCertifiedWrongFalsely : Prop := matchCertifiedRow.holds Try.pinned (OpenSpec.ofChange matchCertifiedWrong)

/-- 'greenwoodlaw06.MatchMore': WHATEVER THE INPUT: true; the input reads as it did. -/
def matchMoreSpec : ChangeSpec := { name := "matchMore", fn := fun _ => fun
  | [d1, d2, d3] => { results := [.lit (.bool true)], args := [d1, d2, d3] }
  | _ => none }
def matchMoreRow : OpenClaim := { program := "ytjhkmilfhecdfaa", sum := "c398debfa16fa41528ac92ed739ef88a3efca29be79ef056ab3387bb5916a676", func := "greenwood/greenwoodlaw06.MatchMore", spec := "matchMore", unfollowed := true, recurses := true, apart := false }
def MatchMoreSaid : Prop := matchMoreRow.holds Try.pinned (OpenSpec.ofChange matchMoreSpec)

/-- ITS FALSE NEIGHBOUR: 'it returns false'. Refute it at one input. -/
def matchMoreWrong : ChangeSpec := { name := "matchMore", fn := fun _ => fun
  | [d1, d2, d3] => { results := [.lit (.bool false)], args := [d1, d2, d3] }
  | _ => none }
def MatchMoreWrongFalsely : Prop := matchMoreRow.holds Try.pinned (OpenSpec.ofChange matchMoreWrong)

/-- 'greenwoodlaw06.MatchAll': WHATEVER THE INPUT: true; the input reads as it did. -/
def matchAllSpec : ChangeSpec := { name := "matchAll", fn := fun _ => fun
  | [d1, d2] => { results := [.lit (.bool true)], args := [d1, d2] }
  | _ => none }
def matchAllRow : OpenClaim := { program := "ytjhkmilfhecdfaa", sum := "c398debfa16fa41528ac92ed739ef88a3efca29be79ef056ab3387bb5916a676", func := "greenwood/greenwoodlaw06.MatchAll", spec := "matchAll", unfollowed := true, recurses := true, apart := false }
def MatchAllSaid : Prop := matchAllRow.holds Try.pinned (OpenSpec.ofChange matchAllSpec)

/-- ITS FALSE NEIGHBOUR: 'it returns false'. Refute it at one input. -/
def matchAllWrong : ChangeSpec := { name := "matchAll", fn := fun _ => fun
  | [d1, d2] => { results := [.lit (.bool false)], args := [d1, d2] }
  | _ => none }
def MatchAllWrongFalsely : Prop := matchAllRow.holds Try.pinned (OpenSpec.ofChange matchAllWrong)

/-- 'greenwoodlaw06.MatchHall': WHATEVER THE INPUT: true; the input reads as it did. -/
def matchHallSpec : ChangeSpec := { name := "matchHall", fn := fun _ => fun
  | [d1, d2] => { results := [.lit (.bool true)], args := [d1, d2] }
  | _ => none }
def matchHallRow : OpenClaim := { program := "ytjhkmilfhecdfaa", sum := "c398debfa16fa41528ac92ed739ef88a3efca29be79ef056ab3387bb5916a676", func := "greenwood/greenwoodlaw06.MatchHall", spec := "matchHall", unfollowed := true, recurses := true, apart := false }
def MatchHallSaid : Prop := matchHallRow.holds Try.pinned (OpenSpec.ofChange matchHallSpec)

/-- ITS FALSE NEIGHBOUR: 'it returns false'. Refute it at one input. -/
def matchHallWrong : ChangeSpec := { name := "matchHall", fn := fun _ => fun
  | [d1, d2] => { results := [.lit (.bool false)], args := [d1, d2] }
  | _ => none }
def MatchHallWrongFalsely : Prop := matchHallRow.holds Try.pinned (OpenSpec.ofChange matchHallWrong)

/-- 'greenwoodlaw07.ReachTells': WHATEVER THE INPUT: true; the input reads as it did. -/
def reachTellsSpec : ChangeSpec := { name := "reachTells", fn := fun _ => fun
  | [d1, d2, d3] => { results := [.lit (.bool true)], args := [d1, d2, d3] }
  | _ => none }
def reachTellsRow : OpenClaim := { program := "ytjhkmilfhecdfaa", sum := "c398debfa16fa41528ac92ed739ef88a3efca29be79ef056ab3387bb5916a676", func := "greenwood/greenwoodlaw07.ReachTells", spec := "reachTells", recurses := true, apart := false }
def ReachTellsSaid : Prop := reachTellsRow.holds Try.pinned (OpenSpec.ofChange reachTellsSpec)

/-- ITS FALSE NEIGHBOUR: 'it returns false'. Refute it at one input. -/
def reachTellsWrong : ChangeSpec := { name := "reachTells", fn := fun _ => fun
  | [d1, d2, d3] => { results := [.lit (.bool false)], args := [d1, d2, d3] }
  | _ => none }
def ReachTellsWrongFalsely : Prop := reachTellsRow.holds Try.pinned (OpenSpec.ofChange reachTellsWrong)

/-- 'greenwoodlaw07.ReachCloses': WHATEVER THE INPUT: true; the input reads as it did. -/
def reachClosesSpec : ChangeSpec := { name := "reachCloses", fn := fun _ => fun
  | [d1, d2, d3] => { results := [.lit (.bool true)], args := [d1, d2, d3] }
  | _ => none }
def reachClosesRow : OpenClaim := { program := "ytjhkmilfhecdfaa", sum := "c398debfa16fa41528ac92ed739ef88a3efca29be79ef056ab3387bb5916a676", func := "greenwood/greenwoodlaw07.ReachCloses", spec := "reachCloses", recurses := true, apart := false }
def ReachClosesSaid : Prop := reachClosesRow.holds Try.pinned (OpenSpec.ofChange reachClosesSpec)

/-- ITS FALSE NEIGHBOUR: 'it returns false'. Refute it at one input. -/
def reachClosesWrong : ChangeSpec := { name := "reachCloses", fn := fun _ => fun
  | [d1, d2, d3] => { results := [.lit (.bool false)], args := [d1, d2, d3] }
  | _ => none }
def ReachClosesWrongFalsely : Prop := reachClosesRow.holds Try.pinned (OpenSpec.ofChange reachClosesWrong)

/-- 'greenwoodlaw07.ReachShortest': WHATEVER THE INPUT: true; the input reads as it did. -/
def reachShortestSpec : ChangeSpec := { name := "reachShortest", fn := fun _ => fun
  | [d1, d2, d3] => { results := [.lit (.bool true)], args := [d1, d2, d3] }
  | _ => none }
def reachShortestRow : OpenClaim := { program := "ytjhkmilfhecdfaa", sum := "c398debfa16fa41528ac92ed739ef88a3efca29be79ef056ab3387bb5916a676", func := "greenwood/greenwoodlaw07.ReachShortest", spec := "reachShortest", recurses := true, apart := false }
def ReachShortestSaid : Prop := reachShortestRow.holds Try.pinned (OpenSpec.ofChange reachShortestSpec)

/-- ITS FALSE NEIGHBOUR: 'it returns false'. Refute it at one input. -/
def reachShortestWrong : ChangeSpec := { name := "reachShortest", fn := fun _ => fun
  | [d1, d2, d3] => { results := [.lit (.bool false)], args := [d1, d2, d3] }
  | _ => none }
def ReachShortestWrongFalsely : Prop := reachShortestRow.holds Try.pinned (OpenSpec.ofChange reachShortestWrong)

/-- 'greenwoodlaw07.ReachPath': WHATEVER THE INPUT: true; the input reads as it did. -/
def reachPathSpec : ChangeSpec := { name := "reachPath", fn := fun _ => fun
  | [d] => { results := [.lit (.bool true)], args := [d] }
  | _ => none }
def reachPathRow : OpenClaim := { program := "ytjhkmilfhecdfaa", sum := "c398debfa16fa41528ac92ed739ef88a3efca29be79ef056ab3387bb5916a676", func := "greenwood/greenwoodlaw07.ReachPath", spec := "reachPath", recurses := true, apart := false }
def ReachPathSaid : Prop := reachPathRow.holds Try.pinned (OpenSpec.ofChange reachPathSpec)

/-- ITS FALSE NEIGHBOUR: 'it returns false'. Refute it at one input. -/
def reachPathWrong : ChangeSpec := { name := "reachPath", fn := fun _ => fun
  | [d] => { results := [.lit (.bool false)], args := [d] }
  | _ => none }
def ReachPathWrongFalsely : Prop := reachPathRow.holds Try.pinned (OpenSpec.ofChange reachPathWrong)

/-- 'greenwoodlaw07.ReachJoins': WHATEVER THE INPUT: true; the input reads as it did. -/
def reachJoinsSpec : ChangeSpec := { name := "reachJoins", fn := fun _ => fun
  | [d1, d2, d3] => { results := [.lit (.bool true)], args := [d1, d2, d3] }
  | _ => none }
def reachJoinsRow : OpenClaim := { program := "ytjhkmilfhecdfaa", sum := "c398debfa16fa41528ac92ed739ef88a3efca29be79ef056ab3387bb5916a676", func := "greenwood/greenwoodlaw07.ReachJoins", spec := "reachJoins", recurses := true, apart := false }
def ReachJoinsSaid : Prop := reachJoinsRow.holds Try.pinned (OpenSpec.ofChange reachJoinsSpec)

/-- ITS FALSE NEIGHBOUR: 'it returns false'. Refute it at one input. -/
def reachJoinsWrong : ChangeSpec := { name := "reachJoins", fn := fun _ => fun
  | [d1, d2, d3] => { results := [.lit (.bool false)], args := [d1, d2, d3] }
  | _ => none }
def ReachJoinsWrongFalsely : Prop := reachJoinsRow.holds Try.pinned (OpenSpec.ofChange reachJoinsWrong)

/- THE SECOND FORM. 'bulk': how many values and letters a reading holds, each counted each time it is reached (what is shared counts as often as it is met; a slice's spare places count too). A statement '..UptoSaid' is the law's where the arguments, and the package variables that the reading takes, are together of bulk at most 1048576: NARROWER than '..Said'. Prove '..Said' where nothing that the law and all that it calls make is longer than what came in: it says more and counts as full. Else prove '..UptoSaid'. A law counts once. -/
mutual
def uptoBulk {H : Type} : DataW H → Nat
  | .lit (.string bytes) => bytes.length + 1
  | .lit _ => 1
  | .nil => 1
  | .ptr d => uptoBulk d + 1
  | .slice elems spare => uptoBulkAll elems + uptoBulkAll spare + 1
  | .agg parts => uptoBulkAll parts + 1
  | .iface _ d => uptoBulk d + 1
  | .map entries => uptoBulkEntries entries + 1
  | .held _ => 1
def uptoBulkAll {H : Type} : List (DataW H) → Nat
  | [] => 0
  | d :: r => uptoBulk d + uptoBulkAll r
def uptoBulkEntries {H : Type} : List (Lit × DataW H) → Nat
  | [] => 0
  | x :: r => uptoBulkEntry x + uptoBulkEntries r
def uptoBulkEntry {H : Type} : Lit × DataW H → Nat
  | (.string bytes, d) => bytes.length + uptoBulk d + 1
  | (_, d) => uptoBulk d + 1
 end
def uptoSmall : (H : Type) → List (DataW H) → Bool := fun _ ds => decide (uptoBulkAll ds ≤ 1048576)
def OpenSpec.upto (s : _root_.Go.ChangeSpec) : _root_.Go.OpenSpec := { _root_.Go.OpenSpec.ofChange s with cond := some uptoSmall }

/-- 'greenwoodlaw06.MatchSizes', WHERE WHAT IT READS IS OF BULK AT MOST 1048576: true; the input reads as it did. -/
def matchSizesUptoRow : OpenClaim := { program := "ytjhkmilfhecdfaa", sum := "c398debfa16fa41528ac92ed739ef88a3efca29be79ef056ab3387bb5916a676", func := "greenwood/greenwoodlaw06.MatchSizes", spec := "matchSizes", unfollowed := true, recurses := true, apart := false, narrowed := true }
def MatchSizesUptoSaid : Prop := matchSizesUptoRow.holds Try.pinned (OpenSpec.upto matchSizesSpec)

/-- 'greenwoodlaw06.MatchCertified', WHERE WHAT IT READS IS OF BULK AT MOST 1048576: true; the input reads as it did. -/
def matchCertifiedUptoRow : OpenClaim := { program := "ytjhkmilfhecdfaa", sum := "c398debfa16fa41528ac92ed739ef88a3efca29be79ef056ab3387bb5916a676", func := "greenwood/greenwoodlaw06.MatchCertified", spec := "matchCertified", unfollowed := true, recurses := true, apart := false, narrowed := true }
def MatchCertifiedUptoSaid : Prop := matchCertifiedUptoRow.holds Try.pinned (OpenSpec.upto matchCertifiedSpec)

/-- 'greenwoodlaw06.MatchMore', WHERE WHAT IT READS IS OF BULK AT MOST 1048576: true; the input reads as it did. -/
def matchMoreUptoRow : OpenClaim := { program := "ytjhkmilfhecdfaa", sum := "c398debfa16fa41528ac92ed739ef88a3efca29be79ef056ab3387bb5916a676", func := "greenwood/greenwoodlaw06.MatchMore", spec := "matchMore", unfollowed := true, recurses := true, apart := false, narrowed := true }
def MatchMoreUptoSaid : Prop := matchMoreUptoRow.holds Try.pinned (OpenSpec.upto matchMoreSpec)

/-- 'greenwoodlaw06.MatchAll', WHERE WHAT IT READS IS OF BULK AT MOST 1048576: true; the input reads as it did. -/
def matchAllUptoRow : OpenClaim := { program := "ytjhkmilfhecdfaa", sum := "c398debfa16fa41528ac92ed739ef88a3efca29be79ef056ab3387bb5916a676", func := "greenwood/greenwoodlaw06.MatchAll", spec := "matchAll", unfollowed := true, recurses := true, apart := false, narrowed := true }
def MatchAllUptoSaid : Prop := matchAllUptoRow.holds Try.pinned (OpenSpec.upto matchAllSpec)

/-- 'greenwoodlaw06.MatchHall', WHERE WHAT IT READS IS OF BULK AT MOST 1048576: true; the input reads as it did. -/
def matchHallUptoRow : OpenClaim := { program := "ytjhkmilfhecdfaa", sum := "c398debfa16fa41528ac92ed739ef88a3efca29be79ef056ab3387bb5916a676", func := "greenwood/greenwoodlaw06.MatchHall", spec := "matchHall", unfollowed := true, recurses := true, apart := false, narrowed := true }
def MatchHallUptoSaid : Prop := matchHallUptoRow.holds Try.pinned (OpenSpec.upto matchHallSpec)

/-- 'greenwoodlaw07.ReachTells', WHERE WHAT IT READS IS OF BULK AT MOST 1048576: true; the input reads as it did. -/
def reachTellsUptoRow : OpenClaim := { program := "ytjhkmilfhecdfaa", sum := "c398debfa16fa41528ac92ed739ef88a3efca29be79ef056ab3387bb5916a676", func := "greenwood/greenwoodlaw07.ReachTells", spec := "reachTells", recurses := true, apart := false, narrowed := true }
def ReachTellsUptoSaid : Prop := reachTellsUptoRow.holds Try.pinned (OpenSpec.upto reachTellsSpec)

/-- 'greenwoodlaw07.ReachCloses', WHERE WHAT IT READS IS OF BULK AT MOST 1048576: true; the input reads as it did. -/
def reachClosesUptoRow : OpenClaim := { program := "ytjhkmilfhecdfaa", sum := "c398debfa16fa41528ac92ed739ef88a3efca29be79ef056ab3387bb5916a676", func := "greenwood/greenwoodlaw07.ReachCloses", spec := "reachCloses", recurses := true, apart := false, narrowed := true }
def ReachClosesUptoSaid : Prop := reachClosesUptoRow.holds Try.pinned (OpenSpec.upto reachClosesSpec)

/-- 'greenwoodlaw07.ReachShortest', WHERE WHAT IT READS IS OF BULK AT MOST 1048576: true; the input reads as it did. -/
def reachShortestUptoRow : OpenClaim := { program := "ytjhkmilfhecdfaa", sum := "c398debfa16fa41528ac92ed739ef88a3efca29be79ef056ab3387bb5916a676", func := "greenwood/greenwoodlaw07.ReachShortest", spec := "reachShortest", recurses := true, apart := false, narrowed := true }
def ReachShortestUptoSaid : Prop := reachShortestUptoRow.holds Try.pinned (OpenSpec.upto reachShortestSpec)

/-- 'greenwoodlaw07.ReachPath', WHERE WHAT IT READS IS OF BULK AT MOST 1048576: true; the input reads as it did. -/
def reachPathUptoRow : OpenClaim := { program := "ytjhkmilfhecdfaa", sum := "c398debfa16fa41528ac92ed739ef88a3efca29be79ef056ab3387bb5916a676", func := "greenwood/greenwoodlaw07.ReachPath", spec := "reachPath", recurses := true, apart := false, narrowed := true }
def ReachPathUptoSaid : Prop := reachPathUptoRow.holds Try.pinned (OpenSpec.upto reachPathSpec)

/-- 'greenwoodlaw07.ReachJoins', WHERE WHAT IT READS IS OF BULK AT MOST 1048576: true; the input reads as it did. -/
def reachJoinsUptoRow : OpenClaim := { program := "ytjhkmilfhecdfaa", sum := "c398debfa16fa41528ac92ed739ef88a3efca29be79ef056ab3387bb5916a676", func := "greenwood/greenwoodlaw07.ReachJoins", spec := "reachJoins", recurses := true, apart := false, narrowed := true }
def ReachJoinsUptoSaid : Prop := reachJoinsUptoRow.holds Try.pinned (OpenSpec.upto reachJoinsSpec)

end Rows
end Go.Proofs.Ytjhkmilfhecdfaa
