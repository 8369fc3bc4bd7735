/- The document's rank of columns of layer 5, walked: elimination, row by row (VLR). -/
import Derived.Test.YtnbcaibflhgdoaaGreatDoorIRank
import Derived.Test.YtnbcaibflhgdoaaGreatDoorZX
import Derived.Test.YtnbcaibflhgdoaaGreatDoorIJRef
import Derived.Test.YtnbcaibflhgdoaaGreatDoorZA
import Derived.Test.YtnbcaibflhgdoaaGreatDoorQTA
import Derived.StillTailTactics
import Derived.Deep.RegionWith
namespace Go.Proofs.YtnbcaibflhgdoaaGreatDoor.Wp.L
variable {p:Int} {R:Nat}
end Go.Proofs.YtnbcaibflhgdoaaGreatDoor.Wp.L
namespace Go.Proofs.YtnbcaibflhgdoaaGreatDoor
open Go.RowKit
namespace Wp.L
end Wp.L
end Go.Proofs.YtnbcaibflhgdoaaGreatDoor
namespace Go.Proofs.YtnbcaibflhgdoaaGreatDoor
open Go.RowKit
namespace Wp.L
structure Keep (w wr:World) (vm:Value) (vs:List Value) (M:List (List Int)):Prop where
 own:wr.ownsRow w.heap.size 26 1 vm vs.length vs
 fam:Fam wr w.heap.size vs M
 bel:Below w.heap.size w wr
end Wp.L
end Go.Proofs.YtnbcaibflhgdoaaGreatDoor
namespace Go.Proofs.YtnbcaibflhgdoaaGreatDoor
open Go.RowKit
namespace Wp.L
end Wp.L
end Go.Proofs.YtnbcaibflhgdoaaGreatDoor
