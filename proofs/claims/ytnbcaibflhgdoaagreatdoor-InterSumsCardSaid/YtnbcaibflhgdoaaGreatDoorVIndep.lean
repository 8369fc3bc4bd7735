/- The document's plain of layer 10, walked, kind by kind (written by gen_vplain.py). -/
import Derived.Test.YtnbcaibflhgdoaaGreatDoorVInd
import Derived.Test.YtnbcaibflhgdoaaGreatDoorZX
import Derived.Test.YtnbcaibflhgdoaaGreatDoorVLR
import Derived.Test.YtnbcaibflhgdoaaGreatDoorIJRef
import Derived.Deep.AppendLies
import Derived.Deep.RegionLaw
import Derived.Deep.RegionHeld3
import Derived.Test.YtnbcaibflhgdoaaGreatDoorQTD
namespace Go.Proofs.YtnbcaibflhgdoaaGreatDoor
open Go Go.RowKit
namespace Wp
open Go Go.RowKit
end Wp
end Go.Proofs.YtnbcaibflhgdoaaGreatDoor
