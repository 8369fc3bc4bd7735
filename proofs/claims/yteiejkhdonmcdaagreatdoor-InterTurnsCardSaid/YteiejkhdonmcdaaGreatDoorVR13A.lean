/- The document's Turn of layer 13, walked. -/
import Derived.Test.YteiejkhdonmcdaaGreatDoorZI
import Derived.Test.YteiejkhdonmcdaaGreatDoorZN
namespace Go.Proofs.YteiejkhdonmcdaaGreatDoor
open Go Go.RowKit
namespace Wp
end Wp
end Go.Proofs.YteiejkhdonmcdaaGreatDoor
