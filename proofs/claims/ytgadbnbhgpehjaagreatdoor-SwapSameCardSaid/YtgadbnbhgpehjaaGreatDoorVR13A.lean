/- The document's Turn of layer 13, walked. -/
import Derived.Test.YtgadbnbhgpehjaaGreatDoorVI10C
import Derived.Test.YtgadbnbhgpehjaaGreatDoorZN
namespace Go.Proofs.YtgadbnbhgpehjaaGreatDoor
open Go Go.RowKit
namespace Wp
end Wp
end Go.Proofs.YtgadbnbhgpehjaaGreatDoor
