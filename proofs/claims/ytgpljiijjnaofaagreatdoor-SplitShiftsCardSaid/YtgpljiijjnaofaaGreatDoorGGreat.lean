/- The places of a list, the greatest ahead: cmp.Compare and cmp.Or, and the program's Greatest, walked, by slices.SortFunc's contract; a made list filledG with places one by one. -/
import Derived.Test.YtgpljiijjnaofaaGreatDoorGPlaces
import Derived.Test.YtgpljiijjnaofaaGreatDoorMShelf
import Derived.StillTailTactics
import Derived.Sort.OwnSortedInts
namespace Go.Proofs.YtgpljiijjnaofaaGreatDoor
open Go Go.RowKit Go.Sort Go.Lib
namespace Wp
section
variable {n:Nat}
variable (l:List Int)
end
end Wp
end Go.Proofs.YtgpljiijjnaofaaGreatDoor
