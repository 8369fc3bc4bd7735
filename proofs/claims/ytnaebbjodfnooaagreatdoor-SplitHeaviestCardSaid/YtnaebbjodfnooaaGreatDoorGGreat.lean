/- The places of a list, the greatest ahead: cmp.Compare and cmp.Or, and the program's Greatest, walked, by slices.SortFunc's contract; a made list filledG with places one by one. -/
import Derived.Test.YtnaebbjodfnooaaGreatDoorGPlaces
import Derived.Test.YtnaebbjodfnooaaGreatDoorMShelf
import Derived.StillTailTactics
import Derived.Sort.OwnSortedInts
namespace Go.Proofs.YtnaebbjodfnooaaGreatDoor.Wp
open Go Go.RowKit Go.Sort Go.Lib
section
variable {n:Nat}
variable (l:List Int)
end
end Go.Proofs.YtnaebbjodfnooaaGreatDoor.Wp
