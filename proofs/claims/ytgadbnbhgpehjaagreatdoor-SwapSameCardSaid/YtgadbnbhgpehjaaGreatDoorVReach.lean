/- The document's own way to what is come to, and to the shortest way, plain: of any lists of points; without the program's. -/
import Derived.Test.YtgadbnbhgpehjaaGreatDoorZN
import Derived.Test.YtgadbnbhgpehjaaGreatDoorZF
namespace Go.Proofs.YtgadbnbhgpehjaaGreatDoor.Wp
open Go Go.RowKit
def DigP (adj : List (List Int)) : Prop := adj.length ≤ 4096 ∧ ∀ x, IsSet (adj.getD x []) ∧ ∀ y ∈ adj.getD x [], 0 ≤ y ∧ y < (adj.length : Int)
section
variable {adj : List (List Int)} (hd : DigP adj)
include hd
end
section
variable {adj : List (List Int)} {dst S : List Int} {i : Nat} {b s : Int}
end
end Go.Proofs.YtgadbnbhgpehjaaGreatDoor.Wp
