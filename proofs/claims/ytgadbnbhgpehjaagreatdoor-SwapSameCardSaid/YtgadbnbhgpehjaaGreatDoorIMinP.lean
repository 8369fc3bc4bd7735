/- Duals, and what is restricted or contracted: their ranks, plain. -/
import Derived.Test.YtgadbnbhgpehjaaGreatDoorZF
namespace Go.Proofs.YtgadbnbhgpehjaaGreatDoor.Wp
open Go Go.RowKit
theorem rk_of {m : Mat} (h : chk m = 0) : Rk (nN m) (rkP 4 m) := rk_ok 4 m h (chk_ok.1 h).1
theorem Xf1 {m : Mat} {s : List Int} (h : mayI m s = true) : rankT m s = (rkP 4 m (memP s) : Nat) := if_pos h
end Go.Proofs.YtgadbnbhgpehjaaGreatDoor.Wp
