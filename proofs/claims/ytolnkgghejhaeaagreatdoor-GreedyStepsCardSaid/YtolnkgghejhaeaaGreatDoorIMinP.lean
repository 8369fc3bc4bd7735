/- Duals, and what is restricted or contracted: their ranks, plain. -/
import Derived.Test.YtolnkgghejhaeaaGreatDoorZF
namespace Go.Proofs.YtolnkgghejhaeaaGreatDoor.Wp
open Go Go.RowKit

/-! ### The dual -/
/-! ### What is restricted, what is contracted -/
def atN (l : List Int) (i : Nat) : Nat := (l.getD i 0).toNat
/-! ### Places of those of a list that are in a set -/
def plcL (s l : List Int) (k : Nat) : List Int := (upTo k).filter fun i => s.contains (l.getD i.toNat 0)
def gotL (s l : List Int) (k : Nat) : List Int := (plcL s l k).map fun i => l.getD i.toNat 0
end Go.Proofs.YtolnkgghejhaeaaGreatDoor.Wp
