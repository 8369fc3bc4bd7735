/- Edges, and rows of rows, that the call itself makes, by append (VOwn). The document's Mod, Pow and Inv of layer 4, walked (VMR). -/
import Derived.Test.YtnbcaibflhgdoaaGreatDoorIJRef
import Derived.Test.YtnbcaibflhgdoaaGreatDoorZA
import Derived.Laws.AppendOwnNone
import Derived.Maps.AppendAt
import Derived.Test.YtnbcaibflhgdoaaGreatDoorQTA
import Derived.Deep.RegionWith
import Derived.Test.YtnbcaibflhgdoaaGreatDoorX0A
namespace Go.Proofs.YtnbcaibflhgdoaaGreatDoor
open Go.RowKit
namespace Wp
theorem O5_ {w w':World} {base:Nat} {e:TypeId} {c:Nat} {v:Value} {n:Nat} {d:List Value} (h:w.ownsRow base e c v n d) (hb:Below w.heap.size w w'):w'.ownsRow base e c v n d :=
 h.kept (Y6_ hb none) (by
  rcases v.ownBlock with _ | q
  ·exact .inl rfl
  ·exact .inr x30_)
open Go.RowKit
open Go.RowKit
end Wp
end Go.Proofs.YtnbcaibflhgdoaaGreatDoor
