/- A region that draws its order, whose operations compute and whose calls make memory of their own alone: one walk, in the order of the text, at the class of worlds in which all that was there before is as it was. -/
import Derived.Test.YtcabbhiabhblfaaDoorWSeq
import Derived.BigQuiet
import Derived.Deep.QuietTactic
namespace Go.Proofs.YtcabbhiabhblfaaDoor
open Go.RowKit
namespace Wp

theorem wp_region_below {P : Program} {id : Nat} {Q : Exit → Act → World → Prop} {a : Act} {w : World} {l : List Oper} (B : Nat) (w0 : World) (hm : P.follows .mixedOrders = true) (hB : Region.lexB .any l.toArray = true) (hC : Below B w0 w)
    (h : wpQuiet P l.toArray (Below B w0) (fun a' => ∀ w', Below B w0 w' → Q .normal a' w') l a) : (Code.region id l.toArray true).wp P Q a w :=
  wp_region_quiet (C := Below B w0) hm hB ⟨hC.os, hC.tape, hC.output, hC.size, hC.block⟩ (by simpa using h)

end Wp
end Go.Proofs.YtcabbhiabhblfaaDoor
