/- The calls whose answers the document fixes, of what may be exchanged, walked: they are as it fixes them (written by gen_vfix.py). -/
import Derived.Test.YteiejkhdonmcdaaGreatDoorVTurn
import Derived.Test.YteiejkhdonmcdaaGreatDoorZH
import Derived.Test.YteiejkhdonmcdaaGreatDoorX0A
namespace Go.Proofs.YteiejkhdonmcdaaGreatDoor
open Go Go.RowKit
namespace Wp
theorem cS (u v:Value) (l:List Int) (W:World) (c:Row W W.heap.size u l) (d:Row W W.heap.size v l) (hl:l.length≤1000):Calls Tryz.prog 21 #[u,v] W (Says W true) :=
 Ve0 u v l l W c d k35_ k35_ (by unfold sameB;simp)
end Wp
end Go.Proofs.YteiejkhdonmcdaaGreatDoor
