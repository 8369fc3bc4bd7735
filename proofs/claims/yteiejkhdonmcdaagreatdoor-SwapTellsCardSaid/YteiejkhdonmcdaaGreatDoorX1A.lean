/- Closing steps that stand often, by their scripts (plain). -/
import Derived.Lib.Hide
namespace Go.Proofs.YteiejkhdonmcdaaGreatDoor.Wp
theorem j52_ {P:Prop} (h:P:=by have:=HB1.out.size;simp;omega):P:=h
theorem k52_ {P:Prop} (h:P:=by omega):P:=h
theorem x53_ {P:Prop} (h:P:=by simp):P:=h
end Go.Proofs.YteiejkhdonmcdaaGreatDoor.Wp
