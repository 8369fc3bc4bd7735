/- Closing steps that stand often, by their scripts (in walks). -/
import Derived.BigQuiet
import Derived.Laws.AppendOwnNone
import Derived.Lib.Hide
import Derived.Lib.OwnBridge
import Derived.Maps.AppendAt
import Derived.WalkKit
import Derived.Test.YteiejkhdonmcdaaGreatDoorProg
namespace Go.Proofs.YteiejkhdonmcdaaGreatDoor.Wp
theorem j6_ {P:Prop} (h:P:=by
 have Hown4:=hid hown'
 have HB4:=hid (HB1.out.trans hb14)
 clear hown' hgrow hb14
 go_wp2
 go_roundw
 case rel=>exact ⟨q+1,by go_num,by omega,hid (by rw [HN2.out,List.length_append];exact Hown4.out),HB4⟩
 case measure=>simp [intOf];omega):P:=h
theorem x23_ {P:Prop} (h:P:=by
 go_wp2_with fail
 refine (Y0_ E _ HE.out).mono ?_
 rintro e w3 ⟨rfl,hb3⟩
 replace Hb0:=hid (Z0_ Hb0.out (Nat.le_refl _) hb3)
 clear hb3
 clear r0 r1
 go_wp2
 go_ret
 exact ⟨rfl,Hb0.out⟩):P:=h
theorem y50_ {P:Prop} (h:P:=by
 go_wp2_with fail
 refine (Y0_ E _ HE.out).mono ?_
 rintro e w3 ⟨rfl,hb3⟩
 replace Hb0:=hid (Z0_ Hb0.out (Nat.le_refl _) hb3)
 clear hb3
 go_wp2
 go_ret
 exact ⟨rfl,Hb0.out⟩):P:=h
theorem z52_ {P:Prop} (h:P:=by kernel_rfl):P:=h
theorem q53_ {P:Prop} (h:P:=by rw [show ygO.size=11 by kernel_rfl];decide):P:=h
end Go.Proofs.YteiejkhdonmcdaaGreatDoor.Wp
