/- Closing steps that stand often, by their scripts (in walks of regions). -/
import Derived.BigQuiet
import Derived.Laws.AppendOwnNone
import Derived.Lib.Hide
import Derived.Lib.OwnBridge
import Derived.Maps.AppendAt
import Derived.StillTail
import Derived.WalkKit
import Derived.Test.YteiejkhdonmcdaaGreatDoorProg
namespace Go.Proofs.YteiejkhdonmcdaaGreatDoor.Wp
theorem q3_ {P:Prop} (h:P:=by
 simp only [execOp,Act.eval,e1]
 go_simp
 exact ⟨Below.refl _ _,rfl⟩):P:=h
theorem z4_ {P:Prop} (h:P:=by
 go_simp
 exact ⟨Below.refl _ _,rfl⟩):P:=h
theorem j13_ {P:Prop} (h:P:=by
 rw [hv] at e2
 cases p
 all_goals
  simp at e2
  have e2:v=_:=e2
  subst e2
  simp only [execOp,Act.eval,e1,hv]
  go_simp
  exact ⟨Below.refl _ _,rfl⟩):P:=h
theorem z50_ {P:Prop} (h:P:=by
 simp only [execOp]
 go_simp
 exact ⟨Below.refl _ _,(c.hP W hb).mono fun e w1 ⟨he,hb1⟩=>⟨_,he,hb1,rfl⟩⟩):P:=h
theorem j50_ {P:Prop} (h:P:=by
 simp only [execOp,Act.eval]
 go_simp
 exact ⟨(Below.refl _ W).alloc (Nat.le_refl _) _,Row.here (Row.lit1 W (x.x))⟩):P:=h
theorem k50_ {P:Prop} (h:P:=by
 refine ⟨Op.fieldAddr 28 (Operand.tmp 5) 0, 0,by kernel_rfl,fun a W _ _ hout _=>?_⟩
 have e1:=(hout 5 (by kernel_rfl)).trans c.h5
 exact q3_):P:=h
theorem q51_ {P:Prop} (h:P:=by
 refine ⟨Op.load 25 (Operand.tmp 3), 25,by kernel_rfl,fun a W _ hb hout _=>?_⟩
 have e1:=(hout 3 (by kernel_rfl)).trans c.h3
 obtain ⟨k0,k1,k2,k3,k4,k5⟩:=c.hK1 W hb
 exact q3_):P:=h
theorem x51_ {P:Prop} (h:P:=by
 refine ⟨Op.load 25 (Operand.tmp 4), 25,by kernel_rfl,fun a W _ hb hout _=>?_⟩
 have e1:=(hout 4 (by kernel_rfl)).trans c.h4
 obtain ⟨k0,k1,k2,k3,k4,k5⟩:=c.hK2 W hb
 exact q3_):P:=h
theorem y51_ {P:Prop} (h:P:=by
 simp only [execOp,Act.eval,e1,e2]
 exact z4_):P:=h
theorem z51_ {P:Prop} (h:P:=by
 have e1:=(hout 1 (by kernel_rfl)).trans c.h1
 exact q3_):P:=h
theorem j51_ {P:Prop} (h:P:=by
 refine ⟨Op.fieldAddr 28 (Operand.tmp 5) 1, 0,by kernel_rfl,fun a W _ _ hout _=>?_⟩
 have e1:=(hout 5 (by kernel_rfl)).trans c.h5
 exact q3_):P:=h
theorem k51_ {P:Prop} (h:P:=by
 have e1:=(hout 2 (by kernel_rfl)).trans c.h2
 exact q3_):P:=h
theorem q52_ {P:Prop} (h:P:=by
 have k0:=c.hK30 W hb
 exact q3_):P:=h
theorem x52_ {P:Prop} (h:P:=by
 refine ⟨Op.move (Operand.tmp 1), 26,by kernel_rfl,fun a W _ _ hout _=>?_⟩
 exact z51_):P:=h
theorem y52_ {P:Prop} (h:P:=by
 refine ⟨Op.move (Operand.tmp 2), 26,by kernel_rfl,fun a W _ _ hout _=>?_⟩
 exact k51_):P:=h
end Go.Proofs.YteiejkhdonmcdaaGreatDoor.Wp
