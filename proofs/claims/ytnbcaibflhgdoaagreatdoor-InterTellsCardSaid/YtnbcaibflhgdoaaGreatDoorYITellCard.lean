/- InterTells answers true whatever comes in (one matroid, one matroid, one list of integers), and leaves all as it was: the row and its tied card. The row lists nine package-level variables (math/bits' two tables, errors.errorType, this package's table of forms and its five errors) with what the program's text lays in them. -/
import Derived.Test.YtnbcaibflhgdoaaGreatDoorQGateE
import Derived.ChangeMaps5
import Derived.Test.YtnbcaibflhgdoaaGreatDoorYITell
import Derived.Test.YtnbcaibflhgdoaaGreatDoorX0A
import Derived.Test.YtnbcaibflhgdoaaGreatDoorX0B
set_option maxHeartbeats 1000000
set_option maxRecDepth 100000
namespace Go.Proofs.YtnbcaibflhgdoaaGreatDoor
open Go.ChangeShapes Go.WideShapes Go.ChangeAt Go.RowKit
namespace Wp
theorem InterTells_lifted (os:Os) (x3:os.Started) (H:Type) (enc:TypeId × Value→H) :
  ReturnsInHanded {} Tryz.checked os 3 .any (fun w args=>(Rows.interTellsSpec.pre enc Tryz.prog Tryz.f3 [] false w args∧laidMetH Tryz.prog laidQ w)∧sizedMet enc Tryz.prog Tryz.f3 (OpenSpec.ofChange Rows.interTellsSpec) false w args)
   (Rows.interTellsSpec.post enc Tryz.prog Tryz.f3 false true false false):=by
 refine returnsInHanded_of_change_and (C:=Tryz.checked) (X:=fun w _=>laidMetH Tryz.prog laidQ w) (fun _ _ _ Z h=>h.of_heap Z) own x3 x41_ Tryz.func3
  (ChangeSpec.witness_shaped (enc:=enc) (C:=Tryz.checked) (os:=os) (X:=fun w _=>laidMetH Tryz.prog laidQ w) false (World.doorLaid Tryz.prog 400 os) #[.agg #[.int .i64 0,.int .i64 0,.int .i64 0,.int .i64 0,.slice none 0 0,.slice none 0 0],.agg #[.int .i64 0,.int .i64 0,.int .i64 0,.int .i64 0,.slice none 0 0,.slice none 0 0],.slice none 0 0] 8 rfl (World.shaped_of_RefB x41_ x41_) x41_ x41_ x41_ (Xn2 os _)) ?_
 intro W base args T gs x5 K D _ J hL _;have c:∀ (j:Nat) t v,Tryz.f3.params[j]?=some t→args[j]?=some v→Value.okWide Tryz.prog W .any base t v:=K;have d:=D;obtain ⟨p,q,B,V,rfl,xa,xb⟩:=D;have hA:DataW.TrodAll enc Tryz.prog W 0 (fun _=>true) true Tryz.f3.params.toList args.toList T p:=B;rw [Tryz.params3] at hA c;obtain ⟨o,xc,d0,x6,L,q0,x9,rfl,rfl,u,r0⟩:=trodAll_cons hA;obtain ⟨r,xd,d1,x7,M,q1,rfl,rfl,rfl,y,r1⟩:=trodAll_cons r0;obtain ⟨s,xe,d2,x8,N,q2,rfl,rfl,rfl,z,r2⟩:=trodAll_cons r1;obtain ⟨rfl,rfl,rfl⟩:=trodAll_nil r2;obtain rfl:args=#[o,r,s]:=by cases args;simp_all
 obtain ⟨rfl,rfl⟩:=trodVars_none V;simp only [List.append_nil] at d;have g:∀ x∈L ++ M ++ N,x.block<W.heap.size:=fun x hx=>by
  have h:=d.lt x (by simpa using hx);simpa using h
 have F:∀ x∈L,x.block<W.heap.size:=fun x hx=>g x k45_;have x0:=u;have G:∀ x∈M,x.block<W.heap.size:=fun x hx=>g x k45_;have x1:=y;have I:∀ x∈N,x.block<W.heap.size:=fun x hx=>g x k45_;have x2:=z;obtain ⟨m0,Q,O⟩:=Zi0 (c 0 25 o rfl rfl) u F J (j:=0) (by rw [Tryz.params3];rfl) rfl;obtain ⟨m1,R,P⟩:=Zi0 (c 1 25 r rfl rfl) y G J (j:=1) (by rw [Tryz.params3];rfl) rfl;obtain ⟨x4,S⟩:=Yo6 (c 2 26 s rfl rfl) z I;obtain ⟨E,U⟩:=Yq3 hL;clear B K;refine (Zh9 E m0 o m1 r s x4 W Q O R P S U).mono fun e W' ⟨Y,hb⟩=>?_;subst Y;refine ⟨_,rfl,?_⟩;exact Zn3 (pv:=[]) d (fun _ _ _=>trodAll_mk1 (shut_bool Tryz.underlying4 _)) (fun m k=>trodAll_cons_mk (Za6 x41_ (of_decide_eq_true x41_) x0 hb F m (fun x hx=>k x (by first | exact absurd hx j41_ | simp [hx]))) (trodAll_cons_mk (Za6 x41_ (of_decide_eq_true x41_) x1 hb G m (fun x hx=>k x (by first | exact absurd hx j41_ | simp [hx]))) (trodAll_mk1 (Za6 x41_ (of_decide_eq_true x41_) x2 hb I m (fun x hx=>k x (by first | exact absurd hx j41_ | simp [hx])))))) (fun _ _=>rfl) j41_ hb (ok_one x41_ rfl (okWide_bool_mk Tryz.underlying4 _))
theorem InterTells_said:Rows.InterTellsSaid :=
 OpenClaim.holds_of_wide 3 Tryz.f3 rfl rfl rfl rfl rfl rfl rfl ⟨rfl,rfl,rfl,rfl,rfl⟩ rfl rfl rfl rfl rfl x41_ Tryz.func3 x41_
  (of_decide_eq_true x41_) (by unfold Func.isWrapper;first | (rw [if_pos j42_];kernel_rfl) | (rw [if_neg j42_];exact ⟨rfl,rfl⟩))
  (fun os c H enc _=>InterTells_lifted os c H enc)
theorem InterTells_plain (f:FuncId) (c:Func) (e:Tryz.pinned.checked.prog.funcNamed "greenwood/greenwoodlaw14.InterTells" = some f) (g:Tryz.pinned.checked.prog.funcs[f]?=some c) :
  true=Tryz.pinned.checked.prog.looks []∧∀ (j:Nat) t,c.params[j]?=some t→Tryz.pinned.checked.prog.wantsStandIn t=false:=by
 obtain rfl:f = 3 := Option.some.inj ((show Tryz.prog.funcNamed "greenwood/greenwoodlaw14.InterTells" = some 3 by kernel_rfl).symm.trans e) |>.symm;obtain rfl:c=Tryz.f3 := (Option.some.inj (Tryz.func3.symm.trans g)).symm;refine ⟨x41_,fun j t d=>?_⟩;rw [Tryz.params3] at d;have h:t = 25 ∨ t = 25 ∨ t = 26 := by simpa using Array.mem_of_getElem? d
 rcases h with rfl | rfl | rfl
 ·exact q30_
 ·exact q30_
 ·exact (show Tryz.prog.wantsStandIn 26 = false by kernel_rfl)
theorem InterTells_card:Rows.InterTellsCardSaid :=
 Claim7.holds_tied_plain_at .later [] _ _ _ _ InterTells_said (fun _ h=>by cases h) x41_ (fun _ h=>by cases h) interTells_row_tie rfl ⟨rfl,rfl⟩ x41_ rfl InterTells_plain x41_
end Wp
end Go.Proofs.YtnbcaibflhgdoaaGreatDoor
