/- SplitShifts answers true whatever comes in (one matroid, one matroid, one list of integers and integer), and leaves all as it was: the row and its tied card. The row lists nine package-level variables (math/bits' two tables, errors.errorType, this package's table of forms and its five errors) with what the program's text lays in them. -/
import Derived.Test.YtgpljiijjnaofaaGreatDoorHAsk
import Derived.ChangeMaps5
import Derived.Test.YtgpljiijjnaofaaGreatDoorYShift
import Derived.Test.YtgpljiijjnaofaaGreatDoorX0A
import Derived.Test.YtgpljiijjnaofaaGreatDoorX0C
set_option maxHeartbeats 1000000
set_option maxRecDepth 100000
namespace Go.Proofs.YtgpljiijjnaofaaGreatDoor
open Go.ChangeShapes Go.WideShapes Go.ChangeAt Go.RowKit
namespace Wp
theorem SplitShifts_lifted (os:Os) (x3:os.Started) (H:Type) (enc:TypeId × Value→H) :
  ReturnsInHanded {} Tryz.checked os 4 .any (fun w args=>(Rows.splitShiftsSpec.pre enc Tryz.prog Tryz.f4 [] false w args∧laidMetH Tryz.prog laidQ w)∧sizedMet enc Tryz.prog Tryz.f4 (OpenSpec.ofChange Rows.splitShiftsSpec) false w args)
   (Rows.splitShiftsSpec.post enc Tryz.prog Tryz.f4 false true false false):=by
 refine returnsInHanded_of_change_and (C:=Tryz.checked) (X:=fun w _=>laidMetH Tryz.prog laidQ w) (fun _ _ _ hh h=>h.of_heap hh) own x3 q31_ Tryz.func4
  (ChangeSpec.witness_shaped (enc:=enc) (C:=Tryz.checked) (os:=os) (X:=fun w _=>laidMetH Tryz.prog laidQ w) false (World.doorLaid Tryz.prog 400 os) #[.agg #[.int .i64 0,.int .i64 0,.int .i64 0,.int .i64 0,.slice none 0 0,.slice none 0 0],.agg #[.int .i64 0,.int .i64 0,.int .i64 0,.int .i64 0,.slice none 0 0,.slice none 0 0],.agg #[.slice none 0 0,.int .i64 0]] 8 rfl (World.shaped_of_RefB q31_ q31_) q31_ q31_ q31_ (Xd3 os _)) ?_
 intro W base args T gs x6 J B _ I V _;have c:∀ (j:Nat) t v,Tryz.f4.params[j]?=some t→args[j]?=some v→Value.okWide Tryz.prog W .any base t v:=J;have d:=B;obtain ⟨p,q,z,Y,rfl,xb,xc⟩:=B;have hA:DataW.TrodAll enc Tryz.prog W 0 (fun _=>true) true Tryz.f4.params.toList args.toList T p:=z;rw [Tryz.params4] at hA c;obtain ⟨o,xd,d0,x7,K,q0,xa,rfl,rfl,s,r0⟩:=trodAll_cons hA;obtain ⟨r,xe,d1,x8,L,q1,rfl,rfl,rfl,u,r1⟩:=trodAll_cons r0;obtain ⟨N,xf,d2,x9,M,q2,rfl,rfl,rfl,y,r2⟩:=trodAll_cons r1;obtain ⟨rfl,rfl,rfl⟩:=trodAll_nil r2;obtain rfl:args=#[o,r,N]:=by cases args;simp_all
 obtain ⟨rfl,rfl⟩:=trodVars_none Y;simp only [List.append_nil] at d;have g:∀ x∈K ++ L ++ M,x.block<W.heap.size:=fun x hx=>by
  have h:=d.lt x (by simpa using hx);simpa using h
 have D:∀ x∈K,x.block<W.heap.size:=fun x hx=>g x q34_;have x0:=s;have F:∀ x∈L,x.block<W.heap.size:=fun x hx=>g x q34_;have x1:=u;have G:∀ x∈M,x.block<W.heap.size:=fun x hx=>g x q34_;have x2:=y;obtain ⟨m0,Q,O⟩:=Za1 (c 0 25 o rfl rfl) s D I (j:=0) (by rw [Tryz.params4];rfl) rfl;obtain ⟨m1,R,P⟩:=Za1 (c 1 25 r rfl rfl) u F I (j:=1) (by rw [Tryz.params4];rfl) rfl;obtain ⟨q2,x4,x5,rfl,S⟩:=Zk6 (c 2 40 N rfl rfl) y G;obtain ⟨E,U⟩:=Zt1 V;clear z J;refine (SplitShifts_any E m0 o m1 r q2 x4 x5 W Q O R P S U).mono fun e W' ⟨Z,hb⟩=>?_;subst Z;refine ⟨_,rfl,?_⟩;exact Ze1 (pv:=[]) d (fun _ _ _=>trodAll_mk1 (shut_bool Tryz.underlying4 _)) (fun m k=>trodAll_cons_mk (Zz6 q31_ (of_decide_eq_true q31_) x0 hb D m (fun x hx=>k x (by first | exact absurd hx y31_ | simp [hx]))) (trodAll_cons_mk (Zz6 q31_ (of_decide_eq_true q31_) x1 hb F m (fun x hx=>k x (by first | exact absurd hx y31_ | simp [hx]))) (trodAll_mk1 (Zz6 q31_ (of_decide_eq_true q31_) x2 hb G m (fun x hx=>k x (by first | exact absurd hx y31_ | simp [hx])))))) (fun _ _=>rfl) y31_ hb (ok_one q31_ rfl (okWide_bool_mk Tryz.underlying4 _))
theorem SplitShifts_said:Rows.SplitShiftsSaid :=
 OpenClaim.holds_of_wide 4 Tryz.f4 rfl rfl rfl rfl rfl rfl rfl ⟨rfl,rfl,rfl,rfl,rfl⟩ rfl rfl rfl rfl rfl q31_ Tryz.func4 q31_
  (of_decide_eq_true q31_) (by unfold Func.isWrapper;first | (rw [if_pos x32_];kernel_rfl) | (rw [if_neg x32_];exact ⟨rfl,rfl⟩))
  (fun os c H enc _=>SplitShifts_lifted os c H enc)
theorem SplitShifts_plain (f:FuncId) (c:Func) (e:Tryz.pinned.checked.prog.funcNamed "greenwood/greenwoodlaw15.SplitShifts" = some f) (g:Tryz.pinned.checked.prog.funcs[f]?=some c) :
  true=Tryz.pinned.checked.prog.looks []∧∀ (j:Nat) t,c.params[j]?=some t→Tryz.pinned.checked.prog.wantsStandIn t=false:=by
 obtain rfl:f = 4 := Option.some.inj ((show Tryz.prog.funcNamed "greenwood/greenwoodlaw15.SplitShifts" = some 4 by kernel_rfl).symm.trans e) |>.symm;obtain rfl:c=Tryz.f4 := (Option.some.inj (Tryz.func4.symm.trans g)).symm;refine ⟨q31_,fun j t d=>?_⟩;rw [Tryz.params4] at d;have h:t = 25 ∨ t = 25 ∨ t = 40 := by simpa using Array.mem_of_getElem? d
 rcases h with rfl | rfl | rfl
 ·exact y23_
 ·exact y23_
 ·exact (show Tryz.prog.wantsStandIn 40 = false by kernel_rfl)
theorem SplitShifts_card:Rows.SplitShiftsCardSaid :=
 Claim7.holds_tied_plain_at .later [] _ _ _ _ SplitShifts_said (fun _ h=>by cases h) q31_ (fun _ h=>by cases h) splitShifts_row_tie rfl ⟨rfl,rfl⟩ q31_ rfl SplitShifts_plain q31_
end Wp
end Go.Proofs.YtgpljiijjnaofaaGreatDoor
