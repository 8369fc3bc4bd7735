/- SwapStuck answers true whatever comes in (one matroid, one matroid, one list of integers), and leaves all as it was: the row and its tied card. The row lists nine package-level variables (math/bits' two tables, errors.errorType, this package's table of forms and its five errors) with what the program's text lays in them. -/
import Derived.Test.YteiejkhdonmcdaaGreatDoorQGateE
import Derived.ChangeMaps5
import Derived.Test.YteiejkhdonmcdaaGreatDoorVStuck
import Derived.Test.YteiejkhdonmcdaaGreatDoorX0A
import Derived.Test.YteiejkhdonmcdaaGreatDoorX0B
set_option maxHeartbeats 1000000
set_option maxRecDepth 100000
namespace Go.Proofs.YteiejkhdonmcdaaGreatDoor
open Go.ChangeShapes Go.WideShapes Go.ChangeAt Go.RowKit
namespace Wp
theorem Zj0 (os:Os) (x3:os.Started) (H:Type) (enc:TypeId × Value→H) :
  ReturnsInHanded {} Tryz.checked os 5 .any (fun w args=>(Rows.swapStuckSpec.pre enc Tryz.prog Tryz.f5 [] false w args∧laidMetH Tryz.prog laidQ w)∧sizedMet enc Tryz.prog Tryz.f5 (OpenSpec.ofChange Rows.swapStuckSpec) false w args)
   (Rows.swapStuckSpec.post enc Tryz.prog Tryz.f5 false true false false):=by
 refine returnsInHanded_of_change_and (C:=Tryz.checked) (X:=fun w _=>laidMetH Tryz.prog laidQ w) (fun _ _ _ Z h=>h.of_heap Z) own x3 x39_ Tryz.func5
  (ChangeSpec.witness_shaped (enc:=enc) (C:=Tryz.checked) (os:=os) (X:=fun w _=>laidMetH Tryz.prog laidQ w) false (World.doorLaid Tryz.prog 400 os) #[.agg #[.int .i64 0,.int .i64 0,.int .i64 0,.int .i64 0,.slice none 0 0,.slice none 0 0],.agg #[.int .i64 0,.int .i64 0,.int .i64 0,.int .i64 0,.slice none 0 0,.slice none 0 0],.slice none 0 0] 8 rfl (World.shaped_of_RefB x39_ x39_) x39_ x39_ x39_ (Zj5 os _)) ?_
 intro W base args S gs x5 J B _ I U _;have c:∀ (j:Nat) t v,Tryz.f5.params[j]?=some t→args[j]?=some v→Value.okWide Tryz.prog W .any base t v:=J;have hW':=B;obtain ⟨p,q,z,V,rfl,xa,xb⟩:=B;have hA:DataW.TrodAll enc Tryz.prog W 0 (fun _=>true) true Tryz.f5.params.toList args.toList S p:=z;rw [Tryz.params5] at hA c;obtain ⟨m,xc,d0,x6,K,q0,x9,rfl,rfl,s,r0⟩:=trodAll_cons hA;obtain ⟨o,xd,d1,x7,L,q1,rfl,rfl,rfl,u,r1⟩:=trodAll_cons r0;obtain ⟨r,xe,d2,x8,M,q2,rfl,rfl,rfl,y,r2⟩:=trodAll_cons r1;obtain ⟨rfl,rfl,rfl⟩:=trodAll_nil r2;obtain rfl:args=#[m,o,r]:=by cases args;simp_all
 obtain ⟨rfl,rfl⟩:=trodVars_none V;simp only [List.append_nil] at hW';have d:∀ x∈K ++ L ++ M,x.block<W.heap.size:=fun x hx=>k19_;have D:∀ x∈K,x.block<W.heap.size:=fun x hx=>d x z42_;have x0:=s;have F:∀ x∈L,x.block<W.heap.size:=fun x hx=>d x z42_;have x1:=u;have G:∀ x∈M,x.block<W.heap.size:=fun x hx=>d x z42_;have x2:=y;obtain ⟨m0,P,N⟩:=E0_ (c 0 25 m rfl rfl) s D I (j:=0) (by rw [Tryz.params5];rfl) rfl;obtain ⟨m1,Q,O⟩:=E0_ (c 1 25 o rfl rfl) u F I (j:=1) (by rw [Tryz.params5];rfl) rfl;obtain ⟨x4,R⟩:=P7_ (c 2 26 r rfl rfl) y G;obtain ⟨E,T⟩:=L8_ U;clear z J;refine (Zs8 E m0 m m1 o r x4 W P N Q O R T).mono fun e W' ⟨Y,hb⟩=>?_;subst Y;refine ⟨_,rfl,?_⟩;exact G5_ (pv:=[]) hW' (fun _ _ _=>trodAll_mk1 (shut_bool Tryz.underlying4 _)) (fun k g=>trodAll_cons_mk (A1_ x39_ (of_decide_eq_true x39_) x0 hb D k (fun x hx=>g x (by first | exact absurd hx j39_ | simp [hx]))) (trodAll_cons_mk (A1_ x39_ (of_decide_eq_true x39_) x1 hb F k (fun x hx=>g x (by first | exact absurd hx j39_ | simp [hx]))) (trodAll_mk1 (A1_ x39_ (of_decide_eq_true x39_) x2 hb G k (fun x hx=>g x (by first | exact absurd hx j39_ | simp [hx])))))) (fun _ _=>rfl) j39_ hb (ok_one x39_ rfl (okWide_bool_mk Tryz.underlying4 _))
theorem Zi0:Rows.SwapStuckSaid :=
 OpenClaim.holds_of_wide 5 Tryz.f5 rfl rfl rfl rfl rfl rfl rfl ⟨rfl,rfl,rfl,rfl,rfl⟩ rfl rfl rfl rfl rfl x39_ Tryz.func5 x39_
  (of_decide_eq_true x39_) (by unfold Func.isWrapper;first | (rw [if_pos y40_];kernel_rfl) | (rw [if_neg y40_];exact ⟨rfl,rfl⟩))
  (fun os c H enc _=>Zj0 os c H enc)
theorem Zh0 (f:FuncId) (c:Func) (d:Tryz.pinned.checked.prog.funcNamed "greenwood/greenwoodlaw13.SwapStuck" = some f) (e:Tryz.pinned.checked.prog.funcs[f]?=some c) :
  true=Tryz.pinned.checked.prog.looks []∧∀ (j:Nat) t,c.params[j]?=some t→Tryz.pinned.checked.prog.wantsStandIn t=false:=by
 obtain rfl:f = 5 := Option.some.inj ((show Tryz.prog.funcNamed "greenwood/greenwoodlaw13.SwapStuck" = some 5 by kernel_rfl).symm.trans d) |>.symm;obtain rfl:c=Tryz.f5 := (Option.some.inj (Tryz.func5.symm.trans e)).symm;refine ⟨x39_,fun j t ht=>?_⟩;rw [Tryz.params5] at ht;have h:t = 25 ∨ t = 25 ∨ t = 26 := j46_;rcases h with rfl | rfl | rfl
 ·exact j7_
 ·exact j7_
 ·exact z15_
theorem SwapStuck_card:Rows.SwapStuckCardSaid :=
 Claim7.holds_tied_plain_at .later [] _ _ _ _ Zi0 (fun _ h=>by cases h) x39_ (fun _ h=>by cases h) swapStuck_row_tie rfl ⟨rfl,rfl⟩ x39_ rfl Zh0 x39_
end Wp
end Go.Proofs.YteiejkhdonmcdaaGreatDoor
