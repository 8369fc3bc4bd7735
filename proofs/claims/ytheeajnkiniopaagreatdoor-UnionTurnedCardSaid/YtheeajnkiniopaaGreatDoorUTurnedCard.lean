/- UnionTurned answers true whatever comes in (one list of matroids), and leaves all as it was: the row and its tied card. The row lists nine package-level variables (math/bits' two tables, errors.errorType, this package's table of forms and its five errors) with what the program's text lays in them. -/
import Derived.Test.YtheeajnkiniopaaGreatDoorQGateE
import Derived.ChangeMaps5
import Derived.Test.YtheeajnkiniopaaGreatDoorUTurned
import Derived.Test.YtheeajnkiniopaaGreatDoorX0A
import Derived.Test.YtheeajnkiniopaaGreatDoorX0B
set_option maxHeartbeats 1000000
set_option maxRecDepth 100000
namespace Go.Proofs.YtheeajnkiniopaaGreatDoor.Wp
open Go.ChangeShapes Go.WideShapes Go.ChangeAt Go.RowKit
theorem UnionTurned_lifted (os:Os) (Q:os.Started) (H:Type) (enc:TypeId × Value→H) :
  ReturnsInHanded {} Tryz.checked os 7 .any (fun w args=>(Rows.unionTurnedSpec.pre enc Tryz.prog Tryz.f7 [] false w args∧laidMetH Tryz.prog laidQ w)∧sizedMet enc Tryz.prog Tryz.f7 (OpenSpec.ofChange Rows.unionTurnedSpec) false w args)
   (Rows.unionTurnedSpec.post enc Tryz.prog Tryz.f7 false true false false):=by
 refine returnsInHanded_of_change_and (C:=Tryz.checked) (X:=fun w _=>laidMetH Tryz.prog laidQ w) (fun _ _ _ J h=>h.of_heap J) own Q q30_ Tryz.func7
  (ChangeSpec.witness_shaped (enc:=enc) (C:=Tryz.checked) (os:=os) (X:=fun w _=>laidMetH Tryz.prog laidQ w) false (World.doorLaid Tryz.prog 400 os) #[.slice none 0 0] 8 rfl (World.shaped_of_RefB q30_ q30_) q30_ q30_ q30_ (Zd8 os _)) ?_
 intro W base args B gs S s m _ N F _;have r:∀ (j:Nat) t v,Tryz.f7.params[j]?=some t→args[j]?=some v→Value.okWide Tryz.prog W .any base t v:=s;have hW':=m;obtain ⟨p,q,k,G,rfl,Y,Z⟩:=m;have g:DataW.TrodAll enc Tryz.prog W 0 (fun _=>true) true Tryz.f7.params.toList args.toList B p:=k;rw [Tryz.params7] at g r;obtain ⟨c,x0,T,U,u,q0,V,rfl,rfl,d,O⟩:=trodAll_cons g;obtain ⟨rfl,rfl,rfl⟩:=trodAll_nil O;obtain rfl:args=#[c]:=by cases args;simp_all
 obtain ⟨rfl,rfl⟩:=trodVars_none G;simp only [List.append_nil] at hW';have L:∀ x∈u,x.block<W.heap.size:=fun x hx=>k19_;have o:∀ x∈u,x.block<W.heap.size:=fun x hx=>L x x33_;have K:=d;obtain ⟨m0,z,y⟩:=Zt4 (r 0 22 c rfl rfl) d o N (j:=0) (by rw [Tryz.params7];rfl) rfl;obtain ⟨E,D⟩:=M8_ F;clear k s;refine (UnionTurned_any E m0 c W z y D).mono fun e R ⟨I,hb⟩=>?_;subst I;refine ⟨_,rfl,?_⟩;exact G0_ (pv:=[]) hW' (fun _ _ _=>trodAll_mk1 (shut_bool Tryz.underlying4 _)) (fun P M=>trodAll_mk1 (E8_ q30_ (of_decide_eq_true q30_) K hb o P (fun x hx=>M x (by first | exact absurd hx y30_ | simp [hx])))) (fun _ _=>rfl) y30_ hb (ok_one q30_ rfl (okWide_bool_mk Tryz.underlying4 _))
theorem UnionTurned_said:Rows.UnionTurnedSaid :=
 OpenClaim.holds_of_wide 7 Tryz.f7 rfl rfl rfl rfl rfl rfl rfl ⟨rfl,rfl,rfl,rfl,rfl⟩ rfl rfl rfl rfl rfl q30_ Tryz.func7 q30_
  (of_decide_eq_true q30_) (by unfold Func.isWrapper;first | (rw [if_pos q31_];kernel_rfl) | (rw [if_neg q31_];exact ⟨rfl,rfl⟩))
  (fun os c H enc _=>UnionTurned_lifted os c H enc)
theorem UnionTurned_plain (f:FuncId) (c:Func) (d:Tryz.pinned.checked.prog.funcNamed "greenwood/greenwoodlaw16.UnionTurned" = some f) (e:Tryz.pinned.checked.prog.funcs[f]?=some c) :
  true=Tryz.pinned.checked.prog.looks []∧∀ (j:Nat) t,c.params[j]?=some t→Tryz.pinned.checked.prog.wantsStandIn t=false:=by
 obtain rfl:f = 7 := Option.some.inj ((show Tryz.prog.funcNamed "greenwood/greenwoodlaw16.UnionTurned" = some 7 by kernel_rfl).symm.trans d) |>.symm;obtain rfl:c=Tryz.f7 := (Option.some.inj (Tryz.func7.symm.trans e)).symm;refine ⟨q30_,fun j t ht=>?_⟩;rw [Tryz.params7] at ht;obtain rfl:t = 22 := k37_;exact (show Tryz.prog.wantsStandIn 22 = false by kernel_rfl)
theorem UnionTurned_card:Rows.UnionTurnedCardSaid :=
 Claim7.holds_tied_plain_at .later [] _ _ _ _ UnionTurned_said (fun _ h=>by cases h) q30_ (fun _ h=>by cases h) unionTurned_row_tie rfl ⟨rfl,rfl⟩ q30_ rfl UnionTurned_plain q30_
end Go.Proofs.YtheeajnkiniopaaGreatDoor.Wp
