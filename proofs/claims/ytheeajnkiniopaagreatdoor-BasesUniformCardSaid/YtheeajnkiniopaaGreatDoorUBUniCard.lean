/- BasesSteps answers true whatever comes in (one matroid, one integer), and leaves all as it was: the row and its tied card. The row lists nine package-level variables (math/bits' two tables, errors.errorType, this package's table of forms and its five errors) with what the program's text lays in them. -/
import Derived.Test.YtheeajnkiniopaaGreatDoorQGateE
import Derived.ChangeMaps5
import Derived.Test.YtheeajnkiniopaaGreatDoorUBUni
import Derived.Test.YtheeajnkiniopaaGreatDoorX0A
import Derived.Test.YtheeajnkiniopaaGreatDoorX0B
set_option maxHeartbeats 1000000
set_option maxRecDepth 100000
namespace Go.Proofs.YtheeajnkiniopaaGreatDoor.Wp
open Go.ChangeShapes Go.WideShapes Go.ChangeAt Go.RowKit
theorem BasesSteps_lifted (os:Os) (Z:os.Started) (H:Type) (enc:TypeId × Value→H) :
  ReturnsInHanded {} Tryz.checked os 9 .any (fun w args=>(Rows.basesStepsSpec.pre enc Tryz.prog Tryz.f9 [] false w args∧laidMetH Tryz.prog laidQ w)∧sizedMet enc Tryz.prog Tryz.f9 (OpenSpec.ofChange Rows.basesStepsSpec) false w args)
   (Rows.basesStepsSpec.post enc Tryz.prog Tryz.f9 false true false false):=by
 refine returnsInHanded_of_change_and (C:=Tryz.checked) (X:=fun w _=>laidMetH Tryz.prog laidQ w) (fun _ _ _ P h=>h.of_heap P) own Z q30_ Tryz.func9
  (ChangeSpec.witness_shaped (enc:=enc) (C:=Tryz.checked) (os:=os) (X:=fun w _=>laidMetH Tryz.prog laidQ w) false (World.doorLaid Tryz.prog 400 os) #[.agg #[.int .i64 0,.int .i64 0,.int .i64 0,.int .i64 0,.slice none 0 0,.slice none 0 0],.int .i64 0] 8 rfl (World.shaped_of_RefB q30_ q30_) q30_ q30_ q30_ (Zd8 os _)) ?_
 intro W base args K gs x0 z r _ T M _;have c:∀ (j:Nat) t v,Tryz.f9.params[j]?=some t→args[j]?=some v→Value.okWide Tryz.prog W .any base t v:=z;have hW':=r;obtain ⟨p,q,o,N,rfl,x4,x5⟩:=r;have m:DataW.TrodAll enc Tryz.prog W 0 (fun _=>true) true Tryz.f9.params.toList args.toList K p:=o;rw [Tryz.params9] at m c;obtain ⟨d,x7,d0,x1,B,q0,x3,rfl,rfl,g,V⟩:=trodAll_cons m;obtain ⟨G,x8,d1,x2,D,q1,rfl,rfl,rfl,k,Y⟩:=trodAll_cons V;obtain ⟨rfl,rfl,rfl⟩:=trodAll_nil Y;obtain rfl:args=#[d,G]:=by cases args;simp_all
 obtain ⟨rfl,rfl⟩:=trodVars_none N;simp only [List.append_nil] at hW';have s:∀ x∈B ++ D,x.block<W.heap.size:=fun x hx=>k19_;have u:∀ x∈B,x.block<W.heap.size:=fun x hx=>s x x33_;have Q:=g;have S:∀ x∈D,x.block<W.heap.size:=fun x hx=>s x x33_;have R:=k;obtain ⟨m0,J,I⟩:=Yf6 (c 0 37 d rfl rfl) g u T (j:=0) (by rw [Tryz.params9];rfl) rfl;obtain ⟨U,rfl,rfl,rfl,x6⟩:=open_int Tryz.underlying3 (c 1 3 G rfl rfl) k;obtain ⟨E,L⟩:=M8_ M;clear o z;refine (BasesSteps_any E m0 d U W J I L).mono fun e W' ⟨O,hb⟩=>?_;subst O;refine ⟨_,rfl,?_⟩;exact G0_ (pv:=[]) hW' (fun _ _ _=>trodAll_mk1 (shut_bool Tryz.underlying4 _)) (fun F y=>trodAll_cons_mk (E8_ q30_ (of_decide_eq_true q30_) Q hb u F (fun x hx=>y x (by first | exact absurd hx y30_ | simp [hx]))) (trodAll_mk1 (E8_ q30_ (of_decide_eq_true q30_) R hb S F (fun x hx=>y x (by first | exact absurd hx y30_ | simp [hx]))))) (fun _ _=>rfl) y30_ hb (ok_one q30_ rfl (okWide_bool_mk Tryz.underlying4 _))
theorem BasesSteps_said:Rows.BasesStepsSaid :=
 OpenClaim.holds_of_wide 9 Tryz.f9 rfl rfl rfl rfl rfl rfl rfl ⟨rfl,rfl,rfl,rfl,rfl⟩ rfl rfl rfl rfl rfl q30_ Tryz.func9 q30_
  (of_decide_eq_true q30_) (by unfold Func.isWrapper;first | (rw [if_pos q31_];kernel_rfl) | (rw [if_neg q31_];exact ⟨rfl,rfl⟩))
  (fun os c H enc _=>BasesSteps_lifted os c H enc)
theorem BasesSteps_plain (f:FuncId) (c:Func) (d:Tryz.pinned.checked.prog.funcNamed "greenwood/greenwoodlaw17.BasesSteps" = some f) (e:Tryz.pinned.checked.prog.funcs[f]?=some c) :
  true=Tryz.pinned.checked.prog.looks []∧∀ (j:Nat) t,c.params[j]?=some t→Tryz.pinned.checked.prog.wantsStandIn t=false:=by
 obtain rfl:f = 9 := Option.some.inj ((show Tryz.prog.funcNamed "greenwood/greenwoodlaw17.BasesSteps" = some 9 by kernel_rfl).symm.trans d) |>.symm;obtain rfl:c=Tryz.f9 := (Option.some.inj (Tryz.func9.symm.trans e)).symm;refine ⟨q30_,fun j t ht=>?_⟩;rw [Tryz.params9] at ht;have h:t = 37 ∨ t = 3 := k37_;rcases h with rfl | rfl
 ·exact (show Tryz.prog.wantsStandIn 37 = false by kernel_rfl)
 ·exact z11_
theorem BasesSteps_card:Rows.BasesStepsCardSaid :=
 Claim7.holds_tied_plain_at .later [] _ _ _ _ BasesSteps_said (fun _ h=>by cases h) q30_ (fun _ h=>by cases h) basesSteps_row_tie rfl ⟨rfl,rfl⟩ q30_ rfl BasesSteps_plain q30_
open Go.ChangeShapes Go.WideShapes Go.ChangeAt Go.RowKit
theorem BasesUniform_lifted (os:Os) (x0:os.Started) (H:Type) (enc:TypeId × Value→H) :
  ReturnsInHanded {} Tryz.checked os 10 .any (fun w args=>(Rows.basesUniformSpec.pre enc Tryz.prog Tryz.f10 [] false w args∧laidMetH Tryz.prog laidQ w)∧sizedMet enc Tryz.prog Tryz.f10 (OpenSpec.ofChange Rows.basesUniformSpec) false w args)
   (Rows.basesUniformSpec.post enc Tryz.prog Tryz.f10 false true false false):=by
 refine returnsInHanded_of_change_and (C:=Tryz.checked) (X:=fun w _=>laidMetH Tryz.prog laidQ w) (fun _ _ _ O h=>h.of_heap O) own x0 q30_ Tryz.func10
  (ChangeSpec.witness_shaped (enc:=enc) (C:=Tryz.checked) (os:=os) (X:=fun w _=>laidMetH Tryz.prog laidQ w) false (World.doorLaid Tryz.prog 400 os) #[.int .i64 0,.int .i64 0,.int .i64 0] 8 rfl (World.shaped_of_RefB q30_ q30_) q30_ q30_ q30_ (Zd8 os _)) ?_
 intro W base args J gs x1 y u _ x8 L _;have c:∀ (j:Nat) t v,Tryz.f10.params[j]?=some t→args[j]?=some v→Value.okWide Tryz.prog W .any base t v:=y;have hW':=u;obtain ⟨p,q,s,M,rfl,x6,x7⟩:=u;have r:DataW.TrodAll enc Tryz.prog W 0 (fun _=>true) true Tryz.f10.params.toList args.toList J p:=s;rw [Tryz.params10] at r c;obtain ⟨F,xc,d0,x2,z,q0,x5,rfl,rfl,m,r0⟩:=trodAll_cons r;obtain ⟨G,xd,d1,x3,B,q1,rfl,rfl,rfl,o,r1⟩:=trodAll_cons r0;obtain ⟨I,xe,d2,x4,D,q2,rfl,rfl,rfl,h2,r2⟩:=trodAll_cons r1;obtain ⟨rfl,rfl,rfl⟩:=trodAll_nil r2;obtain rfl:args=#[F,G,I]:=by cases args;simp_all
 obtain ⟨rfl,rfl⟩:=trodVars_none M;simp only [List.append_nil] at hW';have d:∀ x∈z ++ B ++ D,x.block<W.heap.size:=fun x hx=>k19_;have S:∀ x∈z,x.block<W.heap.size:=fun x hx=>d x x33_;have P:=m;have T:∀ x∈B,x.block<W.heap.size:=fun x hx=>d x x33_;have Q:=o;have U:∀ x∈D,x.block<W.heap.size:=fun x hx=>d x x33_;have R:=h2;obtain ⟨V,rfl,rfl,rfl,x9⟩:=open_int Tryz.underlying3 (c 0 3 F rfl rfl) m;obtain ⟨Y,rfl,rfl,rfl,xa⟩:=open_int Tryz.underlying3 (c 1 3 G rfl rfl) o;obtain ⟨Z,rfl,rfl,rfl,xb⟩:=open_int Tryz.underlying3 (c 2 3 I rfl rfl) h2;obtain ⟨E,K⟩:=M8_ L;clear s y;refine (BasesUniform_any E V Y Z W  K).mono fun e W' ⟨N,hb⟩=>?_;subst N;refine ⟨_,rfl,?_⟩;exact G0_ (pv:=[]) hW' (fun _ _ _=>trodAll_mk1 (shut_bool Tryz.underlying4 _)) (fun k g=>trodAll_cons_mk (E8_ q30_ (of_decide_eq_true q30_) P hb S k (fun x hx=>g x (by first | exact absurd hx y30_ | simp [hx]))) (trodAll_cons_mk (E8_ q30_ (of_decide_eq_true q30_) Q hb T k (fun x hx=>g x (by first | exact absurd hx y30_ | simp [hx]))) (trodAll_mk1 (E8_ q30_ (of_decide_eq_true q30_) R hb U k (fun x hx=>g x (by first | exact absurd hx y30_ | simp [hx])))))) (fun _ _=>rfl) y30_ hb (ok_one q30_ rfl (okWide_bool_mk Tryz.underlying4 _))
theorem BasesUniform_said:Rows.BasesUniformSaid :=
 OpenClaim.holds_of_wide 10 Tryz.f10 rfl rfl rfl rfl rfl rfl rfl ⟨rfl,rfl,rfl,rfl,rfl⟩ rfl rfl rfl rfl rfl q30_ Tryz.func10 q30_
  (of_decide_eq_true q30_) (by unfold Func.isWrapper;first | (rw [if_pos q31_];kernel_rfl) | (rw [if_neg q31_];exact ⟨rfl,rfl⟩))
  (fun os c H enc _=>BasesUniform_lifted os c H enc)
theorem BasesUniform_plain (f:FuncId) (c:Func) (d:Tryz.pinned.checked.prog.funcNamed "greenwood/greenwoodlaw17.BasesUniform" = some f) (e:Tryz.pinned.checked.prog.funcs[f]?=some c) :
  true=Tryz.pinned.checked.prog.looks []∧∀ (j:Nat) t,c.params[j]?=some t→Tryz.pinned.checked.prog.wantsStandIn t=false:=by
 obtain rfl:f = 10 := Option.some.inj ((show Tryz.prog.funcNamed "greenwood/greenwoodlaw17.BasesUniform" = some 10 by kernel_rfl).symm.trans d) |>.symm;obtain rfl:c=Tryz.f10 := (Option.some.inj (Tryz.func10.symm.trans e)).symm;refine ⟨q30_,fun j t ht=>?_⟩;rw [Tryz.params10] at ht;have h:t = 3 ∨ t = 3 ∨ t = 3 := k37_;rcases h with rfl | rfl | rfl
 ·exact z11_
 ·exact z11_
 ·exact z11_
theorem BasesUniform_card:Rows.BasesUniformCardSaid :=
 Claim7.holds_tied_plain_at .later [] _ _ _ _ BasesUniform_said (fun _ h=>by cases h) q30_ (fun _ h=>by cases h) basesUniform_row_tie rfl ⟨rfl,rfl⟩ q30_ rfl BasesUniform_plain q30_
end Go.Proofs.YtheeajnkiniopaaGreatDoor.Wp
