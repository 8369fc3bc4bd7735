/- InterTurns answers true whatever comes in (one matroid, one matroid), and leaves all as it was: the row and its tied card. The row lists nine package-level variables (math/bits' two tables, errors.errorType, this package's table of forms and its five errors) with what the program's text lays in them. -/
import Derived.Test.YteiejkhdonmcdaaGreatDoorQGateE
import Derived.ChangeMaps5
import Derived.Test.YteiejkhdonmcdaaGreatDoorYTurns
import Derived.Test.YteiejkhdonmcdaaGreatDoorX0A
import Derived.Test.YteiejkhdonmcdaaGreatDoorX0B
set_option maxHeartbeats 1000000
set_option maxRecDepth 100000
namespace Go.Proofs.YteiejkhdonmcdaaGreatDoor
open Go.ChangeShapes Go.WideShapes Go.ChangeAt Go.RowKit
namespace Wp
theorem InterTurns_lifted (os:Os) (Z:os.Started) (H:Type) (enc:TypeId × Value→H) :
  ReturnsInHanded {} Tryz.checked os 11 .any (fun w args=>(Rows.interTurnsSpec.pre enc Tryz.prog Tryz.f11 [] false w args∧laidMetH Tryz.prog laidQ w)∧sizedMet enc Tryz.prog Tryz.f11 (OpenSpec.ofChange Rows.interTurnsSpec) false w args)
   (Rows.interTurnsSpec.post enc Tryz.prog Tryz.f11 false true false false):=by
 refine returnsInHanded_of_change_and (C:=Tryz.checked) (X:=fun w _=>laidMetH Tryz.prog laidQ w) (fun _ _ _ S h=>h.of_heap S) own Z q36_ Tryz.func11
  (ChangeSpec.witness_shaped (enc:=enc) (C:=Tryz.checked) (os:=os) (X:=fun w _=>laidMetH Tryz.prog laidQ w) false (World.doorLaid Tryz.prog 400 os) #[.agg #[.int .i64 0,.int .i64 0,.int .i64 0,.int .i64 0,.slice none 0 0,.slice none 0 0],.agg #[.int .i64 0,.int .i64 0,.int .i64 0,.int .i64 0,.slice none 0 0,.slice none 0 0]] 8 rfl (World.shaped_of_RefB q36_ q36_) q36_ q36_ q36_ (Yf3 os _)) ?_
 intro W base args O gs x0 F s _ D hL _;have d:∀ (j:Nat) t v,Tryz.f11.params[j]?=some t→args[j]?=some v→Value.okWide Tryz.prog W .any base t v:=F;have c:=s;obtain ⟨p,q,r,Q,rfl,x4,x5⟩:=s;have hA:DataW.TrodAll enc Tryz.prog W 0 (fun _=>true) true Tryz.f11.params.toList args.toList O p:=r;rw [Tryz.params11] at hA d;obtain ⟨g,x6,d0,x1,G,q0,x3,rfl,rfl,m,V⟩:=trodAll_cons hA;obtain ⟨k,x7,d1,x2,I,q1,rfl,rfl,rfl,o,Y⟩:=trodAll_cons V;obtain ⟨rfl,rfl,rfl⟩:=trodAll_nil Y;obtain rfl:args=#[g,k]:=by cases args;simp_all
 obtain ⟨rfl,rfl⟩:=trodVars_none Q;simp only [List.append_nil] at c;have u:∀ x∈G ++ I,x.block<W.heap.size:=fun x hx=>by
  have h:=c.lt x j44_;simpa using h
 have y:∀ x∈G,x.block<W.heap.size:=fun x hx=>u x q40_;have T:=m;have z:∀ x∈I,x.block<W.heap.size:=fun x hx=>u x q40_;have U:=o;obtain ⟨m0,M,K⟩:=O9_ (d 0 25 g rfl rfl) m y D (j:=0) (by rw [Tryz.params11];rfl) rfl;obtain ⟨m1,N,L⟩:=O9_ (d 1 25 k rfl rfl) o z D (j:=1) (by rw [Tryz.params11];rfl) rfl;obtain ⟨E,P⟩:=Za3 hL;clear r F;refine (InterTurns_any E m0 g m1 k W M K N L P).mono fun e W' ⟨R,hb⟩=>?_;subst R;refine ⟨_,rfl,?_⟩;exact T1_ (pv:=[]) c (fun _ _ _=>trodAll_mk1 (shut_bool Tryz.underlying4 _)) (fun J B=>trodAll_cons_mk (T2_ q36_ (of_decide_eq_true q36_) T hb y J (fun x hx=>B x (by first | exact absurd hx z36_ | simp [hx]))) (trodAll_mk1 (T2_ q36_ (of_decide_eq_true q36_) U hb z J (fun x hx=>B x (by first | exact absurd hx z36_ | simp [hx]))))) (fun _ _=>rfl) z36_ hb (ok_one q36_ rfl (okWide_bool_mk Tryz.underlying4 _))
theorem InterTurns_said:Rows.InterTurnsSaid :=
 OpenClaim.holds_of_wide 11 Tryz.f11 rfl rfl rfl rfl rfl rfl rfl ⟨rfl,rfl,rfl,rfl,rfl⟩ rfl rfl rfl rfl rfl q36_ Tryz.func11 q36_
  (of_decide_eq_true q36_) (by unfold Func.isWrapper;first | (rw [if_pos y37_];kernel_rfl) | (rw [if_neg y37_];exact ⟨rfl,rfl⟩))
  (fun os c H enc _=>InterTurns_lifted os c H enc)
theorem InterTurns_plain (f:FuncId) (c:Func) (e:Tryz.pinned.checked.prog.funcNamed "greenwood/greenwoodlaw14.InterTurns" = some f) (g:Tryz.pinned.checked.prog.funcs[f]?=some c) :
  true=Tryz.pinned.checked.prog.looks []∧∀ (j:Nat) t,c.params[j]?=some t→Tryz.pinned.checked.prog.wantsStandIn t=false:=by
 obtain rfl:f = 11 := Option.some.inj ((show Tryz.prog.funcNamed "greenwood/greenwoodlaw14.InterTurns" = some 11 by kernel_rfl).symm.trans e) |>.symm;obtain rfl:c=Tryz.f11 := (Option.some.inj (Tryz.func11.symm.trans g)).symm;refine ⟨q36_,fun j t d=>?_⟩;rw [Tryz.params11] at d;have h:t = 25 ∨ t = 25 := by simpa using Array.mem_of_getElem? d
 rcases h with rfl | rfl
 ·exact y12_
 ·exact y12_
theorem InterTurns_card:Rows.InterTurnsCardSaid :=
 Claim7.holds_tied_plain_at .later [] _ _ _ _ InterTurns_said (fun _ h=>by cases h) q36_ (fun _ h=>by cases h) interTurns_row_tie rfl ⟨rfl,rfl⟩ q36_ rfl InterTurns_plain q36_
end Wp
end Go.Proofs.YteiejkhdonmcdaaGreatDoor
