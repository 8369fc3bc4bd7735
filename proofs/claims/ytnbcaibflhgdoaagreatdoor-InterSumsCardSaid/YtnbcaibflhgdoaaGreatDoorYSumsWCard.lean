/- InterSums answers true whatever comes in (one list of matroids), and leaves all as it was: the row and its tied card. The row lists nine package-level variables (math/bits' two tables, errors.errorType, this package's table of forms and its five errors) with what the program's text lays in them. -/
import Derived.Test.YtnbcaibflhgdoaaGreatDoorQGateE
import Derived.ChangeMaps5
import Derived.Test.YtnbcaibflhgdoaaGreatDoorYSumsW
import Derived.Test.YtnbcaibflhgdoaaGreatDoorX0A
import Derived.Test.YtnbcaibflhgdoaaGreatDoorX0B
set_option maxHeartbeats 1000000
set_option maxRecDepth 100000
namespace Go.Proofs.YtnbcaibflhgdoaaGreatDoor
open Go.ChangeShapes Go.WideShapes Go.ChangeAt Go.RowKit
namespace Wp
theorem InterSums_lifted (os:Os) (Q:os.Started) (H:Type) (enc:TypeId × Value→H) :
  ReturnsInHanded {} Tryz.checked os 5 .any (fun w args=>(Rows.interSumsSpec.pre enc Tryz.prog Tryz.f5 [] false w args∧laidMetH Tryz.prog laidQ w)∧sizedMet enc Tryz.prog Tryz.f5 (OpenSpec.ofChange Rows.interSumsSpec) false w args)
   (Rows.interSumsSpec.post enc Tryz.prog Tryz.f5 false true false false):=by
 refine returnsInHanded_of_change_and (C:=Tryz.checked) (X:=fun w _=>laidMetH Tryz.prog laidQ w) (fun _ _ _ J h=>h.of_heap J) own Q k29_ Tryz.func5
  (ChangeSpec.witness_shaped (enc:=enc) (C:=Tryz.checked) (os:=os) (X:=fun w _=>laidMetH Tryz.prog laidQ w) false (World.doorLaid Tryz.prog 400 os) #[.slice none 0 0] 8 rfl (World.shaped_of_RefB k29_ k29_) k29_ k29_ k29_ (Xy2 os _)) ?_
 intro W base args B gs S s m _ N F _;have r:∀ (j:Nat) t v,Tryz.f5.params[j]?=some t→args[j]?=some v→Value.okWide Tryz.prog W .any base t v:=s;have c:=m;obtain ⟨p,q,k,G,rfl,Y,Z⟩:=m;have hA:DataW.TrodAll enc Tryz.prog W 0 (fun _=>true) true Tryz.f5.params.toList args.toList B p:=k;rw [Tryz.params5] at hA r;obtain ⟨d,x0,T,U,u,q0,V,rfl,rfl,g,O⟩:=trodAll_cons hA;obtain ⟨rfl,rfl,rfl⟩:=trodAll_nil O;obtain rfl:args=#[d]:=by cases args;simp_all
 obtain ⟨rfl,rfl⟩:=trodVars_none G;simp only [List.append_nil] at c;have L:∀ x∈u,x.block<W.heap.size:=fun x hx=>by
  have h:=c.lt x (by simpa using hx);simpa using h
 have o:∀ x∈u,x.block<W.heap.size:=fun x hx=>L x y34_;have K:=g;obtain ⟨m0,z,y⟩:=Zn1 (r 0 23 d rfl rfl) g o N (j:=0) (by rw [Tryz.params5];rfl) rfl;obtain ⟨E,D⟩:=Zn0 F;clear k s;refine (Ze4 E m0 d W z y D).mono fun e R ⟨I,hb⟩=>?_;subst I;refine ⟨_,rfl,?_⟩;exact Za9 (pv:=[]) c (fun _ _ _=>trodAll_mk1 (shut_bool Tryz.underlying4 _)) (fun P M=>trodAll_mk1 (Yh7 k29_ (of_decide_eq_true k29_) K hb o P (fun x hx=>M x (by first | exact absurd hx x30_ | simp [hx])))) (fun _ _=>rfl) x30_ hb (ok_one k29_ rfl (okWide_bool_mk Tryz.underlying4 _))
theorem InterSums_said:Rows.InterSumsSaid :=
 OpenClaim.holds_of_wide 5 Tryz.f5 rfl rfl rfl rfl rfl rfl rfl ⟨rfl,rfl,rfl,rfl,rfl⟩ rfl rfl rfl rfl rfl k29_ Tryz.func5 k29_
  (of_decide_eq_true k29_) (by unfold Func.isWrapper;first | (rw [if_pos q31_];kernel_rfl) | (rw [if_neg q31_];exact ⟨rfl,rfl⟩))
  (fun os c H enc _=>InterSums_lifted os c H enc)
theorem InterSums_plain (f:FuncId) (c:Func) (e:Tryz.pinned.checked.prog.funcNamed "greenwood/greenwoodlaw14.InterSums" = some f) (g:Tryz.pinned.checked.prog.funcs[f]?=some c) :
  true=Tryz.pinned.checked.prog.looks []∧∀ (j:Nat) t,c.params[j]?=some t→Tryz.pinned.checked.prog.wantsStandIn t=false:=by
 obtain rfl:f = 5 := Option.some.inj ((show Tryz.prog.funcNamed "greenwood/greenwoodlaw14.InterSums" = some 5 by kernel_rfl).symm.trans e) |>.symm;obtain rfl:c=Tryz.f5 := (Option.some.inj (Tryz.func5.symm.trans g)).symm;refine ⟨k29_,fun j t d=>?_⟩;rw [Tryz.params5] at d;obtain rfl:t = 23 := by simpa using Array.mem_of_getElem? d
 exact (show Tryz.prog.wantsStandIn 23 = false by kernel_rfl)
theorem InterSums_card:Rows.InterSumsCardSaid :=
 Claim7.holds_tied_plain_at .later [] _ _ _ _ InterSums_said (fun _ h=>by cases h) k29_ (fun _ h=>by cases h) interSums_row_tie rfl ⟨rfl,rfl⟩ k29_ rfl InterSums_plain k29_
end Wp
end Go.Proofs.YtnbcaibflhgdoaaGreatDoor
