/- BasesTell answers true whatever comes in (one matroid, one integer), and leaves all as it was: the row and its tied card. The row lists nine package-level variables (math/bits' two tables, errors.errorType, this package's table of forms and its five errors) with what the program's text lays in them. -/
import Derived.Test.YtigobiacbficaaaGreatDoorQGateE
import Derived.ChangeMaps5
import Derived.Test.YtigobiacbficaaaGreatDoorUBTell
import Derived.Test.YtigobiacbficaaaGreatDoorX0A
import Derived.Test.YtigobiacbficaaaGreatDoorX0B
set_option maxHeartbeats 1000000
set_option maxRecDepth 100000
namespace Go.Proofs.YtigobiacbficaaaGreatDoor.Wp
open Go.ChangeShapes Go.WideShapes Go.ChangeAt Go.RowKit
theorem BasesTell_lifted (os:Os) (x0:os.Started) (H:Type) (enc:TypeId × Value→H) :
  ReturnsInHanded {} Tryz.checked os 3 .any (fun w args=>(Rows.basesTellSpec.pre enc Tryz.prog Tryz.f3 [] false w args∧laidMetH Tryz.prog laidQ w)∧sizedMet enc Tryz.prog Tryz.f3 (OpenSpec.ofChange Rows.basesTellSpec) false w args)
   (Rows.basesTellSpec.post enc Tryz.prog Tryz.f3 false true false false):=by
 refine returnsInHanded_of_change_and (C:=Tryz.checked) (X:=fun w _=>laidMetH Tryz.prog laidQ w) (fun _ _ _ Q h=>h.of_heap Q) own x0 z40_ Tryz.func3
  (ChangeSpec.witness_shaped (enc:=enc) (C:=Tryz.checked) (os:=os) (X:=fun w _=>laidMetH Tryz.prog laidQ w) false (World.doorLaid Tryz.prog 400 os) #[.agg #[.int .i64 0,.int .i64 0,.int .i64 0,.int .i64 0,.slice none 0 0,.slice none 0 0],.int .i64 0] 8 rfl (World.shaped_of_RefB z40_ z40_) z40_ z40_ z40_ (Vy2 os _)) ?_
 intro W base args L gs x1 B s _ U N _;have d:∀ (j:Nat) t v,Tryz.f3.params[j]?=some t→args[j]?=some v→Value.okWide Tryz.prog W .any base t v:=B;have c:=s;obtain ⟨p,q,r,O,rfl,x5,x6⟩:=s;have o:DataW.TrodAll enc Tryz.prog W 0 (fun _=>true) true Tryz.f3.params.toList args.toList L p:=r;rw [Tryz.params3] at o d;obtain ⟨g,x8,d0,x2,D,q0,x4,rfl,rfl,k,Y⟩:=trodAll_cons o;obtain ⟨I,x9,d1,x3,F,q1,rfl,rfl,rfl,m,Z⟩:=trodAll_cons Y;obtain ⟨rfl,rfl,rfl⟩:=trodAll_nil Z;obtain rfl:args=#[g,I]:=by cases args;simp_all
 obtain ⟨rfl,rfl⟩:=trodVars_none O;simp only [List.append_nil] at c;have u:∀ x∈D ++ F,x.block<W.heap.size:=fun x hx=>by
  have h:=c.lt x (by simpa using hx);simpa using h
 have y:∀ x∈D,x.block<W.heap.size:=fun x hx=>u x q46_;have R:=k;have T:∀ x∈F,x.block<W.heap.size:=fun x hx=>u x q46_;have S:=m;obtain ⟨m0,K,J⟩:=Xz9 (d 0 25 g rfl rfl) k y U (j:=0) (by rw [Tryz.params3];rfl) rfl;obtain ⟨V,rfl,rfl,rfl,x7⟩:=open_int Tryz.underlying3 (d 1 3 I rfl rfl) m;obtain ⟨E,M⟩:=Yf4 N;clear r B;refine (Yz1 E m0 g V W K J M).mono fun e W' ⟨P,hb⟩=>?_;subst P;refine ⟨_,rfl,?_⟩;exact Zp8 (pv:=[]) c (fun _ _ _=>trodAll_mk1 (shut_bool Tryz.underlying4 _)) (fun G z=>trodAll_cons_mk (Yy6 z40_ (of_decide_eq_true z40_) R hb y G (fun x hx=>z x (by first | exact absurd hx k40_ | simp [hx]))) (trodAll_mk1 (Yy6 z40_ (of_decide_eq_true z40_) S hb T G (fun x hx=>z x (by first | exact absurd hx k40_ | simp [hx]))))) (fun _ _=>rfl) k40_ hb (ok_one z40_ rfl (okWide_bool_mk Tryz.underlying4 _))
theorem BasesTell_said:Rows.BasesTellSaid :=
 OpenClaim.holds_of_wide 3 Tryz.f3 rfl rfl rfl rfl rfl rfl rfl ⟨rfl,rfl,rfl,rfl,rfl⟩ rfl rfl rfl rfl rfl z40_ Tryz.func3 z40_
  (of_decide_eq_true z40_) (by unfold Func.isWrapper;first | (rw [if_pos q42_];kernel_rfl) | (rw [if_neg q42_];exact ⟨rfl,rfl⟩))
  (fun os c H enc _=>BasesTell_lifted os c H enc)
theorem BasesTell_plain (f:FuncId) (c:Func) (e:Tryz.pinned.checked.prog.funcNamed "greenwood/greenwoodlaw17.BasesTell" = some f) (g:Tryz.pinned.checked.prog.funcs[f]?=some c) :
  true=Tryz.pinned.checked.prog.looks []∧∀ (j:Nat) t,c.params[j]?=some t→Tryz.pinned.checked.prog.wantsStandIn t=false:=by
 obtain rfl:f = 3 := Option.some.inj ((show Tryz.prog.funcNamed "greenwood/greenwoodlaw17.BasesTell" = some 3 by kernel_rfl).symm.trans e) |>.symm;obtain rfl:c=Tryz.f3 := (Option.some.inj (Tryz.func3.symm.trans g)).symm;refine ⟨z40_,fun j t d=>?_⟩;rw [Tryz.params3] at d;have h:t = 25 ∨ t = 3 := by simpa using Array.mem_of_getElem? d
 rcases h with rfl | rfl
 ·exact (show Tryz.prog.wantsStandIn 25 = false by kernel_rfl)
 ·exact (show Tryz.prog.wantsStandIn 3 = false by kernel_rfl)
theorem BasesTell_card:Rows.BasesTellCardSaid :=
 Claim7.holds_tied_plain_at .later [] _ _ _ _ BasesTell_said (fun _ h=>by cases h) z40_ (fun _ h=>by cases h) basesTell_row_tie rfl ⟨rfl,rfl⟩ z40_ rfl BasesTell_plain z40_
end Go.Proofs.YtigobiacbficaaaGreatDoor.Wp
