/- UnionTells answers true whatever comes in (one list of matroids, one list of integers, one integer), and leaves all as it was: the row and its tied card. The row lists nine package-level variables (math/bits' two tables, errors.errorType, this package's table of forms and its five errors) with what the program's text lays in them. -/
import Derived.Test.YtheeajnkiniopaaGreatDoorQGateE
import Derived.ChangeMaps5
import Derived.Test.YtheeajnkiniopaaGreatDoorUTell
import Derived.Test.YtheeajnkiniopaaGreatDoorX0A
import Derived.Test.YtheeajnkiniopaaGreatDoorX0B
set_option maxHeartbeats 1000000
set_option maxRecDepth 100000
namespace Go.Proofs.YtheeajnkiniopaaGreatDoor.Wp
open Go.ChangeShapes Go.WideShapes Go.ChangeAt Go.RowKit
theorem UnionTells_lifted (os:Os) (x3:os.Started) (H:Type) (enc:TypeId × Value→H) :
  ReturnsInHanded {} Tryz.checked os 3 .any (fun w args=>(Rows.unionTellsSpec.pre enc Tryz.prog Tryz.f3 [] false w args∧laidMetH Tryz.prog laidQ w)∧sizedMet enc Tryz.prog Tryz.f3 (OpenSpec.ofChange Rows.unionTellsSpec) false w args)
   (Rows.unionTellsSpec.post enc Tryz.prog Tryz.f3 false true false false):=by
 refine returnsInHanded_of_change_and (C:=Tryz.checked) (X:=fun w _=>laidMetH Tryz.prog laidQ w) (fun _ _ _ V h=>h.of_heap V) own x3 x40_ Tryz.func3
  (ChangeSpec.witness_shaped (enc:=enc) (C:=Tryz.checked) (os:=os) (X:=fun w _=>laidMetH Tryz.prog laidQ w) false (World.doorLaid Tryz.prog 400 os) #[.slice none 0 0,.slice none 0 0,.int .i64 0] 8 rfl (World.shaped_of_RefB x40_ x40_) x40_ x40_ x40_ (Xr3 os _)) ?_
 intro W base args Q gs x5 I D _ x2 S _;have c:∀ (j:Nat) t v,Tryz.f3.params[j]?=some t→args[j]?=some v→Value.okWide Tryz.prog W .any base t v:=I;have d:=D;obtain ⟨p,q,B,T,rfl,xa,xb⟩:=D;have z:DataW.TrodAll enc Tryz.prog W 0 (fun _=>true) true Tryz.f3.params.toList args.toList Q p:=B;rw [Tryz.params3] at z c;obtain ⟨o,xd,d0,x6,J,q0,x9,rfl,rfl,s,r0⟩:=trodAll_cons z;obtain ⟨r,xe,d1,x7,K,q1,rfl,rfl,rfl,u,r1⟩:=trodAll_cons r0;obtain ⟨M,xf,d2,x8,L,q2,rfl,rfl,rfl,y,r2⟩:=trodAll_cons r1;obtain ⟨rfl,rfl,rfl⟩:=trodAll_nil r2;obtain rfl:args=#[o,r,M]:=by cases args;simp_all
 obtain ⟨rfl,rfl⟩:=trodVars_none T;simp only [List.append_nil] at d;have g:∀ x∈J ++ K ++ L,x.block<W.heap.size:=fun x hx=>by
  have h:=d.lt x (by simpa using hx);simpa using h
 have F:∀ x∈J,x.block<W.heap.size:=fun x hx=>g x q45_;have Y:=s;have G:∀ x∈K,x.block<W.heap.size:=fun x hx=>g x q45_;have Z:=u;have x1:∀ x∈L,x.block<W.heap.size:=fun x hx=>g x q45_;have x0:=y;obtain ⟨m0,O,N⟩:=Yb6 (c 0 22 o rfl rfl) s F x2 (j:=0) (by rw [Tryz.params3];rfl) rfl;obtain ⟨x4,P⟩:=Ys3 (c 1 23 r rfl rfl) u G;obtain ⟨n2,rfl,rfl,rfl,xc⟩:=open_int Tryz.underlying3 (c 2 3 M rfl rfl) y;obtain ⟨E,R⟩:=Yb5 S;clear B I;refine (UnionTells_any E m0 o r x4 n2 W O N P R).mono fun e W' ⟨U,hb⟩=>?_;subst U;refine ⟨_,rfl,?_⟩;exact Zn3 (pv:=[]) d (fun _ _ _=>trodAll_mk1 (shut_bool Tryz.underlying4 _)) (fun m k=>trodAll_cons_mk (Za4 x40_ (of_decide_eq_true x40_) Y hb F m (fun x hx=>k x (by first | exact absurd hx z40_ | simp [hx]))) (trodAll_cons_mk (Za4 x40_ (of_decide_eq_true x40_) Z hb G m (fun x hx=>k x (by first | exact absurd hx z40_ | simp [hx]))) (trodAll_mk1 (Za4 x40_ (of_decide_eq_true x40_) x0 hb x1 m (fun x hx=>k x (by first | exact absurd hx z40_ | simp [hx])))))) (fun _ _=>rfl) z40_ hb (ok_one x40_ rfl (okWide_bool_mk Tryz.underlying4 _))
theorem UnionTells_said:Rows.UnionTellsSaid :=
 OpenClaim.holds_of_wide 3 Tryz.f3 rfl rfl rfl rfl rfl rfl rfl ⟨rfl,rfl,rfl,rfl,rfl⟩ rfl rfl rfl rfl rfl x40_ Tryz.func3 x40_
  (of_decide_eq_true x40_) (by unfold Func.isWrapper;first | (rw [if_pos z41_];kernel_rfl) | (rw [if_neg z41_];exact ⟨rfl,rfl⟩))
  (fun os c H enc _=>UnionTells_lifted os c H enc)
theorem UnionTells_plain (f:FuncId) (c:Func) (e:Tryz.pinned.checked.prog.funcNamed "greenwood/greenwoodlaw16.UnionTells" = some f) (g:Tryz.pinned.checked.prog.funcs[f]?=some c) :
  true=Tryz.pinned.checked.prog.looks []∧∀ (j:Nat) t,c.params[j]?=some t→Tryz.pinned.checked.prog.wantsStandIn t=false:=by
 obtain rfl:f = 3 := Option.some.inj ((show Tryz.prog.funcNamed "greenwood/greenwoodlaw16.UnionTells" = some 3 by kernel_rfl).symm.trans e) |>.symm;obtain rfl:c=Tryz.f3 := (Option.some.inj (Tryz.func3.symm.trans g)).symm;refine ⟨x40_,fun j t d=>?_⟩;rw [Tryz.params3] at d;have h:t = 22 ∨ t = 23 ∨ t = 3 := by simpa using Array.mem_of_getElem? d
 rcases h with rfl | rfl | rfl
 ·exact (show Tryz.prog.wantsStandIn 22 = false by kernel_rfl)
 ·exact (show Tryz.prog.wantsStandIn 23 = false by kernel_rfl)
 ·exact (show Tryz.prog.wantsStandIn 3 = false by kernel_rfl)
theorem UnionTells_card:Rows.UnionTellsCardSaid :=
 Claim7.holds_tied_plain_at .later [] _ _ _ _ UnionTells_said (fun _ h=>by cases h) x40_ (fun _ h=>by cases h) unionTells_row_tie rfl ⟨rfl,rfl⟩ x40_ rfl UnionTells_plain x40_
end Go.Proofs.YtheeajnkiniopaaGreatDoor.Wp
