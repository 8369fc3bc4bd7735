/- SplitHeaviest answers true whatever comes in (one matroid, one matroid, one list of integers), and leaves all as it was: the row and its tied card. The row lists nine package-level variables (math/bits' two tables, errors.errorType, this package's table of forms and its five errors) with what the program's text lays in them. -/
import Derived.Test.YtnaebbjodfnooaaGreatDoorQGateE
import Derived.ChangeMaps5
import Derived.Test.YtnaebbjodfnooaaGreatDoorYHeavy
import Derived.Test.YtnaebbjodfnooaaGreatDoorX0A
import Derived.Test.YtnaebbjodfnooaaGreatDoorX0C
set_option maxHeartbeats 1000000
set_option maxRecDepth 100000
namespace Go.Proofs.YtnaebbjodfnooaaGreatDoor.Wp
open Go.ChangeShapes Go.WideShapes Go.ChangeAt Go.RowKit
theorem SplitHeaviest_lifted (os:Os) (x3:os.Started) (H:Type) (enc:TypeId × Value→H) :
  ReturnsInHanded {} Tryz.checked os 3 .any (fun w args=>(Rows.splitHeaviestSpec.pre enc Tryz.prog Tryz.f3 [] false w args∧laidMetH Tryz.prog laidQ w)∧sizedMet enc Tryz.prog Tryz.f3 (OpenSpec.ofChange Rows.splitHeaviestSpec) false w args)
   (Rows.splitHeaviestSpec.post enc Tryz.prog Tryz.f3 false true false false):=by
 refine returnsInHanded_of_change_and (C:=Tryz.checked) (X:=fun w _=>laidMetH Tryz.prog laidQ w) (fun _ _ _ hh h=>h.of_heap hh) own x3 y37_ Tryz.func3
  (ChangeSpec.witness_shaped (enc:=enc) (C:=Tryz.checked) (os:=os) (X:=fun w _=>laidMetH Tryz.prog laidQ w) false (World.doorLaid Tryz.prog 400 os) #[.agg #[.int .i64 0,.int .i64 0,.int .i64 0,.int .i64 0,.slice none 0 0,.slice none 0 0],.agg #[.int .i64 0,.int .i64 0,.int .i64 0,.int .i64 0,.slice none 0 0,.slice none 0 0],.slice none 0 0] 8 rfl (World.shaped_of_RefB y37_ y37_) y37_ y37_ y37_ (Xs1 os _)) ?_
 intro W base args T gs x5 K D _ J V _;have c:∀ (j:Nat) t v,Tryz.f3.params[j]?=some t→args[j]?=some v→Value.okWide Tryz.prog W .any base t v:=K;have d:=D;obtain ⟨p,q,B,Y,rfl,xa,xb⟩:=D;have hA:DataW.TrodAll enc Tryz.prog W 0 (fun _=>true) true Tryz.f3.params.toList args.toList T p:=B;rw [Tryz.params3] at hA c;obtain ⟨o,xc,d0,x6,L,q0,x9,rfl,rfl,u,r0⟩:=trodAll_cons hA;obtain ⟨r,xd,d1,x7,M,q1,rfl,rfl,rfl,y,r1⟩:=trodAll_cons r0;obtain ⟨s,xe,d2,x8,N,q2,rfl,rfl,rfl,z,r2⟩:=trodAll_cons r1;obtain ⟨rfl,rfl,rfl⟩:=trodAll_nil r2;obtain rfl:args=#[o,r,s]:=by cases args;simp_all
 obtain ⟨rfl,rfl⟩:=trodVars_none Y;simp only [List.append_nil] at d;have g:∀ x∈L ++ M ++ N,x.block<W.heap.size:=fun x hx=>by
  have h:=d.lt x (by simpa using hx);simpa using h
 have F:∀ x∈L,x.block<W.heap.size:=fun x hx=>g x x41_;have x0:=u;have G:∀ x∈M,x.block<W.heap.size:=fun x hx=>g x x41_;have x1:=y;have I:∀ x∈N,x.block<W.heap.size:=fun x hx=>g x x41_;have x2:=z;obtain ⟨m0,Q,O⟩:=Zh1 (c 0 25 o rfl rfl) u F J (j:=0) (by rw [Tryz.params3];rfl) rfl;obtain ⟨m1,R,P⟩:=Zh1 (c 1 25 r rfl rfl) y G J (j:=1) (by rw [Tryz.params3];rfl) rfl;obtain ⟨x4,S⟩:=Ys0 (c 2 26 s rfl rfl) z I;obtain ⟨E,U⟩:=Ya7 V;clear B K;refine (SplitHeaviest_any E m0 o m1 r s x4 W Q O R P S U).mono fun e W' ⟨Z,hb⟩=>?_;subst Z;refine ⟨_,rfl,?_⟩;exact Zm6 (pv:=[]) d (fun _ _ _=>trodAll_mk1 (shut_bool Tryz.underlying4 _)) (fun m k=>trodAll_cons_mk (Za2 y37_ (of_decide_eq_true y37_) x0 hb F m (fun x hx=>k x (by first | exact absurd hx j37_ | simp [hx]))) (trodAll_cons_mk (Za2 y37_ (of_decide_eq_true y37_) x1 hb G m (fun x hx=>k x (by first | exact absurd hx j37_ | simp [hx]))) (trodAll_mk1 (Za2 y37_ (of_decide_eq_true y37_) x2 hb I m (fun x hx=>k x (by first | exact absurd hx j37_ | simp [hx])))))) (fun _ _=>rfl) j37_ hb (ok_one y37_ rfl (okWide_bool_mk Tryz.underlying4 _))
theorem SplitHeaviest_said:Rows.SplitHeaviestSaid :=
 OpenClaim.holds_of_wide 3 Tryz.f3 rfl rfl rfl rfl rfl rfl rfl ⟨rfl,rfl,rfl,rfl,rfl⟩ rfl rfl rfl rfl rfl y37_ Tryz.func3 y37_
  (of_decide_eq_true y37_) (by unfold Func.isWrapper;first | (rw [if_pos k38_];kernel_rfl) | (rw [if_neg k38_];exact ⟨rfl,rfl⟩))
  (fun os c H enc _=>SplitHeaviest_lifted os c H enc)
theorem SplitHeaviest_plain (f:FuncId) (c:Func) (e:Tryz.pinned.checked.prog.funcNamed "greenwood/greenwoodlaw15.SplitHeaviest" = some f) (g:Tryz.pinned.checked.prog.funcs[f]?=some c) :
  true=Tryz.pinned.checked.prog.looks []∧∀ (j:Nat) t,c.params[j]?=some t→Tryz.pinned.checked.prog.wantsStandIn t=false:=by
 obtain rfl:f = 3 := Option.some.inj ((show Tryz.prog.funcNamed "greenwood/greenwoodlaw15.SplitHeaviest" = some 3 by kernel_rfl).symm.trans e) |>.symm;obtain rfl:c=Tryz.f3 := (Option.some.inj (Tryz.func3.symm.trans g)).symm;refine ⟨y37_,fun j t d=>?_⟩;rw [Tryz.params3] at d;have h:t = 25 ∨ t = 25 ∨ t = 26 := by simpa using Array.mem_of_getElem? d
 rcases h with rfl | rfl | rfl
 ·exact y28_
 ·exact y28_
 ·exact (show Tryz.prog.wantsStandIn 26 = false by kernel_rfl)
theorem SplitHeaviest_card:Rows.SplitHeaviestCardSaid :=
 Claim7.holds_tied_plain_at .later [] _ _ _ _ SplitHeaviest_said (fun _ h=>by cases h) y37_ (fun _ h=>by cases h) splitHeaviest_row_tie rfl ⟨rfl,rfl⟩ y37_ rfl SplitHeaviest_plain y37_
end Go.Proofs.YtnaebbjodfnooaaGreatDoor.Wp
