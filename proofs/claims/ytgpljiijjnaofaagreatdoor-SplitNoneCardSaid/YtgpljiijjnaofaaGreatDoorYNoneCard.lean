/- SplitConcave answers true whatever comes in (one matroid, one matroid, one list of integers), and leaves all as it was: the row and its tied card. The row lists nine package-level variables (math/bits' two tables, errors.errorType, this package's table of forms and its five errors) with what the program's text lays in them. -/
import Derived.Test.YtgpljiijjnaofaaGreatDoorQGateE
import Derived.ChangeMaps5
import Derived.Test.YtgpljiijjnaofaaGreatDoorYNone
import Derived.Test.YtgpljiijjnaofaaGreatDoorX0A
import Derived.Test.YtgpljiijjnaofaaGreatDoorX0C
set_option maxHeartbeats 1000000
set_option maxRecDepth 100000
namespace Go.Proofs.YtgpljiijjnaofaaGreatDoor
open Go.ChangeShapes Go.WideShapes Go.ChangeAt Go.RowKit
namespace Wp
theorem SplitConcave_lifted (os:Os) (x3:os.Started) (H:Type) (enc:TypeId × Value→H) :
  ReturnsInHanded {} Tryz.checked os 6 .any (fun w args=>(Rows.splitConcaveSpec.pre enc Tryz.prog Tryz.f6 [] false w args∧laidMetH Tryz.prog laidQ w)∧sizedMet enc Tryz.prog Tryz.f6 (OpenSpec.ofChange Rows.splitConcaveSpec) false w args)
   (Rows.splitConcaveSpec.post enc Tryz.prog Tryz.f6 false true false false):=by
 refine returnsInHanded_of_change_and (C:=Tryz.checked) (X:=fun w _=>laidMetH Tryz.prog laidQ w) (fun _ _ _ hh h=>h.of_heap hh) own x3 k31_ Tryz.func6
  (ChangeSpec.witness_shaped (enc:=enc) (C:=Tryz.checked) (os:=os) (X:=fun w _=>laidMetH Tryz.prog laidQ w) false (World.doorLaid Tryz.prog 400 os) #[.agg #[.int .i64 0,.int .i64 0,.int .i64 0,.int .i64 0,.slice none 0 0,.slice none 0 0],.agg #[.int .i64 0,.int .i64 0,.int .i64 0,.int .i64 0,.slice none 0 0,.slice none 0 0],.slice none 0 0] 8 rfl (World.shaped_of_RefB k31_ k31_) k31_ k31_ k31_ (Yj6 os _)) ?_
 intro W base args T gs x5 K D _ J V _;have c:∀ (j:Nat) t v,Tryz.f6.params[j]?=some t→args[j]?=some v→Value.okWide Tryz.prog W .any base t v:=K;have d:=D;obtain ⟨p,q,B,Y,rfl,xa,xb⟩:=D;have hA:DataW.TrodAll enc Tryz.prog W 0 (fun _=>true) true Tryz.f6.params.toList args.toList T p:=B;rw [Tryz.params6] at hA c;obtain ⟨o,xc,d0,x6,L,q0,x9,rfl,rfl,u,r0⟩:=trodAll_cons hA;obtain ⟨r,xd,d1,x7,M,q1,rfl,rfl,rfl,y,r1⟩:=trodAll_cons r0;obtain ⟨s,xe,d2,x8,N,q2,rfl,rfl,rfl,z,r2⟩:=trodAll_cons r1;obtain ⟨rfl,rfl,rfl⟩:=trodAll_nil r2;obtain rfl:args=#[o,r,s]:=by cases args;simp_all
 obtain ⟨rfl,rfl⟩:=trodVars_none Y;simp only [List.append_nil] at d;have g:∀ x∈L ++ M ++ N,x.block<W.heap.size:=fun x hx=>by
  have h:=d.lt x q40_;simpa using h
 have F:∀ x∈L,x.block<W.heap.size:=fun x hx=>g x k34_;have x0:=u;have G:∀ x∈M,x.block<W.heap.size:=fun x hx=>g x k34_;have x1:=y;have I:∀ x∈N,x.block<W.heap.size:=fun x hx=>g x k34_;have x2:=z;obtain ⟨m0,Q,O⟩:=M5_ (c 0 25 o rfl rfl) u F J (j:=0) (by rw [Tryz.params6];rfl) rfl;obtain ⟨m1,R,P⟩:=M5_ (c 1 25 r rfl rfl) y G J (j:=1) (by rw [Tryz.params6];rfl) rfl;obtain ⟨x4,S⟩:=Ye8 (c 2 26 s rfl rfl) z I;obtain ⟨E,U⟩:=Zy8 V;clear B K;refine (SplitConcave_any E m0 o m1 r s x4 W Q O R P S U).mono fun e W' ⟨Z,hb⟩=>?_;subst Z;refine ⟨_,rfl,?_⟩;exact P0_ (pv:=[]) d (fun _ _ _=>trodAll_mk1 (shut_bool Tryz.underlying4 _)) (fun m k=>trodAll_cons_mk (H1_ k31_ (of_decide_eq_true k31_) x0 hb F m (fun x hx=>k x (by first | exact absurd hx x32_ | simp [hx]))) (trodAll_cons_mk (H1_ k31_ (of_decide_eq_true k31_) x1 hb G m (fun x hx=>k x (by first | exact absurd hx x32_ | simp [hx]))) (trodAll_mk1 (H1_ k31_ (of_decide_eq_true k31_) x2 hb I m (fun x hx=>k x (by first | exact absurd hx x32_ | simp [hx])))))) (fun _ _=>rfl) x32_ hb (ok_one k31_ rfl (okWide_bool_mk Tryz.underlying4 _))
theorem SplitConcave_said:Rows.SplitConcaveSaid :=
 OpenClaim.holds_of_wide 6 Tryz.f6 rfl rfl rfl rfl rfl rfl rfl ⟨rfl,rfl,rfl,rfl,rfl⟩ rfl rfl rfl rfl rfl k31_ Tryz.func6 k31_
  (of_decide_eq_true k31_) (by unfold Func.isWrapper;first | (rw [if_pos q33_];kernel_rfl) | (rw [if_neg q33_];exact ⟨rfl,rfl⟩))
  (fun os c H enc _=>SplitConcave_lifted os c H enc)
theorem SplitConcave_plain (f:FuncId) (c:Func) (e:Tryz.pinned.checked.prog.funcNamed "greenwood/greenwoodlaw15.SplitConcave" = some f) (g:Tryz.pinned.checked.prog.funcs[f]?=some c) :
  true=Tryz.pinned.checked.prog.looks []∧∀ (j:Nat) t,c.params[j]?=some t→Tryz.pinned.checked.prog.wantsStandIn t=false:=by
 obtain rfl:f = 6 := Option.some.inj ((show Tryz.prog.funcNamed "greenwood/greenwoodlaw15.SplitConcave" = some 6 by kernel_rfl).symm.trans e) |>.symm;obtain rfl:c=Tryz.f6 := (Option.some.inj (Tryz.func6.symm.trans g)).symm;refine ⟨k31_,fun j t d=>?_⟩;rw [Tryz.params6] at d;have h:t = 25 ∨ t = 25 ∨ t = 26 := by simpa using Array.mem_of_getElem? d
 rcases h with rfl | rfl | rfl
 ·exact z10_
 ·exact z10_
 ·exact (show Tryz.prog.wantsStandIn 26 = false by kernel_rfl)
theorem SplitConcave_card:Rows.SplitConcaveCardSaid :=
 Claim7.holds_tied_plain_at .later [] _ _ _ _ SplitConcave_said (fun _ h=>by cases h) k31_ (fun _ h=>by cases h) splitConcave_row_tie rfl ⟨rfl,rfl⟩ k31_ rfl SplitConcave_plain k31_
open Go.ChangeShapes Go.WideShapes Go.ChangeAt Go.RowKit
theorem SplitNone_lifted (os:Os) (x3:os.Started) (H:Type) (enc:TypeId × Value→H) :
  ReturnsInHanded {} Tryz.checked os 5 .any (fun w args=>(Rows.splitNoneSpec.pre enc Tryz.prog Tryz.f5 [] false w args∧laidMetH Tryz.prog laidQ w)∧sizedMet enc Tryz.prog Tryz.f5 (OpenSpec.ofChange Rows.splitNoneSpec) false w args)
   (Rows.splitNoneSpec.post enc Tryz.prog Tryz.f5 false true false false):=by
 refine returnsInHanded_of_change_and (C:=Tryz.checked) (X:=fun w _=>laidMetH Tryz.prog laidQ w) (fun _ _ _ Y h=>h.of_heap Y) own x3 k31_ Tryz.func5
  (ChangeSpec.witness_shaped (enc:=enc) (C:=Tryz.checked) (os:=os) (X:=fun w _=>laidMetH Tryz.prog laidQ w) false (World.doorLaid Tryz.prog 400 os) #[.agg #[.int .i64 0,.int .i64 0,.int .i64 0,.int .i64 0,.slice none 0 0,.slice none 0 0],.agg #[.int .i64 0,.int .i64 0,.int .i64 0,.int .i64 0,.slice none 0 0,.slice none 0 0],.int .i64 0] 8 rfl (World.shaped_of_RefB k31_ k31_) k31_ k31_ k31_ (Yj6 os _)) ?_
 intro W base args R gs x4 I B _ G T _;have c:∀ (j:Nat) t v,Tryz.f5.params[j]?=some t→args[j]?=some v→Value.okWide Tryz.prog W .any base t v:=I;have d:=B;obtain ⟨p,q,z,U,rfl,x9,xa⟩:=B;have hA:DataW.TrodAll enc Tryz.prog W 0 (fun _=>true) true Tryz.f5.params.toList args.toList R p:=z;rw [Tryz.params5] at hA c;obtain ⟨o,xc,d0,x5,J,q0,x8,rfl,rfl,s,r0⟩:=trodAll_cons hA;obtain ⟨r,xd,d1,x6,K,q1,rfl,rfl,rfl,u,r1⟩:=trodAll_cons r0;obtain ⟨M,xe,d2,x7,L,q2,rfl,rfl,rfl,y,r2⟩:=trodAll_cons r1;obtain ⟨rfl,rfl,rfl⟩:=trodAll_nil r2;obtain rfl:args=#[o,r,M]:=by cases args;simp_all
 obtain ⟨rfl,rfl⟩:=trodVars_none U;simp only [List.append_nil] at d;have g:∀ x∈J ++ K ++ L,x.block<W.heap.size:=fun x hx=>by
  have h:=d.lt x q40_;simpa using h
 have D:∀ x∈J,x.block<W.heap.size:=fun x hx=>g x k34_;have Z:=s;have F:∀ x∈K,x.block<W.heap.size:=fun x hx=>g x k34_;have x0:=u;have x2:∀ x∈L,x.block<W.heap.size:=fun x hx=>g x k34_;have x1:=y;obtain ⟨m0,P,N⟩:=M5_ (c 0 25 o rfl rfl) s D G (j:=0) (by rw [Tryz.params5];rfl) rfl;obtain ⟨m1,Q,O⟩:=M5_ (c 1 25 r rfl rfl) u F G (j:=1) (by rw [Tryz.params5];rfl) rfl;obtain ⟨n2,rfl,rfl,rfl,xb⟩:=open_int Tryz.underlying3 (c 2 3 M rfl rfl) y;obtain ⟨E,S⟩:=Zy8 T;clear z I;refine (SplitNone_any E m0 o m1 r n2 W P N Q O S).mono fun e W' ⟨V,hb⟩=>?_;subst V;refine ⟨_,rfl,?_⟩;exact P0_ (pv:=[]) d (fun _ _ _=>trodAll_mk1 (shut_bool Tryz.underlying4 _)) (fun m k=>trodAll_cons_mk (H1_ k31_ (of_decide_eq_true k31_) Z hb D m (fun x hx=>k x (by first | exact absurd hx x32_ | simp [hx]))) (trodAll_cons_mk (H1_ k31_ (of_decide_eq_true k31_) x0 hb F m (fun x hx=>k x (by first | exact absurd hx x32_ | simp [hx]))) (trodAll_mk1 (H1_ k31_ (of_decide_eq_true k31_) x1 hb x2 m (fun x hx=>k x (by first | exact absurd hx x32_ | simp [hx])))))) (fun _ _=>rfl) x32_ hb (ok_one k31_ rfl (okWide_bool_mk Tryz.underlying4 _))
theorem SplitNone_said:Rows.SplitNoneSaid :=
 OpenClaim.holds_of_wide 5 Tryz.f5 rfl rfl rfl rfl rfl rfl rfl ⟨rfl,rfl,rfl,rfl,rfl⟩ rfl rfl rfl rfl rfl k31_ Tryz.func5 k31_
  (of_decide_eq_true k31_) (by unfold Func.isWrapper;first | (rw [if_pos q33_];kernel_rfl) | (rw [if_neg q33_];exact ⟨rfl,rfl⟩))
  (fun os c H enc _=>SplitNone_lifted os c H enc)
theorem SplitNone_plain (f:FuncId) (c:Func) (e:Tryz.pinned.checked.prog.funcNamed "greenwood/greenwoodlaw15.SplitNone" = some f) (g:Tryz.pinned.checked.prog.funcs[f]?=some c) :
  true=Tryz.pinned.checked.prog.looks []∧∀ (j:Nat) t,c.params[j]?=some t→Tryz.pinned.checked.prog.wantsStandIn t=false:=by
 obtain rfl:f = 5 := Option.some.inj ((show Tryz.prog.funcNamed "greenwood/greenwoodlaw15.SplitNone" = some 5 by kernel_rfl).symm.trans e) |>.symm;obtain rfl:c=Tryz.f5 := (Option.some.inj (Tryz.func5.symm.trans g)).symm;refine ⟨k31_,fun j t d=>?_⟩;rw [Tryz.params5] at d;have h:t = 25 ∨ t = 25 ∨ t = 3 := by simpa using Array.mem_of_getElem? d
 rcases h with rfl | rfl | rfl
 ·exact z10_
 ·exact z10_
 ·exact (show Tryz.prog.wantsStandIn 3 = false by kernel_rfl)
theorem SplitNone_card:Rows.SplitNoneCardSaid :=
 Claim7.holds_tied_plain_at .later [] _ _ _ _ SplitNone_said (fun _ h=>by cases h) k31_ (fun _ h=>by cases h) splitNone_row_tie rfl ⟨rfl,rfl⟩ k31_ rfl SplitNone_plain k31_
end Wp
end Go.Proofs.YtgpljiijjnaofaaGreatDoor
