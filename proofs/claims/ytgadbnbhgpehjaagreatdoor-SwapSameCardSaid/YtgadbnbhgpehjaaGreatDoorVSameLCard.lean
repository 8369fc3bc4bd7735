/- SwapSame answers true whatever comes in (one matroid, one list of integers), and leaves all as it was: the row and its tied card. The row lists nine package-level variables (math/bits' two tables, errors.errorType, this package's table of forms and its five errors) with what the program's text lays in them. -/
import Derived.Test.YtgadbnbhgpehjaaGreatDoorQGateE
import Derived.ChangeMaps5
import Derived.Test.YtgadbnbhgpehjaaGreatDoorVSameL
set_option maxHeartbeats 1000000
set_option maxRecDepth 100000
namespace Go.Proofs.YtgadbnbhgpehjaaGreatDoor
open Go.ChangeShapes Go.WideShapes Go.ChangeAt Go.RowKit
namespace Wp
theorem SwapSame_lifted (os:Os) (started:os.Started) (H:Type) (enc:TypeId × Value→H) :
  ReturnsInHanded {} Tryz.checked os 8 .any (fun w args=>(Rows.swapSameSpec.pre enc Tryz.prog Tryz.f8 [] false w args∧laidMetH Tryz.prog laidQ w)∧sizedMet enc Tryz.prog Tryz.f8 (OpenSpec.ofChange Rows.swapSameSpec) false w args)
   (Rows.swapSameSpec.post enc Tryz.prog Tryz.f8 false true false false):=by
 refine returnsInHanded_of_change_and (C:=Tryz.checked) (X:=fun w _=>laidMetH Tryz.prog laidQ w) (fun _ _ _ hh h=>h.of_heap hh) own started (by kernel_rfl) Tryz.func8
  (ChangeSpec.witness_shaped (enc:=enc) (C:=Tryz.checked) (os:=os) (X:=fun w _=>laidMetH Tryz.prog laidQ w) false (World.doorLaid Tryz.prog 400 os) #[.agg #[.int .i64 0,.int .i64 0,.int .i64 0,.int .i64 0,.slice none 0 0,.slice none 0 0],.slice none 0 0] 8 rfl (World.shaped_of_RefB (by kernel_rfl) (by kernel_rfl)) (by kernel_rfl) (by kernel_rfl) (by kernel_rfl) (Xj0 os _)) ?_
 intro W base args ds gs before hval0 hW _ hsz hL _
 have hval:∀ (j:Nat) t v,Tryz.f8.params[j]?=some t→args[j]?=some v→Value.okWide Tryz.prog W .any base t v:=hval0
 have hW':=hW
 obtain ⟨p,q,hA0,hV,rfl,hfz,hnd⟩:=hW
 have hA:DataW.TrodAll enc Tryz.prog W 0 (fun _=>true) true Tryz.f8.params.toList args.toList ds p:=hA0
 rw [Tryz.params8] at hA hval
 obtain ⟨v0,vs0,d0,ds0,p0,q0,hargs,rfl,rfl,h0,r0⟩:=trodAll_cons hA
 obtain ⟨v1,vs1,d1,ds1,p1,q1,rfl,rfl,rfl,h1,r1⟩:=trodAll_cons r0
 obtain ⟨rfl,rfl,rfl⟩:=trodAll_nil r1
 obtain rfl:args=#[v0,v1]:=by cases args;simp_all
 obtain ⟨rfl,rfl⟩:=trodVars_none hV
 simp only [List.append_nil] at hW'
 have hlt:∀ x∈p0 ++ p1,x.block<W.heap.size:=fun x hx=>by
  have h:=hW'.lt x (by simpa using hx)
  simpa using h
 have hlt0:∀ x∈p0,x.block<W.heap.size:=fun x hx=>hlt x (by simp [hx])
 have hk0:=h0
 have hlt1:∀ x∈p1,x.block<W.heap.size:=fun x hx=>hlt x (by simp [hx])
 have hk1:=h1
 obtain ⟨m0,R0,L0⟩:=Yb8 (hval 0 25 v0 rfl rfl) h0 hlt0 hsz (j:=0) (by rw [Tryz.params8];rfl) rfl
 obtain ⟨zs1,R1⟩:=Yb6 (hval 1 26 v1 rfl rfl) h1 hlt1
 obtain ⟨E,hE⟩:=Zr5 hL
 clear hA0 hval0
 refine (SwapSame_any E m0 v0 v1 zs1 W R0 L0 R1 hE).mono fun e W' ⟨he,hb⟩=>?_
 subst he
 refine ⟨_,rfl,?_⟩
 exact Ze3 (pv:=[]) hW' (fun _ _ _=>trodAll_mk1 (shut_bool Tryz.underlying4 _)) (fun sp hsp=>trodAll_cons_mk (Zi4 (by kernel_rfl) (of_decide_eq_true (by kernel_rfl)) hk0 hb hlt0 sp (fun x hx=>hsp x (by first | exact absurd hx (by simp) | simp [hx]))) (trodAll_mk1 (Zi4 (by kernel_rfl) (of_decide_eq_true (by kernel_rfl)) hk1 hb hlt1 sp (fun x hx=>hsp x (by first | exact absurd hx (by simp) | simp [hx]))))) (fun _ _=>rfl) (by simp) hb (ok_one (by kernel_rfl) rfl (okWide_bool_mk Tryz.underlying4 _))
theorem SwapSame_said:Rows.SwapSameSaid :=
 OpenClaim.holds_of_wide 8 Tryz.f8 rfl rfl rfl rfl rfl rfl rfl ⟨rfl,rfl,rfl,rfl,rfl⟩ rfl rfl rfl rfl rfl (by kernel_rfl) Tryz.func8 (by kernel_rfl)
  (of_decide_eq_true (by kernel_rfl)) (by unfold Func.isWrapper;first | (rw [if_pos (by decide +kernel)];kernel_rfl) | (rw [if_neg (by decide +kernel)];exact ⟨rfl,rfl⟩))
  (fun os started H enc _=>SwapSame_lifted os started H enc)
theorem SwapSame_plain (f:FuncId) (fn:Func) (hf:Tryz.pinned.checked.prog.funcNamed "greenwood/greenwoodlaw13.SwapSame" = some f) (hfn:Tryz.pinned.checked.prog.funcs[f]?=some fn) :
  true=Tryz.pinned.checked.prog.looks []∧∀ (j:Nat) t,fn.params[j]?=some t→Tryz.pinned.checked.prog.wantsStandIn t=false:=by
 obtain rfl:f = 8 := Option.some.inj ((show Tryz.prog.funcNamed "greenwood/greenwoodlaw13.SwapSame" = some 8 by kernel_rfl).symm.trans hf) |>.symm
 obtain rfl:fn=Tryz.f8 := (Option.some.inj (Tryz.func8.symm.trans hfn)).symm
 refine ⟨by kernel_rfl,fun j t ht=>?_⟩
 rw [Tryz.params8] at ht
 have h:t = 25 ∨ t = 26 := by simpa using Array.mem_of_getElem? ht
 rcases h with rfl | rfl
 ·exact (show Tryz.prog.wantsStandIn 25 = false by kernel_rfl)
 ·exact (show Tryz.prog.wantsStandIn 26 = false by kernel_rfl)
theorem SwapSame_card:Rows.SwapSameCardSaid :=
 Claim7.holds_tied_plain_at .later [] _ _ _ _ SwapSame_said (fun _ h=>by cases h) (by kernel_rfl) (fun _ h=>by cases h) swapSame_row_tie rfl ⟨rfl,rfl⟩ (by kernel_rfl) rfl SwapSame_plain (by kernel_rfl)
end Wp
end Go.Proofs.YtgadbnbhgpehjaaGreatDoor
