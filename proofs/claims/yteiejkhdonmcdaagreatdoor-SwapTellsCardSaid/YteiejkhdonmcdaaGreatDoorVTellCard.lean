/- SwapTells answers true whatever comes in (one matroid, one matroid, one pair of lists of integers), and leaves all as it was: the row and its tied card. The row lists nine package-level variables (math/bits' two tables, errors.errorType, this package's table of forms and its five errors) with what the program's text lays in them. -/
import Derived.Test.YteiejkhdonmcdaaGreatDoorQGateE
import Derived.ChangeMaps5
import Derived.Test.YteiejkhdonmcdaaGreatDoorVAsk
import Derived.Test.YteiejkhdonmcdaaGreatDoorYT1
namespace Go.Proofs.YteiejkhdonmcdaaGreatDoor
open Go.ChangeShapes Go.WideShapes Go.ChangeAt Go.RowKit
namespace Wp

set_option maxHeartbeats 1000000 in
set_option maxRecDepth 100000 in
theorem SwapTells_lifted (os : Os) (started : os.Started) (H : Type) (enc : TypeId × Value → H) :
    ReturnsInHanded {} Tryz.checked os 3 .any (fun w args => (Rows.swapTellsSpec.pre enc Tryz.prog Tryz.f3 [] false w args ∧ laidMetH Tryz.prog laidQ w) ∧ sizedMet enc Tryz.prog Tryz.f3 (OpenSpec.ofChange Rows.swapTellsSpec) false w args)
      (Rows.swapTellsSpec.post enc Tryz.prog Tryz.f3 false true false false) := by
  refine returnsInHanded_of_change_and (C := Tryz.checked) (X := fun w _ => laidMetH Tryz.prog laidQ w) (fun _ _ _ hh h => h.of_heap hh) own started (by kernel_rfl) Tryz.func3
    (ChangeSpec.witness_shaped (enc := enc) (C := Tryz.checked) (os := os) (X := fun w _ => laidMetH Tryz.prog laidQ w) false (World.doorLaid Tryz.prog 400 os) #[.agg #[.int .i64 0, .int .i64 0, .int .i64 0, .int .i64 0, .slice none 0 0, .slice none 0 0], .agg #[.int .i64 0, .int .i64 0, .int .i64 0, .int .i64 0, .slice none 0 0, .slice none 0 0], .agg #[.slice none 0 0, .slice none 0 0]] 8 rfl (World.shaped_of_RefB (by kernel_rfl) (by kernel_rfl)) (by kernel_rfl) (by kernel_rfl) (by kernel_rfl) (Zj5 os _)) ?_
  intro W base args ds gs before hval0 hW _ hsz hL _
  have hval : ∀ (j : Nat) t v, Tryz.f3.params[j]? = some t → args[j]? = some v → Value.okWide Tryz.prog W .any base t v := hval0
  have hW' := hW
  obtain ⟨p, q, hA0, hV, rfl, hfz, hnd⟩ := hW
  have hA : DataW.TrodAll enc Tryz.prog W 0 (fun _ => true) true Tryz.f3.params.toList args.toList ds p := hA0
  rw [Tryz.params3] at hA hval
  obtain ⟨v0, vs0, d0, ds0, p0, q0, hargs, rfl, rfl, h0, r0⟩ := trodAll_cons hA
  obtain ⟨v1, vs1, d1, ds1, p1, q1, rfl, rfl, rfl, h1, r1⟩ := trodAll_cons r0
  obtain ⟨v2, vs2, d2, ds2, p2, q2, rfl, rfl, rfl, h2, r2⟩ := trodAll_cons r1
  obtain ⟨rfl, rfl, rfl⟩ := trodAll_nil r2
  obtain rfl : args = #[v0, v1, v2] := by cases args; simp_all
  obtain ⟨rfl, rfl⟩ := trodVars_none hV
  simp only [List.append_nil] at hW'
  have hlt : ∀ x ∈ p0 ++ p1 ++ p2, x.block < W.heap.size := fun x hx => by
    have h := hW'.lt x (by simpa using hx)
    simpa using h
  have hlt0 : ∀ x ∈ p0, x.block < W.heap.size := fun x hx => hlt x (by simp [hx])
  have hk0 := h0
  have hlt1 : ∀ x ∈ p1, x.block < W.heap.size := fun x hx => hlt x (by simp [hx])
  have hk1 := h1
  have hlt2 : ∀ x ∈ p2, x.block < W.heap.size := fun x hx => hlt x (by simp [hx])
  have hk2 := h2
  obtain ⟨m0, R0, L0⟩ := E0_ (hval 0 25 v0 rfl rfl) h0 hlt0 hsz (j := 0) (by rw [Tryz.params3]; rfl) rfl
  obtain ⟨m1, R1, L1⟩ := E0_ (hval 1 25 v1 rfl rfl) h1 hlt1 hsz (j := 1) (by rw [Tryz.params3]; rfl) rfl
  obtain ⟨sv2, pv2, zs2, ys2, rfl, R2, S2⟩ := ask2_of_arg (hval 2 28 v2 rfl rfl) h2 hlt2
  obtain ⟨E, hE⟩ := L8_ hL
  clear hA0 hval0
  refine (SwapTells_any E m0 v0 m1 v1 sv2 pv2 zs2 ys2 W R0 L0 R1 L1 R2 S2 hE).mono fun e W' ⟨he, hb⟩ => ?_
  subst he
  refine ⟨_, rfl, ?_⟩
  exact G5_ (pv := []) hW' (fun _ _ _ => trodAll_mk1 (shut_bool Tryz.underlying4 _)) (fun sp hsp => trodAll_cons_mk (A1_ (by kernel_rfl) (of_decide_eq_true (by kernel_rfl)) hk0 hb hlt0 sp (fun x hx => hsp x (by first | exact absurd hx (by simp) | simp [hx]))) (trodAll_cons_mk (A1_ (by kernel_rfl) (of_decide_eq_true (by kernel_rfl)) hk1 hb hlt1 sp (fun x hx => hsp x (by first | exact absurd hx (by simp) | simp [hx]))) (trodAll_mk1 (A1_ (by kernel_rfl) (of_decide_eq_true (by kernel_rfl)) hk2 hb hlt2 sp (fun x hx => hsp x (by first | exact absurd hx (by simp) | simp [hx])))))) (fun _ _ => rfl) (by simp) hb (ok_one (by kernel_rfl) rfl (okWide_bool_mk Tryz.underlying4 _))

theorem SwapTells_said : Rows.SwapTellsSaid :=
  OpenClaim.holds_of_wide 3 Tryz.f3 rfl rfl rfl rfl rfl rfl rfl ⟨rfl, rfl, rfl, rfl, rfl⟩ rfl rfl rfl rfl rfl (by kernel_rfl) Tryz.func3 (by kernel_rfl)
    (of_decide_eq_true (by kernel_rfl)) (by unfold Func.isWrapper; first | (rw [if_pos (by decide +kernel)]; kernel_rfl) | (rw [if_neg (by decide +kernel)]; exact ⟨rfl, rfl⟩))
    (fun os started H enc _ => SwapTells_lifted os started H enc)

theorem SwapTells_plain (f : FuncId) (fn : Func) (hf : Tryz.pinned.checked.prog.funcNamed "greenwood/greenwoodlaw13.SwapTells" = some f) (hfn : Tryz.pinned.checked.prog.funcs[f]? = some fn) :
    true = Tryz.pinned.checked.prog.looks [] ∧ ∀ (j : Nat) t, fn.params[j]? = some t → Tryz.pinned.checked.prog.wantsStandIn t = false := by
  obtain rfl : f = 3 := Option.some.inj ((show Tryz.prog.funcNamed "greenwood/greenwoodlaw13.SwapTells" = some 3 by kernel_rfl).symm.trans hf) |>.symm
  obtain rfl : fn = Tryz.f3 := (Option.some.inj (Tryz.func3.symm.trans hfn)).symm
  refine ⟨by kernel_rfl, fun j t ht => ?_⟩
  rw [Tryz.params3] at ht
  have h : t = 25 ∨ t = 25 ∨ t = 28 := by simpa using Array.mem_of_getElem? ht
  rcases h with rfl | rfl | rfl
  · exact (show Tryz.prog.wantsStandIn 25 = false by kernel_rfl)
  · exact (show Tryz.prog.wantsStandIn 25 = false by kernel_rfl)
  · exact (show Tryz.prog.wantsStandIn 28 = false by kernel_rfl)

theorem SwapTells_card : Rows.SwapTellsCardSaid :=
  Claim7.holds_tied_plain_at .later [] _ _ _ _ SwapTells_said (fun _ h => by cases h) (by kernel_rfl) (fun _ h => by cases h) swapTells_row_tie rfl ⟨rfl, rfl⟩ (by kernel_rfl) rfl SwapTells_plain (by kernel_rfl)

end Wp
end Go.Proofs.YteiejkhdonmcdaaGreatDoor
