/- The law ReachTells, as the given statement says it: whether any lists are a digraph, what one comes to, and the shortest way, is as the document says. Its condition: none. -/
import Derived.Test.YtmgfhehnehcmpaaKGate
import Derived.Test.YtmgfhehnehcmpaaRTells
namespace Go.Proofs.Ytmgfhehnehcmpaa
open Go.ChangeShapes Go.WideShapes Go.ChangeAt Go.RowKit
namespace Wp

set_option maxHeartbeats 800000 in
set_option maxRecDepth 100000 in
theorem tells_lifted (os : Os) (started : os.Started) (H : Type) (enc : TypeId × Value → H) :
    ReturnsInHanded {} Try.checked os 4 .any (Rows.reachTellsSpec.pre6 enc Try.prog Try.f4 Rows.reachTellsRow.domain false) (Rows.reachTellsSpec.post enc Try.prog Try.f4 false true false false) := by
  refine returnsInHanded_of_change (C := Try.checked) own started (by kernel_rfl) Try.func4
    (ChangeSpec.witness6 (enc := enc) (C := Try.checked) false ⟨#[], #[.slice none 0 0, .slice none 0 0, .slice none 0 0], []⟩ 8 (by kernel_rfl) (by kernel_rfl) (by kernel_rfl) (by kernel_rfl)) ?_
  intro W base args ds gs before hval0 hW _ _
  have hval : ∀ (j : Nat) t v, Try.f4.params[j]? = some t → args[j]? = some v → Value.okWide Try.prog W .any base t v := hval0
  have hW' := hW
  obtain ⟨p, q, hA0, hV, rfl, _, _⟩ := hW
  have hA : DataW.TrodAll enc Try.prog W 0 (fun _ => true) true Try.f4.params.toList args.toList ds p := hA0
  rw [Try.params4] at hA hval
  obtain ⟨v0, v1, v2, d0, d1, d2, p0, p1, p2, rfl, rfl, rfl, h0, h1, h2⟩ := trodAll_three hA
  obtain ⟨rfl, rfl⟩ := trodVars_none hV
  clear hA0 hval0
  simp only [List.append_nil] at hW'
  have hlt : ∀ y ∈ p0 ++ p1 ++ p2, y.block < W.heap.size := fun y hy => hW'.lt y hy
  have l0 : ∀ y ∈ p0, y.block < W.heap.size := fun y hy => hlt y (by simp [hy])
  have l1 : ∀ y ∈ p1, y.block < W.heap.size := fun y hy => hlt y (by simp [hy])
  have l2 : ∀ y ∈ p2, y.block < W.heap.size := fun y hy => hlt y (by simp [hy])
  have k0 := h0
  obtain ⟨zs0, hr0⟩ := rows2_of_arg (hval 0 22 v0 rfl rfl) h0 l0
  have k1 := h1
  obtain ⟨zs1, hr1⟩ := row_of_arg (hval 1 25 v1 rfl rfl) h1 l1
  have k2 := h2
  obtain ⟨zs2, hr2⟩ := row_of_arg (hval 2 25 v2 rfl rfl) h2 l2
  refine (tells_any v0 v1 v2 zs0 zs1 zs2 W hr0 hr1 hr2).mono fun e W' ⟨he, hb⟩ => ?_
  subst he
  refine ⟨_, rfl, post_of_below (pa := p0 ++ (p1 ++ p2)) (pv := []) hW' (fun _ _ _ => trodAll_mk1 (shut_bool Try.underlying4 true)) (fun sp hsp => trodAll_mk3 (arg_stays (by kernel_rfl) (of_decide_eq_true (by kernel_rfl)) k0 hb l0 sp (fun y hy => hsp y (by simp [hy]))) (arg_stays (by kernel_rfl) (of_decide_eq_true (by kernel_rfl)) k1 hb l1 sp (fun y hy => hsp y (by simp [hy]))) (arg_stays (by kernel_rfl) (of_decide_eq_true (by kernel_rfl)) k2 hb l2 sp (fun y hy => hsp y (by simp [hy])))) (fun _ _ => rfl) (by simp) hb (ok_one (by kernel_rfl) rfl (okWide_bool_mk Try.underlying4 true))⟩

theorem tells_holds : Rows.ReachTellsSaid :=
  OpenClaim.holds_of_wide 4 Try.f4 rfl rfl rfl rfl rfl rfl rfl ⟨rfl, rfl, rfl, rfl, rfl⟩ rfl rfl rfl rfl rfl (by kernel_rfl) Try.func4 (by kernel_rfl)
    (of_decide_eq_true (by kernel_rfl)) (by unfold Func.isWrapper; first | (rw [if_pos (by decide +kernel)]; kernel_rfl) | (rw [if_neg (by decide +kernel)]; exact ⟨rfl, rfl⟩))
    (fun os started H enc _ => tells_lifted os started H enc)

end Wp
end Go.Proofs.Ytmgfhehnehcmpaa
