/- The rank of all, and the calls whose answers the document fixes, of bases and circuits, walked: they are as it fixes them. -/
import Derived.Test.YtbjngggcpojefaaGreatDoorNSpan
import Derived.Test.YtbjngggcpojefaaGreatDoorSSame
namespace Go.Proofs.YtbjngggcpojefaaGreatDoor
open Go.RowKit
namespace Wp

/-! ### The answers, reckoned -/
def indC (s : List Int) : Bool := mayI triM s && decide (graphR 3 3 (edgOf triM) (memP s) = s.length)
def rankC (s : List Int) : Int := if mayI triM s = true then (graphR 3 3 (edgOf triM) (memP s) : Nat) else -1
theorem rank_tri (s : List Int) : rankT triM s = rankC s := by
  unfold rankT rankC
  split
  · rw [rk_tri]
  · rfl
theorem ind_tri (s : List Int) : indT triM s = indC s := by
  unfold indT indC
  rw [rank_tri]
  unfold rankC
  cases mayI triM s
  · simp
  · simp
    omega
def baseC (s : List Int) : Nat → List Int
  | 0 => []
  | k + 1 => if indC (grownL (baseC s k) (s.getD k 0)) = true then grownL (baseC s k) (s.getD k 0) else baseC s k
theorem base_tri (s : List Int) : ∀ k, baseK triM s k = baseC s k
  | 0 => rfl
  | k + 1 => by rw [baseK, baseC, base_tri s k, ind_tri]
theorem evb_1 : baseT triM [0, 1, 2] = [0, 1] := by
  rw [show baseT triM [0, 1, 2] = baseK triM [0, 1, 2] 3 from if_pos (by decide +kernel), base_tri]
  decide +kernel
theorem evb_2 : baseT triM [3] = [] := if_neg (by decide +kernel)
theorem span_tri (s : List Int) (h : mayI triM s = true) : spanT triM s = minusL (allL 3) ((upTo 3).filter fun x => !hasB s x && decide (rankC s < rankC (grownL s x))) := by
  unfold spanT
  rw [if_pos h]
  unfold moreK
  simp only [rank_tri]
  rfl
theorem evs_1 : spanT triM [1, 2] = [0, 1, 2] := by rw [span_tri _ (by decide +kernel)]; decide +kernel
theorem evs_2 : spanT triM [1] = [1] := by rw [span_tri _ (by decide +kernel)]; decide +kernel
theorem circ_tri (s : List Int) (x : Int) : circB triM s x = (indC s && (mayI triM [x] && (!hasB s x && !indC (grownL s x)))) := by unfold circB; rw [ind_tri, ind_tri]
theorem evc_1 : circB triM [0, 1] 2 = true := by rw [circ_tri]; decide +kernel
theorem evc_2 : circB triM [0] 2 = false := by rw [circ_tri]; decide +kernel
theorem evc_3 : circB triM [0] 0 = false := by rw [circ_tri]; decide +kernel
theorem evc_4 : circT triM [0, 1] 2 = [0, 1, 2] := by
  unfold circT
  rw [if_pos evc_1]
  unfold circK
  simp only [ind_tri]
  decide +kernel
theorem eva_1 : rankT triM (allL 3) = 2 := by rw [rank_tri]; decide +kernel
theorem eva_2 : rankT (.mk (-1) 0 0 0 [] []) (allL 0) = -1 := if_neg (by decide +kernel)

/-! ### The rank of all -/
set_option maxHeartbeats 16000000 in
set_option maxRecDepth 100000 in
theorem spanall_any (E : Nat → Addr) (m : Mat) (v : Value) (w : World) (hv : MatV w w.heap.size v m) (hs : Sml m) (hE : Env E w) : Calls Tryz.prog 39 #[v] w (Tells w (rankT m (allL m.n))) := by
  have Hs := Lib.hid hs
  obtain ⟨lv, iv, hve, hl2, hi2⟩ := hv.open
  have Hb0 := Lib.hid (boxed_below w m lv iv)
  have hbd := (Below.refl (boxed w m lv iv).heap.size (boxed w m lv iv)).drew
  have HV := Lib.hid ((hv.up Hb0.out).up hbd)
  have HE := Lib.hid ((hE.up Hb0.out).up hbd)
  have Hblk := Lib.hid (boxed_blk w m lv iv)
  obtain ⟨Al, cl, rfl, _⟩ := hl2
  obtain ⟨Ai, ci, rfl, _⟩ := hi2
  subst hve
  obtain ⟨X, hX⟩ : ∃ X, boxed w m (.slice Al m.l.length cl) (.slice Ai m.i.length ci) = X := ⟨_, rfl⟩
  rw [hX] at Hb0 HV HE Hblk
  have HX := Lib.hid hX
  have K1 : Hid (∀ W, Below X.drew.heap.size X.drew W → W.cell? ⟨w.heap.size, 0, none⟩ = some (.int .i64 m.t) ∧ W.cell? ⟨w.heap.size, 1, none⟩ = some (.int .i64 m.n) ∧ W.cell? ⟨w.heap.size, 2, none⟩ = some (.int .i64 m.a) ∧ W.cell? ⟨w.heap.size, 3, none⟩ = some (.int .i64 m.b) ∧ W.cell? ⟨w.heap.size, 4, none⟩ = some (.slice Al m.l.length cl) ∧ W.cell? ⟨w.heap.size, 5, none⟩ = some (.slice Ai m.i.length ci)) := Lib.hid fun W hW => ⟨(Hblk.out.drew.below hW Hblk.out.lt).cell 0, (Hblk.out.drew.below hW Hblk.out.lt).cell 1, (Hblk.out.drew.below hW Hblk.out.lt).cell 2, (Hblk.out.drew.below hW Hblk.out.lt).cell 3, (Hblk.out.drew.below hW Hblk.out.lt).cell 4, (Hblk.out.drew.below hW Hblk.out.lt).cell 5⟩
  have HB : Hid (Below X.drew.heap.size X.drew X.drew) := Lib.hid (Below.refl _ _)
  obtain ⟨r, hr⟩ : ∃ r, rankT m (allL m.n) = r := ⟨_, rfl⟩
  have hal := all_len m.n
  have Hrk : Hid (∀ (v sv : Value) (W : World), MatV W W.heap.size v m → Row W W.heap.size sv (allL m.n) → Env E W → Calls Tryz.prog 17 #[v, sv] W (Tells W r)) := Lib.hid fun v sv W a b c => by rw [← hr]; exact irank_any E m v sv _ W a Hs.out b (by omega) c
  rw [hr]
  unfold boxed at HX
  clear hv hs hE hX hr hbd hal Hblk
  go_enter Tryz.func39, Tryz.ntmps39
  go_wp2
  rw [HX.out]
  go_region_held3 (fun W => W.cell? ⟨w.heap.size, 0, none⟩ = some (.int .i64 m.t) ∧ W.cell? ⟨w.heap.size, 1, none⟩ = some (.int .i64 m.n) ∧ W.cell? ⟨w.heap.size, 2, none⟩ = some (.int .i64 m.a) ∧ W.cell? ⟨w.heap.size, 3, none⟩ = some (.int .i64 m.b) ∧ W.cell? ⟨w.heap.size, 4, none⟩ = some (.slice Al m.l.length cl) ∧ W.cell? ⟨w.heap.size, 5, none⟩ = some (.slice Ai m.i.length ci))
    (exact K1.out _ HB.out)
    (first
    | (go_at_call 45; refine (all_any m.n _).mono ?_; rintro e w1 ⟨v1, rfl, hr1, hb⟩; replace HB := Lib.hid (below_next HB.out (Nat.le_refl _) hb); have HR := Lib.hid hr1; clear hr1 hb)
    | (go_at_call 17; refine (Hrk.out _ _ _ (HV.out.up HB.out) HR.out (HE.out.up HB.out)).mono ?_; rintro e w2 ⟨rfl, hb⟩; replace HB := Lib.hid (below_next HB.out (Nat.le_refl _) hb); clear hb))
  all_goals
    go_simp
    go_wp2
    go_ret
    exact ⟨rfl, below_next Hb0.out.drew (Nat.le_refl _) HB.out⟩
theorem tc_1 (E : Nat → Addr) (T : Mat) (hT : triM = T) (v sv : Value) (W : World) (p : MatV W W.heap.size v T) (q : Row W W.heap.size sv [0, 1]) (r : Env E W) : Calls Tryz.prog 24 #[v, sv, .int .i64 2] W (GivesC W [0, 1, 2] true) := by
  subst hT
  have h := circ_any E triM v sv [0, 1] 2 W p sml_tri q (by decide) r
  rw [evc_4, evc_1] at h
  exact h
theorem tc_2 (E : Nat → Addr) (T : Mat) (hT : triM = T) (v sv : Value) (W : World) (p : MatV W W.heap.size v T) (q : Row W W.heap.size sv [0]) (r : Env E W) : Calls Tryz.prog 24 #[v, sv, .int .i64 2] W (GivesC W (circT triM [0] 2) false) := by
  subst hT
  have h := circ_any E triM v sv [0] 2 W p sml_tri q (by decide) r
  rw [evc_2] at h
  exact h
theorem tc_3 (E : Nat → Addr) (T : Mat) (hT : triM = T) (v sv : Value) (W : World) (p : MatV W W.heap.size v T) (q : Row W W.heap.size sv [0]) (r : Env E W) : Calls Tryz.prog 24 #[v, sv, .int .i64 0] W (GivesC W (circT triM [0] 0) false) := by
  subst hT
  have h := circ_any E triM v sv [0] 0 W p sml_tri q (by decide) r
  rw [evc_3] at h
  exact h
theorem tb_1 (E : Nat → Addr) (T : Mat) (hT : triM = T) (v sv : Value) (W : World) (p : MatV W W.heap.size v T) (q : Row W W.heap.size sv [0, 1, 2]) (r : Env E W) : Calls Tryz.prog 25 #[v, sv] W (Gives W [0, 1]) := by
  subst hT
  have h := base_any E triM v sv [0, 1, 2] W p sml_tri q (by decide) r
  rw [evb_1] at h
  exact h
theorem tb_2 (E : Nat → Addr) (T : Mat) (hT : triM = T) (v sv : Value) (W : World) (p : MatV W W.heap.size v T) (q : Row W W.heap.size sv [3]) (r : Env E W) : Calls Tryz.prog 25 #[v, sv] W (Gives W []) := by
  subst hT
  have h := base_any E triM v sv [3] W p sml_tri q (by decide) r
  rw [evb_2] at h
  exact h
theorem ts_1 (E : Nat → Addr) (T : Mat) (hT : triM = T) (v sv : Value) (W : World) (p : MatV W W.heap.size v T) (q : Row W W.heap.size sv [1, 2]) (r : Env E W) : Calls Tryz.prog 38 #[v, sv] W (Gives W [0, 1, 2]) := by
  subst hT
  have h := span_any E triM v sv [1, 2] W p sml_tri q (by decide) r
  rw [evs_1] at h
  exact h
theorem ts_2 (E : Nat → Addr) (T : Mat) (hT : triM = T) (v sv : Value) (W : World) (p : MatV W W.heap.size v T) (q : Row W W.heap.size sv [1]) (r : Env E W) : Calls Tryz.prog 38 #[v, sv] W (Gives W [1]) := by
  subst hT
  have h := span_any E triM v sv [1] W p sml_tri q (by decide) r
  rw [evs_2] at h
  exact h
theorem ta_1 (E : Nat → Addr) (T : Mat) (hT : triM = T) (v : Value) (W : World) (p : MatV W W.heap.size v T) (r : Env E W) : Calls Tryz.prog 39 #[v] W (Tells W 2) := by
  subst hT
  have h := spanall_any E triM v W p sml_tri r
  rw [show rankT triM (allL triM.n) = 2 from eva_1] at h
  exact h
theorem ta_2 (E : Nat → Addr) (v : Value) (W : World) (p : MatV W W.heap.size v (.mk (-1) 0 0 0 [] [])) (r : Env E W) : Calls Tryz.prog 39 #[v] W (Tells W (-1)) := by
  have h := spanall_any E (.mk (-1) 0 0 0 [] []) v W p (sml_plain ..) r
  rw [show rankT (.mk (-1) 0 0 0 [] []) (allL (Mat.n (.mk (-1) 0 0 0 [] []))) = -1 from eva_2] at h
  exact h

set_option maxHeartbeats 16000000 in
set_option maxRecDepth 100000 in
theorem fixed11_any (E : Nat → Addr) (w : World) (hE : Env E w) : Calls Tryz.prog 23 #[] w (Truly w) := by
  obtain ⟨X, hX⟩ : ∃ X, (((((w.alloc (.cells #[.int .i64 0, .int .i64 1] 3)).alloc (.cells #[.int .i64 1, .int .i64 2] 3)).alloc (.cells #[.int .i64 2, .int .i64 0] 3)).alloc (.cells #[.slice (some ⟨w.heap.size, 0, none⟩) 2 2, .slice (some ⟨w.heap.size + 1, 0, none⟩) 2 2, .slice (some ⟨w.heap.size + 1 + 1, 0, none⟩) 2 2] 26)).alloc (.cells #[.int .i64 1, .int .i64 3, .int .i64 3, .int .i64 0, .slice (some ⟨w.heap.size + 1 + 1 + 1, 0, none⟩) 3 3, .slice none 0 0] 25)) = X := ⟨_, rfl⟩
  have HX := Lib.hid hX
  have Hb0 : Hid (Below w.heap.size w X) := Lib.hid (by
    rw [← hX]
    exact (((((Below.refl w.heap.size w).alloc (Nat.le_refl _) _).alloc (by simp only [size_more]; omega) _).alloc (by simp only [size_more]; omega) _).alloc (by simp only [size_more]; omega) _).alloc (by simp only [size_more]; omega) _)
  have Hblk : Hid (Blk X (w.heap.size + 1 + 1 + 1 + 1) 25 #[.int .i64 1, .int .i64 3, .int .i64 3, .int .i64 0, .slice (some ⟨w.heap.size + 1 + 1 + 1, 0, none⟩) 3 3, .slice none 0 0]) := Lib.hid (by
    rw [← hX]
    have h := Blk.new ((((w.alloc (.cells #[.int .i64 0, .int .i64 1] 3)).alloc (.cells #[.int .i64 1, .int .i64 2] 3)).alloc (.cells #[.int .i64 2, .int .i64 0] 3)).alloc (.cells #[.slice (some ⟨w.heap.size, 0, none⟩) 2 2, .slice (some ⟨w.heap.size + 1, 0, none⟩) 2 2, .slice (some ⟨w.heap.size + 1 + 1, 0, none⟩) 2 2] 26)) 25 #[.int .i64 1, .int .i64 3, .int .i64 3, .int .i64 0, .slice (some ⟨w.heap.size + 1 + 1 + 1, 0, none⟩) 3 3, .slice none 0 0]
    simp only [size_more] at h
    exact h)
  have HV : Hid (MatV X X.heap.size (.agg #[.int .i64 1, .int .i64 3, .int .i64 3, .int .i64 0, .slice (some ⟨w.heap.size + 1 + 1 + 1, 0, none⟩) 3 3, .slice none 0 0]) triM) := Lib.hid (by
    rw [← hX]
    have r1 := ((Row.lit2 w 0 1).here.upA (.cells #[.int .i64 1, .int .i64 2] 3)).upA (.cells #[.int .i64 2, .int .i64 0] 3)
    have r2 := (Row.lit2 (w.alloc (.cells #[.int .i64 0, .int .i64 1] 3)) 1 2).here.upA (.cells #[.int .i64 2, .int .i64 0] 3)
    have r3 := (Row.lit2 ((w.alloc (.cells #[.int .i64 0, .int .i64 1] 3)).alloc (.cells #[.int .i64 1, .int .i64 2] 3)) 2 0).here
    simp only [size_more] at r1 r2 r3
    have h := lit_rows3 (W := (((w.alloc (.cells #[.int .i64 0, .int .i64 1] 3)).alloc (.cells #[.int .i64 1, .int .i64 2] 3)).alloc (.cells #[.int .i64 2, .int .i64 0] 3))) (by simpa only [size_more] using r1) (by simpa only [size_more] using r2) (by simpa only [size_more] using r3)
    simp only [size_more] at h
    have h2 : MatV ((((w.alloc (.cells #[.int .i64 0, .int .i64 1] 3)).alloc (.cells #[.int .i64 1, .int .i64 2] 3)).alloc (.cells #[.int .i64 2, .int .i64 0] 3)).alloc (.cells #[.slice (some ⟨w.heap.size, 0, none⟩) 2 2, .slice (some ⟨w.heap.size + 1, 0, none⟩) 2 2, .slice (some ⟨w.heap.size + 1 + 1, 0, none⟩) 2 2] 26)) (w.heap.size + 1 + 1 + 1 + 1) (.agg #[.int .i64 1, .int .i64 3, .int .i64 3, .int .i64 0, .slice (some ⟨w.heap.size + 1 + 1 + 1, 0, none⟩) 3 3, .slice none 0 0]) triM := MatV.shut h (MatL.nil_ _ _)
    exact (h2.bel ((Below.refl _ _).alloc (by simp only [size_more]; omega) _)).mono (by simp only [size_more]; omega))
  have HE := Lib.hid (hE.up Hb0.out)
  have HS : Hid (X.heap.size = w.heap.size + 1 + 1 + 1 + 1 + 1) := Lib.hid (by
    rw [← hX]
    simp only [size_more])
  obtain ⟨T, hT⟩ : ∃ T, triM = T := ⟨_, rfl⟩
  rw [hT] at HV
  have HT := Lib.hid hT
  clear hE hX hT
  go_enter Tryz.func23, Tryz.ntmps23
  have k0 := Hblk.out.cell 0
  have k1 := Hblk.out.cell 1
  have k2 := Hblk.out.cell 2
  have k3 := Hblk.out.cell 3
  have k4 := Hblk.out.cell 4
  have k5 := Hblk.out.cell 5
  go_wp2_with fail
  try rw [HX.out]
  have hba : Below X.heap.size X (X.alloc (.cells #[.int .i64 0, .int .i64 1] 3)) := (Below.refl _ _).alloc (Nat.le_refl _) _
  have HL := Lib.hid (Row.lit2 X 0 1).here
  rw [HS.out] at HL
  clear HS
  refine (tc_1 E T HT.out _ _ _ (HV.out.upA _) HL.out (HE.out.upA _)).mono ?_
  rintro e w1 ⟨vc, rfl, hrc, hb⟩
  have hbb := below_next hba (Nat.le_refl _) hb
  clear hba hb HL
  replace HV := Lib.hid (HV.out.up hbb)
  replace HE := Lib.hid (HE.out.up hbb)
  replace Hblk := Lib.hid (Hblk.out.below hbb Hblk.out.lt)
  replace Hb0 := Lib.hid (below_next Hb0.out (Nat.le_refl _) hbb)
  clear hbb
  clear k0 k1 k2 k3 k4 k5
  have RC := Lib.hid hrc
  clear hrc
  have k0 := Hblk.out.cell 0
  have k1 := Hblk.out.cell 1
  have k2 := Hblk.out.cell 2
  have k3 := Hblk.out.cell 3
  have k4 := Hblk.out.cell 4
  have k5 := Hblk.out.cell 5
  go_wp2_with fail
  have hba : Below w1.heap.size w1 (w1.alloc (.cells #[.int .i64 0] 3)) := (Below.refl _ _).alloc (Nat.le_refl _) _
  have HL := Lib.hid (Row.lit1 w1 0).here
  refine (tc_2 E T HT.out _ _ _ (HV.out.upA _) HL.out (HE.out.upA _)).mono ?_
  rintro e w2 ⟨vd, rfl, _, hb⟩
  have hbb := below_next hba (Nat.le_refl _) hb
  clear hba hb HL
  replace HV := Lib.hid (HV.out.up hbb)
  replace HE := Lib.hid (HE.out.up hbb)
  replace Hblk := Lib.hid (Hblk.out.below hbb Hblk.out.lt)
  replace RC := Lib.hid (RC.out.up hbb)
  replace Hb0 := Lib.hid (below_next Hb0.out (Nat.le_refl _) hbb)
  clear hbb
  clear k0 k1 k2 k3 k4 k5
  have k0 := Hblk.out.cell 0
  have k1 := Hblk.out.cell 1
  have k2 := Hblk.out.cell 2
  have k3 := Hblk.out.cell 3
  have k4 := Hblk.out.cell 4
  have k5 := Hblk.out.cell 5
  go_wp2_with fail
  have hba : Below w2.heap.size w2 (w2.alloc (.cells #[.int .i64 0] 3)) := (Below.refl _ _).alloc (Nat.le_refl _) _
  have HL := Lib.hid (Row.lit1 w2 0).here
  refine (tc_3 E T HT.out _ _ _ (HV.out.upA _) HL.out (HE.out.upA _)).mono ?_
  rintro e w3 ⟨ve, rfl, _, hb⟩
  have hbb := below_next hba (Nat.le_refl _) hb
  clear hba hb HL
  replace HV := Lib.hid (HV.out.up hbb)
  replace HE := Lib.hid (HE.out.up hbb)
  replace Hblk := Lib.hid (Hblk.out.below hbb Hblk.out.lt)
  replace RC := Lib.hid (RC.out.up hbb)
  replace Hb0 := Lib.hid (below_next Hb0.out (Nat.le_refl _) hbb)
  clear hbb
  clear k0 k1 k2 k3 k4 k5
  have k0 := Hblk.out.cell 0
  have k1 := Hblk.out.cell 1
  have k2 := Hblk.out.cell 2
  have k3 := Hblk.out.cell 3
  have k4 := Hblk.out.cell 4
  have k5 := Hblk.out.cell 5
  go_wp2_with fail
  have hba : Below w3.heap.size w3 (w3.alloc (.cells #[.int .i64 0, .int .i64 1, .int .i64 2] 3)) := (Below.refl _ _).alloc (Nat.le_refl _) _
  have HL := Lib.hid (Row.lit3 w3 0 1 2).here
  refine (tb_1 E T HT.out _ _ _ (HV.out.upA _) HL.out (HE.out.upA _)).mono ?_
  rintro e w4 ⟨vb, rfl, hrb, hb⟩
  have hbb := below_next hba (Nat.le_refl _) hb
  clear hba hb HL
  replace HV := Lib.hid (HV.out.up hbb)
  replace HE := Lib.hid (HE.out.up hbb)
  replace Hblk := Lib.hid (Hblk.out.below hbb Hblk.out.lt)
  replace RC := Lib.hid (RC.out.up hbb)
  replace Hb0 := Lib.hid (below_next Hb0.out (Nat.le_refl _) hbb)
  clear hbb
  clear k0 k1 k2 k3 k4 k5
  have RB := Lib.hid hrb
  clear hrb
  go_wp2_with fail
  have hba : Below w4.heap.size w4 (w4.alloc (.cells #[.int .i64 0, .int .i64 1] 3)) := (Below.refl _ _).alloc (Nat.le_refl _) _
  have HL := Lib.hid (Row.lit2 w4 0 1).here
  refine (same_is _ _ [0, 1] [0, 1] _ (RB.out.upA _) HL.out (by decide) (by decide) (same_true rfl)).mono ?_
  rintro e w5 ⟨rfl, hb⟩
  have hbb := below_next hba (Nat.le_refl _) hb
  clear hba hb HL
  replace HV := Lib.hid (HV.out.up hbb)
  replace HE := Lib.hid (HE.out.up hbb)
  replace Hblk := Lib.hid (Hblk.out.below hbb Hblk.out.lt)
  replace RC := Lib.hid (RC.out.up hbb)
  replace RB := Lib.hid (RB.out.up hbb)
  replace Hb0 := Lib.hid (below_next Hb0.out (Nat.le_refl _) hbb)
  clear hbb
  clear RB
  have k0 := Hblk.out.cell 0
  have k1 := Hblk.out.cell 1
  have k2 := Hblk.out.cell 2
  have k3 := Hblk.out.cell 3
  have k4 := Hblk.out.cell 4
  have k5 := Hblk.out.cell 5
  go_wp2_with fail
  have hba : Below w5.heap.size w5 (w5.alloc (.cells #[.int .i64 1, .int .i64 2] 3)) := (Below.refl _ _).alloc (Nat.le_refl _) _
  have HL := Lib.hid (Row.lit2 w5 1 2).here
  refine (ts_1 E T HT.out _ _ _ (HV.out.upA _) HL.out (HE.out.upA _)).mono ?_
  rintro e w6 ⟨vs0, rfl, hrs, hb⟩
  have hbb := below_next hba (Nat.le_refl _) hb
  clear hba hb HL
  replace HV := Lib.hid (HV.out.up hbb)
  replace HE := Lib.hid (HE.out.up hbb)
  replace Hblk := Lib.hid (Hblk.out.below hbb Hblk.out.lt)
  replace RC := Lib.hid (RC.out.up hbb)
  replace Hb0 := Lib.hid (below_next Hb0.out (Nat.le_refl _) hbb)
  clear hbb
  clear k0 k1 k2 k3 k4 k5
  have RS := Lib.hid hrs
  clear hrs
  go_wp2_with fail
  have hba : Below w6.heap.size w6 (w6.alloc (.cells #[.int .i64 0, .int .i64 1, .int .i64 2] 3)) := (Below.refl _ _).alloc (Nat.le_refl _) _
  have HL := Lib.hid (Row.lit3 w6 0 1 2).here
  refine (same_is _ _ [0, 1, 2] [0, 1, 2] _ (RS.out.upA _) HL.out (by decide) (by decide) (same_true rfl)).mono ?_
  rintro e w7 ⟨rfl, hb⟩
  have hbb := below_next hba (Nat.le_refl _) hb
  clear hba hb HL
  replace HV := Lib.hid (HV.out.up hbb)
  replace HE := Lib.hid (HE.out.up hbb)
  replace Hblk := Lib.hid (Hblk.out.below hbb Hblk.out.lt)
  replace RC := Lib.hid (RC.out.up hbb)
  replace RS := Lib.hid (RS.out.up hbb)
  replace Hb0 := Lib.hid (below_next Hb0.out (Nat.le_refl _) hbb)
  clear hbb
  clear RS
  have k0 := Hblk.out.cell 0
  have k1 := Hblk.out.cell 1
  have k2 := Hblk.out.cell 2
  have k3 := Hblk.out.cell 3
  have k4 := Hblk.out.cell 4
  have k5 := Hblk.out.cell 5
  go_wp2_with fail
  have hba : Below w7.heap.size w7 (w7.alloc (.cells #[.int .i64 1] 3)) := (Below.refl _ _).alloc (Nat.le_refl _) _
  have HL := Lib.hid (Row.lit1 w7 1).here
  refine (ts_2 E T HT.out _ _ _ (HV.out.upA _) HL.out (HE.out.upA _)).mono ?_
  rintro e w8 ⟨vs1, rfl, hrs, hb⟩
  have hbb := below_next hba (Nat.le_refl _) hb
  clear hba hb HL
  replace HV := Lib.hid (HV.out.up hbb)
  replace HE := Lib.hid (HE.out.up hbb)
  replace Hblk := Lib.hid (Hblk.out.below hbb Hblk.out.lt)
  replace RC := Lib.hid (RC.out.up hbb)
  replace Hb0 := Lib.hid (below_next Hb0.out (Nat.le_refl _) hbb)
  clear hbb
  clear k0 k1 k2 k3 k4 k5
  have RS := Lib.hid hrs
  clear hrs
  go_wp2_with fail
  have hba : Below w8.heap.size w8 (w8.alloc (.cells #[.int .i64 1] 3)) := (Below.refl _ _).alloc (Nat.le_refl _) _
  have HL := Lib.hid (Row.lit1 w8 1).here
  refine (same_is _ _ [1] [1] _ (RS.out.upA _) HL.out (by decide) (by decide) (same_true rfl)).mono ?_
  rintro e w9 ⟨rfl, hb⟩
  have hbb := below_next hba (Nat.le_refl _) hb
  clear hba hb HL
  replace HV := Lib.hid (HV.out.up hbb)
  replace HE := Lib.hid (HE.out.up hbb)
  replace Hblk := Lib.hid (Hblk.out.below hbb Hblk.out.lt)
  replace RC := Lib.hid (RC.out.up hbb)
  replace RS := Lib.hid (RS.out.up hbb)
  replace Hb0 := Lib.hid (below_next Hb0.out (Nat.le_refl _) hbb)
  clear hbb
  clear RS
  go_wp2_with fail
  have hba : Below w9.heap.size w9 (w9.alloc (.cells #[.int .i64 0, .int .i64 1, .int .i64 2] 3)) := (Below.refl _ _).alloc (Nat.le_refl _) _
  have HL := Lib.hid (Row.lit3 w9 0 1 2).here
  refine (same_is _ _ [0, 1, 2] [0, 1, 2] _ (RC.out.upA _) HL.out (by decide) (by decide) (same_true rfl)).mono ?_
  rintro e w10 ⟨rfl, hb⟩
  have hbb := below_next hba (Nat.le_refl _) hb
  clear hba hb HL
  replace HV := Lib.hid (HV.out.up hbb)
  replace HE := Lib.hid (HE.out.up hbb)
  replace Hblk := Lib.hid (Hblk.out.below hbb Hblk.out.lt)
  replace RC := Lib.hid (RC.out.up hbb)
  replace Hb0 := Lib.hid (below_next Hb0.out (Nat.le_refl _) hbb)
  clear hbb
  clear RC
  have k0 := Hblk.out.cell 0
  have k1 := Hblk.out.cell 1
  have k2 := Hblk.out.cell 2
  have k3 := Hblk.out.cell 3
  have k4 := Hblk.out.cell 4
  have k5 := Hblk.out.cell 5
  go_wp2_with fail
  refine (ta_1 E T HT.out _ _ (HV.out) (HE.out)).mono ?_
  rintro e w11 ⟨rfl, hb⟩
  have hbb := hb
  clear hb
  replace HV := Lib.hid (HV.out.up hbb)
  replace HE := Lib.hid (HE.out.up hbb)
  replace Hblk := Lib.hid (Hblk.out.below hbb Hblk.out.lt)
  replace Hb0 := Lib.hid (below_next Hb0.out (Nat.le_refl _) hbb)
  clear hbb
  clear k0 k1 k2 k3 k4 k5
  go_wp2_with fail
  refine (ta_2 E _ _ (plain_mat _ _ (-1) 0 0 0) (HE.out)).mono ?_
  rintro e w12 ⟨rfl, hb⟩
  have hbb := hb
  clear hb
  replace HV := Lib.hid (HV.out.up hbb)
  replace HE := Lib.hid (HE.out.up hbb)
  replace Hblk := Lib.hid (Hblk.out.below hbb Hblk.out.lt)
  replace Hb0 := Lib.hid (below_next Hb0.out (Nat.le_refl _) hbb)
  clear hbb
  have k0 := Hblk.out.cell 0
  have k1 := Hblk.out.cell 1
  have k2 := Hblk.out.cell 2
  have k3 := Hblk.out.cell 3
  have k4 := Hblk.out.cell 4
  have k5 := Hblk.out.cell 5
  go_wp2_with fail
  have hba : Below w12.heap.size w12 (w12.alloc (.cells #[.int .i64 3] 3)) := (Below.refl _ _).alloc (Nat.le_refl _) _
  have HL := Lib.hid (Row.lit1 w12 3).here
  refine (tb_2 E T HT.out _ _ _ (HV.out.upA _) HL.out (HE.out.upA _)).mono ?_
  rintro e w13 ⟨vz, rfl, hrz, hb⟩
  have hbb := below_next hba (Nat.le_refl _) hb
  clear hba hb HL
  replace HV := Lib.hid (HV.out.up hbb)
  replace HE := Lib.hid (HE.out.up hbb)
  replace Hblk := Lib.hid (Hblk.out.below hbb Hblk.out.lt)
  replace Hb0 := Lib.hid (below_next Hb0.out (Nat.le_refl _) hbb)
  clear hbb
  clear k0 k1 k2 k3 k4 k5
  obtain ⟨Az, cz, rfl, _⟩ := hrz
  go_wp2
  go_ret
  exact ⟨rfl, Hb0.out⟩

end Wp
end Go.Proofs.YtbjngggcpojefaaGreatDoor
