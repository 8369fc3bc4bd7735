/- The program's Circuit, walked. -/
import Derived.Test.YtbjngggcpojefaaGreatDoorNEach
namespace Go.Proofs.YtbjngggcpojefaaGreatDoor
open Go.RowKit
attribute [local go_sem] Oper.semAt_some
namespace Wp

/-- A call tells a list, and whether there is one. -/
def GivesC (w : World) (l : List Int) (ok : Bool) (e : Ending) (w' : World) : Prop := ∃ v, e = .returned (.tuple #[v, .bool ok]) ∧ Row w' w'.heap.size v l ∧ Below w.heap.size w w'

set_option maxHeartbeats 16000000 in
set_option maxRecDepth 100000 in
theorem circ_1 (E : Nat → Addr) (m : Mat) (v sv : Value) (s : List Int) (x : Int) (w : World) (hv : MatV w w.heap.size v m) (hs : Sml m) (hr : Row w w.heap.size sv s) (hsl : s.length ≤ 1048576) (hE : Env E w) (h1 : indT m s = false) : Calls Tryz.prog 24 #[v, sv, .int .i64 x] w (GivesC w [] false) := by
  have Hs := Lib.hid hs
  obtain ⟨lv, iv, hve, hl2, hi2⟩ := hv.open
  obtain ⟨As, cs, rfl, _⟩ := id hr
  have Hb0 := Lib.hid (boxed_below w m lv iv)
  have HV := Lib.hid (hv.up Hb0.out)
  have HR := Lib.hid (hr.up Hb0.out)
  have HE := Lib.hid (hE.up Hb0.out)
  have Hblk := Lib.hid (boxed_blk w m lv iv)
  obtain ⟨Al, cl, rfl, _⟩ := hl2
  obtain ⟨Ai, ci, rfl, _⟩ := hi2
  subst hve
  unfold boxed at *
  have H1 := Lib.hid h1
  clear hv hs hr hE h1
  refine (callsIn_wide (n := 8)).1 ?_
  refine callsIn_of_wp_marks Tryz.func24 rfl trivial ?_ rfl
  simp only [Tryz.ntmps24, List.size_toArray, List.length_cons, List.length_nil, Nat.reduceAdd, Nat.reduceSub, Array.replicate_succ, Array.replicate_zero, List.push_toArray, List.append_toArray, List.nil_append, List.cons_append]
  refine wpIn_wide.2 ?_
  have k0 := Hblk.out.cell 0
  have k1 := Hblk.out.cell 1
  have k2 := Hblk.out.cell 2
  have k3 := Hblk.out.cell 3
  have k4 := Hblk.out.cell 4
  have k5 := Hblk.out.cell 5
  go_wp2_with fail
  refine (indep_any E m _ _ s _ HV.out Hs.out HR.out hsl HE.out).mono ?_
  rintro e w1 ⟨rfl, hb1⟩
  rw [H1.out]
  clear k0 k1 k2 k3 k4 k5
  replace HE := Lib.hid (HE.out.up hb1)
  replace HV := Lib.hid (HV.out.up hb1)
  replace HR := Lib.hid (HR.out.up hb1)
  replace Hblk := Lib.hid (Hblk.out.below hb1 Hblk.out.lt)
  replace Hb0 := Lib.hid (below_next Hb0.out (Nat.le_refl _) hb1)
  clear hb1
  go_wp2
  refine ⟨.tuple #[.slice none 0 0, .bool false], ?_, ⟨_, rfl, Row.nil_ _ _, Hb0.out⟩⟩
  simp [results, Tryz.f24, go_sem]

set_option maxHeartbeats 16000000 in
set_option maxRecDepth 100000 in
theorem circ_2 (E : Nat → Addr) (m : Mat) (v sv : Value) (s : List Int) (x : Int) (w : World) (hv : MatV w w.heap.size v m) (hs : Sml m) (hr : Row w w.heap.size sv s) (hsl : s.length ≤ 1048576) (hE : Env E w) (h1 : indT m s = true) (h2 : mayI m [x] = false) : Calls Tryz.prog 24 #[v, sv, .int .i64 x] w (GivesC w [] false) := by
  have Hs := Lib.hid hs
  obtain ⟨lv, iv, hve, hl2, hi2⟩ := hv.open
  obtain ⟨As, cs, rfl, _⟩ := id hr
  have Hb0 := Lib.hid (boxed_below w m lv iv)
  have HV := Lib.hid (hv.up Hb0.out)
  have HR := Lib.hid (hr.up Hb0.out)
  have HE := Lib.hid (hE.up Hb0.out)
  have Hblk := Lib.hid (boxed_blk w m lv iv)
  obtain ⟨Al, cl, rfl, _⟩ := hl2
  obtain ⟨Ai, ci, rfl, _⟩ := hi2
  subst hve
  unfold boxed at *
  have H1 := Lib.hid h1
  have H2 := Lib.hid h2
  clear hv hs hr hE h1 h2
  refine (callsIn_wide (n := 8)).1 ?_
  refine callsIn_of_wp_marks Tryz.func24 rfl trivial ?_ rfl
  simp only [Tryz.ntmps24, List.size_toArray, List.length_cons, List.length_nil, Nat.reduceAdd, Nat.reduceSub, Array.replicate_succ, Array.replicate_zero, List.push_toArray, List.append_toArray, List.nil_append, List.cons_append]
  refine wpIn_wide.2 ?_
  have k0 := Hblk.out.cell 0
  have k1 := Hblk.out.cell 1
  have k2 := Hblk.out.cell 2
  have k3 := Hblk.out.cell 3
  have k4 := Hblk.out.cell 4
  have k5 := Hblk.out.cell 5
  go_wp2_with fail
  refine (indep_any E m _ _ s _ HV.out Hs.out HR.out hsl HE.out).mono ?_
  rintro e w1 ⟨rfl, hb1⟩
  rw [H1.out]
  clear k0 k1 k2 k3 k4 k5
  replace HE := Lib.hid (HE.out.up hb1)
  replace HV := Lib.hid (HV.out.up hb1)
  replace HR := Lib.hid (HR.out.up hb1)
  replace Hblk := Lib.hid (Hblk.out.below hb1 Hblk.out.lt)
  replace Hb0 := Lib.hid (below_next Hb0.out (Nat.le_refl _) hb1)
  clear hb1
  have Hb2 := Lib.hid ((Below.refl w1.heap.size w1).alloc (Nat.le_refl _) (.cells #[.int .i64 x] 3))
  have HX1 := Lib.hid (Row.lit1 w1 x).here
  have k0 := (Hblk.out.below Hb2.out Hblk.out.lt).cell 0
  have k1 := (Hblk.out.below Hb2.out Hblk.out.lt).cell 1
  have k2 := (Hblk.out.below Hb2.out Hblk.out.lt).cell 2
  have k3 := (Hblk.out.below Hb2.out Hblk.out.lt).cell 3
  have k4 := (Hblk.out.below Hb2.out Hblk.out.lt).cell 4
  have k5 := (Hblk.out.below Hb2.out Hblk.out.lt).cell 5
  have q0 := Hblk.out.cell 0
  have q1 := Hblk.out.cell 1
  have q2 := Hblk.out.cell 2
  have q3 := Hblk.out.cell 3
  have q4 := Hblk.out.cell 4
  have q5 := Hblk.out.cell 5
  go_wp2_with fail
  refine (imay_any E m _ _ [x] _ (HV.out.up Hb2.out) Hs.out HX1.out (by simp) (HE.out.up Hb2.out)).mono ?_
  rintro e w2 ⟨rfl, hb2'⟩
  rw [H2.out]
  clear k0 k1 k2 k3 k4 k5 q0 q1 q2 q3 q4 q5 HX1
  have hb2 := below_next Hb2.out (Nat.le_refl _) hb2'
  clear hb2' Hb2
  replace HE := Lib.hid (HE.out.up hb2)
  replace HV := Lib.hid (HV.out.up hb2)
  replace HR := Lib.hid (HR.out.up hb2)
  replace Hblk := Lib.hid (Hblk.out.below hb2 Hblk.out.lt)
  replace Hb0 := Lib.hid (below_next Hb0.out (Nat.le_refl _) hb2)
  clear hb2
  go_wp2
  refine ⟨.tuple #[.slice none 0 0, .bool false], ?_, ⟨_, rfl, Row.nil_ _ _, Hb0.out⟩⟩
  simp [results, Tryz.f24, go_sem]

set_option maxHeartbeats 16000000 in
set_option maxRecDepth 100000 in
theorem circ_3 (E : Nat → Addr) (m : Mat) (v sv : Value) (s : List Int) (x : Int) (w : World) (hv : MatV w w.heap.size v m) (hs : Sml m) (hr : Row w w.heap.size sv s) (hsl : s.length ≤ 1048576) (hE : Env E w) (h1 : indT m s = true) (h2 : mayI m [x] = true) (h3 : hasB s x = true) : Calls Tryz.prog 24 #[v, sv, .int .i64 x] w (GivesC w [] false) := by
  have Hs := Lib.hid hs
  obtain ⟨lv, iv, hve, hl2, hi2⟩ := hv.open
  obtain ⟨As, cs, rfl, _⟩ := id hr
  have Hb0 := Lib.hid (boxed_below w m lv iv)
  have HV := Lib.hid (hv.up Hb0.out)
  have HR := Lib.hid (hr.up Hb0.out)
  have HE := Lib.hid (hE.up Hb0.out)
  have Hblk := Lib.hid (boxed_blk w m lv iv)
  obtain ⟨Al, cl, rfl, _⟩ := hl2
  obtain ⟨Ai, ci, rfl, _⟩ := hi2
  subst hve
  unfold boxed at *
  have H1 := Lib.hid h1
  have H2 := Lib.hid h2
  have H3 := Lib.hid h3
  clear hv hs hr hE h1 h2 h3
  refine (callsIn_wide (n := 8)).1 ?_
  refine callsIn_of_wp_marks Tryz.func24 rfl trivial ?_ rfl
  simp only [Tryz.ntmps24, List.size_toArray, List.length_cons, List.length_nil, Nat.reduceAdd, Nat.reduceSub, Array.replicate_succ, Array.replicate_zero, List.push_toArray, List.append_toArray, List.nil_append, List.cons_append]
  refine wpIn_wide.2 ?_
  have k0 := Hblk.out.cell 0
  have k1 := Hblk.out.cell 1
  have k2 := Hblk.out.cell 2
  have k3 := Hblk.out.cell 3
  have k4 := Hblk.out.cell 4
  have k5 := Hblk.out.cell 5
  go_wp2_with fail
  refine (indep_any E m _ _ s _ HV.out Hs.out HR.out hsl HE.out).mono ?_
  rintro e w1 ⟨rfl, hb1⟩
  rw [H1.out]
  clear k0 k1 k2 k3 k4 k5
  replace HE := Lib.hid (HE.out.up hb1)
  replace HV := Lib.hid (HV.out.up hb1)
  replace HR := Lib.hid (HR.out.up hb1)
  replace Hblk := Lib.hid (Hblk.out.below hb1 Hblk.out.lt)
  replace Hb0 := Lib.hid (below_next Hb0.out (Nat.le_refl _) hb1)
  clear hb1
  have Hb2 := Lib.hid ((Below.refl w1.heap.size w1).alloc (Nat.le_refl _) (.cells #[.int .i64 x] 3))
  have HX1 := Lib.hid (Row.lit1 w1 x).here
  have k0 := (Hblk.out.below Hb2.out Hblk.out.lt).cell 0
  have k1 := (Hblk.out.below Hb2.out Hblk.out.lt).cell 1
  have k2 := (Hblk.out.below Hb2.out Hblk.out.lt).cell 2
  have k3 := (Hblk.out.below Hb2.out Hblk.out.lt).cell 3
  have k4 := (Hblk.out.below Hb2.out Hblk.out.lt).cell 4
  have k5 := (Hblk.out.below Hb2.out Hblk.out.lt).cell 5
  have q0 := Hblk.out.cell 0
  have q1 := Hblk.out.cell 1
  have q2 := Hblk.out.cell 2
  have q3 := Hblk.out.cell 3
  have q4 := Hblk.out.cell 4
  have q5 := Hblk.out.cell 5
  go_wp2_with fail
  refine (imay_any E m _ _ [x] _ (HV.out.up Hb2.out) Hs.out HX1.out (by simp) (HE.out.up Hb2.out)).mono ?_
  rintro e w2 ⟨rfl, hb2'⟩
  rw [H2.out]
  clear k0 k1 k2 k3 k4 k5 q0 q1 q2 q3 q4 q5 HX1
  have hb2 := below_next Hb2.out (Nat.le_refl _) hb2'
  clear hb2' Hb2
  replace HE := Lib.hid (HE.out.up hb2)
  replace HV := Lib.hid (HV.out.up hb2)
  replace HR := Lib.hid (HR.out.up hb2)
  replace Hblk := Lib.hid (Hblk.out.below hb2 Hblk.out.lt)
  replace Hb0 := Lib.hid (below_next Hb0.out (Nat.le_refl _) hb2)
  clear hb2
  go_wp2_with fail
  refine (shas_any _ s x _ HR.out hsl).mono ?_
  rintro e w3 ⟨rfl, hb3⟩
  rw [H3.out]
  replace HE := Lib.hid (HE.out.up hb3)
  replace HV := Lib.hid (HV.out.up hb3)
  replace HR := Lib.hid (HR.out.up hb3)
  replace Hblk := Lib.hid (Hblk.out.below hb3 Hblk.out.lt)
  replace Hb0 := Lib.hid (below_next Hb0.out (Nat.le_refl _) hb3)
  clear hb3
  go_wp2
  refine ⟨.tuple #[.slice none 0 0, .bool false], ?_, ⟨_, rfl, Row.nil_ _ _, Hb0.out⟩⟩
  simp [results, Tryz.f24, go_sem]

set_option maxHeartbeats 16000000 in
set_option maxRecDepth 100000 in
theorem circ_4 (E : Nat → Addr) (m : Mat) (v sv : Value) (s : List Int) (x : Int) (w : World) (hv : MatV w w.heap.size v m) (hs : Sml m) (hr : Row w w.heap.size sv s) (hsl : s.length ≤ 1048576) (hE : Env E w) (h1 : indT m s = true) (h2 : mayI m [x] = true) (h3 : hasB s x = false) (h4 : indT m (grownL s x) = true) : Calls Tryz.prog 24 #[v, sv, .int .i64 x] w (GivesC w [] false) := by
  have Hs := Lib.hid hs
  obtain ⟨lv, iv, hve, hl2, hi2⟩ := hv.open
  obtain ⟨As, cs, rfl, _⟩ := id hr
  have Hb0 := Lib.hid (boxed_below w m lv iv)
  have HV := Lib.hid (hv.up Hb0.out)
  have HR := Lib.hid (hr.up Hb0.out)
  have HE := Lib.hid (hE.up Hb0.out)
  have Hblk := Lib.hid (boxed_blk w m lv iv)
  obtain ⟨Al, cl, rfl, _⟩ := hl2
  obtain ⟨Ai, ci, rfl, _⟩ := hi2
  subst hve
  unfold boxed at *
  have H1 := Lib.hid h1
  have H2 := Lib.hid h2
  have H3 := Lib.hid h3
  have H4 := Lib.hid h4
  have htl : (grownL s x).length ≤ 1048576 := by
    have h6 := inN_len (mayI_iff.1 (ind_may h4)).2
    have h7 := (nN_cast (mayI_iff.1 (ind_may h4)).1).2
    omega
  clear hv hs hr hE h1 h2 h3 h4
  refine (callsIn_wide (n := 8)).1 ?_
  refine callsIn_of_wp_marks Tryz.func24 rfl trivial ?_ rfl
  simp only [Tryz.ntmps24, List.size_toArray, List.length_cons, List.length_nil, Nat.reduceAdd, Nat.reduceSub, Array.replicate_succ, Array.replicate_zero, List.push_toArray, List.append_toArray, List.nil_append, List.cons_append]
  refine wpIn_wide.2 ?_
  have k0 := Hblk.out.cell 0
  have k1 := Hblk.out.cell 1
  have k2 := Hblk.out.cell 2
  have k3 := Hblk.out.cell 3
  have k4 := Hblk.out.cell 4
  have k5 := Hblk.out.cell 5
  go_wp2_with fail
  refine (indep_any E m _ _ s _ HV.out Hs.out HR.out hsl HE.out).mono ?_
  rintro e w1 ⟨rfl, hb1⟩
  rw [H1.out]
  clear k0 k1 k2 k3 k4 k5
  replace HE := Lib.hid (HE.out.up hb1)
  replace HV := Lib.hid (HV.out.up hb1)
  replace HR := Lib.hid (HR.out.up hb1)
  replace Hblk := Lib.hid (Hblk.out.below hb1 Hblk.out.lt)
  replace Hb0 := Lib.hid (below_next Hb0.out (Nat.le_refl _) hb1)
  clear hb1
  have Hb2 := Lib.hid ((Below.refl w1.heap.size w1).alloc (Nat.le_refl _) (.cells #[.int .i64 x] 3))
  have HX1 := Lib.hid (Row.lit1 w1 x).here
  have k0 := (Hblk.out.below Hb2.out Hblk.out.lt).cell 0
  have k1 := (Hblk.out.below Hb2.out Hblk.out.lt).cell 1
  have k2 := (Hblk.out.below Hb2.out Hblk.out.lt).cell 2
  have k3 := (Hblk.out.below Hb2.out Hblk.out.lt).cell 3
  have k4 := (Hblk.out.below Hb2.out Hblk.out.lt).cell 4
  have k5 := (Hblk.out.below Hb2.out Hblk.out.lt).cell 5
  have q0 := Hblk.out.cell 0
  have q1 := Hblk.out.cell 1
  have q2 := Hblk.out.cell 2
  have q3 := Hblk.out.cell 3
  have q4 := Hblk.out.cell 4
  have q5 := Hblk.out.cell 5
  go_wp2_with fail
  refine (imay_any E m _ _ [x] _ (HV.out.up Hb2.out) Hs.out HX1.out (by simp) (HE.out.up Hb2.out)).mono ?_
  rintro e w2 ⟨rfl, hb2'⟩
  rw [H2.out]
  clear k0 k1 k2 k3 k4 k5 q0 q1 q2 q3 q4 q5 HX1
  have hb2 := below_next Hb2.out (Nat.le_refl _) hb2'
  clear hb2' Hb2
  replace HE := Lib.hid (HE.out.up hb2)
  replace HV := Lib.hid (HV.out.up hb2)
  replace HR := Lib.hid (HR.out.up hb2)
  replace Hblk := Lib.hid (Hblk.out.below hb2 Hblk.out.lt)
  replace Hb0 := Lib.hid (below_next Hb0.out (Nat.le_refl _) hb2)
  clear hb2
  go_wp2_with fail
  refine (shas_any _ s x _ HR.out hsl).mono ?_
  rintro e w3 ⟨rfl, hb3⟩
  rw [H3.out]
  replace HE := Lib.hid (HE.out.up hb3)
  replace HV := Lib.hid (HV.out.up hb3)
  replace HR := Lib.hid (HR.out.up hb3)
  replace Hblk := Lib.hid (Hblk.out.below hb3 Hblk.out.lt)
  replace Hb0 := Lib.hid (below_next Hb0.out (Nat.le_refl _) hb3)
  clear hb3
  go_wp2_with fail
  refine (grown_any _ s x _ HR.out hsl).mono ?_
  rintro e w4 ⟨v4, rfl, hr4, hb4⟩
  replace HE := Lib.hid (HE.out.up hb4)
  replace HV := Lib.hid (HV.out.up hb4)
  replace HR := Lib.hid (HR.out.up hb4)
  replace Hblk := Lib.hid (Hblk.out.below hb4 Hblk.out.lt)
  replace Hb0 := Lib.hid (below_next Hb0.out (Nat.le_refl _) hb4)
  clear hb4
  have HT := Lib.hid hr4
  obtain ⟨A4, c4, rfl, _⟩ := id hr4
  clear hr4
  have k0 := Hblk.out.cell 0
  have k1 := Hblk.out.cell 1
  have k2 := Hblk.out.cell 2
  have k3 := Hblk.out.cell 3
  have k4 := Hblk.out.cell 4
  have k5 := Hblk.out.cell 5
  go_wp2_with fail
  refine (indep_any E m _ _ (grownL s x) _ HV.out Hs.out HT.out htl HE.out).mono ?_
  rintro e w5 ⟨rfl, hb5⟩
  rw [H4.out]
  clear k0 k1 k2 k3 k4 k5
  replace HT := Lib.hid (HT.out.up hb5)
  replace HE := Lib.hid (HE.out.up hb5)
  replace HV := Lib.hid (HV.out.up hb5)
  replace HR := Lib.hid (HR.out.up hb5)
  replace Hblk := Lib.hid (Hblk.out.below hb5 Hblk.out.lt)
  replace Hb0 := Lib.hid (below_next Hb0.out (Nat.le_refl _) hb5)
  clear hb5
  go_wp2
  refine ⟨.tuple #[.slice none 0 0, .bool false], ?_, ⟨_, rfl, Row.nil_ _ _, Hb0.out⟩⟩
  simp [results, Tryz.f24, go_sem]

/-- Those that were told so far, without which the others are independent. -/
noncomputable def circN (m : Mat) (t : List Int) (pre : List (Fin t.length × Value)) : List Int := (pre.map fun x => t.getD x.1.1 0).filter fun y => indT m (minusL t [y])
theorem circN_snoc (m : Mat) (t : List Int) (pre : List (Fin t.length × Value)) (x : Fin t.length × Value) : circN m t (pre ++ [x]) = circN m t pre ++ if indT m (minusL t [t.getD x.1.1 0]) = true then [t.getD x.1.1 0] else [] := by
  unfold circN
  rw [List.map_append, List.filter_append]
  congr 1
  simp only [List.map_cons, List.map_nil, List.filter_cons, List.filter_nil]
theorem circ_last {m : Mat} {t : List Int} (xs : List (Fin t.length × Value)) (h : EachAll t xs) : circN m t xs = circK m t t.length := by
  unfold circN circK
  rw [List.take_length]
  congr 1
  have e : xs.map (fun x => t.getD x.1.1 0) = (xs.map fun x => x.1.1).map fun i => t.getD i 0 := by rw [List.map_map]; rfl
  rw [e, show xs.map (fun x => x.1.1) = _ from h]
  apply List.ext_getElem
  · simp
  · intro i a b
    simp [List.getD, b]
theorem circN_len (m : Mat) (t : List Int) (pre : List (Fin t.length × Value)) : (circN m t pre).length ≤ pre.length := by
  unfold circN
  refine Nat.le_trans (List.length_filter_le _ _) ?_
  simp
theorem own_stays {w w' : World} {B : Nat} {e : TypeId} {size n : Nat} {v : Value} {xs : List Value} (h : w.ownsRow B e size v n xs) (hb : Below w.heap.size w w') : w'.ownsRow B e size v n xs := h.kept (only_of_below hb none) (by
  rcases v.ownBlock with _ | k
  · exact .inl rfl
  · exact .inr (by simp))
theorem own_size {β : Type} (B n : Nat) : OwnFrom B (fun (_ : β) W => n ≤ W.heap.size) := fun _ _ _ _ hs hg _ => Nat.le_trans hs hg.size
theorem own_row {B : Nat} {v : Value} {l : List Int} {W V : World} {row : Option Nat} (h : Row W W.heap.size v l) (hg : W.grownBy V row) (hr : ∀ r, row = some r → B ≤ r ∧ ∃ o : Obj, W.heap[r]? = some o ∧ o.isCells = false) : Row V V.heap.size v l := by
  obtain ⟨A, c, hv, hn, hk⟩ := h
  refine ⟨A, c, hv, hn, fun k hlt => ?_⟩
  obtain ⟨ad, hA, hB, hc⟩ := hk k hlt
  exact ⟨ad, hA, Nat.lt_of_lt_of_le hB hg.size, cell_kept hc hg fun r e => (hr r e).2⟩
theorem own_row_good {B : Nat} (t : List Int) (x : Fin t.length × Value) (p : Prop) : OwnFrom B (fun (_ : Unit) W => eachGood t x W ∧ p) := fun _ _ _ _ hs hg hr => ⟨own_row hs.1 hg hr, hs.2⟩
theorem minus_length (a b : List Int) : (minusL a b).length ≤ a.length := by
  unfold minusL partL
  split
  · exact List.length_filter_le _ _
  · simp

set_option maxHeartbeats 16000000 in
set_option maxRecDepth 100000 in
theorem circ_5 (E : Nat → Addr) (m : Mat) (v sv : Value) (s : List Int) (x : Int) (w : World) (hv : MatV w w.heap.size v m) (hs : Sml m) (hr : Row w w.heap.size sv s) (hsl : s.length ≤ 1048576) (hE : Env E w) (h1 : indT m s = true) (h2 : mayI m [x] = true) (h3 : hasB s x = false) (h4 : indT m (grownL s x) = false) : Calls Tryz.prog 24 #[v, sv, .int .i64 x] w (GivesC w (circK m (grownL s x) (grownL s x).length) true) := by
  have Hs := Lib.hid hs
  obtain ⟨lv, iv, hve, hl2, hi2⟩ := hv.open
  obtain ⟨As, cs, rfl, _⟩ := id hr
  have Hb0 := Lib.hid (boxed_below w m lv iv)
  have HV := Lib.hid (hv.up Hb0.out)
  have HR := Lib.hid (hr.up Hb0.out)
  have HE := Lib.hid (hE.up Hb0.out)
  have Hblk := Lib.hid (boxed_blk w m lv iv)
  obtain ⟨Al, cl, rfl, _⟩ := hl2
  obtain ⟨Ai, ci, rfl, _⟩ := hi2
  subst hve
  unfold boxed at *
  have H1 := Lib.hid h1
  have H2 := Lib.hid h2
  have H3 := Lib.hid h3
  have H4 := Lib.hid h4
  have hgl := grown_len s x
  have hs64 : s.length ≤ 64 := by
    have h6 := inN_len (mayI_iff.1 (ind_may h1)).2
    have h7 := (nN_cast (mayI_iff.1 (ind_may h1)).1).2
    omega
  have htl : (grownL s x).length ≤ 1048576 := by omega
  have ht65 : (grownL s x).length ≤ 65 := by omega
  have Hlast := Lib.hid (circ_last (m := m) (t := grownL s x))
  have Hind : Hid (∀ (y : Int) (v sv : Value) (W : World), MatV W W.heap.size v m → Row W W.heap.size sv (minusL (grownL s x) [y]) → Env E W → Calls Tryz.prog 11 #[v, sv] W (Says W (indT m (minusL (grownL s x) [y])))) := Lib.hid fun y v sv W a b c => indep_any E m v sv _ W a Hs.out b (by have := minus_length (grownL s x) [y]; omega) c
  clear hv hs hr hE h1 h2 h3 h4 hgl hs64
  refine (callsIn_wide (n := 8)).1 ?_
  refine callsIn_of_wp_marks Tryz.func24 rfl trivial ?_ rfl
  simp only [Tryz.ntmps24, List.size_toArray, List.length_cons, List.length_nil, Nat.reduceAdd, Nat.reduceSub, Array.replicate_succ, Array.replicate_zero, List.push_toArray, List.append_toArray, List.nil_append, List.cons_append]
  refine wpIn_wide.2 ?_
  have k0 := Hblk.out.cell 0
  have k1 := Hblk.out.cell 1
  have k2 := Hblk.out.cell 2
  have k3 := Hblk.out.cell 3
  have k4 := Hblk.out.cell 4
  have k5 := Hblk.out.cell 5
  go_wp2_with fail
  refine (indep_any E m _ _ s _ HV.out Hs.out HR.out hsl HE.out).mono ?_
  rintro e w1 ⟨rfl, hb1⟩
  rw [H1.out]
  clear k0 k1 k2 k3 k4 k5
  replace HE := Lib.hid (HE.out.up hb1)
  replace HV := Lib.hid (HV.out.up hb1)
  replace HR := Lib.hid (HR.out.up hb1)
  replace Hblk := Lib.hid (Hblk.out.below hb1 Hblk.out.lt)
  replace Hb0 := Lib.hid (below_next Hb0.out (Nat.le_refl _) hb1)
  clear hb1
  have Hb2 := Lib.hid ((Below.refl w1.heap.size w1).alloc (Nat.le_refl _) (.cells #[.int .i64 x] 3))
  have HX1 := Lib.hid (Row.lit1 w1 x).here
  have k0 := (Hblk.out.below Hb2.out Hblk.out.lt).cell 0
  have k1 := (Hblk.out.below Hb2.out Hblk.out.lt).cell 1
  have k2 := (Hblk.out.below Hb2.out Hblk.out.lt).cell 2
  have k3 := (Hblk.out.below Hb2.out Hblk.out.lt).cell 3
  have k4 := (Hblk.out.below Hb2.out Hblk.out.lt).cell 4
  have k5 := (Hblk.out.below Hb2.out Hblk.out.lt).cell 5
  have q0 := Hblk.out.cell 0
  have q1 := Hblk.out.cell 1
  have q2 := Hblk.out.cell 2
  have q3 := Hblk.out.cell 3
  have q4 := Hblk.out.cell 4
  have q5 := Hblk.out.cell 5
  go_wp2_with fail
  refine (imay_any E m _ _ [x] _ (HV.out.up Hb2.out) Hs.out HX1.out (by simp) (HE.out.up Hb2.out)).mono ?_
  rintro e w2 ⟨rfl, hb2'⟩
  rw [H2.out]
  clear k0 k1 k2 k3 k4 k5 q0 q1 q2 q3 q4 q5 HX1
  have hb2 := below_next Hb2.out (Nat.le_refl _) hb2'
  clear hb2' Hb2
  replace HE := Lib.hid (HE.out.up hb2)
  replace HV := Lib.hid (HV.out.up hb2)
  replace HR := Lib.hid (HR.out.up hb2)
  replace Hblk := Lib.hid (Hblk.out.below hb2 Hblk.out.lt)
  replace Hb0 := Lib.hid (below_next Hb0.out (Nat.le_refl _) hb2)
  clear hb2
  go_wp2_with fail
  refine (shas_any _ s x _ HR.out hsl).mono ?_
  rintro e w3 ⟨rfl, hb3⟩
  rw [H3.out]
  replace HE := Lib.hid (HE.out.up hb3)
  replace HV := Lib.hid (HV.out.up hb3)
  replace HR := Lib.hid (HR.out.up hb3)
  replace Hblk := Lib.hid (Hblk.out.below hb3 Hblk.out.lt)
  replace Hb0 := Lib.hid (below_next Hb0.out (Nat.le_refl _) hb3)
  clear hb3
  go_wp2_with fail
  refine (grown_any _ s x _ HR.out hsl).mono ?_
  rintro e w4 ⟨v4, rfl, hr4, hb4⟩
  replace HE := Lib.hid (HE.out.up hb4)
  replace HV := Lib.hid (HV.out.up hb4)
  replace HR := Lib.hid (HR.out.up hb4)
  replace Hblk := Lib.hid (Hblk.out.below hb4 Hblk.out.lt)
  replace Hb0 := Lib.hid (below_next Hb0.out (Nat.le_refl _) hb4)
  clear hb4
  have HT := Lib.hid hr4
  obtain ⟨A4, c4, rfl, _⟩ := id hr4
  clear hr4
  have k0 := Hblk.out.cell 0
  have k1 := Hblk.out.cell 1
  have k2 := Hblk.out.cell 2
  have k3 := Hblk.out.cell 3
  have k4 := Hblk.out.cell 4
  have k5 := Hblk.out.cell 5
  go_wp2_with fail
  refine (indep_any E m _ _ (grownL s x) _ HV.out Hs.out HT.out htl HE.out).mono ?_
  rintro e w5 ⟨rfl, hb5⟩
  rw [H4.out]
  clear k0 k1 k2 k3 k4 k5
  replace HT := Lib.hid (HT.out.up hb5)
  replace HE := Lib.hid (HE.out.up hb5)
  replace HV := Lib.hid (HV.out.up hb5)
  replace HR := Lib.hid (HR.out.up hb5)
  replace Hblk := Lib.hid (Hblk.out.below hb5 Hblk.out.lt)
  replace Hb0 := Lib.hid (below_next Hb0.out (Nat.le_refl _) hb5)
  clear hb5
  obtain ⟨t, ht⟩ : ∃ t, grownL s x = t := ⟨_, rfl⟩
  rw [ht] at HT htl ht65 Hlast Hind ⊢
  have Ht := Lib.hid ht
  clear ht H1 H2 H3 H4 HR
  obtain ⟨B9, hB9⟩ : ∃ B9, w5.heap.size = B9 := ⟨_, rfl⟩
  go_wp2_with fail
  try rw [hB9]
  refine (each_any A4 t.length c4 _).mono ?_
  rintro e w7 ⟨rfl, rfl⟩
  go_wp2
  refine (wpIn_wide (n := 8)).1 ?_
  try rw [hB9]
  obtain ⟨Wc, hWc⟩ : ∃ Wc, (w5.alloc (.cells #[.slice none 0 0] 26)).alloc (.cells #[.slice A4 t.length c4] 26) = Wc := ⟨_, rfl⟩
  have hWs : Wc.heap.size = B9 + 1 + 1 := by rw [← hWc, ← hB9]; simp
  have hK9 : Boxed Wc B9 26 (.slice none 0 0) := by
    rw [← hWc, ← hB9]
    exact (Boxed.new w5 _ _).alloc _
  have hKs : Boxed Wc (B9 + 1) 26 (.slice A4 t.length c4) := by
    rw [← hWc, ← hB9]
    have h := Boxed.new (w5.alloc (.cells #[.slice none 0 0] 26)) 26 (.slice A4 t.length c4)
    rw [size_more] at h
    exact h
  have hbel : Below B9 w5 Wc := by
    rw [← hWc, ← hB9]
    exact ((Below.refl w5.heap.size w5).alloc (Nat.le_refl _) _).alloc (by rw [size_more]; omega) _
  rw [hWc]
  clear hWc
  refine wpIn_range_good (α := Fin t.length × Value) (n := 8) rfl (by omega) (gf := 63) (lb := #[.pointer (some ⟨B9 + 1, 0, none⟩)]) rfl trivial (enters_of Tryz.func63 (by kernel_rfl) rfl)
    (each1_good 7 (by omega) (B9 + 1) B9 A4 c4 t Wc (by omega) (by omega) hKs.cell ((HT.out.mono (Nat.le_of_eq hB9)).below hbel) htl)
    keepsBox_t (keepsBox_put (by omega) (by omega)) (Below.refl _ _) (fun _ => rfl)
    (fun pre W => Below B9 w5 W ∧ (∃ u, Boxed W B9 26 u ∧ W.ownsRow B9 3 1 u (circN m t pre).length (ints (circN m t pre)) ∧ True) ∧ Boxed W (B9 + 1) 26 (.slice A4 t.length c4) ∧ B9 + 1 + 1 ≤ W.heap.size)
    ((ownFrom_below (Nat.le_of_eq hB9.symm) (by omega)).and (((holdsRow_own B9 B9 26 3 1 (fun pre => (circN m t pre).length) (fun pre => ints (circN m t pre)) (fun _ _ => True)).from _).and (((boxed_own (B9 + 1) 26 (fun _ => .slice A4 t.length c4)).from _).and (own_size _ _))))
    ⟨hbel, ⟨_, hK9, World.ownsRow_nil _ _ _ _, trivial⟩, hKs, by omega⟩
    (fun z a' W => eachGood t z W ∧ a' = { tmps := #[Value.agg #[.int .i64 m.t, .int .i64 m.n, .int .i64 m.a, .int .i64 m.b, .slice Al m.l.length cl, .slice Ai m.i.length ci], .slice As s.length cs, .int .i64 x, .pointer (some ⟨w.heap.size, 0, none⟩), undef, undef, .slice none 0 0, .bool false, .slice A4 t.length c4, .pointer (some ⟨B9, 0, none⟩), .int .i64 (t.getD z.1.1 0), z.2, Value.agg #[.int .i64 m.t, .int .i64 m.n, .int .i64 m.a, .int .i64 m.b, .slice Al m.l.length cl, .slice Ai m.i.length ci], .slice As s.length cs, .bool true, .bool false, .bool false, Value.agg #[.int .i64 m.t, .int .i64 m.n, .int .i64 m.a, .int .i64 m.b, .slice Al m.l.length cl, .slice Ai m.i.length ci], .int .i64 x, .slice (some ⟨w1.heap.size, 0, none⟩) 1 1, .bool true, .bool false, .bool false, .bool false, .slice As s.length cs, .int .i64 x, .bool false, .bool false, .slice As s.length cs, .int .i64 x, .slice A4 t.length c4, Value.agg #[.int .i64 m.t, .int .i64 m.n, .int .i64 m.a, .int .i64 m.b, .slice Al m.l.length cl, .slice Ai m.i.length ci], .slice A4 t.length c4, .bool false, .slice A4 t.length c4, .func (.func 63) #[] #[.pointer (some ⟨B9 + 1, 0, none⟩)], .int .i64 (t.getD z.1.1 0), z.2, undef, undef, undef, undef, undef, undef, undef, undef], defers := [] })
    (fun z a' => own_row_good t z _) ?assign ?body ?done
  case assign =>
    intro l pre y W Kk hi hgood hK
    have HK := Lib.hid (fun a' h4 => hK a' W (KeepsFrom.refl _ _) ⟨Below.refl _ _, rfl⟩ hi h4)
    have Hg := Lib.hid hgood
    obtain ⟨ty, hty⟩ : ∃ ty, t.getD y.1.1 0 = ty := ⟨_, rfl⟩
    clear hK hi hgood
    unfold eachEnc
    rw [hty]
    gi_wp2
    exact HK.out _ ⟨Hg.out, by rw [hty]⟩
  case body =>
    rintro l pre y a' W hl hi ⟨hgood, rfl⟩ hlt
    obtain ⟨hi1, ⟨u, hbx, hown, _⟩, hbs, hsz⟩ := hi
    obtain ⟨ty, hty⟩ : ∃ ty, t.getD y.1.1 0 = ty := ⟨_, rfl⟩
    have hsn := circN_snoc m t pre y
    have hcl := circN_len m t pre
    unfold eachGood at hgood
    rw [hty] at hsn hgood ⊢
    obtain ⟨cn2, hcn2⟩ : ∃ cn2, circN m t (pre ++ [y]) = cn2 := ⟨_, rfl⟩
    rw [hcn2] at hsn
    have HCN := Lib.hid hcn2
    clear hcn2
    generalize circN m t pre = cn at *
    obtain ⟨z, hz⟩ : ∃ z, indT m (minusL t [ty]) = z := ⟨_, rfl⟩
    rw [hz] at hsn
    have Hz := Lib.hid hz
    have Hsn := Lib.hid hsn
    have hb5 : Below w5.heap.size w5 W := by rw [hB9]; exact hi1
    have HV5 := Lib.hid (HV.out.up hb5)
    have HE5 := Lib.hid (HE.out.up hb5)
    have HRow := Lib.hid hgood
    have Hbx := Lib.hid hbx
    have Hown := Lib.hid hown
    have Hbs := Lib.hid hbs
    have Hi1 := Lib.hid hi1
    have Hk := Lib.hid (Hblk.out.below hb5 Hblk.out.lt)
    have k0 := Hk.out.cell 0
    have k1 := Hk.out.cell 1
    have k2 := Hk.out.cell 2
    have k3 := Hk.out.cell 3
    have k4 := Hk.out.cell 4
    have k5 := Hk.out.cell 5
    have hcn : cn.length ≤ 65 := by omega
    generalize y.2 = vy at *
    clear hi1 hbx hown hbs hsn hgood hz hty hb5 hcl Hlast HT
    gi_wp2_with fail
    refine ⟨trivial, CallsIn.mono (CallsIn.inRound l (callsIn_wide.2 (Hind.out ty _ _ W HV5.out HRow.out HE5.out))) ?_⟩
    rintro e w8 ⟨rfl, hb8⟩
    rw [Hz.out]
    have Bx8 := Lib.hid (Hbx.out.kept (only_of_below hb8 none) (by simp))
    have Own8 := Lib.hid (own_stays Hown.out hb8)
    have Bs8 := Lib.hid (Hbs.out.kept (only_of_below hb8 none) (by simp))
    have Hb8 := Lib.hid hb8
    have hs8 : W.heap.size ≤ w8.heap.size := hb8.size
    clear hb8 k0 k1 k2 k3 k4 k5 Hk HRow Hbx Hown Hbs HV5 HE5
    cases z
    · have e2 : cn2 = cn := by rw [Hsn.out]; simp
      subst e2
      gi_wp2
      exact ⟨KeepsFrom.of_grownBy (only_of_below Hb8.out none) (fun j e => by cases e), keepsBox_below Hb8.out (by omega) (by omega), Hi1.out.trans (Hb8.out.mono (by omega)), ⟨u, Bx8.out, by rw [HCN.out]; exact Own8.out, trivial⟩, Bs8.out, by omega⟩
    · have e2 : cn2 = cn ++ [ty] := by rw [Hsn.out]; simp
      subst e2
      obtain ⟨i0, hi0, hz0, hz1, hz2⟩ := info_parts info3
      obtain ⟨Au, cu, rfl⟩ := own_slice Own8.out
      have d9 := Bx8.out.cell
      have HO := Lib.hid (Own8.out.alloc (.cells #[.int .i64 ty] 3))
      have Hlc := Lib.hid (lit_cell w8 3 (.int .i64 ty))
      have Hl1 := Lib.hid (lit_one ty)
      gi_wp2_with (gi_at_builtin; refine wpListIn_append_own _ rfl _ _ 26 rfl B9 3 i0 (.int .i64 0) 1 8 (by kernel_rfl) hi0 hz0 hz1 hz2 rfl (by decide) (.slice Au cn.length cu) cn.length (ints cn) rfl HO.out ⟨w8.heap.size, 0, none⟩ 1 1 [.int .i64 ty] rfl rfl Hlc.out Hl1.out (by unfold maxLen; omega) (by omega) (by simp; omega) ?_)
      intro v9 w9 hown9 hgr9 _
      obtain ⟨A9, c9, rfl⟩ := own_slice hown9
      obtain ⟨q1, q2, q3, q4, q5⟩ := Boxed.appended Bx8.out (by decide) Own8.out (by omega) (Nat.le_refl _) hown9 hgr9
      have d8 := q1.cell
      have z8 := q1.frozen
      have Q2 := Lib.hid q2
      have Q3 := Lib.hid q3
      have Q4 := Lib.hid q4
      have Q5 := Lib.hid q5
      have Bs9 := Lib.hid ((((Bs8.out.alloc (.cells #[.int .i64 ty] 3)).kept hgr9 ((Bs8.out.alloc (.cells #[.int .i64 ty] 3)).not_row (by decide) HO.out))).other (show B9 + 1 ≠ B9 by omega) (.slice A9 (cn.length + 1) c9))
      have hs9 := q4.size
      clear q1 q2 q3 q4 q5 hown9 hgr9 d9 hi0
      gi_wp2
      refine ⟨(KeepsFrom.of_grownBy (only_of_below Hb8.out none) (fun j e => by cases e)).trans (Q4.out.from _), ⟨(Hb8.out.mono (by omega)).trans Q5.out, ?_⟩, (Hi1.out.trans (Hb8.out.mono (by omega))).trans Q5.out, ⟨_, Q2.out, ?_, trivial⟩, Bs9.out, by omega⟩
      · exact Bs9.out.cell.trans (Bs8.out.cell.symm.trans (Hb8.out.cell (p := ⟨B9 + 1, 0, none⟩) (by show B9 + 1 < _; omega)))
      · rw [HCN.out, ints_append, List.length_append]
        exact Q3.out
  case done =>
    rintro D xs W hD hS hi hK
    obtain ⟨hi1, ⟨u, hbx, hown, _⟩, _, hsz⟩ := hi
    rw [Hlast.out xs hS] at hown
    have hb5 : Below w5.heap.size w5 W := by rw [hB9]; exact hi1
    have d9 := hbx.cell
    have HB := Lib.hid hb5
    have HK := Lib.hid hK
    have HO := Lib.hid hown
    obtain ⟨Au, cu, rfl⟩ := own_slice hown
    clear hown hK hb5 hi1 hbx hS
    go_wp2
    refine ⟨by simp, .inl ⟨_, _, rfl, run_takeDeferred HK.out, ?_⟩⟩
    have hgr := grownBy_putObj' W D (.deferred none)
    have hDl : D < W.heap.size := (Array.getElem?_eq_some_iff.1 HK.out).1
    have hrow := own_row (B := 0) (Row.of_own HO.out rfl) hgr (fun r e => by injection e with e; subst e; exact ⟨Nat.zero_le _, _, HK.out, rfl⟩)
    refine ⟨.tuple #[.slice Au (circK m t t.length).length cu, .bool true], ?_, ⟨_, rfl, by rw [Ht.out]; exact hrow, ?_⟩⟩
    · simp [results, Tryz.f24, go_sem]
    · exact below_next Hb0.out (Nat.le_refl _) (HB.out.grown hgr (by omega) (fun k e => by injection e with e; omega))

theorem circ_any (E : Nat → Addr) (m : Mat) (v sv : Value) (s : List Int) (x : Int) (w : World) (hv : MatV w w.heap.size v m) (hs : Sml m) (hr : Row w w.heap.size sv s) (hsl : s.length ≤ 1048576) (hE : Env E w) : Calls Tryz.prog 24 #[v, sv, .int .i64 x] w (GivesC w (circT m s x) (circB m s x)) := by
  rcases h1 : indT m s with _ | _
  · rw [circT_no (show circB m s x = false by unfold circB; rw [h1]; rfl), show circB m s x = false by unfold circB; rw [h1]; rfl]
    exact circ_1 E m v sv s x w hv hs hr hsl hE h1
  · rcases h2 : mayI m [x] with _ | _
    · rw [circT_no (show circB m s x = false by unfold circB; rw [h1, h2]; rfl), show circB m s x = false by unfold circB; rw [h1, h2]; rfl]
      exact circ_2 E m v sv s x w hv hs hr hsl hE h1 h2
    · rcases h3 : hasB s x with _ | _
      · rcases h4 : indT m (grownL s x) with _ | _
        · have hb : circB m s x = true := by unfold circB; rw [h1, h2, h3, h4]; rfl
          rw [show circT m s x = circK m (grownL s x) (grownL s x).length from if_pos hb, hb]
          exact circ_5 E m v sv s x w hv hs hr hsl hE h1 h2 h3 h4
        · rw [circT_no (show circB m s x = false by unfold circB; rw [h1, h2, h3, h4]; rfl), show circB m s x = false by unfold circB; rw [h1, h2, h3, h4]; rfl]
          exact circ_4 E m v sv s x w hv hs hr hsl hE h1 h2 h3 h4
      · rw [circT_no (show circB m s x = false by unfold circB; rw [h1, h2, h3]; rfl), show circB m s x = false by unfold circB; rw [h1, h2, h3]; rfl]
        exact circ_3 E m v sv s x w hv hs hr hsl hE h1 h2 h3

end Wp
end Go.Proofs.YtbjngggcpojefaaGreatDoor
