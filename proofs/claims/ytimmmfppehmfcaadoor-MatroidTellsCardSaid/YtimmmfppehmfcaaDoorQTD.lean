/- The document's Image, walked. -/
import Derived.Test.YtimmmfppehmfcaaDoorQTE
import Derived.Test.YtimmmfppehmfcaaDoorQImg
namespace Go.Proofs.YtimmmfppehmfcaaDoor
open Go.RowKit
namespace Wp

set_option maxHeartbeats 8000000 in
set_option maxRecDepth 100000 in
theorem rimage_bad (m : Mat) (v sv : Value) (s : List Int) (w : World) (hv : MatV w w.heap.size v m) (hs : Sml m) (hr : Row w w.heap.size sv s) (hsl : s.length ≤ 1048576) (hc : chk m ≠ 0) : Calls Tryd.prog 11 #[v, sv] w (Imaged w false []) := by
  have Hs := Lib.hid hs
  obtain ⟨lv, iv, hve, hl2, hi2⟩ := hv.open
  have Hb0 := Lib.hid (boxed_below w m lv iv)
  have Hv0 := Lib.hid (hv.up Hb0.out)
  have Hr0 := Lib.hid (hr.up Hb0.out)
  have Hblk0 := Lib.hid (boxed_blk w m lv iv)
  have g0 := Hblk0.out.cell 0
  have g1 := Hblk0.out.cell 1
  have g2 := Hblk0.out.cell 2
  have g3 := Hblk0.out.cell 3
  have g4 := Hblk0.out.cell 4
  have g5 := Hblk0.out.cell 5
  subst hve
  unfold boxed at *
  obtain ⟨D, hD⟩ : ∃ D, chk m = D := ⟨_, rfl⟩
  have HD := Lib.hid hD
  rw [hD] at hc
  have hne : (D != 0) = true := by simpa using hc
  clear hD hc hv hs hr hsl hl2 hi2
  go_enter Tryd.func11, Tryd.ntmps11
  go_wp2_with fail
  refine (rcheck_any m _ _ Hv0.out Hs.out).mono ?_
  rintro e w1 ⟨rfl, hb1⟩
  rw [HD.out]
  have Hb1 := Lib.hid (below_next Hb0.out (Nat.le_refl _) hb1)
  have Hr1 := Lib.hid (Hr0.out.up hb1)
  have Hblk1 := Lib.hid (Hblk0.out.below hb1 Hblk0.out.lt)
  clear hb1 g0 g1 g2 g3 g4 g5
  go_wp2
  go_ret2
  exact imaged_no w _ Hb1.out

set_option maxHeartbeats 8000000 in
set_option maxRecDepth 100000 in
theorem rimage_tag (m : Mat) (v sv : Value) (s : List Int) (w : World) (hv : MatV w w.heap.size v m) (hs : Sml m) (hr : Row w w.heap.size sv s) (hsl : s.length ≤ 1048576) (hc : chk m = 0) (h5 : ¬ m.t = 5) (h6 : ¬ m.t = 6) : Calls Tryd.prog 11 #[v, sv] w (Imaged w false []) := by
  have Hs := Lib.hid hs
  obtain ⟨lv, iv, hve, hl2, hi2⟩ := hv.open
  have Hb0 := Lib.hid (boxed_below w m lv iv)
  have Hv0 := Lib.hid (hv.up Hb0.out)
  have Hr0 := Lib.hid (hr.up Hb0.out)
  have Hblk0 := Lib.hid (boxed_blk w m lv iv)
  have g0 := Hblk0.out.cell 0
  have g1 := Hblk0.out.cell 1
  have g2 := Hblk0.out.cell 2
  have g3 := Hblk0.out.cell 3
  have g4 := Hblk0.out.cell 4
  have g5 := Hblk0.out.cell 5
  subst hve
  unfold boxed at *
  have HD := Lib.hid hc
  have e5 : (m.t != 5) = true := by simpa using h5
  have e6 : (m.t != 6) = true := by simpa using h6
  clear hc hv hs hr hsl hl2 hi2 h5 h6
  go_enter Tryd.func11, Tryd.ntmps11
  go_wp2_with fail
  refine (rcheck_any m _ _ Hv0.out Hs.out).mono ?_
  rintro e w1 ⟨rfl, hb1⟩
  rw [HD.out]
  have Hb1 := Lib.hid (below_next Hb0.out (Nat.le_refl _) hb1)
  have Hr1 := Lib.hid (Hr0.out.up hb1)
  have Hblk1 := Lib.hid (Hblk0.out.below hb1 Hblk0.out.lt)
  clear hb1 g0 g1 g2 g3 g4 g5
  have d0 := Hblk1.out.cell 0
  go_wp2
  go_ret2
  exact imaged_no w _ Hb1.out

set_option maxHeartbeats 8000000 in
set_option maxRecDepth 100000 in
theorem rimage_out5 (m : Mat) (v sv : Value) (s : List Int) (w : World) (hv : MatV w w.heap.size v m) (hs : Sml m) (hr : Row w w.heap.size sv s) (hsl : s.length ≤ 1048576) (hc : chk m = 0) (ht : m.t = 5) (hok : okA m.n s = false) : Calls Tryd.prog 11 #[v, sv] w (Imaged w false []) := by
  have Hs := Lib.hid hs
  obtain ⟨lv, iv, hve, hl2, hi2⟩ := hv.open
  have Hb0 := Lib.hid (boxed_below w m lv iv)
  have Hv0 := Lib.hid (hv.up Hb0.out)
  have Hr0 := Lib.hid (hr.up Hb0.out)
  have Hblk0 := Lib.hid (boxed_blk w m lv iv)
  have g0 := Hblk0.out.cell 0
  have g1 := Hblk0.out.cell 1
  have g2 := Hblk0.out.cell 2
  have g3 := Hblk0.out.cell 3
  have g4 := Hblk0.out.cell 4
  have g5 := Hblk0.out.cell 5
  subst hve
  unfold boxed at *
  have HD := Lib.hid hc
  have Hok := Lib.hid hok
  have e5 : (m.t != 5) = false := by simpa using ht
  clear hc hv hs hsl hl2 hi2 hok ht
  go_enter Tryd.func11, Tryd.ntmps11
  go_wp2_with fail
  refine (rcheck_any m _ _ Hv0.out Hs.out).mono ?_
  rintro e w1 ⟨rfl, hb1⟩
  rw [HD.out]
  have Hb1 := Lib.hid (below_next Hb0.out (Nat.le_refl _) hb1)
  have Hr1 := Lib.hid (Hr0.out.up hb1)
  have Hblk1 := Lib.hid (Hblk0.out.below hb1 Hblk0.out.lt)
  clear hb1 g0 g1 g2 g3 g4 g5
  have d0 := Hblk1.out.cell 0
  have d1 := Hblk1.out.cell 1
  obtain ⟨As, cs, rfl, _⟩ := id hr
  go_wp2_with fail
  refine (set9_any _ s m.n _ Hr1.out).mono ?_
  rintro e w2 ⟨rfl, hb2⟩
  rw [Hok.out]
  have Hb2 := Lib.hid (below_next Hb1.out (Nat.le_refl _) hb2)
  have Hr2 := Lib.hid (Hr1.out.up hb2)
  have Hblk2 := Lib.hid (Hblk1.out.below hb2 Hblk1.out.lt)
  clear hb2 d0 d1
  clear hr
  go_wp2
  go_ret2
  exact imaged_no w _ Hb2.out

set_option maxHeartbeats 8000000 in
set_option maxRecDepth 100000 in
theorem rimage_yes5 (m : Mat) (v sv : Value) (s : List Int) (w : World) (hv : MatV w w.heap.size v m) (hs : Sml m) (hr : Row w w.heap.size sv s) (hsl : s.length ≤ 1048576) (hc : chk m = 0) (ht : m.t = 5) (hok : okA m.n s = true) : Calls Tryd.prog 11 #[v, sv] w (Imaged w true (imgM m s)) := by
  have Hs := Lib.hid hs
  obtain ⟨lv, iv, hve, hl2, hi2⟩ := hv.open
  have Hb0 := Lib.hid (boxed_below w m lv iv)
  have Hv0 := Lib.hid (hv.up Hb0.out)
  have Hr0 := Lib.hid (hr.up Hb0.out)
  have Hblk0 := Lib.hid (boxed_blk w m lv iv)
  have g0 := Hblk0.out.cell 0
  have g1 := Hblk0.out.cell 1
  have g2 := Hblk0.out.cell 2
  have g3 := Hblk0.out.cell 3
  have g4 := Hblk0.out.cell 4
  have g5 := Hblk0.out.cell 5
  subst hve
  unfold boxed at *
  have hfl := form_lists hc (by omega)
  have hstay := stay_len hc (by omega)
  have hin := img_in hc (by rw [← okA_sub (chk_n hc).1 (chk_n hc).2]; exact hok)
  have hfn := img_len m s
  have hfa := img_at m s
  obtain ⟨Al, cl, rfl, _, hlk⟩ := hl2
  obtain ⟨Ai, ci, rfl, _, hik⟩ := hi2
  obtain ⟨ad, u0, hA, hab, hc0, hr0⟩ := hlk 0 (by omega)
  subst hA
  rw [add_zero] at hc0
  have hlI : (0 : Int) < (m.l.length : Int) := by omega
  have hl0 : 0 < m.l.length := by omega
  have hsI : (s.length : Int) ≤ 1048576 := by omega
  obtain ⟨F, hF⟩ : ∃ F, F = imgM m s := ⟨_, rfl⟩
  rw [← hF] at hfn hfa
  rw [← hF]
  have hst : stayL m = m.l.getD 0 [] := by
    unfold stayL
    rw [if_neg (by omega)]
    rfl
  obtain ⟨ST, hST⟩ : ∃ ST, ST = stayL m := ⟨_, rfl⟩
  rw [← hST] at hfa hstay hst
  generalize m.l.getD 0 [] = r at *
  have Hst := Lib.hid hst
  have Hin := Lib.hid hin
  have Hfa := Lib.hid hfa
  have Hfn := Lib.hid hfn
  have Hab := Lib.hid hab
  have Hru := Lib.hid hr0
  have Hc0 := Lib.hid hc0
  have Hstl := Lib.hid hstay
  have HD := Lib.hid hc
  have Hok := Lib.hid hok
  have f6 : (m.t == 6) = false := by simp; omega
  have hstI : (ST.length : Int) ≤ 64 := by have := (chk_n hc).2; omega
  have e5 : (m.t != 5) = false := by simpa using ht
  clear hv hs hok ht hc hst hin hfa hfn hfl hab hr0 hc0 hstay hlk hik hF hST
  go_enter Tryd.func11, Tryd.ntmps11
  go_wp2_with fail
  refine (rcheck_any m _ _ Hv0.out Hs.out).mono ?_
  rintro e w1 ⟨rfl, hb1⟩
  rw [HD.out]
  have Hb1 := Lib.hid (below_next Hb0.out (Nat.le_refl _) hb1)
  have Hr1 := Lib.hid (Hr0.out.up hb1)
  have Hblk1 := Lib.hid (Hblk0.out.below hb1 Hblk0.out.lt)
  clear hb1 g0 g1 g2 g3 g4 g5
  have d0 := Hblk1.out.cell 0
  have d1 := Hblk1.out.cell 1
  obtain ⟨As, cs, rfl, _⟩ := id hr
  go_wp2_with fail
  refine (set9_any _ s m.n _ Hr1.out).mono ?_
  rintro e w2 ⟨rfl, hb2⟩
  rw [Hok.out]
  have Hb2 := Lib.hid (below_next Hb1.out (Nat.le_refl _) hb2)
  have Hr2 := Lib.hid (Hr1.out.up hb2)
  have Hblk2 := Lib.hid (Hblk1.out.below hb2 Hblk1.out.lt)
  clear hb2 d0 d1
  clear hr
  have d0 := Hblk2.out.cell 0
  have d4 := Hblk2.out.cell 4
  have d5 := Hblk2.out.cell 5
  have cr := (Hb2.out.cell (p := ad) Hab.out).trans Hc0.out
  have Hru2 := Lib.hid ((Hru.out.below Hb2.out).mono Hb2.out.size)
  have Hb4 := Hb2
  have Hr4 := Hr2
  have Hstr : Hid (Row w2 w2.heap.size u0 ST) := Lib.hid (by rw [Hst.out]; exact Hru2.out)
  obtain ⟨As4, cs4, hse, _, hsk⟩ := id Hr4.out
  injection hse with he1 he2 he3
  subst he1 he3
  obtain ⟨Ast, cst, rfl, _, hstk⟩ := id Hstr.out
  have Hstk := Lib.hid hstk
  have Hsk := Lib.hid hsk
  have hown0 : (w2.alloc (.cells #[] 3)).ownsRow w2.heap.size 3 1 (.slice (some ⟨w2.heap.size, 0, none⟩) 0 0) 0 [] :=
    World.ownsRow_made w2 #[] 0 (Nat.le_refl _) (by unfold maxLen; omega) rfl
  have hB0 : Below w2.heap.size w2 (w2.alloc (.cells #[] 3)) := (Below.refl _ w2).alloc (Nat.le_refl _) _
  clear hstk hsk he2
  go_wp2
  clear d0 d4 d5 cr
  go_loopw [7, 8] (fun vl vk wr => ∃ k : Nat, vk = .int .i64 k ∧ k ≤ s.length ∧ wr.ownsRow w2.heap.size 3 1 vl (F.take k).length (ints (F.take k)) ∧ Below w2.heap.size w2 wr) (fun _ vk _ => s.length - (intOf vk).toNat)
  case atStart => exact ⟨0, rfl, Nat.zero_le _, hown0, hB0⟩
  case round =>
    obtain ⟨k, rfl, hk, hown, hbr⟩ := hrel
    clear hown0 hB0
    by_cases hlt : k < s.length
    · have hltI : (k : Int) < (s.length : Int) := by omega
      have hx0 := (Hin.out k hlt).1
      have hx1 := (Hin.out k hlt).2
      have hfa := Hfa.out k hlt
      obtain ⟨X, hX⟩ : ∃ X : Nat, s.getD k 0 = (X : Int) := ⟨(s.getD k 0).toNat, by omega⟩
      rw [hX] at hx0 hx1 hfa
      have hXl : X < ST.length := by have := Hstl.out; omega
      have hXI : (X : Int) < (ST.length : Int) := by omega
      rw [show ((X : Int)).toNat = X from rfl] at hfa
      obtain ⟨as_, hA, hasb, hcs⟩ := Hsk.out k hlt
      subst hA
      obtain ⟨at_, hA, hatb, hct⟩ := Hstk.out X hXl
      subst hA
      rw [hX] at hcs
      have gs := (hbr.cell (p := as_.add k) (by rw [add_block]; exact hasb)).trans hcs
      have gt := (hbr.cell (p := at_.add X) (by rw [add_block]; exact hatb)).trans hct
      have hFl := Hfn.out
      have Htk : Hid (F.take (k + 1) = F.take k ++ [ST.getD X 0]) := Lib.hid (by rw [List.take_succ_eq_append_getElem (by omega), ← hfa]; simp [List.getD, show k < F.length by omega])
      have hFk : (F.take k).length = k := by rw [List.length_take]; omega
      generalize ST.getD X 0 = y at *
      have Hlen : Hid ((F.take k ++ [y]).length = k + 1) := Lib.hid (by rw [List.length_append, hFk]; rfl)
      clear hcs hct hX hx0 hx1 hfa
      go_wp2_with (at_builtin; refine wpList_append_row rfl _ _ rfl w2.heap.size _ _ _ (F.take k) [y] rfl rfl (hown.alloc _) (Row.lit1 _ y) (by omega) (by simp) (by have := hbr.size; simp; omega) ?_)
      intro v' w6 hown' hgrow
      have hb6 : Below w2.heap.size wr w6 := ((Below.refl _ wr).alloc hbr.size _).grown hgrow (by have := hbr.size; simp; omega) (fun i hi => (hown.lt i hi).1)
      go_wp2
      go_roundw
      case rel => exact ⟨k + 1, by go_num, by omega, by rw [Htk.out, Hlen.out]; exact hown', hbr.trans hb6⟩
      case measure => simp [intOf]; omega
    · have hke : k = s.length := by omega
      subst hke
      have Hff : Hid (F.take s.length = F) := Lib.hid (List.take_of_length_le (by have := Hfn.out; omega))
      rw [Hff.out] at hown
      go_wp2
      go_ret2
      exact ⟨_, rfl, Row.of_own hown rfl, below_next Hb4.out (Nat.le_refl _) hbr, own_block hown Hb4.out.size⟩

set_option maxHeartbeats 8000000 in
set_option maxRecDepth 100000 in
theorem rimage_out6 (m : Mat) (v sv : Value) (s : List Int) (w : World) (hv : MatV w w.heap.size v m) (hs : Sml m) (hr : Row w w.heap.size sv s) (hsl : s.length ≤ 1048576) (hc : chk m = 0) (ht : m.t = 6) (hok : okA m.n s = false) : Calls Tryd.prog 11 #[v, sv] w (Imaged w false []) := by
  have Hs := Lib.hid hs
  obtain ⟨lv, iv, hve, hl2, hi2⟩ := hv.open
  have Hb0 := Lib.hid (boxed_below w m lv iv)
  have Hv0 := Lib.hid (hv.up Hb0.out)
  have Hr0 := Lib.hid (hr.up Hb0.out)
  have Hblk0 := Lib.hid (boxed_blk w m lv iv)
  have g0 := Hblk0.out.cell 0
  have g1 := Hblk0.out.cell 1
  have g2 := Hblk0.out.cell 2
  have g3 := Hblk0.out.cell 3
  have g4 := Hblk0.out.cell 4
  have g5 := Hblk0.out.cell 5
  subst hve
  unfold boxed at *
  have HD := Lib.hid hc
  have Hok := Lib.hid hok
  have e5 : (m.t != 5) = true := by simp; omega
  have e6 : (m.t != 6) = false := by simpa using ht
  clear hc hv hs hsl hl2 hi2 hok ht
  go_enter Tryd.func11, Tryd.ntmps11
  go_wp2_with fail
  refine (rcheck_any m _ _ Hv0.out Hs.out).mono ?_
  rintro e w1 ⟨rfl, hb1⟩
  rw [HD.out]
  have Hb1 := Lib.hid (below_next Hb0.out (Nat.le_refl _) hb1)
  have Hr1 := Lib.hid (Hr0.out.up hb1)
  have Hblk1 := Lib.hid (Hblk0.out.below hb1 Hblk0.out.lt)
  clear hb1 g0 g1 g2 g3 g4 g5
  have d0 := Hblk1.out.cell 0
  have d1 := Hblk1.out.cell 1
  obtain ⟨As, cs, rfl, _⟩ := id hr
  go_wp2_with fail
  refine (set9_any _ s m.n _ Hr1.out).mono ?_
  rintro e w2 ⟨rfl, hb2⟩
  rw [Hok.out]
  have Hb2 := Lib.hid (below_next Hb1.out (Nat.le_refl _) hb2)
  have Hr2 := Lib.hid (Hr1.out.up hb2)
  have Hblk2 := Lib.hid (Hblk1.out.below hb2 Hblk1.out.lt)
  clear hb2 d0 d1
  clear hr
  go_wp2
  go_ret2
  exact imaged_no w _ Hb2.out

set_option maxHeartbeats 8000000 in
set_option maxRecDepth 100000 in
theorem rimage_yes6 (m : Mat) (v sv : Value) (s : List Int) (w : World) (hv : MatV w w.heap.size v m) (hs : Sml m) (hr : Row w w.heap.size sv s) (hsl : s.length ≤ 1048576) (hc : chk m = 0) (ht : m.t = 6) (hok : okA m.n s = true) : Calls Tryd.prog 11 #[v, sv] w (Imaged w true (imgM m s)) := by
  have Hs := Lib.hid hs
  obtain ⟨lv, iv, hve, hl2, hi2⟩ := hv.open
  have Hb0 := Lib.hid (boxed_below w m lv iv)
  have Hv0 := Lib.hid (hv.up Hb0.out)
  have Hr0 := Lib.hid (hr.up Hb0.out)
  have Hblk0 := Lib.hid (boxed_blk w m lv iv)
  have g0 := Hblk0.out.cell 0
  have g1 := Hblk0.out.cell 1
  have g2 := Hblk0.out.cell 2
  have g3 := Hblk0.out.cell 3
  have g4 := Hblk0.out.cell 4
  have g5 := Hblk0.out.cell 5
  subst hve
  unfold boxed at *
  have hfl := form_lists hc (by omega)
  have hstay := stay_len hc (by omega)
  have hin := img_in hc (by rw [← okA_sub (chk_n hc).1 (chk_n hc).2]; exact hok)
  have hfn := img_len m s
  have hfa := img_at m s
  obtain ⟨Al, cl, rfl, _, hlk⟩ := hl2
  obtain ⟨Ai, ci, rfl, _, hik⟩ := hi2
  obtain ⟨ad, u0, hA, hab, hc0, hr0⟩ := hlk 0 (by omega)
  subst hA
  rw [add_zero] at hc0
  have hlI : (0 : Int) < (m.l.length : Int) := by omega
  have hl0 : 0 < m.l.length := by omega
  have hsI : (s.length : Int) ≤ 1048576 := by omega
  obtain ⟨F, hF⟩ : ∃ F, F = imgM m s := ⟨_, rfl⟩
  rw [← hF] at hfn hfa
  rw [← hF]
  have hst : stayL m = minusL (allL (m.i.getD 0 default).n) (m.l.getD 0 []) := by
    unfold stayL
    rw [if_pos ht]
    rfl
  obtain ⟨ai, ui, hA, hab2, hsix, hmv⟩ := hik 0 (by omega)
  subst hA
  rw [show (0 : Nat) * 6 = 0 from rfl, add_zero] at hsix
  obtain ⟨lv2, iv2, hui, _, _⟩ := hmv.open
  obtain ⟨x0, x1, x2, x3, x4, x5, hui2, s0, s1, _⟩ := hsix
  rw [hui] at hui2
  injection hui2 with hui2
  injection hui2 with hui2
  injection hui2 with _ hui2
  injection hui2 with hx1 _
  subst hx1
  have hiI : (0 : Int) < (m.i.length : Int) := by omega
  have hi0 : 0 < m.i.length := by omega
  have hal := all_len (m.i.getD 0 default).n
  have hrow := sml_r Hs.out (getD_mem m.l 0 [] (by omega))
  generalize m.i.getD 0 default = x at *
  have Hs1 := Lib.hid s1
  have Hab2 := Lib.hid hab2
  obtain ⟨ST, hST⟩ : ∃ ST, ST = stayL m := ⟨_, rfl⟩
  rw [← hST] at hfa hstay hst
  generalize m.l.getD 0 [] = r at *
  have Hst := Lib.hid hst
  have Hin := Lib.hid hin
  have Hfa := Lib.hid hfa
  have Hfn := Lib.hid hfn
  have Hab := Lib.hid hab
  have Hru := Lib.hid hr0
  have Hc0 := Lib.hid hc0
  have Hstl := Lib.hid hstay
  have HD := Lib.hid hc
  have Hok := Lib.hid hok
  have f6 : (m.t == 6) = true := by simp; omega
  have hstI : (ST.length : Int) ≤ 64 := by have := (chk_n hc).2; omega
  have e5 : (m.t != 5) = true := by simp; omega
  have e6 : (m.t != 6) = false := by simpa using ht
  clear hv hs hok ht hc hst hin hfa hfn hfl hab hr0 hc0 hstay hlk hik hF hST s0 s1 hmv hui hab2
  go_enter Tryd.func11, Tryd.ntmps11
  go_wp2_with fail
  refine (rcheck_any m _ _ Hv0.out Hs.out).mono ?_
  rintro e w1 ⟨rfl, hb1⟩
  rw [HD.out]
  have Hb1 := Lib.hid (below_next Hb0.out (Nat.le_refl _) hb1)
  have Hr1 := Lib.hid (Hr0.out.up hb1)
  have Hblk1 := Lib.hid (Hblk0.out.below hb1 Hblk0.out.lt)
  clear hb1 g0 g1 g2 g3 g4 g5
  have d0 := Hblk1.out.cell 0
  have d1 := Hblk1.out.cell 1
  obtain ⟨As, cs, rfl, _⟩ := id hr
  go_wp2_with fail
  refine (set9_any _ s m.n _ Hr1.out).mono ?_
  rintro e w2 ⟨rfl, hb2⟩
  rw [Hok.out]
  have Hb2 := Lib.hid (below_next Hb1.out (Nat.le_refl _) hb2)
  have Hr2 := Lib.hid (Hr1.out.up hb2)
  have Hblk2 := Lib.hid (Hblk1.out.below hb2 Hblk1.out.lt)
  clear hb2 d0 d1
  clear hr
  have d0 := Hblk2.out.cell 0
  have d4 := Hblk2.out.cell 4
  have d5 := Hblk2.out.cell 5
  have cr := (Hb2.out.cell (p := ad) Hab.out).trans Hc0.out
  have Hru2 := Lib.hid ((Hru.out.below Hb2.out).mono Hb2.out.size)
  have cn := (Hb2.out.cell (p := ⟨ai.block, ai.off + 1, none⟩) Hab2.out).trans Hs1.out
  go_wp2_with fail
  refine (refall_any x.n _).mono ?_
  rintro e w3 ⟨va, rfl, hra, hb3⟩
  have Hb3 := Lib.hid (below_next Hb2.out (Nat.le_refl _) hb3)
  have Hr3 := Lib.hid (Hr2.out.up hb3)
  have Hru3 := Lib.hid (Hru2.out.up hb3)
  have Hra := Lib.hid hra
  clear hb3 hra d0 d4 d5 cr cn
  go_wp2_with fail
  refine (refminus_any _ _ (allL x.n) r _ Hra.out Hru3.out hal (by omega)).mono ?_
  rintro e w4 ⟨vl, rfl, hrl, hb4⟩
  have Hb4 := Lib.hid (below_next Hb3.out (Nat.le_refl _) hb4)
  have Hr4 := Lib.hid (Hr3.out.up hb4)
  have Hstr : Hid (Row w4 w4.heap.size vl ST) := Lib.hid (by rw [Hst.out]; exact hrl)
  clear hb4 hrl
  obtain ⟨As4, cs4, hse, _, hsk⟩ := id Hr4.out
  injection hse with he1 he2 he3
  subst he1 he3
  obtain ⟨Ast, cst, rfl, _, hstk⟩ := id Hstr.out
  have Hstk := Lib.hid hstk
  have Hsk := Lib.hid hsk
  have hown0 : (w4.alloc (.cells #[] 3)).ownsRow w4.heap.size 3 1 (.slice (some ⟨w4.heap.size, 0, none⟩) 0 0) 0 [] :=
    World.ownsRow_made w4 #[] 0 (Nat.le_refl _) (by unfold maxLen; omega) rfl
  have hB0 : Below w4.heap.size w4 (w4.alloc (.cells #[] 3)) := (Below.refl _ w4).alloc (Nat.le_refl _) _
  clear hstk hsk he2
  go_wp2
  
  go_loopw [7, 8] (fun vl vk wr => ∃ k : Nat, vk = .int .i64 k ∧ k ≤ s.length ∧ wr.ownsRow w4.heap.size 3 1 vl (F.take k).length (ints (F.take k)) ∧ Below w4.heap.size w4 wr) (fun _ vk _ => s.length - (intOf vk).toNat)
  case atStart => exact ⟨0, rfl, Nat.zero_le _, hown0, hB0⟩
  case round =>
    obtain ⟨k, rfl, hk, hown, hbr⟩ := hrel
    clear hown0 hB0
    by_cases hlt : k < s.length
    · have hltI : (k : Int) < (s.length : Int) := by omega
      have hx0 := (Hin.out k hlt).1
      have hx1 := (Hin.out k hlt).2
      have hfa := Hfa.out k hlt
      obtain ⟨X, hX⟩ : ∃ X : Nat, s.getD k 0 = (X : Int) := ⟨(s.getD k 0).toNat, by omega⟩
      rw [hX] at hx0 hx1 hfa
      have hXl : X < ST.length := by have := Hstl.out; omega
      have hXI : (X : Int) < (ST.length : Int) := by omega
      rw [show ((X : Int)).toNat = X from rfl] at hfa
      obtain ⟨as_, hA, hasb, hcs⟩ := Hsk.out k hlt
      subst hA
      obtain ⟨at_, hA, hatb, hct⟩ := Hstk.out X hXl
      subst hA
      rw [hX] at hcs
      have gs := (hbr.cell (p := as_.add k) (by rw [add_block]; exact hasb)).trans hcs
      have gt := (hbr.cell (p := at_.add X) (by rw [add_block]; exact hatb)).trans hct
      have hFl := Hfn.out
      have Htk : Hid (F.take (k + 1) = F.take k ++ [ST.getD X 0]) := Lib.hid (by rw [List.take_succ_eq_append_getElem (by omega), ← hfa]; simp [List.getD, show k < F.length by omega])
      have hFk : (F.take k).length = k := by rw [List.length_take]; omega
      generalize ST.getD X 0 = y at *
      have Hlen : Hid ((F.take k ++ [y]).length = k + 1) := Lib.hid (by rw [List.length_append, hFk]; rfl)
      clear hcs hct hX hx0 hx1 hfa
      go_wp2_with (at_builtin; refine wpList_append_row rfl _ _ rfl w4.heap.size _ _ _ (F.take k) [y] rfl rfl (hown.alloc _) (Row.lit1 _ y) (by omega) (by simp) (by have := hbr.size; simp; omega) ?_)
      intro v' w6 hown' hgrow
      have hb6 : Below w4.heap.size wr w6 := ((Below.refl _ wr).alloc hbr.size _).grown hgrow (by have := hbr.size; simp; omega) (fun i hi => (hown.lt i hi).1)
      go_wp2
      go_roundw
      case rel => exact ⟨k + 1, by go_num, by omega, by rw [Htk.out, Hlen.out]; exact hown', hbr.trans hb6⟩
      case measure => simp [intOf]; omega
    · have hke : k = s.length := by omega
      subst hke
      have Hff : Hid (F.take s.length = F) := Lib.hid (List.take_of_length_le (by have := Hfn.out; omega))
      rw [Hff.out] at hown
      go_wp2
      go_ret2
      exact ⟨_, rfl, Row.of_own hown rfl, below_next Hb4.out (Nat.le_refl _) hbr, own_block hown Hb4.out.size⟩

theorem rimage_any (m : Mat) (v sv : Value) (s : List Int) (w : World) (hv : MatV w w.heap.size v m) (hs : Sml m) (hr : Row w w.heap.size sv s) (hsl : s.length ≤ 1048576) : Calls Tryd.prog 11 #[v, sv] w (Imaged w (imgB m s) (imgL m s)) := by
  unfold imgL
  by_cases hc : chk m = 0
  · by_cases ht : m.t = 5 ∨ m.t = 6
    · rcases hok : okA m.n s with _ | _
      · have hsub : subB s (allL m.n) = false := by rw [← okA_sub (chk_n hc).1 (chk_n hc).2]; exact hok
        rw [show imgB m s = false by unfold imgB; rw [hsub]; simp, if_neg (by decide)]
        rcases ht with ht | ht
        · exact rimage_out5 m v sv s w hv hs hr hsl hc ht hok
        · exact rimage_out6 m v sv s w hv hs hr hsl hc ht hok
      · have hsub : subB s (allL m.n) = true := by rw [← okA_sub (chk_n hc).1 (chk_n hc).2]; exact hok
        rw [show imgB m s = true by unfold imgB; rw [hsub, decide_eq_true ht, decide_eq_true hc]; rfl, if_pos rfl]
        rcases ht with ht | ht
        · exact rimage_yes5 m v sv s w hv hs hr hsl hc ht hok
        · exact rimage_yes6 m v sv s w hv hs hr hsl hc ht hok
    · rw [show imgB m s = false by unfold imgB; rw [decide_eq_false ht]; simp, if_neg (by decide)]
      exact rimage_tag m v sv s w hv hs hr hsl hc (fun e => ht (.inl e)) (fun e => ht (.inr e))
  · rw [show imgB m s = false by unfold imgB; rw [decide_eq_false hc]; simp, if_neg (by decide)]
    exact rimage_bad m v sv s w hv hs hr hsl hc

end Wp
end Go.Proofs.YtimmmfppehmfcaaDoor

