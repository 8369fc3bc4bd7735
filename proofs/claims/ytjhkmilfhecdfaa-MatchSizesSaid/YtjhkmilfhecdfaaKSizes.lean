/- The law that sizes are as the document tells them, walked: it answers true. -/
import Derived.Test.YtjhkmilfhecdfaaKFixed
import Derived.Test.YtjhkmilfhecdfaaKSz
namespace Go.Proofs.Ytjhkmilfhecdfaa
open Go.RowKit
namespace Wp

theorem sizes_is (right : Int) (v : Value) (adj : List (List Int)) (n : Nat) (hmay : mayM right adj = true) (hb : Big right.toNat adj n) (hn : adj.length ≤ 10) (w : World) (hr : Rows2 w w.heap.size v adj) :
    Calls Try.prog 18 #[.int .i64 right, v] w fun e w' => e = .returned (.int .i64 n) ∧ Below w.heap.size w w' := by
  have h := size_any right v adj hmay hn w hr
  rwa [best_all hmay hb] at h

set_option maxHeartbeats 8000000 in
set_option maxRecDepth 100000 in
theorem sizes_long (v : Value) (right : Int) (adj : List (List Int)) (w : World) (hr : Rows2 w w.heap.size v adj) (b1 : 100 < (adj.length : Int)) : Calls Try.prog 3 #[.int .i64 right, v] w (Truly w) := by
  have HB0 := Lib.hid (Below.refl w.heap.size w)
  have HR0 := Lib.hid hr
  obtain ⟨A, c, rfl, hcap, hcell⟩ := hr
  have Hcell := Lib.hid hcell
  clear hcell
  go_enter Try.func3, Try.ntmps3
  clear HR0
  go_wp2_with fail
  refine (kfixed_any _).mono ?_
  rintro e w1 ⟨rfl, hb2⟩
  have HB3 := Lib.hid (below_next HB0.out (Nat.le_refl _) hb2)
  clear hb2 HB0
  go_wp2
  go_ret
  exact ⟨rfl, HB3.out⟩

set_option maxHeartbeats 8000000 in
set_option maxRecDepth 100000 in
theorem sizes_many (v : Value) (right : Int) (adj : List (List Int)) (w : World) (hr : Rows2 w w.heap.size v adj) (b1 : ¬ 100 < (adj.length : Int)) (b2 : 10 < (adj.length : Int)) (hmay : mayM right adj = true) : Calls Try.prog 3 #[.int .i64 right, v] w (Truly w) := by
  have HB0 := Lib.hid (Below.refl w.heap.size w)
  have HR0 := Lib.hid hr
  obtain ⟨A, c, rfl, hcap, hcell⟩ := hr
  have Hcell := Lib.hid hcell
  clear hcell
  have Hmay := Lib.hid hmay
  clear hmay
  go_enter Try.func3, Try.ntmps3
  go_wp2_with fail
  refine (k6may_is _ _ adj true Hmay.out _ HR0.out).mono ?_
  rintro e w1 ⟨rfl, hb2⟩
  have adj_3 := Lib.hid (HR0.out.up hb2)
  clear HR0
  have HB4 := Lib.hid (below_next HB0.out (Nat.le_refl _) hb2)
  clear hb2 HB0
  clear adj_3
  go_wp2_with fail
  refine (kfixed_any _).mono ?_
  rintro e w5 ⟨rfl, hb6⟩
  have HB7 := Lib.hid (below_next HB4.out (Nat.le_refl _) hb6)
  clear hb6 HB4
  go_wp2
  go_ret
  exact ⟨rfl, HB7.out⟩

set_option maxHeartbeats 8000000 in
set_option maxRecDepth 100000 in
theorem sizes_none1 (v : Value) (right : Int) (adj : List (List Int)) (w : World) (hr : Rows2 w w.heap.size v adj) (b1 : ¬ 100 < (adj.length : Int)) (b2 : 10 < (adj.length : Int)) (hmay : mayM right adj = false) : Calls Try.prog 3 #[.int .i64 right, v] w (Truly w) := by
  have HB0 := Lib.hid (Below.refl w.heap.size w)
  have HR0 := Lib.hid hr
  obtain ⟨A, c, rfl, hcap, hcell⟩ := hr
  have Hcell := Lib.hid hcell
  clear hcell
  have Hmay := Lib.hid hmay
  clear hmay
  go_enter Try.func3, Try.ntmps3
  go_wp2_with fail
  refine (k6may_is _ _ adj false Hmay.out _ HR0.out).mono ?_
  rintro e w1 ⟨rfl, hb2⟩
  have adj_3 := Lib.hid (HR0.out.up hb2)
  clear HR0
  have HB4 := Lib.hid (below_next HB0.out (Nat.le_refl _) hb2)
  clear hb2 HB0
  go_wp2
  go_loopw [5] (fun vi wr => ∃ i : Nat, vi = .int .i64 i ∧ i ≤ adj.length ∧ wr = w1) (fun vi _ => adj.length - (intOf vi).toNat)
  case atStart => exact ⟨0, rfl, Nat.zero_le _, rfl⟩
  case round =>
    obtain ⟨i, rfl, hi, rfl⟩ := hrel
    by_cases hlt : i < adj.length
    · have hiI : (i : Int) < (adj.length : Int) := by omega
      obtain ⟨ad, u, hA, hab, hcu, hru⟩ := Hcell.out i hlt
      subst hA
      obtain ⟨Au, cu, rfl, hul, -⟩ := hru
      have g1 := (HB4.out.cell (p := ad.add i) (by rw [add_block]; exact hab)).trans hcu
      have hLm : ((adj.getD i []).length : Int) ≤ 9223372036854775807 := by
        have h1 := hul.1
        have h2 := hul.2.1
        unfold maxLen at h2
        omega
      clear hcu hul
      generalize (adj.getD i []).length = L at *
      by_cases hlong : 100 < (L : Int)
      · go_wp2_with fail
        refine (kfixed_any _).mono ?_
        rintro e w9 ⟨rfl, hb9⟩
        have HB9 := Lib.hid (below_next HB4.out (Nat.le_refl _) hb9)
        clear hb9
        go_wp2
        go_ret
        exact ⟨rfl, HB9.out⟩
      · go_wp2
        go_roundw
        case rel => exact ⟨i + 1, by go_num, by omega, trivial⟩
        case measure => simp [intOf]; omega
    · have hie : i = adj.length := by omega
      subst hie
      clear hlt hi
      go_wp2_with fail
      refine (max_no right _ adj Hmay.out _ adj_3.out).mono ?_
      rintro e w301 ⟨um, rfl, rm, hb302⟩
      have adj_303 := Lib.hid (adj_3.out.up hb302)
      clear adj_3
      have HB304 := Lib.hid (below_next HB4.out (Nat.le_refl _) hb302)
      clear hb302 HB4
      have m_305 := Lib.hid (rm)
      obtain ⟨A_m, c_m, rfl, -⟩ := rm
      clear m_305
      go_wp2_with fail
      refine (cover_no right _ adj Hmay.out _ adj_303.out).mono ?_
      rintro e w306 ⟨ua, ub, rfl, ra, rb, hb307⟩
      have adj_308 := Lib.hid (adj_303.out.up hb307)
      clear adj_303
      have HB309 := Lib.hid (below_next HB304.out (Nat.le_refl _) hb307)
      clear hb307 HB304
      have a_310 := Lib.hid (ra)
      obtain ⟨A_a, c_a, rfl, -⟩ := ra
      obtain ⟨A_b, c_b, rfl, -⟩ := rb
      clear a_310
      go_wp2_with fail
      refine (kmay_is right _ adj false Hmay.out _ adj_308.out).mono ?_
      rintro e w311 ⟨rfl, hb312⟩
      have adj_313 := Lib.hid (adj_308.out.up hb312)
      clear adj_308
      have HB314 := Lib.hid (below_next HB309.out (Nat.le_refl _) hb312)
      clear hb312 HB309
      go_wp2_with fail
      refine (k6may_is right _ adj false Hmay.out _ adj_313.out).mono ?_
      rintro e w315 ⟨rfl, hb316⟩
      have adj_317 := Lib.hid (adj_313.out.up hb316)
      clear adj_313
      have HB318 := Lib.hid (below_next HB314.out (Nat.le_refl _) hb316)
      clear hb316 HB314
      go_wp2_with fail
      refine (k6may_is right _ adj false Hmay.out _ adj_317.out).mono ?_
      rintro e w319 ⟨rfl, hb320⟩
      have adj_321 := Lib.hid (adj_317.out.up hb320)
      clear adj_317
      have HB322 := Lib.hid (below_next HB318.out (Nat.le_refl _) hb320)
      clear hb320 HB318
      clear adj_321
      go_wp2_with fail
      refine (kfixed_any _).mono ?_
      rintro e w323 ⟨rfl, hb324⟩
      have HB325 := Lib.hid (below_next HB322.out (Nat.le_refl _) hb324)
      clear hb324 HB322
      go_wp2
      go_ret
      exact ⟨rfl, HB325.out⟩

set_option maxHeartbeats 8000000 in
set_option maxRecDepth 100000 in
theorem sizes_none2 (v : Value) (right : Int) (adj : List (List Int)) (w : World) (hr : Rows2 w w.heap.size v adj) (b1 : ¬ 100 < (adj.length : Int)) (b2 : ¬ 10 < (adj.length : Int)) (hmay : mayM right adj = false) : Calls Try.prog 3 #[.int .i64 right, v] w (Truly w) := by
  have HB0 := Lib.hid (Below.refl w.heap.size w)
  have HR0 := Lib.hid hr
  obtain ⟨A, c, rfl, hcap, hcell⟩ := hr
  have Hcell := Lib.hid hcell
  clear hcell
  have Hmay := Lib.hid hmay
  clear hmay
  go_enter Try.func3, Try.ntmps3
  go_wp2
  go_loopw [5] (fun vi wr => ∃ i : Nat, vi = .int .i64 i ∧ i ≤ adj.length ∧ wr = w) (fun vi _ => adj.length - (intOf vi).toNat)
  case atStart => exact ⟨0, rfl, Nat.zero_le _, rfl⟩
  case round =>
    obtain ⟨i, rfl, hi, rfl⟩ := hrel
    by_cases hlt : i < adj.length
    · have hiI : (i : Int) < (adj.length : Int) := by omega
      obtain ⟨ad, u, hA, hab, hcu, hru⟩ := Hcell.out i hlt
      subst hA
      obtain ⟨Au, cu, rfl, hul, -⟩ := hru
      have g1 := (HB0.out.cell (p := ad.add i) (by rw [add_block]; exact hab)).trans hcu
      have hLm : ((adj.getD i []).length : Int) ≤ 9223372036854775807 := by
        have h1 := hul.1
        have h2 := hul.2.1
        unfold maxLen at h2
        omega
      clear hcu hul
      generalize (adj.getD i []).length = L at *
      by_cases hlong : 100 < (L : Int)
      · go_wp2_with fail
        refine (kfixed_any _).mono ?_
        rintro e w9 ⟨rfl, hb9⟩
        have HB9 := Lib.hid (below_next HB0.out (Nat.le_refl _) hb9)
        clear hb9
        go_wp2
        go_ret
        exact ⟨rfl, HB9.out⟩
      · go_wp2
        go_roundw
        case rel => exact ⟨i + 1, by go_num, by omega, trivial⟩
        case measure => simp [intOf]; omega
    · have hie : i = adj.length := by omega
      subst hie
      clear hlt hi
      go_wp2_with fail
      refine (max_no right _ adj Hmay.out _ HR0.out).mono ?_
      rintro e w301 ⟨um, rfl, rm, hb302⟩
      have adj_303 := Lib.hid (HR0.out.up hb302)
      clear HR0
      have HB304 := Lib.hid (below_next HB0.out (Nat.le_refl _) hb302)
      clear hb302 HB0
      have m_305 := Lib.hid (rm)
      obtain ⟨A_m, c_m, rfl, -⟩ := rm
      clear m_305
      go_wp2_with fail
      refine (cover_no right _ adj Hmay.out _ adj_303.out).mono ?_
      rintro e w306 ⟨ua, ub, rfl, ra, rb, hb307⟩
      have adj_308 := Lib.hid (adj_303.out.up hb307)
      clear adj_303
      have HB309 := Lib.hid (below_next HB304.out (Nat.le_refl _) hb307)
      clear hb307 HB304
      have a_310 := Lib.hid (ra)
      obtain ⟨A_a, c_a, rfl, -⟩ := ra
      obtain ⟨A_b, c_b, rfl, -⟩ := rb
      clear a_310
      go_wp2_with fail
      refine (kmay_is right _ adj false Hmay.out _ adj_308.out).mono ?_
      rintro e w311 ⟨rfl, hb312⟩
      have adj_313 := Lib.hid (adj_308.out.up hb312)
      clear adj_308
      have HB314 := Lib.hid (below_next HB309.out (Nat.le_refl _) hb312)
      clear hb312 HB309
      go_wp2_with fail
      refine (k6may_is right _ adj false Hmay.out _ adj_313.out).mono ?_
      rintro e w315 ⟨rfl, hb316⟩
      have adj_317 := Lib.hid (adj_313.out.up hb316)
      clear adj_313
      have HB318 := Lib.hid (below_next HB314.out (Nat.le_refl _) hb316)
      clear hb316 HB314
      go_wp2_with fail
      refine (k6may_is right _ adj false Hmay.out _ adj_317.out).mono ?_
      rintro e w319 ⟨rfl, hb320⟩
      have adj_321 := Lib.hid (adj_317.out.up hb320)
      clear adj_317
      have HB322 := Lib.hid (below_next HB318.out (Nat.le_refl _) hb320)
      clear hb320 HB318
      clear adj_321
      go_wp2_with fail
      refine (kfixed_any _).mono ?_
      rintro e w323 ⟨rfl, hb324⟩
      have HB325 := Lib.hid (below_next HB322.out (Nat.le_refl _) hb324)
      clear hb324 HB322
      go_wp2
      go_ret
      exact ⟨rfl, HB325.out⟩

set_option maxHeartbeats 8000000 in
set_option maxRecDepth 100000 in
theorem sizes_yes (v : Value) (right : Int) (adj : List (List Int)) (w : World) (hr : Rows2 w w.heap.size v adj) (b1 : ¬ 100 < (adj.length : Int)) (b2 : ¬ 10 < (adj.length : Int)) (hmay : mayM right adj = true) : Calls Try.prog 3 #[.int .i64 right, v] w (Truly w) := by
  have HB0 := Lib.hid (Below.refl w.heap.size w)
  have HR0 := Lib.hid hr
  obtain ⟨A, c, rfl, hcap, hcell⟩ := hr
  have Hcell := Lib.hid hcell
  clear hcell
  have Hmay := Lib.hid hmay
  obtain ⟨hr0, hr64, hn64⟩ := may_bounds hmay
  clear hmay
  obtain ⟨R, rfl⟩ : ∃ R : Nat, right = (R : Int) := ⟨right.toNat, by omega⟩
  have hn10 : adj.length ≤ 10 := by omega
  go_enter Try.func3, Try.ntmps3
  go_wp2
  go_loopw [5] (fun vi wr => ∃ i : Nat, vi = .int .i64 i ∧ i ≤ adj.length ∧ wr = w) (fun vi _ => adj.length - (intOf vi).toNat)
  case atStart => exact ⟨0, rfl, Nat.zero_le _, rfl⟩
  case round =>
    obtain ⟨i, rfl, hi, rfl⟩ := hrel
    by_cases hlt : i < adj.length
    · have hiI : (i : Int) < (adj.length : Int) := by omega
      obtain ⟨ad, u, hA, hab, hcu, hru⟩ := Hcell.out i hlt
      subst hA
      obtain ⟨Au, cu, rfl, hul, -⟩ := hru
      have g1 := (HB0.out.cell (p := ad.add i) (by rw [add_block]; exact hab)).trans hcu
      have hLm : ((adj.getD i []).length : Int) ≤ 9223372036854775807 := by
        have h1 := hul.1
        have h2 := hul.2.1
        unfold maxLen at h2
        omega
      clear hcu hul
      generalize (adj.getD i []).length = L at *
      by_cases hlong : 100 < (L : Int)
      · go_wp2_with fail
        refine (kfixed_any _).mono ?_
        rintro e w9 ⟨rfl, hb9⟩
        have HB9 := Lib.hid (below_next HB0.out (Nat.le_refl _) hb9)
        clear hb9
        go_wp2
        go_ret
        exact ⟨rfl, HB9.out⟩
      · go_wp2
        go_roundw
        case rel => exact ⟨i + 1, by go_num, by omega, trivial⟩
        case measure => simp [intOf]; omega
    · have hie : i = adj.length := by omega
      subst hie
      clear hlt hi
      go_wp2_with fail
      refine (max_yes R _ adj Hmay.out _ HR0.out).mono ?_
      rintro e w302 ⟨um, hsm, nm, rfl, r301, hb303, hmm, hnm, hbm⟩
      have adj_304 := Lib.hid (HR0.out.up hb303)
      clear HR0
      have HB305 := Lib.hid (below_next HB0.out (Nat.le_refl _) hb303)
      clear hb303 HB0
      have m_306 := Lib.hid (r301)
      clear r301
      have Hmm := Lib.hid hmm
      have Hnm := Lib.hid hnm
      have Hbm := Lib.hid hbm
      clear hmm hnm hbm
      clear m_306
      go_wp2_with fail
      refine (cover_yes R _ adj Hmay.out _ adj_304.out).mono ?_
      rintro e w309 ⟨ua, ub, la, lb, rfl, r307, q308, hb310, hca⟩
      have adj_311 := Lib.hid (adj_304.out.up hb310)
      clear adj_304
      have HB312 := Lib.hid (below_next HB305.out (Nat.le_refl _) hb310)
      clear hb310 HB305
      have a_313 := Lib.hid (r307)
      have b_314 := Lib.hid (q308)
      obtain ⟨A_a, c_a, rfl, -⟩ := r307
      obtain ⟨A_b, c_b, rfl, -⟩ := q308
      have Hca := Lib.hid hca
      clear hca
      clear a_313
      clear b_314
      have hab : la.length + lb.length = nm := by
        obtain ⟨n, hn, e⟩ := Hca.out.size
        rw [e]
        exact hn.eq Hbm.out
      have hn64b : nm ≤ 64 := Nat.le_trans Hbm.out.le.1 hn64
      have hw : IntKind.i64.wrap ((la.length : Int) + (lb.length : Int)) = (nm : Int) := by rw [IntKind.wrap_i64]; omega
      have hw2 : wrap64 ((la.length : Int) + (lb.length : Int)) = (nm : Int) := by unfold wrap64; omega
      clear hab
      go_wp2_with fail
      refine (kmay_is R _ adj true Hmay.out _ adj_311.out).mono ?_
      rintro e w315 ⟨rfl, hb316⟩
      have adj_317 := Lib.hid (adj_311.out.up hb316)
      clear adj_311
      have HB318 := Lib.hid (below_next HB312.out (Nat.le_refl _) hb316)
      clear hb316 HB312
      go_wp2_with fail
      refine (k6may_is R _ adj true Hmay.out _ adj_317.out).mono ?_
      rintro e w319 ⟨rfl, hb320⟩
      have adj_321 := Lib.hid (adj_317.out.up hb320)
      clear adj_317
      have HB322 := Lib.hid (below_next HB318.out (Nat.le_refl _) hb320)
      clear hb320 HB318
      go_wp2_with fail
      refine (k6may_is R _ adj true Hmay.out _ adj_321.out).mono ?_
      rintro e w323 ⟨rfl, hb324⟩
      have adj_325 := Lib.hid (adj_321.out.up hb324)
      clear adj_321
      have HB326 := Lib.hid (below_next HB322.out (Nat.le_refl _) hb324)
      clear hb324 HB322
      go_wp2_with fail
      refine (kfixed_any _).mono ?_
      rintro e w327 ⟨rfl, hb328⟩
      have adj_329 := Lib.hid (adj_325.out.up hb328)
      clear adj_325
      have HB330 := Lib.hid (below_next HB326.out (Nat.le_refl _) hb328)
      clear hb328 HB326
      go_wp2_with fail
      refine (sizes_is R _ adj nm Hmay.out Hbm.out hn10 _ adj_329.out).mono ?_
      rintro e w331 ⟨rfl, hb332⟩
      have adj_333 := Lib.hid (adj_329.out.up hb332)
      clear adj_329
      have HB334 := Lib.hid (below_next HB330.out (Nat.le_refl _) hb332)
      clear hb332 HB330
      clear adj_333
      go_wp2
      go_ret
      exact ⟨rfl, HB334.out⟩

theorem sizes_any (v : Value) (right : Int) (adj : List (List Int)) (w : World) (hr : Rows2 w w.heap.size v adj) : Calls Try.prog 3 #[.int .i64 right, v] w (Truly w) := by
  by_cases b1 : 100 < (adj.length : Int)
  · exact sizes_long v right adj w hr b1
  · by_cases b2 : 10 < (adj.length : Int)
    · rcases hmay : mayM right adj with _ | _
      · exact sizes_none1 v right adj w hr b1 b2 hmay
      · exact sizes_many v right adj w hr b1 b2 hmay
    · rcases hmay : mayM right adj with _ | _
      · exact sizes_none2 v right adj w hr b1 b2 hmay
      · exact sizes_yes v right adj w hr b1 b2 hmay

end Wp
end Go.Proofs.Ytjhkmilfhecdfaa
