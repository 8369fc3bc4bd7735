/- The program's Weight, Take and Best, and the document's May of weights, walked. -/
import Derived.Test.YtolnkgghejhaeaaGreatDoorGTake
import Derived.Test.YtolnkgghejhaeaaGreatDoorZA
import Derived.Test.YtolnkgghejhaeaaGreatDoorZT
namespace Go.Proofs.YtolnkgghejhaeaaGreatDoor
open Go.RowKit
namespace Wp

/-! ### Take and Best, by their closures -/
set_option maxRecDepth 100000 in
theorem goes_less (k : Int) (B N : Nat) (w : World) (hB : B < w.heap.size) (hc : w.cell? ⟨B, 0, none⟩ = some (.int .i64 k)) : Goes w 22 #[.pointer (some ⟨B, 0, none⟩)] N (lessB k) := by
  intro x n W _ _ hW
  have h1 := (hW.cell (p := ⟨B, 0, none⟩) hB).trans hc
  show Calls Tryz.prog 22 #[.int .i64 x, .int .i64 (n : Int), .pointer (some ⟨B, 0, none⟩)] W _
  unfold lessB
  go_enter Tryz.func22, Tryz.ntmps22
  go_wp2
  go_ret
  exact ⟨rfl, Below.refl _ _⟩
set_option maxRecDepth 100000 in
theorem goes_best (s : List Int) (u : Value) (B : Nat) (w : World) (hB : B < w.heap.size) (hc : w.cell? ⟨B, 0, none⟩ = some u) (hr : Row w w.heap.size u s) : Goes w 27 #[.pointer (some ⟨B, 0, none⟩)] s.length (bestB s) := by
  intro x n W h0 h1 hW
  obtain ⟨i, rfl⟩ : ∃ i : Nat, x = (i : Int) := ⟨x.toNat, by omega⟩
  have hi : i < s.length := by omega
  have hiI : (i : Int) < (s.length : Int) := by omega
  obtain ⟨A, c, rfl, _⟩ := id hr
  have g0 := (hW.cell (p := ⟨B, 0, none⟩) hB).trans hc
  obtain ⟨ad, hA, hcl⟩ := Row.nth hr hi
  subst hA
  have g1 := hcl W hW
  show Calls Tryz.prog 27 #[.int .i64 (i : Int), .int .i64 (n : Int), .pointer (some ⟨B, 0, none⟩)] W _
  unfold bestB
  rw [Int.toNat_natCast]
  clear hcl hr hc
  generalize s.getD i 0 = y at *
  go_enter Tryz.func27, Tryz.ntmps27
  go_wp2
  go_ret
  exact ⟨rfl, Below.refl _ _⟩

set_option maxHeartbeats 4000000 in
set_option maxRecDepth 100000 in
theorem Take_any (E : Nat → Addr) (m : Mat) (v sv : Value) (s : List Int) (k : Int) (w : World) (hv : MatV w w.heap.size v m) (hs : Sml m) (hr : Row w w.heap.size sv s) (hsl : s.length ≤ 1048576) (hE : Env E w) :
    Calls Tryz.prog 9 #[v, sv, .int .i64 k] w (Gives w (takeT m s (lessB k))) := by
  obtain ⟨lv, iv, hve, _, _⟩ := hv.open
  have hb0 := boxed_below w m lv iv
  have hb1 : Below w.heap.size w ((boxed w m lv iv).alloc (.cells #[.int .i64 k] 3)) := hb0.alloc (by have := hb0.size; omega) _
  have hsz : (boxed w m lv iv).heap.size = w.heap.size + 1 := by simp [boxed]
  have hblk := (boxed_blk w m lv iv).below ((Below.refl _ (boxed w m lv iv)).alloc (Nat.le_refl _) (.cells #[.int .i64 k] 3)) (boxed_blk w m lv iv).lt
  have hcell := (Blk.new (boxed w m lv iv) 3 #[.int .i64 k]).cell 0
  rw [hsz] at hcell
  have hlt : w.heap.size + 1 < ((boxed w m lv iv).alloc (.cells #[.int .i64 k] 3)).heap.size := by simp [boxed]
  obtain ⟨Y, hY⟩ : ∃ Y, (boxed w m lv iv).alloc (.cells #[.int .i64 k] 3) = Y := ⟨_, rfl⟩
  rw [hY] at hb1 hblk hcell hlt
  have HG := goes_less k (w.heap.size + 1) s.length Y hlt (by simpa using hcell)
  have HT := Lib.hid (take_any E 22 #[.pointer (some ⟨w.heap.size + 1, 0, none⟩)] (lessB k) m v sv s Y (enters_of Tryz.func22 (by kernel_rfl) rfl) (hv.up hb1) hs (hr.up hb1) hsl (hE.up hb1) HG)
  have HY := Lib.hid hY
  have HB1 := Lib.hid hb1
  obtain ⟨As, cs, rfl, _⟩ := id hr
  subst hve
  unfold boxed at HY
  clear hv hr hE HG hb1 hb0 hs hsz hcell hlt hY hblk
  go_enter Tryz.func9, Tryz.ntmps9
  go_wp2_with fail
  rw [HY.out]
  refine HT.out.mono ?_
  rintro e w2 ⟨v2, rfl, hr2, hb2⟩
  have HB2 := Lib.hid (below_next HB1.out (Nat.le_refl _) hb2)
  have HR2 := Lib.hid hr2
  clear hb2 hr2
  go_wp2
  go_ret
  exact ⟨_, rfl, HR2.out, HB2.out⟩

set_option maxHeartbeats 4000000 in
set_option maxRecDepth 100000 in
theorem Best_any (E : Nat → Addr) (m : Mat) (v sv : Value) (s : List Int) (w : World) (hv : MatV w w.heap.size v m) (hs : Sml m) (hr : Row w w.heap.size sv s) (hsl : s.length ≤ 1048576) (hE : Env E w) :
    Calls Tryz.prog 16 #[v, sv] w (Gives w (takeT m s (bestB s))) := by
  obtain ⟨lv, iv, hve, _, _⟩ := hv.open
  have hb0 := boxed_below w m lv iv
  have hb1 : Below w.heap.size w ((boxed w m lv iv).alloc (.cells #[sv] 26)) := hb0.alloc (by have := hb0.size; omega) _
  have hsz : (boxed w m lv iv).heap.size = w.heap.size + 1 := by simp [boxed]
  have hblk := (boxed_blk w m lv iv).below ((Below.refl _ (boxed w m lv iv)).alloc (Nat.le_refl _) (.cells #[sv] 26)) (boxed_blk w m lv iv).lt
  have hcell := (Blk.new (boxed w m lv iv) 26 #[sv]).cell 0
  rw [hsz] at hcell
  have hlt : w.heap.size + 1 < ((boxed w m lv iv).alloc (.cells #[sv] 26)).heap.size := by simp [boxed]
  obtain ⟨Y, hY⟩ : ∃ Y, (boxed w m lv iv).alloc (.cells #[sv] 26) = Y := ⟨_, rfl⟩
  rw [hY] at hb1 hblk hcell hlt
  have HG := goes_best s sv (w.heap.size + 1) Y hlt (by simpa using hcell) (hr.up hb1)
  have HT := Lib.hid (take_any E 27 #[.pointer (some ⟨w.heap.size + 1, 0, none⟩)] (bestB s) m v sv s Y (enters_of Tryz.func27 (by kernel_rfl) rfl) (hv.up hb1) hs (hr.up hb1) hsl (hE.up hb1) HG)
  have HY := Lib.hid hY
  have HB1 := Lib.hid hb1
  obtain ⟨As, cs, rfl, _⟩ := id hr
  subst hve
  unfold boxed at HY
  clear hv hr hE HG hb1 hb0 hs hsz hcell hlt hY hblk
  go_enter Tryz.func16, Tryz.ntmps16
  go_wp2_with fail
  rw [HY.out]
  refine HT.out.mono ?_
  rintro e w2 ⟨v2, rfl, hr2, hb2⟩
  have HB2 := Lib.hid (below_next HB1.out (Nat.le_refl _) hb2)
  have HR2 := Lib.hid hr2
  clear hb2 hr2
  go_wp2
  go_ret
  exact ⟨_, rfl, HR2.out, HB2.out⟩

/-! ### What a set weighs -/
theorem last_most {s : List Int} (h : IsSet s) : ∀ x ∈ s, x ≤ s.getD (s.length - 1) 0 := by
  intro x hx
  obtain ⟨i, hi, rfl⟩ := List.mem_iff_getElem.1 hx
  have hl : s.length - 1 < s.length := by omega
  rw [show s.getD (s.length - 1) 0 = s[s.length - 1] by simp [List.getD, hl]]
  by_cases e : i = s.length - 1
  · subst e; exact Int.le_refl _
  · have := List.pairwise_iff_getElem.1 h.1 i (s.length - 1) hi hl (by omega)
    omega
theorem weight_no {w s : List Int} (h : mayB s = false) : weightT w s = 0 := by
  unfold weightT
  rw [if_neg]
  rintro ⟨h1, _⟩
  rw [h] at h1
  cases h1
theorem weight_far {w s : List Int} (hl : 0 < s.length) (h : (w.length : Int) ≤ s.getD (s.length - 1) 0) : weightT w s = 0 := by
  unfold weightT
  rw [if_neg]
  rintro ⟨_, h1⟩
  have := h1 _ (getD_of 0 (show s.length - 1 < s.length by omega))
  omega
theorem weight_yes {w s : List Int} (h : mayB s = true) (hl : ∀ x ∈ s, x < (w.length : Int)) : weightT w s = addW w s := by
  unfold weightT
  exact if_pos ⟨h, hl⟩
theorem addW_more {w s : List Int} {k : Nat} (h : k < s.length) : addW w (s.take (k + 1)) = IntKind.i64.wrap (addW w (s.take k) + wt w (s.getD k 0)) := by
  unfold addW
  rw [List.take_succ_eq_append_getElem h, List.foldl_append]
  simp [List.getD, h]

set_option maxHeartbeats 4000000 in
set_option maxRecDepth 100000 in
theorem weight_any (vw vs : Value) (ws s : List Int) (w : World) (hw : Row w w.heap.size vw ws) (hr : Row w w.heap.size vs s) : Calls Tryz.prog 12 #[vw, vs] w (Tells w (weightT ws s)) := by
  have HW := Lib.hid hw
  have HR := Lib.hid hr
  obtain ⟨Aw, cw, rfl, hcw, _⟩ := id hw
  obtain ⟨As, cs, rfl, hcs, _⟩ := id hr
  have hsl : s.length ≤ 9223372036854775807 := by have h1 := hcs.1; have h2 := hcs.2.1; unfold maxLen at h2; omega
  have hslI : (s.length : Int) ≤ 9223372036854775807 := by omega
  have hwlI : (ws.length : Int) ≤ 9223372036854775807 := by have h1 := hcw.1; have h2 := hcw.2.1; unfold maxLen at h2; omega
  clear hw hr hcw hcs
  rcases hm : mayB s with _ | _
  · rw [weight_no hm]
    go_enter Tryz.func12, Tryz.ntmps12
    go_wp2_with fail
    refine (may_any _ s _ HR.out hsl).mono ?_
    rintro e w1 ⟨rfl, hb1⟩
    rw [hm]
    go_wp2
    go_ret
    exact ⟨rfl, hb1⟩
  · by_cases h0 : 0 < s.length
    · have h0I : (0 : Int) < (s.length : Int) := by omega
      obtain ⟨L, hL⟩ : ∃ L : Nat, s.length = L + 1 := ⟨s.length - 1, by omega⟩
      obtain ⟨ad, hA, hcl⟩ := Row.nth HR.out (k := L) (by omega)
      subst hA
      have hlast := last_most (mayB_iff.1 hm)
      rw [show s.length - 1 = L by omega] at hlast
      have hlenI : (s.length : Int) - 1 = (L : Int) := by omega
      by_cases hf : (ws.length : Int) ≤ s.getD L 0
      · rw [weight_far h0 (by rw [show s.length - 1 = L by omega]; exact hf)]
        have HL := Lib.hid hL
        have HC := Lib.hid hcl
        generalize s.getD L 0 = y at *
        have hLL : (L : Int) < (s.length : Int) := by omega
        clear hlast hcl hL
        go_enter Tryz.func12, Tryz.ntmps12
        go_wp2_with fail
        refine (may_any _ s _ HR.out hsl).mono ?_
        rintro e w1 ⟨rfl, hb1⟩
        rw [hm]
        have g1 := HC.out w1 hb1
        have HB1 := Lib.hid hb1
        clear hb1
        go_wp2
        go_ret
        exact ⟨rfl, HB1.out⟩
      · have hf' : s.getD L 0 < (ws.length : Int) := by omega
        have hall : ∀ x ∈ s, x < (ws.length : Int) := fun x hx => by have := hlast x hx; omega
        rw [weight_yes hm hall]
        have Hfit : Hid (∀ x ∈ s, 0 ≤ x) := Lib.hid fun x hx => ((mayB_iff.1 hm).2 x hx).1
        have Hall := Lib.hid hall
        have HC := Lib.hid hcl
        have HL := Lib.hid hL
        have Hmore := Lib.hid (fun k h => addW_more (w := ws) (s := s) (k := k) h)
        obtain ⟨y, hy⟩ : ∃ y, s.getD L 0 = y := ⟨_, rfl⟩
        rw [hy] at hf' HC
        have hLL : (L : Int) < (s.length : Int) := by omega
        clear hlast hcl hL hf hall hy
        go_enter Tryz.func12, Tryz.ntmps12
        go_wp2_with fail
        refine (may_any _ s _ HR.out hsl).mono ?_
        rintro e w1 ⟨rfl, hb1⟩
        rw [hm]
        have g1 := HC.out w1 hb1
        have HB1 := Lib.hid hb1
        clear hb1
        go_wp2
        go_loopw [5, 29] (fun vn vk wr => ∃ k : Nat, vk = .int .i64 k ∧ k ≤ s.length ∧ vn = .int .i64 (addW ws (s.take k)) ∧ Below w.heap.size w wr) (fun _ vk _ => s.length - (intOf vk).toNat)
        case atStart => exact ⟨0, rfl, Nat.zero_le _, rfl, HB1.out⟩
        case round =>
          obtain ⟨k, rfl, hk, rfl, hbr⟩ := hrel
          have Hbr := Lib.hid hbr
          by_cases hlt : k < s.length
          · have hltI : (k : Int) < (s.length : Int) := by omega
            obtain ⟨ad', hA, hcl'⟩ := Row.nth HR.out hlt
            injection hA with hA
            subst hA
            have g2 := hcl' wr hbr
            have hmem := getD_of (0 : Int) hlt
            have hx0 := Hfit.out _ hmem
            have hx1 := Hall.out _ hmem
            have Hm := Lib.hid (Hmore.out k hlt)
            generalize s.getD k 0 = x at *
            obtain ⟨i, rfl⟩ : ∃ i : Nat, x = (i : Int) := ⟨x.toNat, by omega⟩
            obtain ⟨aw, hAw, hclw⟩ := Row.nth HW.out (k := i) (by omega)
            subst hAw
            have g3 := hclw wr hbr
            unfold wt at Hm
            rw [Int.toNat_natCast] at Hm
            generalize ws.getD i 0 = z at *
            generalize addW ws (s.take k) = t at *
            clear hmem hcl' hclw hbr g1
            go_wp2
            go_roundw
            case rel => exact ⟨k + 1, by go_num, by omega, by rw [Hm.out, wrap_w], Hbr.out⟩
            case measure => simp [intOf]; omega
          · have hie : k = s.length := by omega
            subst hie
            have Ht : Hid (s.take s.length = s) := Lib.hid List.take_length
            rw [Ht.out]
            go_wp2
            go_ret
            exact ⟨rfl, Hbr.out⟩
    · have he : s = [] := List.eq_nil_of_length_eq_zero (by omega)
      subst he
      rw [weight_yes hm (fun x hx => by cases hx)]
      go_enter Tryz.func12, Tryz.ntmps12
      go_wp2_with fail
      refine (may_any _ [] _ HR.out hsl).mono ?_
      rintro e w1 ⟨rfl, hb1⟩
      rw [hm]
      go_wp2
      refine wp_loop_rounds 1 ?_
      rw [rounds_succ]
      go_wp2
      go_ret
      exact ⟨rfl, hb1⟩

/-! ### The document's May -/
theorem mayW_out {m : Mat} {w : List Int} {k : Nat} (hk : k < w.length) (h : outW (w.getD k 0) = true) : mayW m w = false := by
  unfold mayW
  rw [show w.any outW = true from List.any_eq_true.2 ⟨_, getD_of 0 hk, h⟩]
  simp
theorem outW_all {w : List Int} (h : ∀ j, j < w.length → outW (w.getD j 0) = false) : w.any outW = false := by
  rw [← Bool.not_eq_true, List.any_eq_true]
  rintro ⟨x, hx, hp⟩
  obtain ⟨j, hj, rfl⟩ := List.mem_iff_getElem.1 hx
  have := h j hj
  rw [show w.getD j 0 = w[j] by simp [List.getD, hj]] at this
  rw [this] at hp
  cases hp
set_option maxHeartbeats 4000000 in
set_option maxRecDepth 100000 in
theorem rmay12_any (m : Mat) (v sv : Value) (s : List Int) (w : World) (hv : MatV w w.heap.size v m) (hs : Sml m) (hr : Row w w.heap.size sv s) : Calls Tryz.prog 7 #[v, sv] w (Says w (mayW m s)) := by
  have Hs := Lib.hid hs
  obtain ⟨lv, iv, hve, _, _⟩ := hv.open
  have Hb0 := Lib.hid (boxed_below w m lv iv)
  have HV := Lib.hid (hv.up Hb0.out)
  have HR := Lib.hid (hr.up Hb0.out)
  have Hblk := Lib.hid (boxed_blk w m lv iv)
  obtain ⟨As, cs, rfl, hcs, _⟩ := id hr
  have hslI : (s.length : Int) ≤ 9223372036854775807 := by have h1 := hcs.1; have h2 := hcs.2.1; unfold maxLen at h2; omega
  subst hve
  unfold boxed at *
  have Hno := Lib.hid (fun k h1 h2 => mayW_out (m := m) (w := s) (k := k) h1 h2)
  have Hyes := Lib.hid (fun h => outW_all (w := s) h)
  clear hv hs hr hcs
  generalize hX : w.alloc (.cells #[.int .i64 m.t, .int .i64 m.n, .int .i64 m.a, .int .i64 m.b, lv, iv] 25) = X at *
  have HX := Lib.hid hX
  clear hX
  go_enter Tryz.func7, Tryz.ntmps7
  go_wp2
  rw [HX.out]
  go_loopw [5] (fun vk wr => ∃ k : Nat, vk = .int .i64 k ∧ k ≤ s.length ∧ wr = X ∧ ∀ j, j < k → outW (s.getD j 0) = false) (fun vk _ => s.length - (intOf vk).toNat)
  case atStart => exact ⟨0, rfl, Nat.zero_le _, rfl, fun j hj => absurd hj (Nat.not_lt_zero _)⟩
  case round =>
    obtain ⟨k, rfl, hk, rfl, hz⟩ := hrel
    have Hz := Lib.hid hz
    clear hz
    by_cases hlt : k < s.length
    · have hltI : (k : Int) < (s.length : Int) := by omega
      obtain ⟨ad, hA, hcl⟩ := Row.nth HR.out hlt
      subst hA
      have g1 := hcl _ (Below.refl _ _)
      have Hno' := Lib.hid (Hno.out k hlt)
      have Hz' := Lib.hid (fun (h : outW (s.getD k 0) = false) j (hj : j < k + 1) => if e : j = k then e ▸ h else Hz.out j (by omega))
      clear hcl Hno Hz
      generalize s.getD k 0 = x at *
      by_cases h1 : x < -1099511627776
      · have hM := Hno'.out (by unfold outW; rw [decide_eq_true h1]; rfl)
        rw [hM]
        clear hM
        go_wp2
        go_ret
        exact ⟨rfl, Hb0.out⟩
      · by_cases h2 : 1099511627776 < x
        · have hM := Hno'.out (by unfold outW; rw [decide_eq_true h2, Bool.or_true])
          rw [hM]
          have h1' : -1099511627776 ≤ x := by omega
          clear hM h1
          go_wp2
          go_ret
          exact ⟨rfl, Hb0.out⟩
        · have Hn := Lib.hid (Hz'.out (by unfold outW; rw [decide_eq_false h1, decide_eq_false h2]; rfl))
          have h1' : -1099511627776 ≤ x := by omega
          have h2' : x ≤ 1099511627776 := by omega
          clear h1 h2
          go_wp2
          go_roundw
          case rel => exact ⟨k + 1, by go_num, by omega, trivial, Hn.out⟩
          case measure => simp [intOf]; omega
    · have hie : k = s.length := by omega
      subst hie
      have hall := Hyes.out Hz.out
      have hM : mayW m s = (decide (chk m = 0) && decide ((s.length : Int) = m.n)) := by unfold mayW; rw [hall]; simp
      have k0 := Hblk.out.cell 0
      have k1 := Hblk.out.cell 1
      have k2 := Hblk.out.cell 2
      have k3 := Hblk.out.cell 3
      have k4 := Hblk.out.cell 4
      have k5 := Hblk.out.cell 5
      obtain ⟨D, hD⟩ : ∃ D, chk m = D := ⟨_, rfl⟩
      have HD := Lib.hid hD
      rw [hD] at hM
      clear hD hall Hno Hyes Hz
      by_cases h : D = 0
      · subst h
        rw [decide_eq_true rfl, Bool.true_and] at hM
        go_wp2_with fail
        refine (rcheck_any m _ _ HV.out Hs.out).mono ?_
        rintro e w1 ⟨rfl, hb1⟩
        rw [HD.out]
        have HB1 := Lib.hid (below_next Hb0.out (Nat.le_refl _) hb1)
        have g1 := (Hblk.out.below hb1 Hblk.out.lt).cell 1
        clear hb1 k0 k1 k2 k3 k4 k5
        by_cases hl : (s.length : Int) = m.n
        · rw [decide_eq_true hl] at hM
          have hne : ((s.length : Int) == m.n) = true := by simp [hl]
          have HM := Lib.hid hM
          clear hl hM
          go_wp2
          go_ret
          exact ⟨by rw [HM.out]; rfl, HB1.out⟩
        · rw [decide_eq_false hl] at hM
          have hne : ((s.length : Int) == m.n) = false := by simpa using hl
          have HM := Lib.hid hM
          clear hl hM
          go_wp2
          go_ret
          exact ⟨by rw [HM.out]; rfl, HB1.out⟩
      · rw [decide_eq_false h, Bool.false_and] at hM
        have hne : (D == 0) = false := by simpa using h
        have HM := Lib.hid hM
        clear h hM
        go_wp2_with fail
        refine (rcheck_any m _ _ HV.out Hs.out).mono ?_
        rintro e w1 ⟨rfl, hb1⟩
        rw [HD.out]
        have HB1 := Lib.hid (below_next Hb0.out (Nat.le_refl _) hb1)
        clear hb1 k0 k1 k2 k3 k4 k5
        go_wp2
        go_ret
        exact ⟨by rw [HM.out]; rfl, HB1.out⟩

end Wp
end Go.Proofs.YtolnkgghejhaeaaGreatDoor
