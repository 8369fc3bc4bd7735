/- MatroidSums, walked: it answers true. -/
import Derived.Test.YtgipkpfogfcebaaDoorQFixed
import Derived.Test.YtgipkpfogfcebaaDoorQSml
namespace Go.Proofs.YtgipkpfogfcebaaDoor
open Go.RowKit
namespace Wp

theorem sum_lit {W : World} {v : Value} {l : List Mat} (h : MatL W W.heap.size v l) (n : Int) : MatV W W.heap.size (.agg #[.int .i64 9, .int .i64 n, .int .i64 0, .int .i64 0, .slice none 0 0, v]) (sumOf n l) := MatV.shut (rows2_nil _ _) h
theorem sml_sum {l : List Mat} (n : Int) (h : l.length ≤ 10) (hs : ∀ x ∈ l, Sml x) : Sml (sumOf n l) := .mk (by simp) (by simp) (by omega) hs
theorem six_cells {W : World} {p : Addr} {u lv iv : Value} {m : Mat} (hu : u = .agg #[.int .i64 m.t, .int .i64 m.n, .int .i64 m.a, .int .i64 m.b, lv, iv]) (h : SixV W p u) :
    W.cell? p = some (.int .i64 m.t) ∧ W.cell? ⟨p.block, p.off + 1, none⟩ = some (.int .i64 m.n) ∧ W.cell? ⟨p.block, p.off + 2, none⟩ = some (.int .i64 m.a) ∧ W.cell? ⟨p.block, p.off + 3, none⟩ = some (.int .i64 m.b) ∧ W.cell? ⟨p.block, p.off + 4, none⟩ = some lv ∧ W.cell? ⟨p.block, p.off + 5, none⟩ = some iv := by
  obtain ⟨x0, x1, x2, x3, x4, x5, hu2, h⟩ := h
  rw [hu] at hu2
  cases hu2
  exact h
/-- The deepest of the first ones. -/
def dmax (i : Nat) (l : List Mat) : Nat := maxN ((l.take i).map (dp 4))
theorem dmax_more {i : Nat} {l : List Mat} (h : i < l.length) : dmax (i + 1) l = max (dmax i l) (dp 4 (l.getD i default)) := by
  unfold dmax
  rw [take_snoc l i default h, List.map_append, maxN_append]
  simp [maxN]
theorem dmax_le (i : Nat) (l : List Mat) : dmax i l ≤ 5 := maxN_le fun x hx => by
  obtain ⟨y, _, rfl⟩ := List.mem_map.1 hx
  exact dp_le 4 y

set_option maxHeartbeats 16000000 in
set_option maxRecDepth 100000 in
theorem sums_any (E : Nat → Addr) (l : List Mat) (v : Value) (more : Int) (w : World) (hl : MatL w w.heap.size v l) (hlim : l.length ≤ 140737488355328 ∧ ∀ x ∈ l, Lim x) (hE : Env E w) : Calls Tryd.prog 5 #[v, .int .i64 more] w (Truly w) := by
  have HE := Lib.hid hE
  have HL := Lib.hid hl
  have Hlim := Lib.hid hlim.2
  have hlen := hlim.1
  have hlenI : (l.length : Int) ≤ 140737488355328 := by omega
  obtain ⟨A, c, rfl, _, hk⟩ := hl
  have Hk := Lib.hid hk
  clear hE hlim hk hlen
  by_cases h10 : 10 < l.length
  · have h10I : (10 : Int) < (l.length : Int) := by omega
    go_enter Tryd.func5, Tryd.ntmps5
    go_wp2_with fail
    refine (fixed_any E _ HE.out).mono ?_
    rintro e w1 ⟨rfl, hb1⟩
    have Hb1 := Lib.hid hb1
    have HE1 := Lib.hid (HE.out.up hb1)
    clear hb1
    go_wp2_with fail
    refine (fixed_any E _ HE1.out).mono ?_
    rintro e w2 ⟨rfl, hb2⟩
    have Hb2 := Lib.hid (below_next Hb1.out (Nat.le_refl _) hb2)
    clear hb2
    go_wp2
    go_ret
    exact ⟨rfl, Hb2.out⟩
  have h10' : l.length ≤ 10 := by omega
  have h10I : (l.length : Int) ≤ 10 := by omega
  clear h10 hlenI
  go_enter Tryd.func5, Tryd.ntmps5
  go_wp2_with fail
  refine (fixed_any E _ HE.out).mono ?_
  rintro e w1 ⟨rfl, hb1⟩
  have Hb1 := Lib.hid hb1
  clear hb1
  go_wp2
  go_loopw [5, 6, 7] (fun vn vd vi wr => ∃ i : Nat, vi = .int .i64 i ∧ i ≤ l.length ∧ vn = .int .i64 (tog (l.take i)) ∧ vd = .int .i64 (dmax i l : Nat) ∧ Below w.heap.size w wr ∧ ∀ j, j < i → Sml (l.getD j default) ∧ chk (l.getD j default) = 0) (fun _ _ vi _ => l.length - (intOf vi).toNat)
  case atStart => exact ⟨0, rfl, Nat.zero_le _, rfl, rfl, Hb1.out, fun j hj => absurd hj (Nat.not_lt_zero _)⟩
  case round =>
    clear Hb1
    obtain ⟨i, rfl, hi, rfl, rfl, hbr, hall⟩ := hrel
    have Hbr := Lib.hid hbr
    have Hall := Lib.hid hall
    have HEr := Lib.hid (HE.out.up hbr)
    clear hbr hall
    by_cases hlt : i < l.length
    · have hltI : (i : Int) < (l.length : Int) := by omega
      have hxm := getD_mem l i default hlt
      obtain ⟨ad, u, hA, hab, hsix, hmv⟩ := Hk.out i hlt
      subst hA
      have hmvr := (hmv.bel Hbr.out).mono Hbr.out.size
      obtain ⟨lv, iv, hu, _, _⟩ := hmv.open
      have Hu := Lib.hid hu
      have Hsix : Hid (∀ W, Below w.heap.size w W → SixV W (ad.add (i * 6)) u) := fun W hW => hsix.below hW (by rw [add_block]; exact hab)
      obtain ⟨s0, s1, s2, s3, s4, s5⟩ := six_cells Hu.out (Hsix.out _ Hbr.out)
      rw [hu] at hmvr
      have Htog := Lib.hid (tog_more hlt)
      have Hdm := Lib.hid (dmax_more hlt)
      have hdle := dmax_le i l
      have hdle2 := dp_le 4 (l.getD i default)
      have HV := Lib.hid hmvr
      have Hlx := Lib.hid (Hlim.out _ hxm)
      have Hnext : Hid (Sml (l.getD i default) → chk (l.getD i default) = 0 → ∀ j, j < i + 1 → Sml (l.getD j default) ∧ chk (l.getD j default) = 0) := fun h1 h2 j hj => by
        by_cases e : j = i
        · rw [e]; exact ⟨h1, h2⟩
        · exact Hall.out j (by omega)
      have Hdx : Hid (deepI (l.getD i default) = (dp 4 (l.getD i default) : Nat)) := rfl
      have Hadd : Hid (∀ x, x ∈ l → chk x = 0 → 0 ≤ x.n ∧ x.n ≤ 64) := fun x _ h => chk_n h
      have Htl : Hid (0 ≤ tog (l.take i) ∧ tog (l.take i) ≤ 64 * (l.take i).length) := tog_le (fun x hx => by
        obtain ⟨j, hj, rfl⟩ := List.mem_iff_getElem.1 hx
        have hj' : j < i := by rw [List.length_take] at hj; omega
        have h := (Hall.out j hj').2
        rw [show l.getD j default = (l.take i)[j] by simp [List.getD, show j < l.length by omega]] at h
        exact chk_n h) (by rw [List.length_take]; omega)
      have htl0 := Htl.out.1
      have htl1 : tog (l.take i) ≤ 640 := by have := Htl.out.2; rw [List.length_take] at this; omega
      clear hmv hsix hu hmvr hxm
      generalize l.getD i default = x at *
      obtain ⟨P, hP⟩ : ∃ P, dmax i l = P := ⟨_, rfl⟩
      obtain ⟨Q, hQ⟩ : ∃ Q, dp 4 x = Q := ⟨_, rfl⟩
      rw [hP] at Hdm hdle
      rw [hQ] at Hdm hdle2 Hdx
      rw [hP]
      clear hP hQ
      generalize tog (l.take i) = S at *
      have hPI : (P : Int) ≤ 5 := by omega
      have hQI : (Q : Int) ≤ 5 := by omega
      rcases hsm : smlB x with _ | _
      · have Hsm := Lib.hid hsm
        clear hsm
        go_wp2_with fail
        refine (small_any x _ _ HV.out Hlx.out).mono ?_
        rintro e w2 ⟨rfl, hb2⟩
        rw [Hsm.out]
        have Hb2 := Lib.hid (below_next Hbr.out (Nat.le_refl _) hb2)
        clear hb2
        go_wp2
        go_ret
        exact ⟨rfl, Hb2.out⟩
      · have Hsm := Lib.hid hsm
        have Hsx := Lib.hid (sml_of hsm)
        clear hsm
        obtain ⟨D, hD⟩ : ∃ D, chk x = D := ⟨_, rfl⟩
        have HD := Lib.hid hD
        clear hD
        go_wp2_with fail
        refine (small_any x _ _ HV.out Hlx.out).mono ?_
        rintro e w2 ⟨rfl, hb2⟩
        rw [Hsm.out]
        have Hb2 := Lib.hid (below_next Hbr.out (Nat.le_refl _) hb2)
        have HE2 := Lib.hid (HEr.out.up hb2)
        have HV2 := Lib.hid (HV.out.up hb2)
        clear hb2 s0 s1 s2 s3 s4 s5
        obtain ⟨q0, q1, q2, q3, q4, q5⟩ := six_cells Hu.out (Hsix.out _ Hb2.out)
        go_wp2_with fail
        refine (check_any E x _ _ HV2.out Hsx.out HE2.out).mono ?_
        rintro e w3 ⟨rfl, hb3⟩
        rw [HD.out]
        have Hb3 := Lib.hid (below_next Hb2.out (Nat.le_refl _) hb3)
        have HV3 := Lib.hid (HV2.out.up hb3)
        clear hb3 q0 q1 q2 q3 q4 q5
        by_cases hD0 : D = 0
        · subst hD0
          have hn := chk_n HD.out
          have hn0 := hn.1
          have hn1 := hn.2
          have hw : IntKind.i64.wrap (S + x.n) = S + x.n := wrap_small (by omega) (by omega)
          rw [hw] at Htog
          clear hn hw
          obtain ⟨q0, q1, q2, q3, q4, q5⟩ := six_cells Hu.out (Hsix.out _ Hb3.out)
          go_wp2_with fail
          refine (deepf_any x _ _ HV3.out Hsx.out).mono ?_
          rintro e w4 ⟨rfl, hb4⟩
          rw [Hdx.out]
          have Hb4 := Lib.hid (below_next Hb3.out (Nat.le_refl _) hb4)
          clear hb4 q0 q1 q2 q3 q4 q5
          go_wp2
          go_roundw
          case rel => exact ⟨i + 1, by go_num, by omega, by rw [Htog.out], by rw [Hdm.out]; exact congrArg (Value.int .i64) (by omega), Hb4.out, Hnext.out Hsx.out HD.out⟩
          case measure => simp [intOf]; omega
        · have hne : (D != 0) = true := by simpa using hD0
          clear hD0
          go_wp2
          go_ret
          exact ⟨rfl, Hb3.out⟩
    · have hie : i = l.length := by omega
      subst hie
      have Ht : Hid (l.take l.length = l) := List.take_length
      have Hall2 : Hid (∀ x, x ∈ l → Sml x ∧ chk x = 0) := fun x hx => by
        obtain ⟨j, hj, rfl⟩ := List.mem_iff_getElem.1 hx
        have h := Hall.out j hj
        rwa [show l.getD j default = l[j] by simp [List.getD, hj]] at h
      have Hsi := Lib.hid (sums_iff (fun x hx => (Hall2.out x hx).2) h10')
      have Hso := Lib.hid (fun n h => sums_other (l := l) (n := n) h)
      have Htl := Lib.hid (tog_le (fun x hx => chk_n (Hall2.out x hx).2) h10')
      have Hdm : Hid (dmax l.length l = maxN (l.map (dp 4))) := by
        show _ = _
        unfold dmax
        rw [List.take_length]
      have HLr := Lib.hid (HL.out.below Hbr.out |>.mono Hbr.out.size)
      have hdle := dmax_le l.length l
      rw [← Hdm.out] at Hsi
      rw [Ht.out]
      have htl0 := Htl.out.1
      have htl1 : tog l ≤ 640 := by have := Htl.out.2; omega
      generalize dmax l.length l = P at *
      have hPI : (P : Int) ≤ 5 := by omega
      have HS0 := Lib.hid (fun n => sml_sum n h10' fun x hx => (Hall2.out x hx).1)
      obtain ⟨S, hS⟩ : ∃ S, tog l = S := ⟨_, rfl⟩
      rw [hS] at Hsi Hso htl0 htl1
      rw [hS]
      obtain ⟨X, hX⟩ : ∃ X, chk (sumOf S l) = X := ⟨_, rfl⟩
      obtain ⟨Y, hY⟩ : ∃ Y, chk (sumOf more l) = Y := ⟨_, rfl⟩
      have HX := Lib.hid hX
      have HY := Lib.hid hY
      rw [hX] at Hsi
      have Hmo : Hid (more ≠ S → Y ≠ 0) := fun h => by rw [← HY.out]; exact Hso.out more h
      clear hS hX hY Ht Hall2 Hso Htl Hdm Hall
      by_cases a1 : 1 ≤ l.length
      · have a1I : (1 : Int) ≤ (l.length : Int) := by omega
        by_cases a2 : l.length ≤ 8
        · have a2I : (l.length : Int) ≤ 8 := by omega
          by_cases a3 : S ≤ 64
          · by_cases a4 : P ≤ 3
            · have a4I : (P : Int) ≤ 3 := by omega
              have hX0 : (X == 0) = true := by
                have := Hsi.out.2 ⟨by omega, by omega, by omega, by omega⟩; simpa using this
              by_cases hm : more = S
              · subst hm
                clear Hsi Hmo
                go_wp2_with fail
                refine (check_any E (sumOf more l) _ _ (sum_lit HLr.out _) (HS0.out _) HEr.out).mono ?_
                rintro e w2 ⟨rfl, hb2⟩
                rw [HX.out]
                have Hb2 := Lib.hid (below_next Hbr.out (Nat.le_refl _) hb2)
                have HE2 := Lib.hid (HEr.out.up hb2)
                have HL2 := Lib.hid (HLr.out.up hb2)
                clear hb2
                go_wp2_with fail
                refine (check_any E (sumOf more l) _ _ (sum_lit HL2.out _) (HS0.out _) HE2.out).mono ?_
                rintro e w3 ⟨rfl, hb3⟩
                rw [HY.out]
                have Hb3 := Lib.hid (below_next Hb2.out (Nat.le_refl _) hb3)
                clear hb3
                go_wp2
                go_ret
                exact ⟨rfl, Hb3.out⟩
              · have hm2 : (more == S) = false := by simpa using hm
                have hY0 : (Y != 0) = true := by simpa using Hmo.out hm
                clear hm Hsi Hmo
                go_wp2_with fail
                refine (check_any E (sumOf S l) _ _ (sum_lit HLr.out _) (HS0.out _) HEr.out).mono ?_
                rintro e w2 ⟨rfl, hb2⟩
                rw [HX.out]
                have Hb2 := Lib.hid (below_next Hbr.out (Nat.le_refl _) hb2)
                have HE2 := Lib.hid (HEr.out.up hb2)
                have HL2 := Lib.hid (HLr.out.up hb2)
                clear hb2
                go_wp2_with fail
                refine (check_any E (sumOf more l) _ _ (sum_lit HL2.out _) (HS0.out _) HE2.out).mono ?_
                rintro e w3 ⟨rfl, hb3⟩
                rw [HY.out]
                have Hb3 := Lib.hid (below_next Hb2.out (Nat.le_refl _) hb3)
                clear hb3
                go_wp2
                go_ret
                exact ⟨rfl, Hb3.out⟩
            · have a4I : 3 < (P : Int) := by omega
              have a4d : decide ((P : Int) ≤ 3) = false := by simp; omega
              have hX0 : (X == 0) = false := by
                have : ¬ X = 0 := fun h => by have := Hsi.out.1 h; omega
                simpa using this
              by_cases hm : more = S
              · subst hm
                clear Hsi Hmo
                go_wp2_with fail
                refine (check_any E (sumOf more l) _ _ (sum_lit HLr.out _) (HS0.out _) HEr.out).mono ?_
                rintro e w2 ⟨rfl, hb2⟩
                rw [HX.out]
                have Hb2 := Lib.hid (below_next Hbr.out (Nat.le_refl _) hb2)
                have HE2 := Lib.hid (HEr.out.up hb2)
                have HL2 := Lib.hid (HLr.out.up hb2)
                clear hb2
                go_wp2_with fail
                refine (check_any E (sumOf more l) _ _ (sum_lit HL2.out _) (HS0.out _) HE2.out).mono ?_
                rintro e w3 ⟨rfl, hb3⟩
                rw [HY.out]
                have Hb3 := Lib.hid (below_next Hb2.out (Nat.le_refl _) hb3)
                clear hb3
                go_wp2
                go_ret
                exact ⟨rfl, Hb3.out⟩
              · have hm2 : (more == S) = false := by simpa using hm
                have hY0 : (Y != 0) = true := by simpa using Hmo.out hm
                clear hm Hsi Hmo
                go_wp2_with fail
                refine (check_any E (sumOf S l) _ _ (sum_lit HLr.out _) (HS0.out _) HEr.out).mono ?_
                rintro e w2 ⟨rfl, hb2⟩
                rw [HX.out]
                have Hb2 := Lib.hid (below_next Hbr.out (Nat.le_refl _) hb2)
                have HE2 := Lib.hid (HEr.out.up hb2)
                have HL2 := Lib.hid (HLr.out.up hb2)
                clear hb2
                go_wp2_with fail
                refine (check_any E (sumOf more l) _ _ (sum_lit HL2.out _) (HS0.out _) HE2.out).mono ?_
                rintro e w3 ⟨rfl, hb3⟩
                rw [HY.out]
                have Hb3 := Lib.hid (below_next Hb2.out (Nat.le_refl _) hb3)
                clear hb3
                go_wp2
                go_ret
                exact ⟨rfl, Hb3.out⟩
          · have a3I : 64 < S := by omega
            have hX0 : (X == 0) = false := by
              have : ¬ X = 0 := fun h => by have := Hsi.out.1 h; omega
              simpa using this
            by_cases hm : more = S
            · subst hm
              clear Hsi Hmo
              go_wp2_with fail
              refine (check_any E (sumOf more l) _ _ (sum_lit HLr.out _) (HS0.out _) HEr.out).mono ?_
              rintro e w2 ⟨rfl, hb2⟩
              rw [HX.out]
              have Hb2 := Lib.hid (below_next Hbr.out (Nat.le_refl _) hb2)
              have HE2 := Lib.hid (HEr.out.up hb2)
              have HL2 := Lib.hid (HLr.out.up hb2)
              clear hb2
              go_wp2_with fail
              refine (check_any E (sumOf more l) _ _ (sum_lit HL2.out _) (HS0.out _) HE2.out).mono ?_
              rintro e w3 ⟨rfl, hb3⟩
              rw [HY.out]
              have Hb3 := Lib.hid (below_next Hb2.out (Nat.le_refl _) hb3)
              clear hb3
              go_wp2
              go_ret
              exact ⟨rfl, Hb3.out⟩
            · have hm2 : (more == S) = false := by simpa using hm
              have hY0 : (Y != 0) = true := by simpa using Hmo.out hm
              clear hm Hsi Hmo
              go_wp2_with fail
              refine (check_any E (sumOf S l) _ _ (sum_lit HLr.out _) (HS0.out _) HEr.out).mono ?_
              rintro e w2 ⟨rfl, hb2⟩
              rw [HX.out]
              have Hb2 := Lib.hid (below_next Hbr.out (Nat.le_refl _) hb2)
              have HE2 := Lib.hid (HEr.out.up hb2)
              have HL2 := Lib.hid (HLr.out.up hb2)
              clear hb2
              go_wp2_with fail
              refine (check_any E (sumOf more l) _ _ (sum_lit HL2.out _) (HS0.out _) HE2.out).mono ?_
              rintro e w3 ⟨rfl, hb3⟩
              rw [HY.out]
              have Hb3 := Lib.hid (below_next Hb2.out (Nat.le_refl _) hb3)
              clear hb3
              go_wp2
              go_ret
              exact ⟨rfl, Hb3.out⟩
        · have a2I : 8 < (l.length : Int) := by omega
          have hX0 : (X == 0) = false := by
            have : ¬ X = 0 := fun h => by have := Hsi.out.1 h; omega
            simpa using this
          by_cases hm : more = S
          · subst hm
            clear Hsi Hmo
            go_wp2_with fail
            refine (check_any E (sumOf more l) _ _ (sum_lit HLr.out _) (HS0.out _) HEr.out).mono ?_
            rintro e w2 ⟨rfl, hb2⟩
            rw [HX.out]
            have Hb2 := Lib.hid (below_next Hbr.out (Nat.le_refl _) hb2)
            have HE2 := Lib.hid (HEr.out.up hb2)
            have HL2 := Lib.hid (HLr.out.up hb2)
            clear hb2
            go_wp2_with fail
            refine (check_any E (sumOf more l) _ _ (sum_lit HL2.out _) (HS0.out _) HE2.out).mono ?_
            rintro e w3 ⟨rfl, hb3⟩
            rw [HY.out]
            have Hb3 := Lib.hid (below_next Hb2.out (Nat.le_refl _) hb3)
            clear hb3
            go_wp2
            go_ret
            exact ⟨rfl, Hb3.out⟩
          · have hm2 : (more == S) = false := by simpa using hm
            have hY0 : (Y != 0) = true := by simpa using Hmo.out hm
            clear hm Hsi Hmo
            go_wp2_with fail
            refine (check_any E (sumOf S l) _ _ (sum_lit HLr.out _) (HS0.out _) HEr.out).mono ?_
            rintro e w2 ⟨rfl, hb2⟩
            rw [HX.out]
            have Hb2 := Lib.hid (below_next Hbr.out (Nat.le_refl _) hb2)
            have HE2 := Lib.hid (HEr.out.up hb2)
            have HL2 := Lib.hid (HLr.out.up hb2)
            clear hb2
            go_wp2_with fail
            refine (check_any E (sumOf more l) _ _ (sum_lit HL2.out _) (HS0.out _) HE2.out).mono ?_
            rintro e w3 ⟨rfl, hb3⟩
            rw [HY.out]
            have Hb3 := Lib.hid (below_next Hb2.out (Nat.le_refl _) hb3)
            clear hb3
            go_wp2
            go_ret
            exact ⟨rfl, Hb3.out⟩
      · have a1I : (l.length : Int) < 1 := by omega
        have hX0 : (X == 0) = false := by
          have : ¬ X = 0 := fun h => by have := Hsi.out.1 h; omega
          simpa using this
        by_cases hm : more = S
        · subst hm
          clear Hsi Hmo
          go_wp2_with fail
          refine (check_any E (sumOf more l) _ _ (sum_lit HLr.out _) (HS0.out _) HEr.out).mono ?_
          rintro e w2 ⟨rfl, hb2⟩
          rw [HX.out]
          have Hb2 := Lib.hid (below_next Hbr.out (Nat.le_refl _) hb2)
          have HE2 := Lib.hid (HEr.out.up hb2)
          have HL2 := Lib.hid (HLr.out.up hb2)
          clear hb2
          go_wp2_with fail
          refine (check_any E (sumOf more l) _ _ (sum_lit HL2.out _) (HS0.out _) HE2.out).mono ?_
          rintro e w3 ⟨rfl, hb3⟩
          rw [HY.out]
          have Hb3 := Lib.hid (below_next Hb2.out (Nat.le_refl _) hb3)
          clear hb3
          go_wp2
          go_ret
          exact ⟨rfl, Hb3.out⟩
        · have hm2 : (more == S) = false := by simpa using hm
          have hY0 : (Y != 0) = true := by simpa using Hmo.out hm
          clear hm Hsi Hmo
          go_wp2_with fail
          refine (check_any E (sumOf S l) _ _ (sum_lit HLr.out _) (HS0.out _) HEr.out).mono ?_
          rintro e w2 ⟨rfl, hb2⟩
          rw [HX.out]
          have Hb2 := Lib.hid (below_next Hbr.out (Nat.le_refl _) hb2)
          have HE2 := Lib.hid (HEr.out.up hb2)
          have HL2 := Lib.hid (HLr.out.up hb2)
          clear hb2
          go_wp2_with fail
          refine (check_any E (sumOf more l) _ _ (sum_lit HL2.out _) (HS0.out _) HE2.out).mono ?_
          rintro e w3 ⟨rfl, hb3⟩
          rw [HY.out]
          have Hb3 := Lib.hid (below_next Hb2.out (Nat.le_refl _) hb3)
          clear hb3
          go_wp2
          go_ret
          exact ⟨rfl, Hb3.out⟩

end Wp
end Go.Proofs.YtgipkpfogfcebaaDoor
