/- The document's rank, walked: elimination, row by row. -/
import Derived.Test.YtmnhpccdhefddaaDoorLFam
import Derived.Test.YtmnhpccdhefddaaDoorLRefMay
import Derived.Test.YtmnhpccdhefddaaDoorLAlgD
import Derived.StillTailTactics
namespace Go.Proofs.YtmnhpccdhefddaaDoor
open Go.RowKit
namespace Wp

theorem info24 : (Tryd.prog.info? 26).map (fun i => (i.zero, i.size, i.bytes)) = some (some (.slice none 0 0), 1, 24) := by kernel_rfl
theorem refinv_is (a p i : Int) (b : Bool) (h1 : invI a p = i) (h2 : invB a p = b) (w : World) : Calls Tryd.prog 35 #[.int .i64 a, .int .i64 p] w (Gets w (.tuple #[.int .i64 i, .bool b])) := by
  subst h1 h2
  exact refinv_any a p w
theorem refmod_yes (a p : Int) (w : World) (h : In31 p) : Calls Tryd.prog 36 #[.int .i64 a, .int .i64 p] w fun e w' => e = .returned (.int .i64 (a % p)) ∧ w' = w := by
  have := refmod_any a p w
  unfold modI at this
  rw [if_pos h] at this
  exact this
/-- What the elimination keeps: rows of the call's own, in a row of the call's own. -/
structure Keep (w wr : World) (vm : Value) (vs : List Value) (M : List (List Int)) : Prop where
  own : wr.ownsRow w.heap.size 26 1 vm vs.length vs
  fam : Fam wr w.heap.size vs M
  bel : Below w.heap.size w wr

theorem Keep.at_ {w wr : World} {A : Option Addr} {n c : Nat} {vs : List Value} {M : List (List Int)} (h : Keep w wr (.slice A n c) vs M) {i R : Nat} (hi : i < vs.length) (hR : 0 < R) (hl : (M.getD i []).length = R) :
    ∃ gm gi ci, A = some ⟨gm, 0, none⟩ ∧ w.heap.size ≤ gm ∧ wr.cell? ⟨gm, i, none⟩ = some (.slice (some ⟨gi, 0, none⟩) R ci) ∧ wr.frozen? ⟨gm, i, none⟩ = false ∧ vs[i]? = some (.slice (some ⟨gi, 0, none⟩) R ci) ∧ gi ≠ gm ∧
      ∀ j, j < R → wr.cell? ⟨gi, j, none⟩ = some (.int .i64 ((M.getD i []).getD j 0)) ∧ wr.frozen? ⟨gi, j, none⟩ = false := by
  have hiM : i < M.length := by rw [← h.fam.1]; exact hi
  obtain ⟨gm, cm, hA, hgm⟩ := own_form h.own (by omega)
  injection hA with hA1 hA2 hA3
  subst hA1
  subst hA2
  have hM : M[i]? = some (M.getD i []) := by simp [List.getD, hiM]
  have ho := h.fam.2.1 i _ _ (List.getElem?_eq_getElem hi) hM
  rw [hl] at ho
  obtain ⟨gi, ci, hv, _⟩ := own_form ho (by omega)
  have hvi : vs[i]? = some (.slice (some ⟨gi, 0, none⟩) R ci) := by rw [List.getElem?_eq_getElem hi, hv]
  refine ⟨gm, gi, ci, rfl, hgm, ?_, h.own.frozenAt i, hvi, ?_, fun j hj => ⟨?_, ?_⟩⟩
  · rw [h.own.cellAt i (by omega)]
    exact hvi
  · rw [hv] at ho
    rcases own_ne ho h.own (by decide) with e | e
    · cases e
    · intro e2
      exact e (by rw [e2]; rfl)
  · rw [hv] at ho
    rw [ho.cellAt j (by omega)]
    exact ints_get (by omega)
  · rw [hv] at ho
    exact ho.frozenAt j
theorem Keep.swap {w wr : World} {gm n c : Nat} {vs : List Value} {M : List (List Int)} (h : Keep w wr (.slice (some ⟨gm, 0, none⟩) n c) vs M) {k a : Nat} {uk ua : Value} (hk : vs[k]? = some uk) (ha : vs[a]? = some ua) :
    Keep w ((wr.setCell ⟨gm, a, none⟩ uk).setCell ⟨gm, k, none⟩ ua) (.slice (some ⟨gm, 0, none⟩) n c) (swapV vs k a) (swapM M k a) := by
  have hkl := (List.getElem?_eq_some_iff.1 hk).1
  have hal := (List.getElem?_eq_some_iff.1 ha).1
  have hgm := (h.own.lt gm rfl).1
  obtain ⟨_, _, hv⟩ := own_slice h.own
  injection hv with _ hn _
  subst hn
  have s1 := h.own.stored a uk
  have s2 := s1.1.stored k ua
  have e : swapV vs k a = (vs.set a uk).set k ua := by
    unfold swapV
    simp [List.getD, hk, ha]
  refine ⟨?_, ?_, (h.bel.setCell (p := ⟨gm, a, none⟩) hgm uk).setCell (p := ⟨gm, k, none⟩) hgm ua⟩
  · rw [swapV_length, e]
    exact s2.1
  · exact ((h.fam.outer h.own s1.2).outer s1.1 s2.2).swap hkl hal
theorem Keep.below {w wr w2 : World} {vm : Value} {vs : List Value} {M : List (List Int)} (h : Keep w wr vm vs M) (hb : Below wr.heap.size wr w2) : Keep w w2 vm vs M := by
  have hn : vm.ownBlock = none ∨ vm.ownBlock ≠ none := by
    rcases vm.ownBlock with _ | q
    · exact .inl rfl
    · exact .inr (by simp)
  exact ⟨h.own.kept (only_of_below hb none) hn, h.fam.new (only_of_below hb none), below_next h.bel (Nat.le_refl _) hb⟩
theorem Keep.drew {w wr : World} {vm : Value} {vs : List Value} {M : List (List Int)} (h : Keep w wr vm vs M) : Keep w wr.drew vm vs M := h.below (Below.refl _ _).drew
theorem Keep.store {w wr : World} {vm : Value} {vs : List Value} {M : List (List Int)} (h : Keep w wr vm vs M) {i gi ci j R : Nat} {q : List Int} (hv : vs[i]? = some (.slice (some ⟨gi, 0, none⟩) R ci)) (hq : M[i]? = some q) (hl : q.length = R) (x : Int) :
    Keep w (wr.setCell ⟨gi, j, none⟩ (.int .i64 x)) vm vs (M.set i (q.set j x)) := by
  subst hl
  have ho := h.fam.2.1 i _ _ hv hq
  have hs := ho.stored j (.int .i64 x)
  refine ⟨h.own.kept hs.2 ?_, h.fam.stored hv hq x, h.bel.setCell (p := ⟨gi, j, none⟩) (ho.lt gi rfl).1 _⟩
  exact own_ne h.own ho (by decide)

set_option maxHeartbeats 16000000 in
set_option maxRecDepth 100000 in
theorem refrank_any (p : Int) (R : Nat) (v : Value) (cols : List (List Int)) (w : World) (hpr : prB p = true) (hr : Rows2 w w.heap.size v cols) (hc : ColsIn p R cols) (hR : R ≤ 64) (hn : cols.length ≤ 64) :
    Calls Tryd.prog 25 #[.int .i64 p, .int .i64 R, v] w (Gets w (.int .i64 (rk p R (cols.map vec) : Nat))) := by
  obtain ⟨h2, h31, _⟩ := prB_iff.1 hpr
  have HP := Lib.hid hpr
  have Hc := Lib.hid hc
  obtain ⟨A, c, rfl, _, hcell⟩ := hr
  have Hcell := Lib.hid hcell
  have hn' : (cols.length : Int) ≤ 64 := by omega
  have Hinv := Lib.hid (inv_ok hpr)
  have Hmod := Lib.hid (fun a w => refmod_yes a p w ⟨by omega, h31⟩)
  obtain ⟨rr, hrr⟩ : ∃ rr, rr = rk p R (cols.map vec) := ⟨_, rfl⟩
  rw [← hrr]
  have Hrr := Lib.hid hrr
  have Hown0 : Hid ((w.alloc (.cells #[] 26)).ownsRow w.heap.size 26 1 (.slice (some ⟨w.heap.size, 0, none⟩) 0 0) ([] : List Value).length ([] : List Value)) :=
    World.ownsRow_lit w #[] 0 (Nat.le_refl _) (by unfold maxLen; omega) rfl
  have Hb0 := Lib.hid ((Below.refl w.heap.size w).alloc (Nat.le_refl _) (.cells #[] 26))
  clear hpr hc hcell hrr
  go_enter Tryd.func25, Tryd.ntmps25
  go_wp2
  go_loopw [7, 8] (fun vm vi wr => ∃ (i : Nat) (vs : List Value), vi = .int .i64 i ∧ i ≤ cols.length ∧ Keep w wr vm vs (cols.take i)) (fun _ vi _ => cols.length - (intOf vi).toNat)
  case atStart => exact ⟨0, [], rfl, Nat.zero_le _, Hown0.out, fam_nil _ _, Hb0.out⟩
  case round =>
    obtain ⟨i, vs, rfl, hi, hkeep⟩ := hrel
    obtain ⟨vA, vc, rfl⟩ := own_slice hkeep.own
    have Hk := Lib.hid hkeep
    clear Hown0 Hb0 hkeep
    by_cases hlt : i < cols.length
    · obtain ⟨ad, u, hA, hab, hcu, hru⟩ := Hcell.out i hlt
      subst hA
      have hc1 := (Hk.out.bel.cell (p := ad.add i) (by rw [add_block]; exact hab)).trans hcu
      have Hru := Lib.hid ((hru.below Hk.out.bel).mono Hk.out.bel.size)
      obtain ⟨Au, cu, rfl, _⟩ := hru
      have hin := Hc.out i hlt
      have hlR := hin.1
      have Htk : Hid (cols.take (i + 1) = cols.take i ++ [cols.getD i []]) := by
        show _ = _
        rw [List.take_succ_eq_append_getElem hlt]
        simp [List.getD, hlt]
      have hvl : vs.length ≤ 64 := by
        have := Hk.out.fam.1
        rw [List.length_take] at this
        omega
      have hvl' : (vs.length : Int) ≤ 64 := by omega
      generalize cols.getD i [] = col at *
      have hcl64 : col.length ≤ 64 := by omega
      have Hown1 : Hid ((wr.alloc (.cells #[] 3)).ownsRow wr.heap.size 3 1 (.slice (some ⟨wr.heap.size, 0, none⟩) 0 0) ([] : List Int).length (ints [])) :=
        World.ownsRow_lit wr #[] 0 (Nat.le_refl _) (by unfold maxLen; omega) rfl
      have hc2 : (wr.alloc (.cells #[] 3)).cell? (ad.add i) = some (.slice Au col.length cu) := (World.cell?_alloc_lt _ _ _ (by rw [add_block]; exact Nat.lt_of_lt_of_le hab Hk.out.bel.size)).trans hc1
      have Hlen := Lib.hid hlR
      clear hcu hin hlR hc1
      go_wp2_with (at_builtin; refine wpList_append_row rfl _ _ rfl wr.heap.size _ _ _ [] col rfl rfl Hown1.out (Hru.out.upA _) (by simp) (by omega) (by simp) ?_)
      intro u1 w1 hown1 hgr1
      obtain ⟨A1, c1, rfl⟩ := own_slice hown1
      have hb1 := ((Below.refl _ wr).alloc (Nat.le_refl _) (.cells #[] 3)).grown hgr1 (by simp) (fun k hk => (Hown1.out.lt k hk).1)
      have Hg1 : Hid (wr.grownBy w1 none) := only_of_below hb1 none
      have Hown2 := Lib.hid (Hk.out.own.kept Hg1.out (by
        rcases (Value.slice vA vs.length vc).ownBlock with _ | q
        · exact .inl rfl
        · exact .inr (by simp)))
      have Hfam2 := Lib.hid (Hk.out.fam.new Hg1.out)
      have Hbel2 := Lib.hid (Hk.out.bel.grown Hg1.out Hk.out.bel.size (fun k e => by cases e))
      have Hnew1 := Lib.hid hown1
      have Hdis : Hid (∀ v ∈ vs, v.ownBlock = none ∨ v.ownBlock ≠ (Value.slice A1 col.length c1).ownBlock) := by
        intro v hv
        rcases hb : v.ownBlock with _ | q
        · exact .inl rfl
        · right
          intro e
          have h1 := Hk.out.fam.lt hv hb
          have h2 := (hown1.lt q e.symm).1
          omega
      have Hcell2 : Hid ((w1.alloc (.cells #[.slice A1 col.length c1] 26)).cell? ⟨w1.heap.size, 0, none⟩ = some (.slice A1 col.length c1)) := (Blk.new w1 26 #[.slice A1 col.length c1]).cell 0
      have Hbig := Lib.hid Hk.out.bel.size
      have Hbig1 := Lib.hid hb1.size
      clear hown1 hgr1 hb1
      go_wp2_with (at_builtin; refine wpList_append_cell rfl _ _ 22 26 (.slice none 0 0) 24 rfl Tryd.underlying22 info24 rfl w.heap.size _ (.slice A1 col.length c1) vs rfl (Hown2.out.alloc _) w1.heap.size rfl Hcell2.out rfl (by omega) (by omega) (by have := Hbig.out; have := Hbig1.out; simp; omega) ?_)
      intro v3 w3 hown3 hgr3 _
      have Hkeep3 : Hid (Keep w w3 v3 (vs ++ [.slice A1 col.length c1]) (cols.take (i + 1))) := by
        refine ⟨by rw [List.length_append]; exact hown3, ?_, ?_⟩
        · rw [Htk.out]
          refine Fam.push ((Hfam2.out.new (World.grownBy_alloc _ _ none)).outer (Hown2.out.alloc _) hgr3) ?_ Hdis.out
          refine own_le ((Hnew1.out.alloc _).kept hgr3 (own_ne (Hnew1.out.alloc (.cells #[.slice A1 col.length c1] 26)) (Hown2.out.alloc (.cells #[.slice A1 col.length c1] 26)) (by decide))) Hbig.out
        · exact (Hbel2.out.alloc (by have := Hbig.out; have := Hbig1.out; omega) _).grown hgr3 (by have := Hbig.out; have := Hbig1.out; simp; omega) (fun k hk => ((Hown2.out.alloc (.cells #[.slice A1 col.length c1] 26)).lt k hk).1)
      clear hown3 hgr3
      go_wp2
      go_roundw
      case rel => exact ⟨i + 1, _, by go_num, by omega, Hkeep3.out⟩
      case measure => simp [intOf]; omega
    · have hie : i = cols.length := by omega
      subst hie
      have hvl := Hk.out.fam.1
      rw [List.take_length] at hvl
      have Hk2 := Lib.hid Hk.out
      rw [List.take_length] at Hk2
      rw [hvl] at Hk2
      rw [hvl]
      clear Hk Hcell hvl
      go_wp2
      go_loopw [9, 10] (fun vn vrow wq => ∃ (nn row : Nat) (vs : List Value) (M : List (List Int)), vn = .int .i64 nn ∧ vrow = .int .i64 row ∧ row ≤ R ∧ nn ≤ cols.length ∧ Keep w wq (.slice vA cols.length vc) vs M ∧ M.length = cols.length ∧ RowsIn p R M ∧ Steps p R (cols.map vec) (M.map vec) nn row) (fun _ vrow _ => R - (intOf vrow).toNat)
      case atStart => exact ⟨0, 0, vs, cols, rfl, rfl, Nat.zero_le _, Nat.zero_le _, Hk2.out, rfl, Hc.out, Steps.start _⟩
      case round =>
        clear Hk2 vs
        obtain ⟨nn, row, vs, M, rfl, rfl, hrow, hnn, hkeep, hML, hMin, hst⟩ := hrel
        have Hk := Lib.hid hkeep
        have HM := Lib.hid hMin
        have Hst := Lib.hid hst
        have HML := Lib.hid hML
        clear hkeep hMin hst hML
        by_cases hlt : row < R
        · have hrowi : (row : Int) < (R : Int) := by omega
          have hR0 : 0 < R := by omega
          go_wp2
          go_loop [11, 12] (fun va vi => ∃ i : Nat, vi = .int .i64 i ∧ nn ≤ i ∧ i ≤ cols.length ∧ ((va = .int .i64 (-1) ∧ ∀ j, nn ≤ j → j < i → (M.getD j []).getD row 0 = 0) ∨ ∃ a : Nat, va = .int .i64 a ∧ nn ≤ a ∧ a < cols.length ∧ (M.getD a []).getD row 0 ≠ 0)) (fun _ vi => cols.length - (intOf vi).toNat)
          case atStart => exact ⟨nn, rfl, Nat.le_refl _, hnn, .inl ⟨rfl, fun j h1 h2 => by omega⟩⟩
          case round =>
            obtain ⟨i, rfl, hni, hil, hat⟩ := hrel
            by_cases hilt : i < cols.length
            · have hilt' : (i : Int) < (cols.length : Int) := by omega
              rcases hat with ⟨rfl, hz⟩ | ⟨a, rfl, ha1, ha2, ha3⟩
              · obtain ⟨gm, gi, ci, hA, hgm, hcm, -, -, -, hcj⟩ := Hk.out.at_ (i := i) (by rw [Hk.out.fam.1, HML.out]; exact hilt) hR0 ((HM.out i (by rw [HML.out]; exact hilt)).1)
                subst hA
                have hcx := (hcj row hlt).1
                have Hz := Lib.hid hz
                clear hz hcj
                obtain ⟨x, hx⟩ : ∃ x, x = (M.getD i []).getD row 0 := ⟨_, rfl⟩
                rw [← hx] at hcx
                have Hx := Lib.hid hx
                clear hx
                by_cases hx0 : x = 0
                · subst hx0
                  have h00 : ((0 : Int) != 0) = false := by decide
                  go_wp2
                  go_round
                  case rel =>
                    refine ⟨i + 1, by go_num, by omega, by omega, .inl ⟨rfl, fun j h1 h2 => ?_⟩⟩
                    by_cases e : j = i
                    · rw [e]; exact Hx.out.symm
                    · exact Hz.out j h1 (by omega)
                  case measure => simp [intOf]; omega
                · have hx1 : (x != 0) = true := by simpa using hx0
                  go_wp2
                  go_round
                  case rel => exact ⟨i + 1, by go_num, by omega, by omega, .inr ⟨i, rfl, hni, hilt, by rw [← Hx.out]; exact hx0⟩⟩
                  case measure => simp [intOf]; omega
              · have Ha3 := Lib.hid ha3
                have han : ¬ (a : Int) < 0 := by omega
                clear ha3
                go_wp2
                go_round
                case rel => exact ⟨i + 1, by go_num, by omega, by omega, .inr ⟨a, rfl, ha1, ha2, Ha3.out⟩⟩
                case measure => simp [intOf]; omega
            · have hie : i = cols.length := by omega
              rcases hat with ⟨rfl, hz⟩ | ⟨a, rfl, ha1, ha2, ha3⟩
              · have Hst2 := Lib.hid (steps_skip Hst.out fun j h1 h2 => hz j h1 (by rw [HML.out] at h2; omega))
                clear hz hie
                go_wp2
                go_roundw
                case rel => exact ⟨nn, row + 1, vs, M, rfl, by go_num, by omega, hnn, Hk.out, HML.out, HM.out, Hst2.out⟩
                case measure => simp [intOf]; omega
              · have Ha3 := Lib.hid ha3
                have han : ¬ (a : Int) < 0 := by omega
                clear ha3 hie
                have hnl : nn < cols.length := by omega
                have hvsl : vs.length = cols.length := by rw [Hk.out.fam.1, HML.out]
                obtain ⟨gm, ga, ca, hA, hgm, hcma, hfma, hva, hgam, hcja⟩ := Hk.out.at_ (i := a) (by rw [hvsl]; exact ha2) hR0 ((HM.out a (by rw [HML.out]; exact ha2)).1)
                subst hA
                obtain ⟨gm', gn, cn, hA', -, hcmn, hfmn, hvn, -, -⟩ := Hk.out.at_ (i := nn) (by rw [hvsl]; exact hnl) hR0 ((HM.out nn (by rw [HML.out]; exact hnl)).1)
                injection hA' with hA'
                injection hA' with hA'
                subst hA'
                have Hsw := Lib.hid (Hk.out.swap hvn hva)
                have hMin := swapM_in (n := nn) (a := a) HM.out (by rw [HML.out]; exact hnl) (by rw [HML.out]; exact ha2)
                have hget := fun j => swapM_getD (m := M) (n := nn) (a := a) (j := j) (by rw [HML.out]; exact hnl) (by rw [HML.out]; exact ha2)
                have hvnn : (swapV vs nn a)[nn]? = some (.slice (some ⟨ga, 0, none⟩) R ca) := by
                  rw [swapV_at (by rw [hvsl]; exact hnl) (by rw [hvsl]; exact ha2)]
                  unfold sigma
                  rw [if_pos rfl]
                  exact hva
                have hMl : (swapM M nn a).length = cols.length := by rw [swapM_length, HML.out]
                have hvl2 : (swapV vs nn a).length = cols.length := by rw [swapV_length, hvsl]
                have hst2 := steps_swap Hst.out (a := a) (by rw [HML.out]; exact ha2) ha1
                have hne : ((swapM M nn a).getD nn []).getD row 0 ≠ 0 := by
                  rw [hget nn, if_pos rfl]
                  exact Ha3.out
                generalize swapM M nn a = M' at *
                generalize swapV vs nn a = vs' at *
                have hcx := (hcja row hlt).1
                have hMa : (M'.getD nn []).getD row 0 = (M.getD a []).getD row 0 := by rw [hget nn, if_pos rfl]
                have hxr := hMin.get (by omega) nn row
                obtain ⟨x, hx⟩ : ∃ x, x = (M'.getD nn []).getD row 0 := ⟨_, rfl⟩
                rw [← hMa, ← hx] at hcx
                rw [← hx] at hxr hne
                have hgam2 : gm ≠ ga := fun e => hgam e.symm
                obtain ⟨v', hy'⟩ := cell?_setCell_some (w := wr) (p := ⟨gm, a, none⟩) (x := .slice (some ⟨gn, 0, none⟩) R cn) (q := ⟨gm, nn, none⟩) (v := .slice (some ⟨gn, 0, none⟩) R cn) hcmn
                obtain ⟨iv, hiv⟩ : ∃ iv, iv = invI x p := ⟨_, rfl⟩
                obtain ⟨ok, hok⟩ : ∃ ok, ok = invB x p := ⟨_, rfl⟩
                have Hinvc := Lib.hid (refinv_is x p iv ok hiv.symm hok.symm)
                obtain ⟨hi1, hi2, hi3⟩ := Hinv.out x (by omega) hxr.2
                rw [← hiv] at hi1 hi2 hi3
                have Hi1 := Lib.hid hi1
                rw [hx] at Hi1
                have HMin := Lib.hid hMin
                have Hst2 := Lib.hid hst2
                have HM'l := Lib.hid hMl
                have Hvl2 := Lib.hid hvl2
                have Hvnn := Lib.hid hvnn
                have hai : (a : Int) < (cols.length : Int) := by omega
                have hnni : (nn : Int) < (cols.length : Int) := by omega
                clear hi1 hMin hst2 hMl hvl2 hvnn hMa hcja hget hx hiv hok hva hvn hvsl hne Hk HM Hst HML
                go_wp2_with fail
                refine (Hinvc.out _).mono ?_
                rintro e w2 ⟨rfl, hb2⟩
                have Hk2 := Lib.hid (Hsw.out.below hb2)
                have HivB : Hid (0 ≤ iv ∧ iv < p) := ⟨hi2, hi3⟩
                have Hk3 : Hid (Keep w w2 (.slice (some ⟨gm, 0, none⟩) cols.length vc) vs' (subM p R iv row nn (nn + 1) M')) := by
                  show Keep _ _ _ _ _
                  rw [subM_start]
                  exact Hk2.out
                clear hb2 hcma hfma hcmn hfmn hcx hy' Hsw Hk2
                go_wp2
                go_loopw [16] (fun vu wq => ∃ u : Nat, vu = .int .i64 u ∧ nn + 1 ≤ u ∧ u ≤ cols.length ∧ Keep w wq (.slice (some ⟨gm, 0, none⟩) cols.length vc) vs' (subM p R iv row nn u M')) (fun vu _ => cols.length - (intOf vu).toNat)
                case atStart => exact ⟨nn + 1, by go_num, Nat.le_refl _, by omega, Hk3.out⟩
                case round =>
                  clear Hk3
                  obtain ⟨u, rfl, hu1, hu2, hkeep⟩ := hrel
                  have Hk := Lib.hid hkeep
                  clear hkeep
                  by_cases hult : u < cols.length
                  · have hult' : (u : Int) < (cols.length : Int) := by omega
                    have hgu : (subM p R iv row nn u M').getD u [] = M'.getD u [] := by rw [subM_getD (by rw [HM'l.out]; exact hult), if_neg (by omega)]
                    have hgn : (subM p R iv row nn u M').getD nn [] = M'.getD nn [] := by rw [subM_getD (by rw [HM'l.out]; exact hnl), if_neg (by omega)]
                    have hin1 := HMin.out u (by rw [HM'l.out]; exact hult)
                    have hin2 := HMin.out nn (by rw [HM'l.out]; exact hnl)
                    obtain ⟨gm4, gu, cu, hA4, -, hcmu, -, hvu, -, hcju⟩ := Hk.out.at_ (i := u) (by rw [Hvl2.out]; exact hult) hR0 (by rw [hgu]; exact hin1.1)
                    injection hA4 with hA4
                    injection hA4 with hA4
                    subst hA4
                    have hcz := (hcju row hlt).1
                    rw [hgu] at hcz
                    have hzr := hin1.get (by omega) row
                    obtain ⟨z, hz⟩ : ∃ z, z = (M'.getD u []).getD row 0 := ⟨_, rfl⟩
                    rw [← hz] at hcz hzr
                    have hmz := mul_in h31 hzr.1 hzr.2 HivB.out.1 HivB.out.2
                    have hmul := wrap_mul_in h31 hzr.1 hzr.2 HivB.out.1 HivB.out.2
                    obtain ⟨kq, hkq⟩ : ∃ kq, kq = z * iv % p := ⟨_, rfl⟩
                    have hkr := em_lt (a := z * iv) (p := p) (by omega)
                    rw [← hkq] at hkr
                    have hkt : (z * iv).tmod p = kq := by rw [hkq]; exact Int.tmod_eq_emod_of_nonneg hmz.1
                    have hp0 : ¬ p = 0 := by omega
                    have Hstep : Hid ((subM p R iv row nn u M').set u (subR p (M'.getD u []) (M'.getD nn []) kq R) = subM p R iv row nn (u + 1) M') := by
                      show _ = _
                      rw [hkq, hz]
                      exact subM_step (by omega)
                    have Hk5 : Hid (Keep w wr (.slice (some ⟨gm, 0, none⟩) cols.length vc) vs' ((subM p R iv row nn u M').set u (subR p (M'.getD u []) (M'.getD nn []) kq 0))) := by
                      show Keep _ _ _ _ _
                      rw [subR_zero, ← hgu, show (subM p R iv row nn u M').set u ((subM p R iv row nn u M').getD u []) = subM p R iv row nn u M' by
                        apply List.ext_getElem?
                        intro q
                        by_cases hq : q = u
                        · subst hq
                          have : q < (subM p R iv row nn q M').length := by rw [subM_length, HM'l.out]; exact hult
                          rw [List.getElem?_set_self this]
                          simp [List.getD, this]
                        · rw [List.getElem?_set_ne (fun e => hq e.symm)]]
                      exact Hk.out
                    have Hin1 := Lib.hid hin1
                    have Hin2 := Lib.hid hin2
                    have Hvu := Lib.hid hvu
                    have Hgn := Lib.hid hgn
                    have hsl : (subM p R iv row nn u M').length = cols.length := by rw [subM_length, HM'l.out]
                    generalize subM p R iv row nn u M' = S at *
                    generalize M'.getD u [] = mu at *
                    have Hsl := Lib.hid hsl
                    clear hz hkq hgu hgn hin1 hin2 hcju hvu hsl Hk
                    go_wp2
                    go_loopw [18] (fun vj wq => ∃ j : Nat, vj = .int .i64 j ∧ j ≤ R ∧ Keep w wq (.slice (some ⟨gm, 0, none⟩) cols.length vc) vs' (S.set u (subR p mu (M'.getD nn []) kq j))) (fun vj _ => R - (intOf vj).toNat)
                    case atStart => exact ⟨0, rfl, Nat.zero_le _, Hk5.out⟩
                    case round =>
                      clear Hk5 hcmu hcz
                      obtain ⟨j, rfl, hj, hkeep⟩ := hrel
                      have Hk := Lib.hid hkeep
                      clear hkeep
                      by_cases hjR : j < R
                      · have hjR' : (j : Int) < (R : Int) := by omega
                        have huS : u < S.length := by rw [Hsl.out]; exact hult
                        have hg1 : (S.set u (subR p mu (M'.getD nn []) kq j)).getD u [] = subR p mu (M'.getD nn []) kq j := by simp [List.getD, huS]
                        have hg2 : (S.set u (subR p mu (M'.getD nn []) kq j)).getD nn [] = M'.getD nn [] := by
                          rw [List.getD_eq_getElem?_getD, List.getElem?_set_ne (by omega), ← List.getD_eq_getElem?_getD]
                          exact Hgn.out
                        have hmuR : j < mu.length := by rw [Hin1.out.1]; exact hjR
                        obtain ⟨gm5, gu5, cu5, hA5, -, hcm5, -, hvu5, -, hc5⟩ := Hk.out.at_ (i := u) (by rw [Hvl2.out]; exact hult) hR0 (by rw [hg1, subR_length]; exact Hin1.out.1)
                        obtain ⟨gm6, gx6, cx6, hA6, -, -, -, hvx6, -, hc6⟩ := Hk.out.at_ (i := nn) (by rw [Hvl2.out]; exact hnl) hR0 (by rw [hg2]; exact Hin2.out.1)
                        obtain rfl : gm5 = gm := by injection hA5 with hA5; injection hA5 with hA5; exact hA5.symm
                        obtain rfl : gu5 = gu := by rw [Hvu.out] at hvu5; injection hvu5 with e; injection e with e1; injection e1 with e1; injection e1 with e1; exact e1.symm
                        obtain rfl : cu5 = cu := by rw [Hvu.out] at hvu5; injection hvu5 with e; injection e with _ _ e; exact e.symm
                        obtain rfl : gx6 = ga := by rw [Hvnn.out] at hvx6; injection hvx6 with e; injection e with e1; injection e1 with e1; injection e1 with e1; exact e1.symm
                        have hcy := (hc5 j hjR).1
                        have hfy := (hc5 j hjR).2
                        have hcxx := (hc6 j hjR).1
                        rw [hg1, subR_getD hmuR, if_neg (by omega)] at hcy
                        rw [hg2] at hcxx
                        have hyr := Hin1.out.get (by omega) j
                        have hxxr := Hin2.out.get (by omega) j
                        have Hnext := Lib.hid (subR_step (p := p) (a := mu) (x := M'.getD nn []) (k := kq) (u := j))
                        have hq5 : (S.set u (subR p mu (M'.getD nn []) kq j))[u]? = some (subR p mu (M'.getD nn []) kq j) := by rw [List.getElem?_set_self huS]
                        have Hstore := Lib.hid (fun x => Hk.out.store (j := j) hvu5 hq5 (by rw [subR_length]; exact Hin1.out.1) x)
                        obtain ⟨y, hy⟩ : ∃ y, y = mu.getD j 0 := ⟨_, rfl⟩
                        obtain ⟨xx, hxx⟩ : ∃ xx, xx = (M'.getD nn []).getD j 0 := ⟨_, rfl⟩
                        rw [← hy] at hcy hyr Hnext
                        rw [← hxx] at hcxx hxxr Hnext
                        have hmk := mul_in h31 hkr.1 hkr.2 hxxr.1 hxxr.2
                        have hw1 : IntKind.i64.wrap (kq * xx) = kq * xx := by rw [IntKind.wrap_i64]; omega
                        have hw2 : IntKind.i64.wrap (y - kq * xx) = y - kq * xx := by rw [IntKind.wrap_i64]; omega
                        have Hq := Lib.hid (fun w => Hmod.out (y - kq * xx) w)
                        generalize (y - kq * xx) % p = q at *
                        clear hc5 hc6 hg1 hg2 hvu5 hvx6 hq5 hy hxx hA5 hA6 hmk hkt hmul hmz huS
                        go_wp2
                        refine wp_region_still_tail 22 (by kernel_rfl) (by kernel_rfl) ?_
                        simp only [List.take_succ_cons, List.take_zero, List.drop_succ_cons, List.drop_zero]
                        repeat still_step
                        still_call (Hq.out _)
                        repeat still_step
                        try refine wpStill_nil ?_
                        change wpList _ _ _ _ _ wr.drew
                        go_wp2
                        go_roundw
                        case rel =>
                          refine ⟨j + 1, by go_num, by omega, ?_⟩
                          have := (Hstore.out q).drew
                          rw [List.set_set, Hnext.out] at this
                          exact this
                        case measure => simp [intOf]; omega
                      · have hje : j = R := by omega
                        subst hje
                        have Hk6 := Lib.hid Hk.out
                        rw [Hstep.out] at Hk6
                        clear Hk
                        go_wp2
                        go_roundw
                        case rel => exact ⟨u + 1, by go_num, by omega, by omega, Hk6.out⟩
                        case measure => simp [intOf]; omega
                  · have hue : u = cols.length := by omega
                    have Hk7 := Lib.hid Hk.out
                    rw [show u = M'.length by rw [HM'l.out]; exact hue] at Hk7
                    have Hst3 := Lib.hid (steps_take (inv := iv) (by omega) Hst2.out HMin.out (by rw [HM'l.out]; exact hnl) hlt Hi1.out)
                    have HMin3 := Lib.hid (subM_in (inv := iv) (row := row) (n := nn) (u := M'.length) (by omega) HMin.out)
                    have Hml3 : Hid ((subM p R iv row nn M'.length M').length = cols.length) := by
                      show _ = _
                      rw [subM_length, HM'l.out]
                    clear Hk hue
                    go_wp2
                    go_roundw
                    case rel => exact ⟨nn + 1, row + 1, vs', _, by go_num, by go_num, by omega, by omega, Hk7.out, Hml3.out, HMin3.out, Hst3.out⟩
                    case measure => simp [intOf]; omega
        · have hre : row = R := by omega
          subst hre
          have Hfin : Hid (rr = nn) := Hrr.out.trans (Hst.out.rank (fld_ok HP.out))
          obtain rfl := Hfin.out
          go_wp2
          go_ret
          exact ⟨rfl, Hk.out.bel⟩

end Wp
end Go.Proofs.YtmnhpccdhefddaaDoor
