/- The document's May, walked: what may be columns. -/
import Derived.Test.YtmnhpccdhefddaaDoorLBasis
import Derived.Test.YtmnhpccdhefddaaDoorMRefI
namespace Go.Proofs.YtmnhpccdhefddaaDoor
open Go.RowKit
namespace Wp

theorem refprime_is (p : Int) (b : Bool) (h : prB p = b) (w : World) : Calls Tryd.prog 23 #[.int .i64 p] w (Gets w (.bool b)) := by
  subst h
  exact refprime_any p w

theorem any_hit {p rows : Int} {cols : List (List Int)} {i : Nat} (hi : i < cols.length) (h : badRow p rows (cols.getD i []) = true) : cols.any (badRow p rows) = true :=
  List.any_eq_true.2 ⟨cols[i], List.getElem_mem hi, by simpa [List.getD, hi] using h⟩
theorem any_miss {p rows : Int} {cols : List (List Int)} (h : ∀ i, i < cols.length → badRow p rows (cols.getD i []) = false) : cols.any (badRow p rows) = false := by
  rw [List.any_eq_false]
  intro c hc
  obtain ⟨i, hi, rfl⟩ := List.mem_iff_getElem.1 hc
  have := h i hi
  simpa [List.getD, hi] using this
theorem bad_hit {p rows : Int} {col : List Int} {k : Nat} (hk : k < col.length) (h : wrongB p (col.getD k 0) = true) : badRow p rows col = true := by
  unfold badRow
  rw [Bool.or_eq_true]
  exact .inr (List.any_eq_true.2 ⟨col[k], List.getElem_mem hk, by simpa [List.getD, hk] using h⟩)
theorem bad_miss {p rows : Int} {col : List Int} (hl : (col.length : Int) = rows) (h : ∀ k, k < col.length → wrongB p (col.getD k 0) = false) : badRow p rows col = false := by
  unfold badRow
  rw [decide_eq_false (by omega), Bool.false_or, List.any_eq_false]
  intro x hx
  obtain ⟨i, hi, rfl⟩ := List.mem_iff_getElem.1 hx
  have := h i hi
  simpa [List.getD, hi] using this

set_option maxHeartbeats 4000000 in
set_option maxRecDepth 100000 in
theorem refmayE_any (p rows : Int) (v : Value) (cols : List (List Int)) (w : World) (hr : Rows2 w w.heap.size v cols) :
    Calls Tryd.prog 10 #[.int .i64 p, .int .i64 rows, v] w (Says w (elimB p rows cols)) := by
  obtain ⟨A, c, rfl, hn, hcell⟩ := hr
  have Hcell := Lib.hid hcell
  have hlm : (cols.length : Int) ≤ 9223372036854775807 := by have := hn.1; have := hn.2.1; unfold maxLen at *; omega
  clear hn hcell
  unfold elimB
  rcases hp : prB p with _ | _
  · simp only [Bool.false_and]
    have HP := Lib.hid hp
    clear hp
    go_enter Tryd.func10, Tryd.ntmps10
    go_wp2_with fail
    refine (refprime_is p false HP.out _).mono ?_
    rintro e w1 ⟨rfl, hb1⟩
    go_wp2
    go_ret
    exact ⟨rfl, hb1⟩
  · simp only [Bool.true_and]
    have HP := Lib.hid hp
    clear hp
    by_cases h1 : rows < 0
    · rw [decide_eq_false (show ¬ (0 ≤ rows ∧ rows ≤ 64) by omega)]
      simp only [Bool.false_and]
      go_enter Tryd.func10, Tryd.ntmps10
      go_wp2_with fail
      refine (refprime_is p true HP.out _).mono ?_
      rintro e w1 ⟨rfl, hb1⟩
      go_wp2
      go_ret
      exact ⟨rfl, hb1⟩
    · have h1' : 0 ≤ rows := by omega
      clear h1
      by_cases h2 : 64 < rows
      · rw [decide_eq_false (show ¬ (0 ≤ rows ∧ rows ≤ 64) by omega)]
        simp only [Bool.false_and]
        go_enter Tryd.func10, Tryd.ntmps10
        go_wp2_with fail
        refine (refprime_is p true HP.out _).mono ?_
        rintro e w1 ⟨rfl, hb1⟩
        go_wp2
        go_ret
        exact ⟨rfl, hb1⟩
      · have h2' : rows ≤ 64 := by omega
        rw [decide_eq_true (show 0 ≤ rows ∧ rows ≤ 64 from ⟨h1', h2'⟩), Bool.true_and]
        clear h2
        by_cases h3 : cols.length ≤ 64
        · rw [decide_eq_true h3, Bool.true_and]
          have h3' : (cols.length : Int) ≤ 64 := by omega
          obtain ⟨R, rfl⟩ : ∃ R : Nat, rows = (R : Int) := ⟨rows.toNat, by omega⟩
          obtain ⟨r, hre⟩ : ∃ r, r = !cols.any (badRow p R) := ⟨_, rfl⟩
          rw [← hre]
          have Hre := Lib.hid hre
          clear hre
          go_enter Tryd.func10, Tryd.ntmps10
          go_wp2_with fail
          refine (refprime_is p true HP.out _).mono ?_
          rintro e w1 ⟨rfl, hb1⟩
          have Hb1 := Lib.hid hb1
          clear hb1
          go_wp2
          go_loop [7] (fun vi => ∃ i : Nat, vi = .int .i64 i ∧ i ≤ cols.length ∧ ∀ j, j < i → badRow p R (cols.getD j []) = false) (fun vi => cols.length - (intOf vi).toNat)
          case atStart => exact ⟨0, rfl, Nat.zero_le _, fun j hj => absurd hj (Nat.not_lt_zero _)⟩
          case round =>
            obtain ⟨i, rfl, hi, hok⟩ := hrel
            have Hok := Lib.hid hok
            clear hok
            by_cases hlt : i < cols.length
            · obtain ⟨ad, u, hA, hab, hc1, hru⟩ := Hcell.out i hlt
              subst hA
              have hcw := (Hb1.out.cell (p := ad.add i) (by rw [add_block]; exact hab)).trans hc1
              obtain ⟨Ac, cc, rfl, _, hcr⟩ := hru
              have Hhit := Lib.hid (any_hit (p := p) (rows := R) hlt)
              have Hok1 : Hid (badRow p R (cols.getD i []) = false → ∀ j, j < i + 1 → badRow p R (cols.getD j []) = false) := by
                intro hb j hj
                by_cases e : j = i
                · rw [e]; exact hb
                · exact Hok.out j (by omega)
              generalize cols.getD i [] = col at *
              have Hcr := Lib.hid hcr
              have hlt' : (i : Int) < (cols.length : Int) := by omega
              clear hcr hc1
              by_cases hl : (col.length : Int) = (R : Int)
              · have hl' : col.length = R := by omega
                have hne : ((col.length : Int) != (R : Int)) = false := by simp [hl']
                have HL := Lib.hid hl'
                clear hl
                rw [hl'] at hne hcw
                clear hl'
                go_wp2
                go_loop [8] (fun vk => ∃ k : Nat, vk = .int .i64 k ∧ k ≤ R ∧ ∀ j, j < k → wrongB p (col.getD j 0) = false) (fun vk => R - (intOf vk).toNat)
                case atStart => exact ⟨0, rfl, Nat.zero_le _, fun j hj => absurd hj (Nat.not_lt_zero _)⟩
                case round =>
                  obtain ⟨k, rfl, hk, hz⟩ := hrel
                  have Hz := Lib.hid hz
                  clear hz
                  by_cases hkR : k < R
                  · obtain ⟨ac, hAc, hacb, hcc⟩ := Hcr.out k (by rw [HL.out]; exact hkR)
                    subst hAc
                    have hcx := (Hb1.out.cell (p := ac.add k) (by rw [add_block]; exact hacb)).trans hcc
                    have hkR' : (k : Int) < (R : Int) := by omega
                    have Hbad := Lib.hid (bad_hit (p := p) (rows := R) (col := col) (k := k) (by rw [HL.out]; exact hkR))
                    have Hz1 : Hid (wrongB p (col.getD k 0) = false → ∀ j, j < k + 1 → wrongB p (col.getD j 0) = false) := by
                      intro hb j hj
                      by_cases e : j = k
                      · rw [e]; exact hb
                      · exact Hz.out j (by omega)
                    generalize col.getD k 0 = x at *
                    clear hcc
                    by_cases hx1 : x < 0
                    · have Hr : Hid (r = false) := Hre.out.trans (by rw [Hhit.out (Hbad.out (decide_eq_true (.inl hx1)))]; rfl)
                      obtain rfl := Hr.out
                      go_wp2
                      go_ret
                      exact ⟨rfl, Hb1.out⟩
                    · have hx1' : 0 ≤ x := by omega
                      clear hx1
                      by_cases hx2 : p ≤ x
                      · have Hr : Hid (r = false) := Hre.out.trans (by rw [Hhit.out (Hbad.out (decide_eq_true (.inr hx2)))]; rfl)
                        obtain rfl := Hr.out
                        go_wp2
                        go_ret
                        exact ⟨rfl, Hb1.out⟩
                      · have hx2' : x < p := by omega
                        have Hw : Hid (wrongB p x = false) := decide_eq_false (by omega)
                        clear hx2
                        go_wp2
                        go_round
                        case rel => exact ⟨k + 1, by go_num, by omega, Hz1.out Hw.out⟩
                        case measure => simp [intOf]; omega
                  · have hke : k = R := by omega
                    subst hke
                    have Hb : Hid (badRow p k col = false) := bad_miss (by rw [HL.out]) (by rw [HL.out]; exact Hz.out)
                    go_wp2
                    go_round
                    case rel => exact ⟨i + 1, by go_num, by omega, Hok1.out Hb.out⟩
                    case measure => simp [intOf]; omega
              · have hne : ((col.length : Int) != (R : Int)) = true := by simpa using hl
                have Hr : Hid (r = false) := Hre.out.trans (by
                  rw [Hhit.out (by unfold badRow; rw [decide_eq_true hl, Bool.true_or])]
                  rfl)
                obtain rfl := Hr.out
                clear hl
                go_wp2
                go_ret
                exact ⟨rfl, Hb1.out⟩
            · have hie : i = cols.length := by omega
              subst hie
              have Hr : Hid (r = true) := Hre.out.trans (by rw [any_miss Hok.out]; rfl)
              obtain rfl := Hr.out
              go_wp2
              go_ret
              exact ⟨rfl, Hb1.out⟩
        · rw [decide_eq_false h3, Bool.false_and]
          have h3' : 64 < (cols.length : Int) := by omega
          clear h3
          go_enter Tryd.func10, Tryd.ntmps10
          go_wp2_with fail
          refine (refprime_is p true HP.out _).mono ?_
          rintro e w1 ⟨rfl, hb1⟩
          go_wp2
          go_ret
          exact ⟨rfl, hb1⟩

end Wp
end Go.Proofs.YtmnhpccdhefddaaDoor
