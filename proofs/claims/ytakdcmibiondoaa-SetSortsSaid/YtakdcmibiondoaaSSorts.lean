/- The law on what is sorted, walked: it answers true. -/
import Derived.Test.YtakdcmibiondoaaSLaw
import Derived.Deep.AppendLies
import Derived.Deep.RegionLaw
namespace Go.Proofs.Ytakdcmibiondoaa
open Go.RowKit
namespace Wp

theorem sortL_ext {a b : List Int} (h : ∀ z, z ∈ a ↔ z ∈ b) : sortL a = sortL b :=
  (sortL_set a).ext (sortL_set b) fun x => by rw [mem_sortL, mem_sortL, h]
theorem has_sort (l : List Int) (x : Int) : hasB (sortL l) x = decide (x ∈ l ∧ Fit x) := by
  rw [Bool.eq_iff_iff, has_iff (sortL_set l), mem_sortL, decide_eq_true_iff]

/-- What has been laid into back, behind k. -/
def Backs (l : List Int) (k : Nat) (bk : List Int) : Prop := bk.length = 2 * (l.length - k) ∧ ∀ z, z ∈ bk ↔ z ∈ l.drop k
theorem backs_start (l : List Int) : Backs l l.length [] := ⟨by simp, fun z => by simp⟩
theorem backs_step {l bk : List Int} {j : Nat} (hj : j < l.length) (h : Backs l (j + 1) bk) : Backs l j (bk ++ [l.getD j 0, l.getD j 0]) := by
  refine ⟨by simp [h.1]; omega, fun z => ?_⟩
  have e : l.drop j = l.getD j 0 :: l.drop (j + 1) := by
    rw [List.drop_eq_getElem_cons hj]; simp [List.getD, hj]
  rw [e, List.mem_append, h.2 z, List.mem_cons]
  simp
  exact Or.comm
/-- Is x among those from k on, and may it be in a set? -/
def among (l : List Int) (x : Int) (k : Nat) : Bool := decide (x ∈ l.drop k ∧ Fit x)
theorem among_start (l : List Int) (x : Int) : among l x l.length = false := by simp [among]
theorem among_step {l : List Int} {x : Int} {j : Nat} (hj : j < l.length) : among l x j = (among l x (j + 1) || decide (l.getD j 0 = x ∧ Fit x)) := by
  have e : l.drop j = l.getD j 0 :: l.drop (j + 1) := by
    rw [List.drop_eq_getElem_cons hj]; simp [List.getD, hj]
  unfold among
  rw [e, Bool.eq_iff_iff, Bool.or_eq_true, decide_eq_true_iff, decide_eq_true_iff, decide_eq_true_iff, List.mem_cons]
  constructor
  · rintro ⟨e | h, h'⟩
    · exact .inr ⟨e.symm, h'⟩
    · exact .inl ⟨h, h'⟩
  · rintro (⟨h, h'⟩ | ⟨h, h'⟩)
    · exact ⟨.inr h, h'⟩
    · exact ⟨.inl h.symm, h'⟩

theorem lit_cell2 (w : World) (t : TypeId) (u : Value) : ∀ (j : Nat) (v : Value), [u, u][j]? = some v → (w.alloc (.cells #[u, u] t)).cell? ((⟨w.heap.size, 0, none⟩ : Addr).add j) = some v := by
  intro j v hj
  have hb := Blk.new w t #[u, u]
  match j, hj with
  | 0, hj => simp at hj; subst hj; exact hb.cell 0
  | 1, hj => simp at hj; subst hj; exact hb.cell 1

set_option maxHeartbeats 4000000 in
set_option maxRecDepth 100000 in
theorem sorts_in (v : Value) (l : List Int) (x : Int) (w : World) (r_l : Row w w.heap.size v l) (hl : l.length ≤ 100) :
    Calls Try.prog 6 #[v, .int .i64 x] w (Truly w) := by
  have Hrl := Lib.hid r_l
  obtain ⟨A1, c1, rfl, _, hcell⟩ := r_l
  have Hcell := Lib.hid hcell
  clear hcell
  have hl' : (l.length : Int) ≤ 100 := by omega
  obtain ⟨i0, hi, hz0, hz1, hz2⟩ := info_parts info3
  go_enter Try.func6, Try.ntmps6
  go_wp2_with fail
  refine (fixed_any w).mono ?_
  rintro e w1 ⟨rfl, hb1⟩
  have hown0 : (w1.alloc (.cells #[] 3)).ownsRow w.heap.size 3 1 (.slice (some ⟨w1.heap.size, 0, none⟩) 0 0) 0 [] :=
    World.ownsRow_made w1 #[] 0 hb1.size (by unfold maxLen; omega) rfl
  have hB0 : Below w.heap.size w (w1.alloc (.cells #[] 3)) := hb1.alloc hb1.size _
  clear hb1
  go_wp2
  go_loopw [5, 6, 7] (fun vb vin vi wr => ∃ (z : Int) (k : Nat) (bk : List Int), vi = .int .i64 z ∧ z = (k : Int) - 1 ∧ k ≤ l.length ∧ vin = .bool (among l x k) ∧ Backs l k bk ∧ wr.ownsRow w.heap.size 3 1 vb bk.length (ints bk) ∧ Below w.heap.size w wr) (fun _ _ vi _ => (intOf vi + 1).toNat)
  case atStart => exact ⟨_, l.length, [], rfl, rfl, Nat.le_refl _, by rw [among_start], backs_start l, hown0, hB0⟩
  case round =>
    obtain ⟨z, k, bk, rfl, hz, hk, rfl, hbk, hown, hbr⟩ := hrel
    rcases k with _ | j
    · have hz' : z = -1 := by omega
      subst hz'
      clear hz
      have hbk2 : bk.length ≤ 200 := by have := hbk.1; omega
      have Hext : Hid (sortL bk = sortL l) := by
        show sortL bk = sortL l
        exact sortL_ext fun z => by rw [hbk.2 z]; rfl
      have r_l := Hrl.out.below hbr |>.mono hbr.size
      have r_k := Row.of_own hown rfl
      have hin := has_sort l x
      change _ = among l x 0 at hin
      generalize among l x 0 = inb at hin
      have Hin := Lib.hid hin
      have hsl := sortL_length l
      have hss := sortL_length (sortL l)
      have hsk := sortL_length bk
      clear hin hbk hown hown0 hB0
      go_wp2_with fail
      refine (sort_any _ l _ r_l (by omega)).mono ?_
      rintro e w21 ⟨v_s, rfl, r_s, hb1⟩
      have hB1 : Below w.heap.size w w21 := below_next hbr (Nat.le_refl _) hb1
      have r_l' := r_l.up hb1
      clear r_l
      have r_l := r_l'
      clear r_l'
      have r_k' := r_k.up hb1
      clear r_k
      have r_k := r_k'
      clear r_k'
      clear hb1
      go_wp2_with fail
      refine (may_is _ _ _ r_s (by omega) (mayB_of (sortL_set l))).mono ?_
      rintro e w22 ⟨rfl, hb2⟩
      have hB2 : Below w.heap.size w w22 := below_next hB1 (Nat.le_refl _) hb2
      have r_l' := r_l.up hb2
      clear r_l
      have r_l := r_l'
      clear r_l'
      have r_k' := r_k.up hb2
      clear r_k
      have r_k := r_k'
      clear r_k'
      have r_s' := r_s.up hb2
      clear r_s
      have r_s := r_s'
      clear r_s'
      clear hb2 hB1
      go_wp2_with fail
      refine (sort_any _ (sortL l) _ r_s (by omega)).mono ?_
      rintro e w23 ⟨v_t, rfl, r_t, hb3⟩
      have hB3 : Below w.heap.size w w23 := below_next hB2 (Nat.le_refl _) hb3
      have r_l' := r_l.up hb3
      clear r_l
      have r_l := r_l'
      clear r_l'
      have r_k' := r_k.up hb3
      clear r_k
      have r_k := r_k'
      clear r_k'
      have r_s' := r_s.up hb3
      clear r_s
      have r_s := r_s'
      clear r_s'
      clear hb3 hB2
      go_wp2_with fail
      refine (same_is _ _ _ _ _ r_t r_s (by omega) (by omega) (same_true (sortL_id (sortL_set l)))).mono ?_
      rintro e w24 ⟨rfl, hb4⟩
      have hB4 : Below w.heap.size w w24 := below_next hB3 (Nat.le_refl _) hb4
      have r_l' := r_l.up hb4
      clear r_l
      have r_l := r_l'
      clear r_l'
      have r_k' := r_k.up hb4
      clear r_k
      have r_k := r_k'
      clear r_k'
      have r_s' := r_s.up hb4
      clear r_s
      have r_s := r_s'
      clear r_s'
      have r_t' := r_t.up hb4
      clear r_t
      have r_t := r_t'
      clear r_t'
      clear hb4 hB3
      clear r_t
      go_wp2_with fail
      refine (sort_any _ bk _ r_k (by omega)).mono ?_
      rintro e w25 ⟨v_t, rfl, r_t, hb5⟩
      have hB5 : Below w.heap.size w w25 := below_next hB4 (Nat.le_refl _) hb5
      have r_l' := r_l.up hb5
      clear r_l
      have r_l := r_l'
      clear r_l'
      have r_k' := r_k.up hb5
      clear r_k
      have r_k := r_k'
      clear r_k'
      have r_s' := r_s.up hb5
      clear r_s
      have r_s := r_s'
      clear r_s'
      clear hb5 hB4
      go_wp2_with fail
      refine (same_is _ _ _ _ _ r_t r_s (by omega) (by omega) (same_true Hext.out)).mono ?_
      rintro e w26 ⟨rfl, hb6⟩
      have hB6 : Below w.heap.size w w26 := below_next hB5 (Nat.le_refl _) hb6
      have r_l' := r_l.up hb6
      clear r_l
      have r_l := r_l'
      clear r_l'
      have r_k' := r_k.up hb6
      clear r_k
      have r_k := r_k'
      clear r_k'
      have r_s' := r_s.up hb6
      clear r_s
      have r_s := r_s'
      clear r_s'
      have r_t' := r_t.up hb6
      clear r_t
      have r_t := r_t'
      clear r_t'
      clear hb6 hB5
      clear r_t
      go_wp2_with fail
      refine (has_is _ _ x _ r_s (by omega) Hin.out).mono ?_
      rintro e w27 ⟨rfl, hb7⟩
      have hB7 : Below w.heap.size w w27 := below_next hB6 (Nat.le_refl _) hb7
      have r_l' := r_l.up hb7
      clear r_l
      have r_l := r_l'
      clear r_l'
      have r_k' := r_k.up hb7
      clear r_k
      have r_k := r_k'
      clear r_k'
      have r_s' := r_s.up hb7
      clear r_s
      have r_s := r_s'
      clear r_s'
      clear hb7 hB6
      cases inb
      ·
        go_wp2
        go_ret
        exact ⟨rfl, hB7⟩
      ·
        go_wp2
        go_ret
        exact ⟨rfl, hB7⟩
    · have hz' : z = (j : Int) := by omega
      subst hz'
      clear hz
      obtain ⟨ad, hA, hab, hc⟩ := Hcell.out j (by omega)
      subst hA
      have g1 : wr.cell? (ad.add j) = some (.int .i64 (l.getD j 0)) := (hbr.cell (by rw [add_block]; exact hab)).trans hc
      have hjl : (j : Int) < (l.length : Int) := by omega
      have Hbs := Lib.hid (backs_step (by omega) hbk)
      have Hal := Lib.hid (among_step (l := l) (x := x) (j := j) (by omega))
      have hbl : bk.length ≤ 200 := by have := hbk.1; omega
      clear hbk
      generalize l.getD j 0 = y at g1 hc Hbs Hal
      have Hc := Lib.hid hc
      clear hc
      generalize among l x (j + 1) = inb at Hal
      go_wp2
      go_region_law (refine step_append_lies _ rfl _ _ 22 rfl w.heap.size 3 i0 (.int .i64 0) 1 8 (by kernel_rfl) hi hz0 hz1 hz2 rfl (by decide) _ bk.length (ints bk) rfl (hown.alloc _).drew _ 2 2 [.int .i64 y, .int .i64 y] rfl rfl (fun a b h => by exact lit_cell2 _ _ _ a b h) (by intro u hu; simp at hu; subst hu; rfl) (by decide) (by unfold maxLen; omega) (by omega) (by have := hbr.size; simp; omega) _ rfl ?_; intro g cap w4 hown' hgrow _ _)
      all_goals
        have hB4 : Below w.heap.size w w4 := ((hbr.alloc hbr.size (.cells #[.int .i64 y, .int .i64 y] 3)).drew).grown hgrow (by have := hbr.size; simp; omega) (fun i hi => (hown.lt i hi).1)
        have g4 : w4.cell? (ad.add j) = some (.int .i64 y) := (hB4.cell (by rw [add_block]; exact hab)).trans Hc.out
        clear hgrow g1 hown hown0 hB0
        cases inb
        · by_cases hyx : y = x
          · subst hyx
            by_cases h0 : 0 ≤ y
            · by_cases h1 : y ≤ 1099511627776
              ·
                have Hin : Hid (among l y j = true) := by
                  show among l y j = true
                  rw [Hal.out]
                  simp [Fit, h0, h1]
                clear Hal
                go_wp2
                go_roundw
                case rel => exact ⟨_, j, bk ++ [y, y], rfl, rfl, by omega, by rw [Hin.out], Hbs.out, by rw [ints_append, List.length_append]; exact hown', hB4⟩
                case measure => simp [intOf]
              ·
                have h1' : decide (y ≤ 1099511627776) = false := by simp; omega
                have Hin : Hid (among l y j = false) := by
                  show among l y j = false
                  rw [Hal.out]
                  simp [Fit, h1]
                clear Hal
                go_wp2
                go_roundw
                case rel => exact ⟨_, j, bk ++ [y, y], rfl, rfl, by omega, by rw [Hin.out], Hbs.out, by rw [ints_append, List.length_append]; exact hown', hB4⟩
                case measure => simp [intOf]
            ·
              have h0' : decide (0 ≤ y) = false := by simp; omega
              have Hin : Hid (among l y j = false) := by
                show among l y j = false
                rw [Hal.out]
                simp [Fit, h0]
              clear Hal
              go_wp2
              go_roundw
              case rel => exact ⟨_, j, bk ++ [y, y], rfl, rfl, by omega, by rw [Hin.out], Hbs.out, by rw [ints_append, List.length_append]; exact hown', hB4⟩
              case measure => simp [intOf]
          ·
            have hyx' : (y == x) = false := by simp [hyx]
            have Hin : Hid (among l x j = false) := by
              show among l x j = false
              rw [Hal.out]
              simp [hyx]
            clear Hal
            go_wp2
            go_roundw
            case rel => exact ⟨_, j, bk ++ [y, y], rfl, rfl, by omega, by rw [Hin.out], Hbs.out, by rw [ints_append, List.length_append]; exact hown', hB4⟩
            case measure => simp [intOf]
        ·
          have Hin : Hid (among l x j = true) := by
            show among l x j = true
            rw [Hal.out]
            simp
          clear Hal
          go_wp2
          go_roundw
          case rel => exact ⟨_, j, bk ++ [y, y], rfl, rfl, by omega, by rw [Hin.out], Hbs.out, by rw [ints_append, List.length_append]; exact hown', hB4⟩
          case measure => simp [intOf]

set_option maxHeartbeats 1000000 in
set_option maxRecDepth 100000 in
theorem sorts_out (v : Value) (l : List Int) (x : Int) (w : World) (r_l : Row w w.heap.size v l) (hl : 100 < l.length) :
    Calls Try.prog 6 #[v, .int .i64 x] w (Truly w) := by
  obtain ⟨A1, c1, rfl, _⟩ := r_l
  have hl' : (100 : Int) < (l.length : Int) := by omega
  go_enter Try.func6, Try.ntmps6
  go_wp2_with fail
  refine (fixed_any w).mono ?_
  rintro e w1 ⟨rfl, hb1⟩
  go_wp2_with fail
  refine (fixed_any w1).mono ?_
  rintro e w2 ⟨rfl, hb2⟩
  go_wp2
  go_ret
  exact ⟨rfl, below_next hb1 (Nat.le_refl _) hb2⟩

theorem sorts_any (v : Value) (l : List Int) (x : Int) (w : World) (r_l : Row w w.heap.size v l) :
    Calls Try.prog 6 #[v, .int .i64 x] w (Truly w) := by
  by_cases h : 100 < l.length
  · exact sorts_out v l x w r_l h
  · exact sorts_in v l x w r_l (by omega)

end Wp
end Go.Proofs.Ytakdcmibiondoaa
