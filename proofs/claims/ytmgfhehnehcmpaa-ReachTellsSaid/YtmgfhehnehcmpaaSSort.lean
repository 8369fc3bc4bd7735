/- The program's Sort, walked: what fits, sorted, each once. -/
import Derived.Test.YtmgfhehnehcmpaaSMay
import Derived.Test.YtmgfhehnehcmpaaSShelf
import Derived.Sort.OwnSortedInts
import Derived.Lib.OwnBridge
namespace Go.Proofs
open Go.RowKit Go.Sort Go.Lib
namespace Ytmgfhehnehcmpaa.Wp

theorem below_grow {B : Nat} {w0 w : World} (h : Below B w0 w) (hB : B ≤ w.heap.size) (os : Array Obj) : Below B w0 (grow w os) :=
  h.grown (row := none) ⟨rfl, rfl, rfl, by simp [grow], fun k hk _ => by simp [grow, Array.getElem?_append, hk]⟩ hB (fun _ h => by cases h)

theorem sort_own (base : Nat) (v : Value) (zs : List Int) (w : World) (hown : w.ownsRow base 3 1 v zs.length (ints zs)) (hz : zs.length ≤ 2097152) :
    Calls Try.prog 45 #[v] w fun e w' => e = .returned (.tuple #[]) ∧ w'.ownsRow base 3 1 v zs.length (ints (zs.mergeSort fun x y => decide (x ≤ y))) ∧ w.grownBy w' v.ownBlock := by
  rcases hown.2 with ⟨rfl, h0⟩ | ⟨g, cap, cur, rfl, hbase, hb, h1, h2, h3, h4⟩
  · have hzs : zs = [] := List.eq_nil_of_length_eq_zero h0
    subst hzs
    refine (Try.slices_Sort_int_none none 0 w).mono ?_
    rintro e w' ⟨rfl, rfl⟩
    refine ⟨rfl, ?_, ⟨rfl, rfl, rfl, Nat.le_refl _, fun _ _ _ => rfl⟩⟩
    have e : ([] : List Int).mergeSort (fun x y => decide (x ≤ y)) = [] := by simp
    rw [e]
    exact hown
  · have hH := holds_of_blockI (ss := zs) hb (by simpa [ints] using h4)
    refine (Try.slices_Sort_int g 0 cap zs w hH (Array.getElem?_eq_some_iff.1 hb).1 (by omega)).mono ?_
    rintro e w' ⟨rfl, nn, os, rfl⟩
    refine ⟨rfl, ?_, grownBy_sortedI _⟩
    have h := ownsRow_sortedI (n := nn) (os := os) (ss := zs) (ts := zs.mergeSort fun x y => decide (x ≤ y)) (by simp) hbase hb h1 h2 h3
    simpa [ints] using h

theorem compact_own (base : Nat) (v : Value) (zs : List Int) (w : World) (hown : w.ownsRow base 3 1 v zs.length (ints zs)) (hz : zs.length ≤ 2097152) :
    Calls Try.prog 46 #[v] w fun e w' => ∃ v', e = .returned v' ∧ w'.ownsRow base 3 1 v' (Lib.compact zs).length (ints (Lib.compact zs)) ∧ w.grownBy w' v.ownBlock := by
  rcases hown.2 with ⟨rfl, h0⟩ | ⟨g, cap, cur, rfl, hbase, hb, h1, h2, h3, h4⟩
  · have hzs : zs = [] := List.eq_nil_of_length_eq_zero h0
    subst hzs
    refine (Try.slices_Compact_int_empty none 0 w).mono ?_
    rintro e w' ⟨rfl, rfl⟩
    refine ⟨_, rfl, ?_, ⟨rfl, rfl, rfl, Nat.le_refl _, fun _ _ _ => rfl⟩⟩
    have e : Lib.compact ([] : List Int) = [] := by simp [Lib.compact, Lib.compactUpTo]
    rw [e]
    exact hown
  · have hH := holds_of_blockI (ss := zs) hb (by simpa [ints] using h4)
    refine (Try.slices_Compact_int g 0 cap zs w hH (by omega) h1).mono ?_
    rintro e w' ⟨rfl, q, rfl⟩
    have hc : (Lib.compact zs).length ≤ zs.length := Lib.compact_length_le zs
    refine ⟨_, rfl, ?_, ?_⟩
    · have h := Lib.ownsRow_putRow (q := q) (k := (Lib.compact zs).length) (ys := Lib.compact zs ++ List.replicate (zs.length - (Lib.compact zs).length) 0) (enc := Value.int .i64) (zs := zs) hown (by simp; omega) hc
      simpa [ints] using h
    · exact ⟨rfl, rfl, rfl, by simp [putRow, mapBlock, Sort.ahead], fun k hk hne => by
        have : g ≠ k := by intro e; exact hne (by rw [e]; rfl)
        simp [putRow, mapBlock, Sort.ahead, Array.getElem?_modify, this]⟩

/-- What fits of the first k numbers. -/
def fitsOf (l : List Int) (k : Nat) : List Int := (l.take k).filter fun x => decide (Fit x)
theorem fitsOf_yes (l : List Int) (k : Nat) (h : k < l.length) (hf : Fit (l.getD k 0)) : fitsOf l (k + 1) = fitsOf l k ++ [l.getD k 0] := by
  unfold fitsOf
  rw [List.take_succ_eq_append_getElem h, List.filter_append]
  have e : l[k] = l.getD k 0 := by simp [List.getD, h]
  rw [e]
  congr 1
  rw [List.filter_cons, if_pos (by simpa using hf)]
  rfl
theorem fitsOf_no (l : List Int) (k : Nat) (h : k < l.length) (hf : ¬ Fit (l.getD k 0)) : fitsOf l (k + 1) = fitsOf l k := by
  unfold fitsOf
  rw [List.take_succ_eq_append_getElem h, List.filter_append]
  have e : l[k] = l.getD k 0 := by simp [List.getD, h]
  rw [e, List.filter_cons, if_neg (by simpa using hf)]
  simp
theorem fitsOf_length (l : List Int) (k : Nat) : (fitsOf l k).length ≤ l.length := by
  unfold fitsOf
  refine Nat.le_trans (List.length_filter_le _ _) ?_
  simp
  omega
theorem fitsOf_all (l : List Int) : Lib.compact ((fitsOf l l.length).mergeSort fun x y => decide (x ≤ y)) = sortL l := by
  unfold fitsOf
  rw [List.take_length]
  exact sortL_program l

set_option maxHeartbeats 4000000 in
set_option maxRecDepth 100000 in
theorem sort_any (v : Value) (l : List Int) (w : World) (hr : Row w w.heap.size v l) (hl : l.length ≤ 2097152) : Calls Try.prog 31 #[v] w (Gives w (sortL l)) := by
  obtain ⟨A, c, rfl, _, hcell⟩ := hr
  have Hcell := Lib.hid hcell
  clear hcell
  have hl' : (l.length : Int) ≤ 2097152 := by omega
  obtain ⟨i0, hi, hz0, hz1, hz2⟩ := info_parts info3
  have Hall := Lib.hid (fitsOf_all l)
  go_enter Try.func31, Try.ntmps31
  go_wp2
  go_loopw [3, 8] (fun vs vk wr => ∃ k : Nat, vk = .int .i64 k ∧ k ≤ l.length ∧ wr.ownsRow w.heap.size 3 1 vs (fitsOf l k).length (ints (fitsOf l k)) ∧ Below w.heap.size w wr) (fun _ vk _ => l.length - (intOf vk).toNat)
  case atStart => exact ⟨0, rfl, Nat.zero_le _, World.ownsRow_nil _ _ _ _, Below.refl _ _⟩
  case round =>
    obtain ⟨k, rfl, hk, hown, hbr⟩ := hrel
    by_cases hlt : k < l.length
    · obtain ⟨ad, hA, hab, hc⟩ := Hcell.out k hlt
      subst hA
      have g1 : wr.cell? (ad.add k) = some (.int .i64 (l.getD k 0)) := (hbr.cell (by rw [add_block]; exact hab)).trans hc
      clear hc
      have hfl := fitsOf_length l k
      have Hyes := Lib.hid (fitsOf_yes l k hlt)
      have Hno := Lib.hid (fitsOf_no l k hlt)
      generalize l.getD k 0 = x at g1 Hyes Hno
      by_cases hx : Fit x
      · have hfx := fits_is x true (by simp [hx])
        have Hx := Lib.hid (Hyes.out hx)
        clear Hyes Hno
        go_wp2_with (first
          | (go_at_call 44; refine (hfx _).mono ?_; rintro e w' ⟨rfl, rfl⟩)
          | (at_builtin; refine wpList_append_own _ rfl _ _ 25 rfl w.heap.size 3 i0 (.int .i64 0) 1 8 (by kernel_rfl) hi hz0 hz1 hz2 rfl (by decide) _ _ _ rfl (hown.alloc _) ⟨w'.heap.size, 0, none⟩ 1 1 [Value.int .i64 x] rfl rfl ?c1 ?c2 ?c3 ?c4 ?c5 ?_))
        case c1 => exact lit_cell _ _ _
        case c2 => exact lit_one x
        case c3 => unfold maxLen; omega
        case c4 => omega
        case c5 => have := hbr.size; simp; omega
        intro v' w4 hown' hgrow _
        have hB4 : Below w.heap.size w w4 := (hbr.alloc hbr.size _).grown hgrow (by have := hbr.size; simp; omega) (fun i hi => (hown.lt i hi).1)
        go_wp2
        go_roundw
        case rel => exact ⟨k + 1, by go_num, by omega, by rw [Hx.out, ints_append, List.length_append]; exact hown', hB4⟩
        case measure => simp [intOf]; omega
      · have hfx := fits_is x false (by simp [hx])
        have Hx := Lib.hid (Hno.out hx)
        clear Hyes Hno
        go_wp2_with (go_at_call 44; refine (hfx _).mono ?_; rintro e w' ⟨rfl, rfl⟩)
        go_roundw
        case rel => exact ⟨k + 1, by go_num, by omega, by rw [Hx.out]; exact hown, hbr⟩
        case measure => simp [intOf]; omega
    · have hke : k = l.length := by omega
      subst hke
      have hfl := fitsOf_length l l.length
      generalize fitsOf l l.length = zs at hown Hall hfl
      go_wp2_with fail
      refine (sort_own w.heap.size _ zs _ hown (by omega)).mono ?_
      rintro e w2 ⟨rfl, hown2, hg2⟩
      have hb2 : Below w.heap.size w w2 := hbr.grown hg2 hbr.size (fun i hi => (hown.lt i hi).1)
      have hsl : (zs.mergeSort fun x y => decide (x ≤ y)).length = zs.length := by simp
      rw [← hsl] at hown2
      generalize (zs.mergeSort fun x y => decide (x ≤ y)) = ss at hown2 Hall hsl
      go_wp2_with fail
      refine (compact_own w.heap.size _ ss _ hown2 (by omega)).mono ?_
      rintro e w3 ⟨v3, rfl, hown3, hg3⟩
      have hb3 : Below w.heap.size w w3 := hb2.grown hg3 hb2.size (fun i hi => (hown2.lt i hi).1)
      rw [Hall.out] at hown3
      go_wp2
      go_ret
      exact ⟨_, rfl, Row.of_own hown3 rfl, hb3⟩

end Ytmgfhehnehcmpaa.Wp
end Go.Proofs
