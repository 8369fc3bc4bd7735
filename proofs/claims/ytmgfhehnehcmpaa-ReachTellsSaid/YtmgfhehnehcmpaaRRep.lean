/- slices.Repeat of one number, walked: so many of it. -/
import Derived.Test.YtmgfhehnehcmpaaSShelf
import Derived.Test.YtmgfhehnehcmpaaKGive
import Derived.Laws.CopyOwn
namespace Go.Proofs.Ytmgfhehnehcmpaa
open Go.RowKit
namespace Wp

/-- A block whose first m of n cells are z. -/
def FillB (w : World) (g n : Nat) (z : Int) (m : Nat) : Prop := ∃ cur : List Value, w.heap[g]? = some (.cells cur.toArray 3 (0, 0)) ∧ cur.length = n ∧ (∀ j, j < m → cur[j]? = some (.int .i64 z)) ∧ ∀ v ∈ cur, v.oneCell' = true
theorem fill_splice {w : World} {g n m t : Nat} {z : Int} {cur : List Value} (h2 : cur.length = n) (h3 : ∀ j, j < m → cur[j]? = some (.int .i64 z)) (h4 : ∀ v ∈ cur, v.oneCell' = true) (ht : m + t ≤ n)
    (h : w.heap[g]? = some (.cells (splice cur m (List.replicate t (Value.int .i64 z))).toArray 3 (0, 0))) : FillB w g n z (m + t) := by
  refine ⟨_, h, ?_, fun j hj => ?_, fun v hv => ?_⟩
  · rw [length_splice _ _ _ (by simp; omega), h2]
  · unfold splice
    by_cases hlt : j < m
    · rw [List.getElem?_append_left (by simp; omega), List.getElem?_take_of_lt hlt]
      exact h3 j hlt
    · rw [List.getElem?_append_right (by simp; omega), List.length_take, show min m cur.length = m by omega, List.getElem?_append_left (by simp; omega), List.getElem?_replicate, if_pos (by omega)]
  · unfold splice at hv
    rw [List.mem_append, List.mem_append] at hv
    rcases hv with hv | hv | hv
    · exact h4 v (List.mem_of_mem_take hv)
    · rw [List.eq_of_mem_replicate hv]; rfl
    · exact h4 v (List.mem_of_mem_drop hv)
theorem fill_cell {w : World} {g n m : Nat} {z : Int} (h : FillB w g n z m) {j : Nat} (hj : j < m) : w.cell? ⟨g, j, none⟩ = some (.int .i64 z) := by
  obtain ⟨cur, h1, _, h3, _⟩ := h
  rw [cell_of_row w g j _ _ _ h1]
  simpa using h3 j hj

set_option maxHeartbeats 4000000 in
set_option maxRecDepth 100000 in
theorem repeat_any (b n : Nat) (w : World) (hc : w.cell? ⟨b, 0, none⟩ = some (.int .i64 (-1))) (hb : b < w.heap.size) (hn : n ≤ 4096) :
    Calls Try.prog 49 #[.slice (some ⟨b, 0, none⟩) 1 1, .int .i64 n] w fun e w' => e = .returned (.slice (some ⟨w.heap.size, 0, none⟩) n n) ∧ NumsK w' w.heap.size n (fun _ => -1) ∧ Below w.heap.size w w' := by
  have hnI : (n : Int) ≤ 4096 := by omega
  have hmul := fun W => Try.bits_Mul 1 n (by omega) (by omega) W
  rw [show 1 * n / 18446744073709551616 = 0 by omega, show 1 * n % 18446744073709551616 = n by omega] at hmul
  have Hmul := Lib.hid hmul
  have hmk := fun W => run_make_row' 25 3 (.int .i64 0) 8 Try.underlying25 info3 rfl .i64 .i64 n (by omega) (by omega) W
  have Hs0 : Hid (FillB (w.alloc (.cells (madeCells #[.int .i64 0] n) 3)) w.heap.size n (-1) 0) := Lib.hid ⟨(madeCells #[.int .i64 0] n).toList, by simpa using heap_alloc_new w _, by simp [size_madeCells], fun j hj => by omega, fun v hv => by
    rw [toList_madeCells_one] at hv
    rw [List.eq_of_mem_replicate hv]
    rfl⟩
  have Hb0 := Lib.hid ((Below.refl w.heap.size w).alloc (Nat.le_refl _) (.cells (madeCells #[.int .i64 0] n) 3))
  have Hc := Lib.hid hc
  clear hmul hc
  go_enter Try.func49, Try.ntmps49
  go_wp2_with fail
  refine (Hmul.out _).mono ?_
  rintro e w1 ⟨rfl, hw1⟩
  have hw2 := hw1.symm
  subst hw2
  have hcast : ((0 : Nat) : Int) = 0 := rfl
  rw [hcast]
  obtain ⟨cs, hcs⟩ : ∃ cs : List Value, cs = if n = 0 then [] else [.int .i64 (-1)] := ⟨_, rfl⟩
  have Hlen : Hid (cs.length = Nat.min 1 n) := Lib.hid (by
    rw [hcs]
    rcases Nat.eq_zero_or_pos n with h0 | h0
    · rw [if_pos h0, h0]; rfl
    · rw [if_neg (by omega)]
      show 1 = min 1 n
      omega)
  have Hone : Hid (∀ v ∈ cs, v.oneCell' = true) := Lib.hid (by
    rw [hcs]
    intro v hv
    split at hv <;> simp at hv
    subst hv
    rfl)
  have Hsrc : Hid (∀ j v, cs[j]? = some v → (w.alloc (.cells (madeCells #[.int .i64 0] n) 3)).cell? ((⟨b, 0, none⟩ : Addr).add j) = some v) := Lib.hid (by
    rw [hcs]
    intro j v hj
    split at hj
    · simp at hj
    · match j, hj with
      | 0, hj =>
        simp at hj
        subst hj
        rw [add_zero]
        exact (Below.cell (B := w.heap.size) ((Below.refl _ w).alloc (Nat.le_refl _) _) (p := ⟨b, 0, none⟩) hb).trans Hc.out)
  have Hget : Hid (0 < n → cs[0]? = some (.int .i64 (-1))) := Lib.hid fun h0 => by rw [hcs, if_neg (by omega)]; rfl
  have Hmake : Hid ((w.alloc (.cells (madeCells #[.int .i64 0] n) 3)).heap[w.heap.size]? = some (.cells (madeCells #[.int .i64 0] n).toList.toArray 3 (0, 0))) := Lib.hid (by simpa using heap_alloc_new w _)
  obtain ⟨Z, hZ⟩ : ∃ Z : List Value, Z = (madeCells #[.int .i64 0] n).toList := ⟨_, rfl⟩
  have HZl : Hid (Z.length = n) := Lib.hid (by rw [hZ]; simp [size_madeCells])
  have HZ1 : Hid (∀ v ∈ Z, v.oneCell' = true) := Lib.hid (by
    rw [hZ, toList_madeCells_one]
    intro v hv
    rw [List.eq_of_mem_replicate hv]
    rfl)
  rw [← hZ] at Hmake
  clear hcs hZ
  go_wp2_with (refine wpList_copy_splice rfl (.tmp 31) (.tmp 32) 25 25 rfl 3 Try.underlying25 (by kernel_rfl) _ _ _ _ _ _ rfl rfl w.heap.size 0 Z 3 Hmake.out cs Hlen.out (fun _ => ⟨rfl, ⟨b, 0, none⟩, rfl, Hsrc.out⟩) ?h3 Hone.out w.heap.size w Hb0.out (Nat.le_refl _) ?_)
  case h3 =>
    rw [HZl.out, Hlen.out]
    show 0 + min 1 n ≤ n
    omega
  intro w2 Hg2 hb2
  obtain ⟨m0, hm0⟩ : ∃ m0, cs.length = m0 := ⟨_, rfl⟩
  have hm00 : m0 = min 1 n := hm0.symm.trans Hlen.out
  have Hst : Hid (FillB w2 w.heap.size n (-1) m0) := Lib.hid (by
    refine ⟨_, Hg2.out, ?_, ?_, ?_⟩
    · rw [length_splice _ _ _ (by rw [HZl.out, hm0]; omega), HZl.out]
    · intro j hj
      have h0 : j = 0 := by omega
      subst h0
      have := Hget.out (by omega)
      unfold splice
      rw [List.take_zero, List.nil_append, List.getElem?_append_left (by omega)]
      exact this
    · intro v hv
      unfold splice at hv
      rw [List.mem_append, List.mem_append] at hv
      rcases hv with hv | hv | hv
      · simp at hv
      · exact Hone.out v hv
      · exact HZ1.out v (List.mem_of_mem_drop hv))
  have Hb2 := Lib.hid hb2
  rw [hm0]
  have hm1 : m0 ≤ n := by omega
  have hm2 : n = 0 ∨ 1 ≤ m0 := by omega
  clear Hg2 hb2 Hs0 Hb0 Hc hmk hm0 hm00 Hlen Hone Hsrc Hget Hmake HZl HZ1
  go_wp2
  go_loopw [8] (fun vi wr => ∃ m : Nat, vi = .int .i64 m ∧ m ≤ n ∧ (n = 0 ∨ 1 ≤ m) ∧ FillB wr w.heap.size n (-1) m ∧ Below w.heap.size w wr) (fun vi _ => n - (intOf vi).toNat)
  case atStart => exact ⟨m0, rfl, hm1, hm2, Hst.out, Hb2.out⟩
  case round =>
    clear Hst Hb2 hm1 hm2
    obtain ⟨m, rfl, hm, hm0, hf, hbr⟩ := hrel
    have Hf := Lib.hid hf
    have Hbr := Lib.hid hbr
    clear hf hbr
    by_cases hlt : m < n
    · have hmI : (m : Int) < (n : Int) := by omega
      have hmI2 : (m : Int) ≤ (n : Int) := by omega
      have hne : ¬ (n = m) := by omega
      go_wp2
      refine wp_region_any (by kernel_rfl) ?_
      change wpAny _ _ _ _ _ _ _ (World.drew _)
      refine wpAny_take (i := 0) (v := ?_) rfl (by kernel_rfl) (by kernel_rfl) (by kernel_rfl) (fun _ _ _ h => h) (Or.inl ⟨by rfl, ?_⟩) ?_
      rotate_left
      · intro w; go_simp; try with_reducible rfl
      (refine wpAny_act (b := ?_) ?_ ?_; rotate_left; (go_simp; with_reducible rfl))
      refine wpAny_take (i := 1) (v := ?_) rfl (by kernel_rfl) (by kernel_rfl) (by kernel_rfl) (fun _ _ _ h => h) (Or.inl ⟨by rfl, ?_⟩) ?_
      rotate_left
      · intro w; go_simp; try with_reducible rfl
      (refine wpAny_act (b := ?_) ?_ ?_; rotate_left; (go_simp; with_reducible rfl))
      refine wpAny_take (i := 2) (v := ?_) rfl (by kernel_rfl) (by kernel_rfl) (by kernel_rfl) (fun _ _ _ h => h) (Or.inl ⟨by rfl, ?_⟩) ?_
      rotate_left
      · intro w; go_simp; try with_reducible rfl
      (refine wpAny_act (b := ?_) ?_ ?_; rotate_left; (go_simp; with_reducible rfl))
      refine wpAny_take (i := 3) (v := ?_) rfl (by kernel_rfl) (by kernel_rfl) (by kernel_rfl) (fun _ _ _ h => h) (Or.inl ⟨by rfl, ?_⟩) ?_
      rotate_left
      · intro w; go_simp; try with_reducible rfl
      (refine wpAny_act (b := ?_) ?_ ?_; rotate_left; (go_simp; with_reducible rfl))
      refine wpAny_take (i := 4) (v := ?_) rfl (by kernel_rfl) (by kernel_rfl) (by kernel_rfl) (fun _ _ _ h => h) (Or.inl ⟨by rfl, ?_⟩) ?_
      rotate_left
      · intro w; go_simp; try with_reducible rfl
      (refine wpAny_act (b := ?_) ?_ ?_; rotate_left; (go_simp; with_reducible rfl))
      refine wpAny_take (i := 5) (v := ?_) rfl (by kernel_rfl) (by kernel_rfl) (by kernel_rfl) (fun _ _ _ h => h) (Or.inl ⟨by rfl, ?_⟩) ?_
      rotate_left
      · intro w; go_simp; try with_reducible rfl
      (refine wpAny_act (b := ?_) ?_ ?_; rotate_left; (go_simp; with_reducible rfl))
      refine wpAny_take (i := 6) (v := ?_) rfl (by kernel_rfl) (by kernel_rfl) (by kernel_rfl) (fun _ _ _ h => h) (Or.inl ⟨by rfl, ?_⟩) ?_
      rotate_left
      · intro w; go_simp; try with_reducible rfl
      (refine wpAny_act (b := ?_) ?_ ?_; rotate_left; (go_simp; with_reducible rfl))
      obtain ⟨cur, hc1, hc2, hc3, hc4⟩ := id Hf.out
      obtain ⟨t, ht⟩ : ∃ t, t = Nat.min m (n - m) := ⟨_, rfl⟩
      have ht1 : m + t ≤ n := by rw [ht]; show m + min m (n - m) ≤ n; omega
      have ht2 : 1 ≤ t := by rw [ht]; show 1 ≤ min m (n - m); omega
      have ht3 : t ≤ m := by rw [ht]; show min m (n - m) ≤ m; omega
      have hw : IntKind.i64.wrap ((m : Int) + (t : Int)) = (m : Int) + (t : Int) := by rw [IntKind.wrap_i64]; omega
      have hw2 : wrap64 ((m : Int) + (t : Int)) = (m : Int) + (t : Int) := by unfold wrap64; omega
      have Ht := Lib.hid ht
      have Hc1 := Lib.hid hc1
      have Hc3 := Lib.hid hc3
      have Hc4 := Lib.hid hc4
      have Hnext := Lib.hid (fun (W : World) (h : W.heap[w.heap.size]? = some (.cells (splice cur m (List.replicate t (Value.int .i64 (-1)))).toArray 3 (0, 0))) => fill_splice hc2 hc3 hc4 ht1 h)
      clear ht hc1 hc3 hc4
      refine wpAny_ready (rs := [7]) (by kernel_rfl) (by simp) ?_
      refine AllReady.cons rfl (fun K hK => ?_) AllReady.nil
      refine step_copy_splice rfl (.tmp 41) (.tmp 44) 25 25 rfl 3 Try.underlying25 (by kernel_rfl) _ _ _ _ _ _ rfl rfl w.heap.size m cur 3 Hc1.out (List.replicate t (.int .i64 (-1))) (by rw [List.length_replicate]; exact Ht.out) (fun _ => ⟨rfl, ⟨w.heap.size, 0, none⟩, rfl, fun j v hj => ?_⟩) (by rw [List.length_replicate, hc2]; exact ht1) (fun v hv => by rw [List.eq_of_mem_replicate hv]; rfl) w.heap.size w Hbr.out.drew (Nat.le_refl _) ?_
      · have hjt : j < t := by
          have := (List.getElem?_eq_some_iff.1 hj).1
          simpa using this
        rw [List.getElem?_replicate, if_pos hjt] at hj
        injection hj with hj
        subst hj
        have := fill_cell Hf.out (j := j) (by omega)
        have e : (⟨w.heap.size, 0, none⟩ : Addr).add j = ⟨w.heap.size, j, none⟩ := by unfold Addr.add; split <;> simp_all
        rw [e]
        exact this
      intro w3 Hg3 hb3
      rw [List.length_replicate]
      have Hf3 := Lib.hid (Hnext.out w3 Hg3.out)
      have Hb3 := Lib.hid hb3
      clear Hg3 hb3
      refine hK _ _ ?_
      clear hK K
      (refine wpAny_act (b := ?_) ?_ ?_; rotate_left; (go_simp; with_reducible rfl))
      refine wpAny_take (i := 8) (v := ?_) rfl (by kernel_rfl) (by kernel_rfl) (by kernel_rfl) (fun _ _ _ h => h) (Or.inl ⟨by rfl, ?_⟩) ?_
      rotate_left
      · intro w; go_simp; try with_reducible rfl
      (refine wpAny_act (b := ?_) ?_ ?_; rotate_left; (go_simp; with_reducible rfl))
      refine wpAny_take (i := 9) (v := ?_) rfl (by kernel_rfl) (by kernel_rfl) (by kernel_rfl) (fun _ _ _ h => h) (Or.inl ⟨by rfl, ?_⟩) ?_
      rotate_left
      · intro w; go_simp; try with_reducible rfl
      (refine wpAny_act (b := ?_) ?_ ?_; rotate_left; (go_simp; with_reducible rfl))
      refine wpAny_done (by kernel_rfl) ?_ _
      clear Hf Hbr Hc1 Hc3 Hc4 Hnext Ht
      go_wp2
      go_roundw
      case rel => exact ⟨m + t, by go_num, by omega, .inr (by omega), Hf3.out, Hb3.out⟩
      case measure => simp [intOf]; omega
    · have hmn : m = n := by omega
      subst hmn
      have Hres : Hid (NumsK wr w.heap.size m (fun _ => -1)) := Lib.hid (by
        obtain ⟨cur, h1, h2, h3, h4⟩ := Hf.out
        exact ⟨cur.toArray, h1, by simpa using h2, fun i hi => by simpa using h3 i hi⟩)
      go_wp2
      go_ret
      exact ⟨rfl, Hres.out, Hbr.out⟩

end Wp
end Go.Proofs.Ytmgfhehnehcmpaa
