/- The places of a list, the greatest ahead: cmp.Compare and cmp.Or, and the program's Greatest, walked, by slices.SortFunc's contract; a made list filledG with places one by one. -/
import Derived.Test.YtolnkgghejhaeaaGreatDoorGPlaces
import Derived.Test.YtolnkgghejhaeaaGreatDoorZA
import Derived.Test.YtolnkgghejhaeaaGreatDoorMShelf2
import Derived.StillTailTactics
import Derived.Sort.OwnSortedInts
namespace Go.Proofs.YtolnkgghejhaeaaGreatDoor
open Go Go.RowKit Go.Sort Go.Lib
namespace Wp

/-- The cells of make([]int, n), the first k of them filledG. -/
def filledG (n k : Nat) : Array Value := (ints (idxs k ++ List.replicate (n - k) 0)).toArray
theorem filledG_size {n k : Nat} (h : k ≤ n) : (filledG n k).size = n := by
  simp [filledG, ints_length, idxs_length]
  omega
theorem filledG_set {n k : Nat} (h : k < n) : (filledG n k).setIfInBounds k (.int .i64 (k : Int)) = filledG n (k + 1) := by
  unfold filledG
  rw [List.setIfInBounds_toArray]
  congr 1
  rw [idxs_succ, ints_append, ints_append, ints_append, List.append_assoc]
  have e : List.replicate (n - k) (0 : Int) = 0 :: List.replicate (n - (k + 1)) 0 := by
    rw [show n - k = (n - (k + 1)) + 1 from by omega, List.replicate_succ]
  rw [e, List.set_append_right _ _ (by rw [ints_length, idxs_length]; exact Nat.le_refl _), ints_length, idxs_length, Nat.sub_self]
  rfl
theorem filledG_all (n : Nat) : filledG n n = (ints (idxs n)).toArray := by
  unfold filledG
  rw [Nat.sub_self, List.replicate_zero, List.append_nil]
theorem row_filledG {w : World} {g n : Nat} (h : Blk w g 3 (filledG n n)) (hn : n ≤ maxLen) : Row w w.heap.size (.slice (some ⟨g, 0, none⟩) n n) (idxs n) := by
  rw [filledG_all] at h
  refine ⟨_, n, by rw [idxs_length], ⟨by rw [idxs_length]; exact Nat.le_refl _, hn, fun e => by cases e⟩, fun k hk => ⟨_, rfl, h.lt, ?_⟩⟩
  have e : (⟨g, 0, none⟩ : Addr).add k = ⟨g, k, none⟩ := by unfold Addr.add; split <;> simp_all
  rw [e, h.cell]
  simp [ints, List.getD, hk]

theorem made_filledG (w : World) (base g n : Nat) (h : w.ownsRow base 3 1 (.slice (some ⟨g, 0, none⟩) n n) n (madeCells (Value.int .i64 0).cells (n * 1)).toList) : Blk w g 3 (filledG n 0) := by
  rcases h.2 with ⟨e, _⟩ | ⟨g', cap, cur, hv, hb, hg, h1, h2, h3, h4⟩
  · cases e
  · injection hv with e1 _ e3
    injection e1 with e1
    injection e1 with e1
    subst e1 e3
    unfold Blk
    rw [hg]
    have hm : (madeCells (Value.int IntKind.i64 0).cells (n * 1)).toList = (filledG n 0).toList := by
      unfold madeCells filledG
      simp only [idxs, List.range_zero, List.map_nil, List.nil_append, Nat.sub_zero, Nat.mul_one]
      apply List.ext_getElem
      · simp [ints]
      · intro i h1 h2
        simp [ints, Value.cells, Nat.mod_one]
    have hc : cur.toList = (filledG n 0).toList := by
      rw [← hm, ← h4, List.take_of_length_le]
      rw [Array.length_toList, h3]
      exact Nat.le_refl _
    rw [Array.toList_inj.1 hc]

/-- -1, 0 or 1. -/
def cmpI (x y : Int) : Int := if x < y then -1 else if y < x then 1 else 0
theorem cmp_any (x y : Int) (w : World) : Calls Tryz.prog 47 #[.int .i64 x, .int .i64 y] w fun e w' => e = .returned (.int .i64 (cmpI x y)) ∧ w' = w := by
  have hnan : ∀ (z : Int) (w : World), Calls Tryz.prog 60 #[.int .i64 z] w fun e w' => e = .returned (.bool false) ∧ w' = w := by
    intro z w
    go_enter Tryz.func60, Tryz.ntmps60
    go_wp2
    go_ret
    exact ⟨by simp, rfl⟩
  have HN := Lib.hid hnan
  clear hnan
  go_enter Tryz.func47, Tryz.ntmps47
  go_wp2_with (go_at_call 60; refine (HN.out _ _).mono ?_; rintro e w' ⟨rfl, hw⟩; rw [hw])
  all_goals (go_ret; refine ⟨?_, rfl⟩; unfold cmpI; (repeat' split) <;> first | rfl | (exfalso; omega))

/-- The first of two that is not 0. -/
def orI (a b : Int) : Int := if a = 0 then b else a
theorem or_any (a b : Int) (g : Nat) (w : World) (h : Blk w g 3 #[.int .i64 a, .int .i64 b]) :
    Calls Tryz.prog 46 #[.slice (some ⟨g, 0, none⟩) 2 2] w fun e w' => e = .returned (.int .i64 (orI a b)) ∧ w' = w := by
  have h0 := h.cell 0
  have h1 := h.cell 1
  simp only [List.getElem?_toArray, List.getElem?_cons_zero, List.getElem?_cons_succ] at h0 h1
  clear h
  unfold orI
  by_cases ha : a = 0
  · subst ha
    rw [if_pos rfl]
    by_cases hb : b = 0
    · subst hb
      go_enter Tryz.func46, Tryz.ntmps46
      go_wp2
      refine wp_loop_rounds 3 ?_
      rw [rounds_succ]
      go_wp2
      rw [rounds_succ]
      go_wp2
      rw [rounds_succ]
      go_wp2
      go_ret
      exact ⟨rfl, rfl⟩
    · have hb1 : (b != 0) = true := by simpa using hb
      go_enter Tryz.func46, Tryz.ntmps46
      go_wp2
      refine wp_loop_rounds 2 ?_
      rw [rounds_succ]
      go_wp2
      rw [rounds_succ]
      go_wp2
      go_ret
      exact ⟨rfl, rfl⟩
  · have ha1 : (a != 0) = true := by simpa using ha
    rw [if_neg ha]
    go_enter Tryz.func46, Tryz.ntmps46
    go_wp2
    refine wp_loop_rounds 1 ?_
    rw [rounds_succ]
    go_wp2
    go_ret
    exact ⟨rfl, rfl⟩

/-- What the closure tells of two places. -/
def cfG (l : List Int) (i j : Int) : Int := orI (cmpI (l.getD j.toNat 0) (l.getD i.toNat 0)) (cmpI i j)
theorem cfG_lt (l : List Int) (i j : Int) : decide (cfG l i j < 0) = decide (bef l i j) := by
  refine decide_eq_decide.2 ?_
  unfold cfG orI cmpI bef
  (repeat' split) <;> omega
theorem only_self (w : World) (row : Option Nat) : w.grownBy w row := ⟨rfl, rfl, rfl, Nat.le_refl _, fun _ _ _ => rfl⟩
theorem alloc_grow (w : World) (o : Obj) : w.drew.alloc o = grow (w.drewN 1) #[o] := by
  unfold World.alloc grow World.drew World.drewN
  simp

set_option maxHeartbeats 8000000 in
set_option maxRecDepth 1000000 in
theorem closure_any (l : List Int) (ad : Addr) (c bx : Nat) (i j : Nat) (hi : i < l.length) (hj : j < l.length) (w : World) (hb : w.cell? ⟨bx, 0, none⟩ = some (.slice (some ad) l.length c))
    (hl : ∀ k, k < l.length → w.cell? (ad.add k) = some (.int .i64 (l.getD k 0))) :
    Calls Tryz.prog 45 #[.int .i64 (i : Int), .int .i64 (j : Int), .pointer (some ⟨bx, 0, none⟩)] w fun e w' => e = .returned (.int .i64 (cfG l i j)) ∧ ∃ q os, w' = grow (w.drewN q) os := by
  have ci := hl i hi
  have cj := hl j hj
  have hiI : (i : Int) < (l.length : Int) := by omega
  have hjI : (j : Int) < (l.length : Int) := by omega
  have HE := Lib.hid (show cfG l i j = orI (cmpI (l.getD j 0) (l.getD i 0)) (cmpI i j) by unfold cfG; rw [Int.toNat_natCast, Int.toNat_natCast])
  clear hl
  generalize l.getD i 0 = x at *
  generalize l.getD j 0 = y at *
  go_enter Tryz.func45, Tryz.ntmps45
  go_wp2
  refine wp_region_still_tail 12 (by kernel_rfl) (by kernel_rfl) ?_
  simp only [List.take_succ_cons, List.take_zero, List.drop_succ_cons, List.drop_zero]
  iterate 8 still_step
  still_call (cmp_any _ _ _)
  iterate 2 still_step
  still_call (cmp_any _ _ _)
  refine wpStill_nil ?_
  change wpList _ _ _ _ _ w.drew
  have HB := Lib.hid (alloc_grow w)
  generalize hw2 : w.drew = w2 at *
  go_wp2_with (go_at_call 46; refine (or_any _ _ _ _ (Blk.new _ _ _)).mono ?_; rintro e w' ⟨rfl, rfl⟩)
  rw [← HE.out]
  go_ret
  exact ⟨rfl, 1, _, HB.out _⟩

section
variable {n : Nat}
def encF (n : Nat) (i : Fin n) : Value := .int .i64 ((i.val : Nat) : Int)
def valF (n : Nat) (i : Fin n) : Int := ((i.val : Nat) : Int)
def finL (n : Nat) : List (Fin n) := List.ofFn fun i => i
theorem finL_length (n : Nat) : (finL n).length = n := by simp [finL]
theorem finL_at [Inhabited (Fin n)] (j : Nat) (h : j < n) : (finL n).toArray[j]! = ⟨j, h⟩ := by simp [finL, h]
theorem finL_map (n : Nat) : (finL n).map (valF n) = idxs n := by
  apply List.ext_getElem
  · simp [finL, idxs_length]
  · intro i h1 h2
    simp [finL, idxs, valF]
variable (l : List Int)
def cfF (n : Nat) (i j : Fin n) : Int := cfG l (valF n i) (valF n j)
theorem ltF (i j : Fin n) : ltOf (cfF l n) i j = decide (bef l (valF n i) (valF n j)) := cfG_lt l _ _
theorem swoF : SWO (ltOf (cfF l n)) where
  irrefl x := by rw [ltF]; exact decide_eq_false (bef_irrefl _ _)
  trans x y z h1 h2 := by
    rw [ltF] at *
    exact decide_eq_true (bef_trans (of_decide_eq_true h1) (of_decide_eq_true h2))
  ntrans x y z h1 h2 := by
    rw [ltF] at *
    have h1 := of_decide_eq_false h1
    have h2 := of_decide_eq_false h2
    refine decide_eq_false ?_
    unfold bef at *
    omega
theorem totF (x y : Fin n) (h1 : ltOf (cfF l n) x y = false) (h2 : ltOf (cfF l n) y x = false) : x = y := by
  rw [ltF] at *
  have h1 := of_decide_eq_false h1
  have h2 := of_decide_eq_false h2
  refine Classical.byContradiction fun hne => h1 (bef_total (fun e => hne (Fin.ext ?_)) h2)
  unfold valF at e
  omega
theorem sortF (hn : l.length = n) : ((finL n).mergeSort fun x y => !(ltOf (cfF l n)) y x).map (valF n) = greatL l := by
  have hp : ((finL n).mergeSort fun x y => !(ltOf (cfF l n)) y x).Perm (finL n) := List.mergeSort_perm _ _
  have hs := List.pairwise_mergeSort (le := fun x y => !(ltOf (cfF l n)) y x) (fun a b c h1 h2 => by
    have h1 : ltOf (cfF l n) b a = false := by simpa using h1
    have h2 : ltOf (cfF l n) c b = false := by simpa using h2
    have := (swoF l).ntrans c b a h2 h1
    simpa using this) (fun a b => by
    cases h1 : ltOf (cfF l n) b a with
    | false => rfl
    | true =>
      have h2 : ltOf (cfF l n) a b = false := by
        rw [ltF] at *
        exact decide_eq_false (bef_asymm (of_decide_eq_true h1))
      rw [h2]
      rfl) (finL n)
  have hnd : ((finL n).mergeSort fun x y => !(ltOf (cfF l n)) y x).Pairwise (· ≠ ·) := by
    refine hp.nodup_iff.2 ?_
    have h1 := idxs_nodup n
    rw [← finL_map] at h1
    exact List.Pairwise.of_map (valF n) (fun a b hab e => hab (by rw [e])) h1
  refine Places.unique ⟨?_, ?_⟩ (great_places l)
  · rw [hn, ← finL_map]
    exact hp.map _
  · rw [List.pairwise_map]
    refine (hs.and hnd).imp fun {a b} ⟨h1, h2⟩ => ?_
    have h1 : ltOf (cfF l n) b a = false := by simpa using h1
    rw [ltF] at h1
    refine bef_total (fun e => h2 (Fin.ext ?_)) (of_decide_eq_false h1)
    unfold valF at e
    omega
end
theorem putRowF (n : Nat) [Inhabited (Fin n)] (w : World) (g : Nat) (X : List (Fin n)) : putRow (encF n) w g 0 X.toArray = putRow (Value.int .i64) w g 0 (X.map (valF n)).toArray := by
  unfold putRow
  congr 1
  funext c
  unfold putCells
  congr 1
  funext k x
  by_cases h : k < X.length
  · simp [h, encF, valF]
  · simp [h]

/-- The box holds the list, and the list is there, behind whatever the sort does. -/
theorem sort_keeps {n : Nat} [Inhabited (Fin n)] {w : World} {g bx c : Nat} {ad : Addr} {l : List Int} (hg : g < w.heap.size) (hbx : bx < g) (hc : w.cell? ⟨bx, 0, none⟩ = some (.slice (some ad) l.length c))
    (ha : ad.block < g) (hl : ∀ k, k < l.length → w.cell? (ad.add k) = some (.int .i64 (l.getD k 0))) (m : Nat) (dk : Array (Fin n)) (os : Array Obj) :
    (sortWorld (encF n) w g 0 m dk os).cell? ⟨bx, 0, none⟩ = some (.slice (some ad) l.length c) ∧ ∀ k, k < l.length → (sortWorld (encF n) w g 0 m dk os).cell? (ad.add k) = some (.int .i64 (l.getD k 0)) := by
  have key : ∀ a : Addr, a.block < g → (sortWorld (encF n) w g 0 m dk os).cell? a = w.cell? a := fun a hlt => by
    unfold sortWorld
    rw [cell?_grow _ _ _ (by simp [putRow, mapBlock, Sort.ahead]; omega), cell?_putRow_other _ _ _ _ _ _ (.inl (by omega))]
    rfl
  exact ⟨(key _ hbx).trans hc, fun k hk => (key _ (by rw [add_block]; exact ha)).trans (hl k hk)⟩

/-- The places, sorted by the closure. -/
theorem sorted_any (l : List Int) (m : Nat) (hn : l.length = m + 1) (hm : m + 1 ≤ 1048576) (ad : Addr) (c bx g : Nat) (w : World) (hbx : bx < g) (ha : ad.block < g) (hc : w.cell? ⟨bx, 0, none⟩ = some (.slice (some ad) l.length c))
    (hl : ∀ k, k < l.length → w.cell? (ad.add k) = some (.int .i64 (l.getD k 0))) (hb : Blk w g 3 (filledG (m + 1) (m + 1))) :
    Calls Tryz.prog 44 #[.slice (some ⟨g, 0, none⟩) (m + 1) (m + 1), .func (.func 45) #[] #[.pointer (some ⟨bx, 0, none⟩)]] w fun e w' =>
      e = .returned (.tuple #[]) ∧ Row w' w'.heap.size (.slice (some ⟨g, 0, none⟩) (m + 1) (m + 1)) (greatL l) ∧ w.grownBy w' (some g) := by
  have hcur : (filledG (m + 1) (m + 1)).toList = ints (idxs (m + 1)) := by rw [filledG_all]
  have hH : Holds (encF (m + 1)) w g 0 (finL (m + 1)).toArray := by
    have h1 := holds_of_blockI (ss := idxs (m + 1)) hb (by rw [hcur, idxs_length, List.take_of_length_le (by rw [ints_length, idxs_length]; exact Nat.le_refl _)]; rfl)
    intro j hj
    have hj' : j < m + 1 := by simpa [finL_length] using hj
    have h2 := h1 j (by simpa [idxs_length] using hj')
    refine ⟨?_, h2.2⟩
    rw [h2.1]
    congr 1
    rw [show ((idxs (m + 1)).toArray)[j]! = (j : Int) by simp [idxs, hj'], finL_at j hj']
    rfl
  have eg : ∀ args w, (callFunc 45 args).run Tryz.prog w = .ok (.enter 45 args) w := enters_of Tryz.func45 (by kernel_rfl) rfl
  have hcmp : CmpLays1 Tryz.prog 45 #[.pointer (some ⟨bx, 0, none⟩)] (encF (m + 1)) (cfF l (m + 1)) g 0 ((finL (m + 1)).toArray).size w := by
    intro M os dk _ x y
    obtain ⟨k1, k2⟩ := sort_keeps hb.lt hbx hc ha hl M dk os
    exact closure_any l ad c bx x.val y.val (by have := x.isLt; omega) (by have := y.isLt; omega) _ k1 k2
  have hS := Tryz.slices_SortFunc_total (encF (m + 1)) (fun _ => rfl) (cfF l (m + 1)) (swoF l) 45 #[.pointer (some ⟨bx, 0, none⟩)] g 0 (m + 1) (finL (m + 1)).toArray w eg hcmp hH hb.lt (by simp [finL_length]; omega) (totF l)
  rw [show ((finL (m + 1)).toArray).size = m + 1 by simp [finL_length]] at hS
  refine hS.mono fun e w' ⟨he, n, os, hw⟩ => ⟨he, ?_, ?_⟩
  · have h1 := ownsRow_sortedI (n := n) (os := os) (ss := idxs (m + 1)) (ts := greatL l) (cap := m + 1) (base := 0) (by rw [(great_places l).length, hn, idxs_length]) (Nat.zero_le _) hb (by rw [idxs_length]; exact Nat.le_refl _) (by unfold maxLen; omega) (by rw [filledG_size (Nat.le_refl _)]; omega)
    rw [idxs_length] at h1
    have h2 : w' = grow (putRow (Value.int .i64) (Sort.ahead w n) g 0 (greatL l).toArray) os := by
      rw [hw]
      unfold sortWorld
      rw [putRowF]
      congr 3
      have := sortF l hn
      simpa using this
    rw [h2]
    exact Row.of_own h1 (by rw [(great_places l).length, hn])
  · rw [hw]
    unfold sortWorld
    rw [putRowF]
    exact grownBy_sortedI _

set_option maxHeartbeats 8000000 in
set_option maxRecDepth 1000000 in
theorem great_new (v : Value) (l : List Int) (w : World) (h : Row w w.heap.size v l) (hn : l.length ≤ 1048576) : Calls Tryz.prog 33 #[v] w fun e w' =>
    e = .returned (.slice (some ⟨w.heap.size + 1, 0, none⟩) l.length l.length) ∧ Row w' w'.heap.size (.slice (some ⟨w.heap.size + 1, 0, none⟩) l.length l.length) (greatL l) ∧ Below w.heap.size w w' ∧ w.heap.size + 1 < w'.heap.size := by
  obtain ⟨A, c, rfl, hcc, hk⟩ := h
  have HK := Lib.hid hk
  have HN := Lib.hid hn
  obtain ⟨N, hN⟩ : ∃ N, l.length = N := ⟨_, rfl⟩
  have HNN := Lib.hid hN
  have hNb : N ≤ 1048576 := by omega
  rw [hN]
  obtain ⟨i0, hi, hz0, hz1, hz2⟩ := info_parts info3
  clear hk hcc hn hN
  go_enter Tryz.func33, Tryz.ntmps33
  go_wp2_with (at_make; refine wpList_make_full _ rfl _ _ 26 rfl 0 3 i0 (.int .i64 0) 1 (by kernel_rfl) hi hz0 hz1 .i64 .i64 _ _ N rfl rfl (by rfl) (by rfl) (by rw [hz2]; have := HNN.out; have := HN.out; omega) (by have := HNN.out; have := HN.out; unfold maxLen; omega) (Nat.zero_le _) ?_)
  intro w1 hown1 hg1
  have hblk := made_filledG w1 0 (w.heap.size + 1) N (by first | exact hown1 | (rw [Nat.mul_one]; exact hown1))
  have hbox : Blk w1 w.heap.size 26 #[.slice A N c] := (Blk.new w 26 #[.slice A N c]).grown hg1 (by simp)
  have hb1 : Below w.heap.size w w1 := ((Below.refl _ w).alloc (Nat.le_refl _) _).grown hg1 (by simp) (fun i hi => by cases hi)
  have HBX := Lib.hid hbox
  have HB1 := Lib.hid hb1
  have HM := Lib.hid hblk
  clear hown1 hg1 hblk hbox hb1
  go_wp2
  go_loopw [10] (fun vk wr => ∃ k : Nat, vk = .int .i64 (k : Int) ∧ k ≤ N ∧ Blk wr (w.heap.size + 1) 3 (filledG N k) ∧ w1.grownBy wr (some (w.heap.size + 1))) (fun vk _ => N - (intOf vk).toNat)
  case atStart => exact ⟨0, rfl, Nat.zero_le _, HM.out, only_self _ _⟩
  case round =>
    obtain ⟨k, rfl, hk, hblk, hgr⟩ := hrel
    by_cases hlt : k < N
    · have hs := filledG_size hk
      have g1 : wr.cell? ⟨w.heap.size + 1, k, none⟩ = some ((filledG N k)[k]'(by omega)) := by rw [hblk.cell]; simp [hs, hlt]
      have g2 := hblk.frozen k
      have Hblk := Lib.hid hblk
      clear hblk
      go_wp2
      go_roundw
      case rel => exact ⟨k + 1, by go_num, by omega, by rw [← filledG_set hlt]; exact Hblk.out.set_ k _, only_setCell hgr (p := ⟨w.heap.size + 1, k, none⟩) (.inl rfl) _⟩
      case measure => simp [intOf]; omega
    · have hke : k = N := by omega
      subst hke
      have hbx2 := (HBX.out.grown hgr (by simp)).cell 0
      have hb2 : Below w.heap.size w wr := HB1.out.trans (only_below hgr (by have := HB1.out.size; omega) (by omega))
      simp only [List.getElem?_toArray, List.getElem?_cons_zero] at hbx2
      have HB2 := Lib.hid hb2
      have Hblk := Lib.hid hblk
      clear hgr hb2 hblk HM HB1 HBX
      cases k with
      | zero =>
        have hl0 : greatL l = [] := List.eq_nil_of_length_eq_zero (by rw [(great_places l).length, HNN.out])
        have hS := fun W => Tryz.slices_SortFunc_none (α := Int) (some ⟨w.heap.size + 1, 0, none⟩) 0 (.func (.func 45) #[] #[.pointer (some ⟨w.heap.size, 0, none⟩)]) W
        have HS := Lib.hid hS
        have H0 := Lib.hid hl0
        clear hS hl0
        go_wp2_with fail
        refine (HS.out _).mono ?_
        rintro e w5 ⟨rfl, hw5⟩
        replace hw5 := hw5.symm
        subst hw5
        go_wp2
        go_ret
        exact ⟨rfl, by rw [H0.out]; exact ⟨_, 0, rfl, ⟨Nat.le_refl _, by decide, fun e => by cases e⟩, fun k hk => absurd hk (by simp)⟩, HB2.out, Hblk.out.lt⟩
      | succ m =>
        obtain ⟨ad, hA, had, _⟩ := HK.out 0 (by have := HNN.out; omega)
        subst hA
        have hS := sorted_any l m HNN.out (by have := HNN.out; have := HN.out; omega) ad c w.heap.size (w.heap.size + 1) wr (by omega) (by omega) (by rw [HNN.out]; exact hbx2) (fun k hk => by
          obtain ⟨ad', e, h1, h2⟩ := HK.out k hk
          injection e with e
          subst e
          exact (HB2.out.cell (by rw [add_block]; exact h1)).trans h2) Hblk.out
        have HS := Lib.hid hS
        clear hS hbx2
        go_wp2_with fail
        refine HS.out.mono ?_
        rintro e w5 ⟨rfl, hr5, hg5⟩
        have h5 : Below w.heap.size w w5 := HB2.out.trans (only_below hg5 HB2.out.size (by omega))
        have hsz5 := hg5.size
        clear hg5
        go_wp2
        go_ret
        exact ⟨rfl, hr5, h5, Nat.lt_of_lt_of_le Hblk.out.lt hsz5⟩
theorem great_any (v : Value) (l : List Int) (w : World) (h : Row w w.heap.size v l) (hn : l.length ≤ 1048576) : Calls Tryz.prog 33 #[v] w (Gives w (greatL l)) :=
  (great_new v l w h hn).mono fun _ _ ⟨he, hr, hb, _⟩ => ⟨_, he, hr, hb⟩

end Wp
end Go.Proofs.YtolnkgghejhaeaaGreatDoor
