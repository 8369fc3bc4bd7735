/- The document's Sum, walked: columns, each times a number, together. -/
import Derived.Test.YtmnhpccdhefddaaDoorLRefRk
import Derived.Deep.OwnRows
namespace Go.Proofs.YtmnhpccdhefddaaDoor
open Go.RowKit
namespace Wp

/-- All numbers modulo p. -/
def ModIn (p : Int) (l : List Int) : Prop := ∀ i, 0 ≤ l.getD i 0 ∧ l.getD i 0 < p
/-- The first i columns, each times its number. -/
def partS (cols : List (List Int)) (times : List Int) (i : Nat) : Nat → Int := lin (times.take i) ((cols.take i).map vec)
def sumL (p : Int) (R : Nat) (cols : List (List Int)) (times : List Int) : List Int := (List.range R).map fun r => lin times (cols.map vec) r % p
theorem partS_zero (cols : List (List Int)) (times : List Int) (r : Nat) : partS cols times 0 r = 0 := by simp [partS, lin]
theorem lin_zip : ∀ {a : List Int} {u : List Vec} {r : Nat}, lin a u r = lin (a.take u.length) (u.take a.length) r
  | [], u, r => by cases u <;> simp [lin]
  | c :: a, [], r => by simp [lin]
  | c :: a, x :: u, r => by
    simp only [lin, List.length_cons, List.take_succ_cons]
    rw [lin_zip (a := a) (u := u)]
theorem partS_end {cols : List (List Int)} {times : List Int} {i : Nat} (h : i = min cols.length times.length) (r : Nat) : partS cols times i r = lin times (cols.map vec) r := by
  have e1 : times.take i = times.take cols.length := by
    rcases Nat.le_total cols.length times.length with h0 | h0
    · rw [h, Nat.min_eq_left h0]
    · rw [h, Nat.min_eq_right h0, List.take_length, List.take_of_length_le h0]
  have e2 : cols.take i = cols.take times.length := by
    rcases Nat.le_total cols.length times.length with h0 | h0
    · rw [h, Nat.min_eq_left h0, List.take_length, List.take_of_length_le h0]
    · rw [h, Nat.min_eq_right h0]
  unfold partS
  rw [e1, e2, List.map_take, lin_zip (a := times) (u := cols.map vec), List.length_map]
theorem partS_step {cols : List (List Int)} {times : List Int} {i : Nat} (h1 : i < cols.length) (h2 : i < times.length) (r : Nat) : partS cols times (i + 1) r = partS cols times i r + times.getD i 0 * (cols.getD i []).getD r 0 := by
  unfold partS
  rw [List.take_succ_eq_append_getElem h1, List.take_succ_eq_append_getElem h2, List.map_append, lin_append (by simp; omega)]
  simp only [List.map_cons, List.map_nil, lin]
  rw [show times.getD i 0 = times[i] by simp [List.getD, h2], show cols.getD i [] = cols[i] by simp [List.getD, h1]]
  unfold vec
  omega

/-- Numbers in a block. -/
def SumAt (w : World) (g n : Nat) (f : Nat → Int) : Prop := w.rowIs g 3 n fun i => .int .i64 (f i)
theorem SumAt.congr {w : World} {g n : Nat} {f f' : Nat → Int} (h : SumAt w g n f) (e : ∀ i, i < n → f i = f' i) : SumAt w g n f' := World.rowIs.congr h fun i hi => by rw [e i hi]
theorem SumAt.set {w : World} {g n : Nat} {f : Nat → Int} (h : SumAt w g n f) (i : Nat) (v : Int) : SumAt (w.setCell ⟨g, i, none⟩ (.int .i64 v)) g n (fun j => if j = i then v else f j) :=
  World.rowIs.congr (World.rowIs.set h i _) fun j _ => by
    by_cases hj : j = i
    · simp only [hj, if_pos]
    · simp only [hj, if_false]
theorem SumAt.row {w : World} {g n : Nat} {f : Nat → Int} (h : SumAt w g n f) (hn : n ≤ 1048576) : Row w w.heap.size (.slice (some ⟨g, 0, none⟩) n n) ((List.range n).map f) := by
  refine ⟨_, n, by simp, ⟨by simp, by unfold maxLen; omega, fun e => by cases e⟩, fun k hk => ⟨⟨g, 0, none⟩, rfl, World.rowIs.lt h, ?_⟩⟩
  have hk' : k < n := by simpa using hk
  rw [getD_map_range, if_pos hk']
  have := World.rowIs.cell h hk'
  unfold Addr.add
  by_cases h0 : k = 0
  · subst h0
    simpa using this
  · simpa [h0] using this

set_option maxHeartbeats 8000000 in
set_option maxRecDepth 100000 in
theorem refsum_any (p : Int) (R : Nat) (v vt : Value) (cols : List (List Int)) (times : List Int) (w : World) (hp1 : 2 ≤ p) (hp2 : p ≤ 2147483647) (hr : Rows2 w w.heap.size v cols) (ht : Row w w.heap.size vt times) (hR : R ≤ 64) (hn : cols.length ≤ 64) (hc : ColsIn p R cols) (htn : times.length ≤ 1048576) (htm : ModIn p times) :
    Calls Tryd.prog 17 #[.int .i64 p, .int .i64 R, v, vt] w (Gives w (sumL p R cols times)) := by
  have Hc := Lib.hid hc
  have Ht := Lib.hid htm
  obtain ⟨A, c, rfl, _, hcell⟩ := hr
  obtain ⟨At, ct, rfl, _, htcell⟩ := ht
  have Hcell := Lib.hid hcell
  have Htc := Lib.hid htcell
  have hn' : (cols.length : Int) ≤ 64 := by omega
  have htn' : (times.length : Int) ≤ 1048576 := by omega
  have hmk := fun W => run_make_row' 26 3 (.int .i64 0) 8 Tryd.underlying26 info3 rfl .i64 .i64 R (by omega) (by omega) W
  have Hs0 : Hid (SumAt (w.alloc (.cells (madeCells #[.int .i64 0] R) 3)) w.heap.size R (fun r => partS cols times 0 r % p)) :=
    World.rowIs.congr (World.rowIs_made w (.int .i64 0) R 3) fun i _ => by simp only [partS_zero]; rfl
  have Hb0 := Lib.hid ((Below.refl w.heap.size w).alloc (Nat.le_refl _) (.cells (madeCells #[.int .i64 0] R) 3))
  clear hc htm hcell htcell
  go_enter Tryd.func17, Tryd.ntmps17
  go_wp2
  go_loopw [10] (fun vi wr => ∃ i : Nat, vi = .int .i64 i ∧ i ≤ cols.length ∧ i ≤ times.length ∧ SumAt wr w.heap.size R (fun r => partS cols times i r % p) ∧ Below w.heap.size w wr) (fun vi _ => cols.length - (intOf vi).toNat)
  case atStart => exact ⟨0, rfl, Nat.zero_le _, Nat.zero_le _, Hs0.out, Hb0.out⟩
  case round =>
    clear Hs0 Hb0 hmk
    obtain ⟨i, rfl, hi, hit, hsum, hbr⟩ := hrel
    have Hsum := Lib.hid hsum
    have Hbr := Lib.hid hbr
    clear hsum hbr
    have hend : (¬ i < cols.length ∨ ¬ i < times.length) → Hid (Row wr wr.heap.size (.slice (some ⟨w.heap.size, 0, none⟩) R R) (sumL p R cols times)) := by
      intro h
      have e : i = min cols.length times.length := by omega
      have := (Hsum.out.congr (f' := fun r => lin times (cols.map vec) r % p) fun r _ => by rw [partS_end e]).row (by omega)
      exact this
    by_cases hlt : i < cols.length
    · by_cases hltt : i < times.length
      · obtain ⟨ad, u, hA, hab, hcu, hru⟩ := Hcell.out i hlt
        subst hA
        obtain ⟨adt, hAt, habt, hct⟩ := Htc.out i hltt
        subst hAt
        obtain ⟨Au, cu, rfl, _, hcr⟩ := hru
        have hin := Hc.out i hlt
        have hstep := fun r => partS_step hlt hltt r
        have htr := Ht.out i
        generalize cols.getD i [] = col at *
        generalize times.getD i 0 = t at *
        have Hin := Lib.hid hin
        have Hcr := Lib.hid hcr
        have Hstep := Lib.hid hstep
        rw [hin.1] at hcu
        have Hcu := Lib.hid hcu
        have Hct := Lib.hid hct
        have hltI : (i : Int) < (cols.length : Int) := by omega
        have htI : (i : Int) < (times.length : Int) := by omega
        have Hs1 : Hid (SumAt wr w.heap.size R (fun r => (if r < 0 then partS cols times (i + 1) r else partS cols times i r) % p)) := Hsum.out.congr fun r _ => by rw [if_neg (Nat.not_lt_zero _)]
        clear hin hcr hstep hcu hct hend
        go_wp2
        go_loopw [11] (fun vk wq => ∃ k : Nat, vk = .int .i64 k ∧ k ≤ R ∧ SumAt wq w.heap.size R (fun r => (if r < k then partS cols times (i + 1) r else partS cols times i r) % p) ∧ Below w.heap.size w wq) (fun vk _ => R - (intOf vk).toNat)
        case atStart => exact ⟨0, rfl, Nat.zero_le _, Hs1.out, Hbr.out⟩
        case round =>
          clear Hs1 Hbr Hsum
          obtain ⟨k, rfl, hk, hsum, hbr⟩ := hrel
          have Hsum := Lib.hid hsum
          have Hbr := Lib.hid hbr
          clear hsum hbr
          by_cases hkR : k < R
          · have hkI : (k : Int) < (R : Int) := by omega
            obtain ⟨ac, hAc, hacb, hcc⟩ := Hcr.out k (by rw [Hin.out.1]; exact hkR)
            subst hAc
            have g1 := (Hbr.out.cell (p := ad.add i) (by rw [add_block]; exact hab)).trans Hcu.out
            have g2 := (Hbr.out.cell (p := adt.add i) (by rw [add_block]; exact habt)).trans Hct.out
            have g3 := (Hbr.out.cell (p := ac.add k) (by rw [add_block]; exact hacb)).trans hcc
            have g4 := World.rowIs.cell Hsum.out hkR
            simp only [if_neg (Nat.lt_irrefl k)] at g4
            have hfz : wr.frozen? ⟨w.heap.size, k, none⟩ = false := World.rowIs.frozen Hsum.out k
            have hcr1 := Hin.out.get (by omega) k
            have hst := Hstep.out k
            obtain ⟨x, hx⟩ : ∃ x, x = col.getD k 0 := ⟨_, rfl⟩
            rw [← hx] at g3 hcr1 hst
            obtain ⟨y, hy⟩ : ∃ y, y = partS cols times i k % p := ⟨_, rfl⟩
            rw [← hy] at g4
            have hyr : 0 ≤ y ∧ y < p := by rw [hy]; exact em_lt (by omega)
            have hm := mul_in hp2 hcr1.1 hcr1.2 htr.1 htr.2
            have hw1 : IntKind.i64.wrap (x * t) = x * t := by rw [IntKind.wrap_i64]; omega
            have hw2 : IntKind.i64.wrap (y + x * t) = y + x * t := by rw [IntKind.wrap_i64]; omega
            obtain ⟨q, hq⟩ : ∃ q, q = (y + x * t) % p := ⟨_, rfl⟩
            have htm : (y + x * t).tmod p = q := by rw [hq]; exact Int.tmod_eq_emod_of_nonneg (by omega)
            have hp0 : ¬ p = 0 := by omega
            have Hqv : Hid (partS cols times (i + 1) k % p = q) := by
              show _ = _
              rw [hq, hy, hst, Int.mul_comm t x, Int.emod_add_emod]
            clear hcc hx hy hst hq hm
            go_wp2
            refine wp_region_still_tail 22 (by kernel_rfl) (by kernel_rfl) ?_
            simp only [List.take_succ_cons, List.take_zero, List.drop_succ_cons, List.drop_zero]
            repeat still_step
            try refine wpStill_nil ?_
            change wpList _ _ _ _ _ wr.drew
            go_wp2
            go_roundw
            case rel =>
              refine ⟨k + 1, by go_num, by omega, (Hsum.out.set k q).congr fun r _ => ?_, (Hbr.out.setCell (p := ⟨w.heap.size, k, none⟩) (Nat.le_refl _) _).drew⟩
              by_cases e : r = k
              · subst e
                rw [if_pos rfl, if_pos (Nat.lt_succ_self _)]
                exact Hqv.out.symm
              · rw [if_neg e]
                by_cases e2 : r < k
                · rw [if_pos e2, if_pos (by omega)]
                · rw [if_neg e2, if_neg (by omega)]
            case measure => simp [intOf]; omega
          · have hke : k = R := by omega
            subst hke
            have Hs2 := Lib.hid (Hsum.out.congr (f' := fun r => partS cols times (i + 1) r % p) fun r hr => by simp only [if_pos hr])
            clear Hsum
            go_wp2
            go_roundw
            case rel => exact ⟨i + 1, by go_num, by omega, by omega, Hs2.out, Hbr.out⟩
            case measure => simp [intOf]; omega
      · have He := hend (.inr hltt)
        have hltI : (i : Int) < (cols.length : Int) := by omega
        have hltN : ¬ (i : Int) < (times.length : Int) := by omega
        clear hend
        go_wp2
        go_ret
        exact ⟨_, rfl, He.out, Hbr.out⟩
    · have He := hend (.inl hlt)
      have hie : i = cols.length := by omega
      clear hend
      subst hie
      go_wp2
      go_ret
      exact ⟨_, rfl, He.out, Hbr.out⟩

end Wp
end Go.Proofs.YtmnhpccdhefddaaDoor
