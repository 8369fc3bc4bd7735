/- The law on paths and rings, walked: it answers true. -/
import Derived.Test.YtfpfhnkboakejaaJFixed
import Derived.Test.YtfpfhnkboakejaaJApp
namespace Go.Proofs.Ytfpfhnkboakejaa
open Go.RowKit
namespace Wp

def pathN (j : Nat) : List (Nat × Nat) := (List.range j).map fun i => (i, i + 1)
theorem pathN_succ (j : Nat) : pathN (j + 1) = pathN j ++ [(j, j + 1)] := by
  unfold pathN
  rw [List.range_succ, List.map_append]
  rfl
theorem pathN_length (j : Nat) : (pathN j).length = j := by simp [pathN]
theorem pathN_mem {j i : Nat} (h : i < j) : (i, i + 1) ∈ pathN j := List.mem_map.2 ⟨i, List.mem_range.2 h, rfl⟩
theorem pathN_lies {m j : Nat} (h : j + 1 ≤ m) : Lies m (pathN j) := by
  intro e he
  obtain ⟨i, hi, rfl⟩ := List.mem_map.1 he
  have := List.mem_range.1 hi
  simp only
  omega
theorem path_zero {es : List (Nat × Nat)} {m : Nat} (h : ∀ i, i + 1 < m → (i, i + 1) ∈ es) : ∀ v, v < m → compF es v = 0
  | 0, _ => Nat.le_zero.1 (comp_le es 0)
  | v + 1, hv => by
    have ih := path_zero h v (by omega)
    have := comp_edge (h v hv)
    simp only at this
    omega
theorem path_roots {f : Nat → Nat} {m : Nat} (h : ∀ v, v < m → f v = 0) : ∀ k, k < m → rootsL (k + 1) f = [0]
  | 0, hk => by
    rw [rootsL_succ, h 0 hk]
    rfl
  | k + 1, hk => by
    rw [rootsL_succ, path_roots h k (by omega), h (k + 1) hk, if_neg (by omega)]
    rfl
theorem path_parts {f : Nat → Nat} {m : Nat} (h : ∀ v, v < m → f v = 0) (hm : 1 ≤ m) : partsL m f = [List.range m] := by
  obtain ⟨k, rfl⟩ : ∃ k, m = k + 1 := ⟨m - 1, by omega⟩
  unfold partsL
  rw [path_roots h k (by omega)]
  simp only [List.map_cons, List.map_nil, partAt]
  congr 1
  rw [List.filter_eq_self]
  intro v hv
  simpa using h v (List.mem_range.1 hv)
theorem path_nparts {es : List (Nat × Nat)} {m : Nat} (h : ∀ v, v < m → compF es v = 0) (hm : 1 ≤ m) : nparts m es = 1 := by
  have := parts_length m (compF es)
  rw [path_parts h hm] at this
  exact this.symm
theorem path_pp {es : List (Nat × Nat)} {m : Nat} (h : ∀ v, v < m → compF es v = 0) (hm : 1 ≤ m) : castP (partsL m (compF es)) = [castL (List.range m)] := by
  rw [path_parts h hm]
  rfl

theorem rows2_one {w : World} {B : Nat} {v : Value} {p : List Int} (h : Rows2 w B v [p]) : ∃ (ad : Addr) (pA : Option Addr) (pc : Nat), (∃ c, v = .slice (some ad) 1 c) ∧ w.cell? ad = some (.slice pA p.length pc) := by
  obtain ⟨A, c, hv, _, hk⟩ := h
  obtain ⟨ad, u, hA, _, h1, h2⟩ := hk 0 (by simp)
  obtain ⟨pA, pc, hu, _⟩ := h2
  subst hA
  rw [add_zero] at h1
  refine ⟨ad, pA, pc, ⟨c, hv⟩, ?_⟩
  rw [h1, hu]
  rfl

set_option maxHeartbeats 8000000 in
set_option maxRecDepth 100000 in
theorem path_out (n : Int) (w : World) (h : n < 1 ∨ 64 < n) : Calls Try.prog 6 #[.int .i64 n] w (Truly w) := by
  have h' : n < 1 ∨ (1 ≤ n ∧ 64 < n) := by omega
  clear h
  rcases h' with h | ⟨h1, h⟩
  all_goals
    go_enter Try.func6, Try.ntmps6
    go_wp2_with fail
    refine (fixed_any _).mono ?_
    rintro e w1 ⟨rfl, hb1⟩
    go_wp2_with fail
    refine (fixed_any _).mono ?_
    rintro e w2 ⟨rfl, hb2⟩
    have hB : Below w.heap.size w w2 := hb1.trans (hb2.mono hb1.size)
    clear hb1 hb2
    go_wp2
    go_ret
    exact ⟨rfl, hB⟩

set_option maxHeartbeats 8000000 in
set_option maxRecDepth 100000 in
theorem path_in (m : Nat) (w : World) (h1 : 1 ≤ m) (h2 : m ≤ 64) : Calls Try.prog 6 #[.int .i64 m] w (Truly w) := by
  have h1' : 1 ≤ (m : Int) := by omega
  have h2' : (m : Int) ≤ 64 := by omega
  go_enter Try.func6, Try.ntmps6
  go_wp2_with fail
  refine (fixed_any _).mono ?_
  rintro e w1 ⟨rfl, hb1⟩
  have Hb1 := Lib.hid hb1
  clear hb1
  obtain ⟨B, hB⟩ : ∃ B, B = w1.heap.size := ⟨_, rfl⟩
  have Ho0 : Hid (OwnE (w1.alloc (.cells #[] 37)) B (.slice (some ⟨B, 0, none⟩) 0 0) (pathN 0)) := by
    show OwnE _ _ _ _
    rw [hB]
    exact World.ownsRow_made w1 #[] 0 (Nat.le_refl _) (by unfold maxLen; omega) rfl
  have Hb0 : Hid (Below w.heap.size w (w1.alloc (.cells #[] 37))) := Hb1.out.alloc Hb1.out.size _
  have Hs0 : Hid (B ≤ (w1.alloc (.cells #[] 37)).heap.size) := by
    show _ ≤ _
    rw [hB]; simp
  have HBw : Hid (w.heap.size ≤ B) := by
    show _ ≤ _
    rw [hB]; exact Hb1.out.size
  go_wp2
  rw [← hB]
  clear hB
  go_loopw [3, 4] (fun vp vv wr => ∃ j : Nat, vv = .int .i64 ((j : Int) + 1) ∧ j + 1 ≤ m ∧ OwnE wr B vp (pathN j) ∧ Below w.heap.size w wr ∧ B ≤ wr.heap.size) (fun _ vv _ => m - (intOf vv).toNat)
  case atStart => exact ⟨0, rfl, by omega, Ho0.out, Hb0.out, Hs0.out⟩
  case round =>
    obtain ⟨j, rfl, hj, hown, hbr, hsr⟩ := hrel
    clear Ho0 Hb0 Hs0
    obtain ⟨pA, pc, rfl⟩ := hown.slice
    rw [pathN_length] at hown ⊢
    have Hown := Lib.hid hown
    have Hbr := Lib.hid hbr
    clear hown hbr
    by_cases hlt : j + 1 < m
    · have hlt' : (j : Int) + 1 < m := by omega
      have hz : B ≤ (wr.alloc (.cells #[.int .i64 (j : Int), .int .i64 ((j : Int) + 1)] 37)).heap.size := by simp; omega
      have Hz := Lib.hid hz
      have Hown2 : Hid (OwnE (wr.alloc (.cells #[.int .i64 (j : Int), .int .i64 ((j : Int) + 1)] 37)) B (.slice pA j pc) (pathN j)) := World.ownsRow.alloc Hown.out _
      have Hlit : Hid (Edges (wr.alloc (.cells #[.int .i64 (j : Int), .int .i64 ((j : Int) + 1)] 37)) (wr.alloc (.cells #[.int .i64 (j : Int), .int .i64 ((j : Int) + 1)] 37)).heap.size (.slice (some ⟨wr.heap.size, 0, none⟩) 1 1) (castE [(j, j + 1)])) := Edges.lit1 wr (j : Int) ((j : Int) + 1)
      have Hpl := Lib.hid (pathN_length j)
      clear hz
      go_wp2_with (at_builtin; refine wpList_append_edges rfl _ _ rfl B _ _ _ (pathN j) [(j, j + 1)] rfl rfl Hown2.out Hlit.out (by rw [Hpl.out]; omega) (by simp) Hz.out ?_)
      intro v5 w5 hown5 hgr5
      have Hown5 : Hid (OwnE w5 B v5 (pathN (j + 1))) := by
        show OwnE _ _ _ _
        rw [pathN_succ]
        exact hown5
      have Hb5 := Lib.hid ((Hbr.out.alloc Hbr.out.size (.cells #[.int .i64 (j : Int), .int .i64 ((j : Int) + 1)] 37)).grown hgr5 (Nat.le_trans HBw.out Hz.out) (fun i hi => Nat.le_trans HBw.out (World.ownsRow.lt Hown2.out i hi).1))
      have Hs5 : Hid (B ≤ w5.heap.size) := Nat.le_trans Hz.out hgr5.size
      clear hown5 hgr5
      go_wp2
      go_roundw
      case rel => exact ⟨j + 1, by go_num, by omega, Hown5.out, Hb5.out, Hs5.out⟩
      case measure => simp [intOf]; omega
    · obtain rfl : m = j + 1 := by omega
      have Hgp : Hid (GraphN (j + 1) (pathN j)) := ⟨h1, h2, by rw [pathN_length]; omega, pathN_lies (Nat.le_refl _)⟩
      have Hzp := Lib.hid (path_zero (es := pathN j) (m := j + 1) fun i hi => pathN_mem (by omega))
      have Hgr : Hid (GraphN (j + 1) (pathN j ++ [(j, 0)])) := ⟨h1, h2, by rw [List.length_append, pathN_length]; simp; omega, Lies.append.2 ⟨pathN_lies (Nat.le_refl _), lies_one.2 ⟨by simp, by simp⟩⟩⟩
      have Hzr := Lib.hid (path_zero (es := pathN j ++ [(j, 0)]) (m := j + 1) fun i hi => List.mem_append.2 (.inl (pathN_mem (by omega))))
      have Hrp : Hid (rankN (j + 1) (pathN j) = (j : Int)) := by
        show _ = _
        unfold rankN
        rw [path_nparts Hzp.out h1]
        omega
      have Hrr : Hid (rankN (j + 1) (pathN j ++ [(j, 0)]) = (j : Int)) := by
        show _ = _
        unfold rankN
        rw [path_nparts Hzr.out h1]
        omega
      have re := Hown.out.edges
      have hBr := Hbr.out
      clear Hown Hbr
      go_wp2_with fail
      refine (parts_is (j + 1) _ (pathN j) _ re Hgp.out (path_pp Hzp.out h1)).mono ?_
      rintro e w1 ⟨v_rp, rfl, rp, hb1⟩
      have hB1 : Below w.heap.size w w1 := hBr.trans (hb1.mono hBr.size)
      have re' := re.up hb1
      clear re
      have re := re'
      clear re'
      clear hb1 hBr
      obtain ⟨C, hC⟩ : ∃ C, C = w1.heap.size := ⟨_, rfl⟩
      have Ho : Hid (OwnE (w1.alloc (.cells #[] 37)) C (.slice (some ⟨w1.heap.size, 0, none⟩) 0 0) []) := by
        show OwnE _ _ _ _
        rw [hC]
        exact World.ownsRow_made w1 #[] 0 (Nat.le_refl _) (by unfold maxLen; omega) rfl
      have Hz : Hid (C ≤ (w1.alloc (.cells #[] 37)).heap.size) := by
        show _ ≤ _
        rw [hC]; simp
      have hk0 : Below C w1 (w1.alloc (.cells #[] 37)) := (Below.refl _ _).alloc (by rw [hC]; exact Nat.le_refl _) _
      have Hpl := Lib.hid (pathN_length j)
      have HC := Lib.hid hC
      clear hC
      go_wp2_with (at_builtin; refine wpList_append_edges rfl _ _ rfl C _ _ _ [] (pathN j) rfl rfl Ho.out (re.upA _) (by simp) (by rw [Hpl.out]; omega) Hz.out ?_)
      intro va wa howna hgra
      have hk1 : Below C w1 wa := hk0.grown hgra Hz.out (fun i hi => (World.ownsRow.lt Ho.out i hi).1)
      obtain ⟨rA, rc, rfl⟩ := howna.slice
      rw [pathN_length] at howna ⊢
      have Howna := Lib.hid howna
      have Hsa : Hid (C ≤ wa.heap.size) := Nat.le_trans Hz.out hgra.size
      have Hsb : Hid (C ≤ (wa.alloc (.cells #[.int .i64 (j : Int), .int .i64 0] 37)).heap.size) := by
        show _ ≤ _
        have := Hsa.out
        simp
        omega
      have Hlit : Hid (Edges (wa.alloc (.cells #[.int .i64 (j : Int), .int .i64 0] 37)) (wa.alloc (.cells #[.int .i64 (j : Int), .int .i64 0] 37)).heap.size (.slice (some ⟨wa.heap.size, 0, none⟩) 1 1) (castE [(j, 0)])) := Edges.lit1 wa (j : Int) 0
      have Hownb : Hid (OwnE (wa.alloc (.cells #[.int .i64 (j : Int), .int .i64 0] 37)) C (.slice rA j rc) (pathN j)) := World.ownsRow.alloc howna _
      clear howna hgra hk0
      go_wp2_with (at_builtin; refine wpList_append_edges rfl _ _ rfl C _ _ _ (pathN j) [(j, 0)] rfl rfl Hownb.out Hlit.out (by rw [Hpl.out]; omega) (by simp) Hsb.out ?_)
      intro vb wb hownb hgrb
      have hk2 : Below C w1 wb := (hk1.alloc Hsa.out _).grown hgrb Hsb.out (fun i hi => (World.ownsRow.lt Hownb.out i hi).1)
      rw [HC.out] at hk2
      have hBb : Below w.heap.size w wb := hB1.trans (hk2.mono hB1.size)
      have re' := re.up hk2
      clear re
      have re := re'
      clear re'
      have rp' := rp.up hk2
      clear rp
      have rp := rp'
      clear rp'
      have re2 := hownb.edges
      obtain ⟨sA, sc, rfl⟩ := hownb.slice
      have hl2 : (pathN j ++ [(j, 0)]).length = j + 1 := by rw [List.length_append, pathN_length]; rfl
      rw [hl2] at re2 ⊢
      clear hk1 hk2 hownb hgrb hl2 hB1
      go_wp2_with fail
      refine (parts_is (j + 1) _ (pathN j ++ [(j, 0)]) _ re2 Hgr.out (path_pp Hzr.out h1)).mono ?_
      rintro e w2 ⟨v_rq, rfl, rq, hb2⟩
      have hB2 : Below w.heap.size w w2 := hBb.trans (hb2.mono hBb.size)
      have re' := re.up hb2
      clear re
      have re := re'
      clear re'
      have rp' := rp.up hb2
      clear rp
      have rp := rp'
      clear rp'
      have re2' := re2.up hb2
      clear re2
      have re2 := re2'
      clear re2'
      clear hb2 hBb
      obtain ⟨qA, qc, rfl, _⟩ := rq
      obtain ⟨ad, pA, pc2, ⟨pc1, rfl⟩, hcp⟩ := rows2_one rp
      rw [castL_length, List.length_range] at hcp
      go_wp2_with fail
      refine (forest_is (j + 1) _ (pathN j) _ re Hgp.out (b := true) (by rw [Hrp.out, pathN_length]; simp)).mono ?_
      rintro e w3 ⟨rfl, hb3⟩
      have hB3 : Below w.heap.size w w3 := hB2.trans (hb3.mono hB2.size)
      have re' := re.up hb3
      clear re
      have re := re'
      clear re'
      have re2' := re2.up hb3
      clear re2
      have re2 := re2'
      clear re2'
      clear hb3 hB2
      clear re
      go_wp2_with fail
      refine (forest_is (j + 1) _ (pathN j ++ [(j, 0)]) _ re2 Hgr.out (b := false) (by rw [Hrr.out, List.length_append, pathN_length]; simp; omega)).mono ?_
      rintro e w4 ⟨rfl, hb4⟩
      have hB4 : Below w.heap.size w w4 := hB3.trans (hb4.mono hB3.size)
      have re2' := re2.up hb4
      clear re2
      have re2 := re2'
      clear re2'
      clear hb4 hB3
      go_wp2_with fail
      refine (rank_is (j + 1) _ (pathN j ++ [(j, 0)]) _ re2 Hgr.out Hrr.out).mono ?_
      rintro e w5 ⟨rfl, hb5⟩
      have hB5 : Below w.heap.size w w5 := hB4.trans (hb5.mono hB4.size)
      have re2' := re2.up hb5
      clear re2
      have re2 := re2'
      clear re2'
      clear hb5 hB4
      go_wp2
      go_ret
      exact ⟨rfl, hB5⟩

theorem path_any (n : Int) (w : World) : Calls Try.prog 6 #[.int .i64 n] w (Truly w) := by
  by_cases h : n < 1 ∨ 64 < n
  · exact path_out n w h
  · obtain ⟨m, rfl⟩ : ∃ m : Nat, n = m := ⟨n.toNat, by omega⟩
    exact path_in m w (by omega) (by omega)

end Wp
end Go.Proofs.Ytfpfhnkboakejaa
