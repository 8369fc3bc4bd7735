/- The program's matroid.deep, walked: how deep matroids lie within one another. -/
import Derived.Test.YtolnkgghejhaeaaGreatDoorQErr
namespace Go.Proofs.YtolnkgghejhaeaaGreatDoor
open Go.RowKit
namespace Wp

/-- A matroid in a box of its own. -/
def boxed (w : World) (m : Mat) (lv iv : Value) : World := w.alloc (.cells #[.int .i64 m.t, .int .i64 m.n, .int .i64 m.a, .int .i64 m.b, lv, iv] 25)
theorem boxed_below (w : World) (m : Mat) (lv iv : Value) : Below w.heap.size w (boxed w m lv iv) := (Below.refl _ w).alloc (Nat.le_refl _) _
theorem boxed_blk (w : World) (m : Mat) (lv iv : Value) : Blk (boxed w m lv iv) w.heap.size 25 #[.int .i64 m.t, .int .i64 m.n, .int .i64 m.a, .int .i64 m.b, lv, iv] := Blk.new w _ _

/-- The greatest of those so far. -/
def most (k i : Nat) (l : List Mat) : Nat := maxN ((l.take i).map (dp k))
theorem most_zero (k : Nat) (l : List Mat) : most k 0 l = 0 := rfl
theorem take_snoc {α : Type} (l : List α) (i : Nat) (d : α) (h : i < l.length) : l.take (i + 1) = l.take i ++ [l.getD i d] := by
  rw [List.take_succ_eq_append_getElem h]
  simp [List.getD, h]
theorem most_succ (k i : Nat) (l : List Mat) (h : i < l.length) : most k (i + 1) l = max (most k i l) (dp k (l.getD i default)) := by
  unfold most
  rw [take_snoc l i default h, List.map_append, maxN_append]
  simp [maxN]
theorem most_all (k : Nat) (l : List Mat) : most k l.length l = maxN (l.map (dp k)) := by
  unfold most
  rw [List.take_length]
theorem most_le (k i : Nat) (l : List Mat) : most k i l ≤ k + 1 := maxN_le fun x hx => by
  obtain ⟨y, _, rfl⟩ := List.mem_map.1 hx
  exact dp_le k y
theorem most_end (k i : Nat) (l : List Mat) (h : k + 1 ≤ most k i l) : most k i l = maxN (l.map (dp k)) := by
  have h1 : most k i l ≤ maxN (l.map (dp k)) := by
    refine maxN_le fun x hx => ?_
    obtain ⟨y, hy, rfl⟩ := List.mem_map.1 hx
    exact le_maxN (List.mem_map_of_mem (List.mem_of_mem_take hy))
  have h2 : maxN (l.map (dp k)) ≤ k + 1 := maxN_le fun x hx => by
    obtain ⟨y, _, rfl⟩ := List.mem_map.1 hx
    exact dp_le k y
  omega
theorem sml_i {m x : Mat} (h : Sml m) (hx : x ∈ m.i) : Sml x := by
  cases h with
  | mk _ _ _ h4 => exact h4 x hx
theorem sml_il {m : Mat} (h : Sml m) : m.i.length ≤ 1000 := by
  cases h with
  | mk _ _ h3 _ => exact h3
theorem sml_l {m : Mat} (h : Sml m) : m.l.length ≤ 1000 := by
  cases h with
  | mk h1 _ _ _ => exact h1
theorem sml_r {m : Mat} (h : Sml m) {r : List Int} (hr : r ∈ m.l) : r.length ≤ 1000 := by
  cases h with
  | mk _ h2 _ _ => exact h2 r hr
theorem getD_mem {α : Type} (l : List α) (i : Nat) (d : α) (h : i < l.length) : l.getD i d ∈ l := by
  rw [show l.getD i d = l[i] by simp [List.getD, h]]
  exact List.getElem_mem h

set_option maxHeartbeats 4000000 in
set_option maxRecDepth 100000 in
theorem deep_any : ∀ (k : Nat) (m : Mat) (v : Value) (w : World) (most : Int), most = (k : Int) + 1 → k ≤ 10 → MatV w w.heap.size v m → Sml m → Calls Tryz.prog 51 #[v, .int .i64 most] w (Tells w (dp k m)) := by
  intro k
  induction k with
  | zero =>
    intro m v w most hmost _ hv hs
    obtain ⟨lv, iv, rfl, hl, hi⟩ := hv.open
    obtain ⟨A, c, rfl, hcap, hk⟩ := hi
    have hlen := sml_il hs
    have hlen' : (m.i.length : Int) ≤ 1000 := by omega
    have Hb0 := Lib.hid (boxed_below w m lv (.slice A m.i.length c))
    have hblk := boxed_blk w m lv (.slice A m.i.length c)
    have g0 := hblk.cell 0
    have g5 := hblk.cell 5
    have hm1 : most = 1 := by omega
    subst hm1
    clear hblk hk hl hmost
    unfold boxed at *
    by_cases h1 : m.t < 5
    · go_enter Tryz.func51, Tryz.ntmps51
      go_wp2
      go_ret
      exact ⟨rfl, Hb0.out⟩
    · have h1' : 5 ≤ m.t := by omega
      clear h1
      by_cases h2 : 9 < m.t
      · go_enter Tryz.func51, Tryz.ntmps51
        go_wp2
        go_ret
        exact ⟨rfl, Hb0.out⟩
      · have h2' : m.t ≤ 9 := by omega
        clear h2
        by_cases h3 : (0 : Int) < (m.i.length : Int)
        · go_enter Tryz.func51, Tryz.ntmps51
          go_wp2
          refine wp_loop_rounds 1 ?_
          rw [rounds_succ]
          go_wp2
          go_ret
          exact ⟨rfl, Hb0.out⟩
        · go_enter Tryz.func51, Tryz.ntmps51
          go_wp2
          refine wp_loop_rounds 1 ?_
          rw [rounds_succ]
          go_wp2
          go_ret
          exact ⟨rfl, Hb0.out⟩
  | succ k ih =>
    intro m v w mo hmost hk10 hv hs
    obtain ⟨lv, iv, rfl, hl, hi⟩ := hv.open
    obtain ⟨A, c, rfl, hcap, hk⟩ := hi
    have Hk := Lib.hid hk
    have Hs := Lib.hid hs
    have Ih := Lib.hid ih
    have hlen := sml_il hs
    have hlen' : (m.i.length : Int) ≤ 1000 := by omega
    have Hb0 := Lib.hid (boxed_below w m lv (.slice A m.i.length c))
    have Hblk := Lib.hid (boxed_blk w m lv (.slice A m.i.length c))
    have g0 := Hblk.out.cell 0
    have hm1 : (k : Int) + 2 = mo := by omega
    have hk10' : (k : Int) ≤ 10 := by omega
    have hw1 : IntKind.i64.wrap (mo - 1) = (k : Int) + 1 := by rw [IntKind.wrap_i64]; omega
    clear hk hl hmost ih hs
    unfold boxed at *
    by_cases h1 : m.t < 5
    · have hd : Hid (dp (k + 1) m = 1) := by
        show dp (k + 1) m = 1
        rw [dp, if_neg (by unfold nest; omega)]
      go_enter Tryz.func51, Tryz.ntmps51
      go_wp2
      go_ret
      exact ⟨by rw [hd.out]; rfl, Hb0.out⟩
    · have h1' : 5 ≤ m.t := by omega
      clear h1
      by_cases h2 : 9 < m.t
      · have hd : Hid (dp (k + 1) m = 1) := by
          show dp (k + 1) m = 1
          rw [dp, if_neg (by unfold nest; omega)]
        go_enter Tryz.func51, Tryz.ntmps51
        go_wp2
        go_ret
        exact ⟨by rw [hd.out]; rfl, Hb0.out⟩
      · have h2' : m.t ≤ 9 := by omega
        have hd : Hid (dp (k + 1) m = 1 + maxN (m.i.map (dp k))) := by
          show dp (k + 1) m = _
          rw [dp, if_pos (by unfold nest; omega)]
        clear h2
        go_enter Tryz.func51, Tryz.ntmps51
        go_wp2
        go_loopw [5, 6] (fun vd vi wr => ∃ (d i : Nat), vd = .int .i64 d ∧ vi = .int .i64 i ∧ i ≤ m.i.length ∧ d = 1 + Wp.most k i m.i ∧ Blk wr w.heap.size 25 #[.int .i64 m.t, .int .i64 m.n, .int .i64 m.a, .int .i64 m.b, lv, .slice A m.i.length c] ∧ Below w.heap.size w wr) (fun _ vi _ => m.i.length - (intOf vi).toNat)
        case atStart => exact ⟨1, 0, rfl, rfl, Nat.zero_le _, by rw [most_zero], Hblk.out, Hb0.out⟩
        case round =>
          obtain ⟨d, i, rfl, rfl, hi, hdm, hblk, hbr⟩ := hrel
          have Hbr := Lib.hid hbr
          have Hblkr := Lib.hid hblk
          have g5 := hblk.cell 5
          have hdle := most_le k i m.i
          have hdI : (d : Int) ≤ (k : Int) + 2 := by omega
          have Hdm := Lib.hid hdm
          clear hbr hblk hdm
          by_cases hlt : i < m.i.length
          · have hltI : (i : Int) < (m.i.length : Int) := by omega
            by_cases hdl : (d : Int) < mo
            · obtain ⟨ad, u, hA, hab, hsix, hmv⟩ := Hk.out i hlt
              subst hA
              have hsix1 := hsix.below Hbr.out (by rw [add_block]; exact hab)
              have hmv1 := (hmv.bel Hbr.out).mono Hbr.out.size
              have Hcall := Lib.hid (Ih.out (m.i.getD i default) u wr ((k : Int) + 1) rfl (by omega) hmv1 (sml_i Hs.out (getD_mem _ _ _ hlt)))
              have hms := most_succ k i m.i hlt
              have hdp := dp_le k (m.i.getD i default)
              obtain ⟨x0, x1, x2, x3, x4, x5, rfl, s0, s1, s2, s3, s4, s5⟩ := hsix1
              obtain ⟨D, hD⟩ : ∃ D, dp k (m.i.getD i default) = D := ⟨_, rfl⟩
              rw [hD] at Hcall hms hdp
              have hDI : (D : Int) ≤ (k : Int) + 1 := by omega
              have Hms := Lib.hid hms
              clear hsix hmv hmv1 Hk Ih hD hms hdle
              go_wp2_with fail
              refine (Hcall.out).mono ?_
              rintro e w1 ⟨rfl, hb1⟩
              have Hb1 := Lib.hid (below_next Hbr.out (Nat.le_refl _) hb1)
              have Hblk1 := Lib.hid (Hblkr.out.below hb1 (by have := Hblkr.out.lt; exact this))
              clear hb1
              go_wp2
              go_roundw
              case rel =>
                refine ⟨max d (1 + D), i + 1, ?_, by go_num, by omega, ?_, Hblk1.out, Hb1.out⟩
                · exact congrArg (Value.int .i64) (by omega)
                · rw [Hms.out, Hdm.out]; omega
              case measure => simp [intOf]; omega
            · have hdl' : mo ≤ (d : Int) := by omega
              go_wp2
              go_ret
              refine ⟨?_, Hbr.out⟩
              have e : dp (k + 1) m = d := by rw [hd.out, ← most_end k i m.i (by have := Hdm.out; omega)]; exact Hdm.out.symm
              rw [e]
              rfl
          · have hie : i = m.i.length := by omega
            subst hie
            go_wp2
            go_ret
            refine ⟨?_, Hbr.out⟩
            have e : dp (k + 1) m = d := by rw [hd.out, ← most_all]; exact Hdm.out.symm
            rw [e]
            rfl

end Wp
end Go.Proofs.YtolnkgghejhaeaaGreatDoor
