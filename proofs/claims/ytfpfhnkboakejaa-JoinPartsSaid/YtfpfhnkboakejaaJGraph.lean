/- Is that a graph: as the program asks it, walked. -/
import Derived.Test.YtfpfhnkboakejaaJKit
import Derived.LoopN
namespace Go.Proofs.Ytfpfhnkboakejaa
open Go.RowKit
namespace Wp

def okE (n : Int) (e : Int × Int) : Bool := decide (0 ≤ e.1 ∧ e.1 < n ∧ 0 ≤ e.2 ∧ e.2 < n)
def sizeB (n : Int) (es : List (Int × Int)) : Bool := decide (1 ≤ n ∧ n ≤ 64 ∧ es.length ≤ 4096)
/-- Is that a graph? -/
def isG (n : Int) (es : List (Int × Int)) : Bool := sizeB n es && es.all (okE n)

theorem isG_no {n : Int} {es : List (Int × Int)} (h : ¬ (1 ≤ n ∧ n ≤ 64 ∧ es.length ≤ 4096)) : isG n es = false := by
  unfold isG sizeB
  rw [decide_eq_false h]
  rfl
theorem getD_edge {es : List (Int × Int)} {k : Nat} (hk : k < es.length) : es.getD k (0, 0) = es[k] := by simp [List.getD, hk]
theorem isG_bad {n : Int} {es : List (Int × Int)} {k : Nat} (hk : k < es.length) (h : okE n (es.getD k (0, 0)) = false) : isG n es = false := by
  unfold isG
  rw [Bool.and_eq_false_iff]
  right
  rw [← Bool.not_eq_true, List.all_eq_true]
  intro h2
  have := h2 _ (List.getElem_mem hk)
  rw [getD_edge hk, this] at h
  cases h
def okUpto (n : Int) (es : List (Int × Int)) (k : Nat) : Prop := ∀ j, j < k → okE n (es.getD j (0, 0)) = true
theorem okUpto_step {n : Int} {es : List (Int × Int)} {k : Nat} (h : okUpto n es k) (hk : okE n (es.getD k (0, 0)) = true) : okUpto n es (k + 1) := by
  intro j hj
  by_cases hjk : j = k
  · rw [hjk]; exact hk
  · exact h j (by omega)
theorem isG_end {n : Int} {es : List (Int × Int)} (h1 : 1 ≤ n ∧ n ≤ 64 ∧ es.length ≤ 4096) {k : Nat} (hk : k = es.length) (h : okUpto n es k) : isG n es = true := by
  unfold isG sizeB
  rw [decide_eq_true h1, Bool.true_and, List.all_eq_true]
  intro e he
  obtain ⟨j, hj, rfl⟩ := List.mem_iff_getElem.1 he
  have := h j (by omega)
  rwa [getD_edge hj] at this

theorem idx0 (x y : Int) (w : World) : (Instr.index 37 (.agg #[.int .i64 x, .int .i64 y]) (.int .i64 0)).run Try.prog w = .ok (.int .i64 x) w := by kernel_rfl
theorem idx1 (x y : Int) (w : World) : (Instr.index 37 (.agg #[.int .i64 x, .int .i64 y]) (.int .i64 1)).run Try.prog w = .ok (.int .i64 y) w := by kernel_rfl

set_option maxHeartbeats 4000000 in
set_option maxRecDepth 100000 in
theorem isgraph_in (n : Int) (v : Value) (es : List (Int × Int)) (w : World) (hr : Edges w w.heap.size v es) (hn1 : 1 ≤ n) (hn2 : n ≤ 64) (hl2 : es.length ≤ 4096) :
    Calls Try.prog 23 #[.int .i64 n, v] w (Says w (isG n es)) := by
  obtain ⟨A, c, rfl, _, hcell⟩ := hr
  have Hcell := Lib.hid hcell
  clear hcell
  have Hbad := Lib.hid (fun k => @isG_bad n es k)
  have Hend := Lib.hid (fun k => @isG_end n es ⟨hn1, hn2, hl2⟩ k)
  have i0 := idx0
  have i1 := idx1
  have hl3 : (es.length : Int) ≤ 4096 := by omega
  go_enter Try.func23, Try.ntmps23
  go_wp2
  go_loopw [22] (fun vk wr => ∃ k : Nat, vk = .int .i64 k ∧ k ≤ es.length ∧ Below w.heap.size w wr ∧ okUpto n es k) (fun vk _ => es.length - (intOf vk).toNat)
  case atStart => exact ⟨0, rfl, Nat.zero_le _, Below.refl _ _, fun j hj => absurd hj (by omega)⟩
  case round =>
    obtain ⟨k, rfl, hk, hwr, hok⟩ := hrel
    have Hwr := Lib.hid hwr
    clear hwr
    have Hok := Lib.hid hok
    clear hok
    by_cases hlt : k < es.length
    · obtain ⟨ad, hA, hab, h1, h2⟩ := Hcell.out k hlt
      subst hA
      have g1 : wr.cell? (ad.add (k * 2)) = some (.int .i64 (es.getD k (0, 0)).1) := ((Hwr.out).cell (by rw [add_block]; exact hab)).trans h1
      have g2 : wr.cell? ⟨(ad.add (k * 2)).block, (ad.add (k * 2)).off + 1, none⟩ = some (.int .i64 (es.getD k (0, 0)).2) := ((Hwr.out).cell (by show (ad.add (k * 2)).block < _; rw [add_block]; exact hab)).trans h2
      have Hno := Lib.hid (Hbad.out k hlt)
      have Hyes := Lib.hid (okUpto_step (n := n) (es := es) (k := k) Hok.out)
      clear h1 h2 Hbad Hcell
      have He : Hid (okE n (es.getD k (0, 0)) = decide (0 ≤ (es.getD k (0, 0)).1 ∧ (es.getD k (0, 0)).1 < n ∧ 0 ≤ (es.getD k (0, 0)).2 ∧ (es.getD k (0, 0)).2 < n)) := rfl
      generalize (es.getD k (0, 0)).1 = x at *
      generalize (es.getD k (0, 0)).2 = y at *
      by_cases hx : 0 ≤ x ∧ x < n
      · obtain ⟨hx1, hx2⟩ := hx
        by_cases hy : 0 ≤ y ∧ y < n
        · obtain ⟨hy1, hy2⟩ := hy
          have Hx : Hid (okE n (es.getD k (0, 0)) = true) := by
            show okE n (es.getD k (0, 0)) = true
            rw [He.out]; simp [hx1, hx2, hy1, hy2]
          go_wp2
          refine wp_loop_rounds 3 ?_
          rw [rounds_succ]
          go_wp2
          rw [rounds_succ]
          go_wp2
          rw [rounds_succ]
          go_wp2
          go_roundw
          case rel => exact ⟨k + 1, by go_num, by omega, (Hwr.out).alloc (Hwr.out).size _, Hyes.out Hx.out⟩
          case measure => simp [intOf]; omega
        · have Hx : Hid (okE n (es.getD k (0, 0)) = false) := by
            show okE n (es.getD k (0, 0)) = false
            rw [He.out, decide_eq_false_iff_not]
            rintro ⟨_, _, h3, h4⟩
            exact hy ⟨h3, h4⟩
          have hy' : y < 0 ∨ n ≤ y := by omega
          clear hy
          rcases hy' with hy' | hy'
          · go_wp2
            refine wp_loop_rounds 3 ?_
            rw [rounds_succ]
            go_wp2
            rw [rounds_succ]
            go_wp2
            go_ret
            exact says_mk (Hno.out Hx.out) rfl ((Hwr.out).alloc (Hwr.out).size _)
          · have hy2 : 0 ≤ y := by omega
            go_wp2
            refine wp_loop_rounds 3 ?_
            rw [rounds_succ]
            go_wp2
            rw [rounds_succ]
            go_wp2
            go_ret
            exact says_mk (Hno.out Hx.out) rfl ((Hwr.out).alloc (Hwr.out).size _)
      · have Hx : Hid (okE n (es.getD k (0, 0)) = false) := by
          show okE n (es.getD k (0, 0)) = false
          rw [He.out, decide_eq_false_iff_not]
          rintro ⟨h3, h4, _⟩
          exact hx ⟨h3, h4⟩
        have hx' : x < 0 ∨ n ≤ x := by omega
        clear hx
        rcases hx' with hx' | hx'
        · go_wp2
          refine wp_loop_rounds 3 ?_
          rw [rounds_succ]
          go_wp2
          go_ret
          exact says_mk (Hno.out Hx.out) rfl ((Hwr.out).alloc (Hwr.out).size _)
        · have hx2 : 0 ≤ x := by omega
          go_wp2
          refine wp_loop_rounds 3 ?_
          rw [rounds_succ]
          go_wp2
          go_ret
          exact says_mk (Hno.out Hx.out) rfl ((Hwr.out).alloc (Hwr.out).size _)
    · have hke : k = es.length := by omega
      have Hfin := Lib.hid (Hend.out k hke Hok.out)
      subst hke
      go_wp2
      go_ret
      exact says_mk Hfin.out rfl Hwr.out

set_option maxHeartbeats 4000000 in
set_option maxRecDepth 100000 in
theorem isgraph_any (n : Int) (v : Value) (es : List (Int × Int)) (w : World) (hr : Edges w w.heap.size v es) (hl : es.length ≤ 1048576) :
    Calls Try.prog 23 #[.int .i64 n, v] w (Says w (isG n es)) := by
  by_cases h : 1 ≤ n ∧ n ≤ 64 ∧ es.length ≤ 4096
  · exact isgraph_in n v es w hr h.1 h.2.1 h.2.2
  · have Hno := Lib.hid (isG_no h)
    have Hr := Lib.hid hr
    obtain ⟨A, c, rfl, _⟩ := hr
    have hl' : (es.length : Int) ≤ 1048576 := by omega
    have h3 : n < 1 ∨ (1 ≤ n ∧ 64 < n) ∨ (1 ≤ n ∧ n ≤ 64 ∧ 4096 < (es.length : Int)) := by omega
    clear h
    rcases h3 with h3 | ⟨h3, h4⟩ | ⟨h3, h4, h5⟩
    · go_enter Try.func23, Try.ntmps23
      go_wp2
      go_ret
      exact says_mk Hno.out rfl (Below.refl _ _)
    · go_enter Try.func23, Try.ntmps23
      go_wp2
      go_ret
      exact says_mk Hno.out rfl (Below.refl _ _)
    · go_enter Try.func23, Try.ntmps23
      go_wp2
      go_ret
      exact says_mk Hno.out rfl (Below.refl _ _)

theorem isgraph_is (n : Int) (v : Value) (es : List (Int × Int)) (w : World) (hr : Edges w w.heap.size v es) (hl : es.length ≤ 1048576) {b : Bool} (hb : isG n es = b) :
    Calls Try.prog 23 #[.int .i64 n, v] w (Says w b) := by
  subst hb
  exact isgraph_any n v es w hr hl

end Wp
end Go.Proofs.Ytfpfhnkboakejaa
