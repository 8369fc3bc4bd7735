/- The document's answer: is that a graph: walked. -/
import Derived.Test.YtfpfhnkboakejaaJComps
namespace Go.Proofs.Ytfpfhnkboakejaa
open Go.RowKit
namespace Wp

theorem isG_size {n : Int} {es : List (Int × Int)} {k : Nat} (hk : k = es.length) (h : okUpto n es k) : isG n es = sizeB n es := by
  unfold isG
  have : es.all (okE n) = true := by
    rw [List.all_eq_true]
    intro e he
    obtain ⟨j, hj, rfl⟩ := List.mem_iff_getElem.1 he
    have := h j (by omega)
    rwa [getD_edge hj] at this
  rw [this, Bool.and_true]

set_option maxHeartbeats 4000000 in
set_option maxRecDepth 100000 in
theorem refgraph_any (n : Int) (v : Value) (es : List (Int × Int)) (w : World) (hr : Edges w w.heap.size v es) (hl : es.length ≤ 1048576) :
    Calls Try.prog 19 #[.int .i64 n, v] w (Says w (isG n es)) := by
  obtain ⟨A, c, rfl, _, hcell⟩ := hr
  have Hcell := Lib.hid hcell
  clear hcell
  have Hbad := Lib.hid (fun k => @isG_bad n es k)
  have hl3 : (es.length : Int) ≤ 1048576 := by omega
  go_enter Try.func19, Try.ntmps19
  go_wp2
  go_loopw [5] (fun vk wr => ∃ k : Nat, vk = .int .i64 k ∧ k ≤ es.length ∧ Below w.heap.size w wr ∧ okUpto n es k) (fun vk _ => es.length - (intOf vk).toNat)
  case atStart => exact ⟨0, rfl, Nat.zero_le _, Below.refl _ _, fun j hj => absurd hj (by omega)⟩
  case round =>
    obtain ⟨k, rfl, hk, hwr, hok⟩ := hrel
    have Hwr := Lib.hid hwr
    clear hwr
    have Hok := Lib.hid hok
    clear hok
    by_cases hlt : k < es.length
    · obtain ⟨ad, hA, hab, h1, h2⟩ := Hcell.out k hlt
      subst hA
      have g1 : wr.cell? (ad.add (k * 2)) = some (.int .i64 (es.getD k (0, 0)).1) := ((Hwr.out).cell (by rw [add_block]; exact hab)).trans h1
      have g2 : wr.cell? ⟨(ad.add (k * 2)).block, (ad.add (k * 2)).off + 1, none⟩ = some (.int .i64 (es.getD k (0, 0)).2) := ((Hwr.out).cell (by show (ad.add (k * 2)).block < _; rw [add_block]; exact hab)).trans h2
      have Hno := Lib.hid (Hbad.out k hlt)
      have Hyes := Lib.hid (okUpto_step (n := n) (es := es) (k := k) Hok.out)
      clear h1 h2 Hbad Hcell
      have hlt' : (k : Int) < (es.length : Int) := by omega
      have He : Hid (okE n (es.getD k (0, 0)) = decide (0 ≤ (es.getD k (0, 0)).1 ∧ (es.getD k (0, 0)).1 < n ∧ 0 ≤ (es.getD k (0, 0)).2 ∧ (es.getD k (0, 0)).2 < n)) := rfl
      generalize (es.getD k (0, 0)).1 = x at *
      generalize (es.getD k (0, 0)).2 = y at *
      by_cases hb : 0 ≤ x ∧ x < n ∧ 0 ≤ y ∧ y < n
      · obtain ⟨hx1, hx2, hy1, hy2⟩ := hb
        have Hx : Hid (okE n (es.getD k (0, 0)) = true) := by
          show okE n (es.getD k (0, 0)) = true
          rw [He.out]; simp [hx1, hx2, hy1, hy2]
        go_wp2
        go_quiet (fail)
        go_wp2
        go_roundw
        case rel => exact ⟨k + 1, by go_num, by omega, below_drewN (Hwr.out) _, Hyes.out Hx.out⟩
        case measure => simp [intOf]; omega
      · have Hx : Hid (okE n (es.getD k (0, 0)) = false) := by
          show okE n (es.getD k (0, 0)) = false
          rw [He.out, decide_eq_false_iff_not]
          exact hb
        have hb' : x < 0 ∨ (0 ≤ x ∧ y < 0) ∨ (0 ≤ x ∧ 0 ≤ y ∧ n ≤ x) ∨ (0 ≤ x ∧ 0 ≤ y ∧ x < n ∧ n ≤ y) := by omega
        clear hb
        rcases hb' with h1 | ⟨h1, h2⟩ | ⟨h1, h2, h3⟩ | ⟨h1, h2, h3, h4⟩
        all_goals
          go_wp2
          go_quiet (fail)
          go_wp2
          go_ret
          exact says_mk (Hno.out Hx.out) rfl (below_drewN (Hwr.out) _)
    · have hke : k = es.length := by omega
      have Hsz := Lib.hid (isG_size hke Hok.out)
      subst hke
      clear Hbad Hok
      by_cases h1 : 1 ≤ n
      · by_cases h2 : n ≤ 64
        · by_cases h3 : (es.length : Int) ≤ 4096
          · have Hb : Hid (sizeB n es = true) := by
              show sizeB n es = true
              unfold sizeB
              exact decide_eq_true ⟨h1, h2, by omega⟩
            go_wp2
            go_ret
            exact says_mk (Hsz.out.trans Hb.out) rfl Hwr.out
          · have Hb : Hid (sizeB n es = false) := by
              show sizeB n es = false
              unfold sizeB
              exact decide_eq_false (fun h => h3 (by omega))
            have h3' : 4096 < (es.length : Int) := by omega
            go_wp2
            go_ret
            exact says_mk (Hsz.out.trans Hb.out) rfl Hwr.out
        · have Hb : Hid (sizeB n es = false) := by
            show sizeB n es = false
            unfold sizeB
            exact decide_eq_false (fun h => h2 (by omega))
          have h2' : 64 < n := by omega
          go_wp2
          go_ret
          exact says_mk (Hsz.out.trans Hb.out) rfl Hwr.out
      · have Hb : Hid (sizeB n es = false) := by
          show sizeB n es = false
          unfold sizeB
          exact decide_eq_false (fun h => h1 (by omega))
        have h1' : n < 1 := by omega
        go_wp2
        go_ret
        exact says_mk (Hsz.out.trans Hb.out) rfl Hwr.out

theorem refgraph_is (n : Int) (v : Value) (es : List (Int × Int)) (w : World) (hr : Edges w w.heap.size v es) (hl : es.length ≤ 1048576) {b : Bool} (hb : isG n es = b) :
    Calls Try.prog 19 #[.int .i64 n, v] w (Says w b) := by
  subst hb
  exact refgraph_any n v es w hr hl

end Wp
end Go.Proofs.Ytfpfhnkboakejaa
