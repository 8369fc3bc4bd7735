/- The law on the order of edges, walked: it answers true. -/
import Derived.Test.YtfpfhnkboakejaaJFixed
import Derived.Test.YtfpfhnkboakejaaJOrderP
import Derived.Deep.AppendLies
import Derived.Deep.RegionLaw
namespace Go.Proofs.Ytfpfhnkboakejaa
open Go.RowKit
namespace Wp

set_option maxHeartbeats 8000000 in
set_option maxRecDepth 100000 in
theorem order_out1 (v : Value) (n : Int) (es : List (Int × Int)) (x : Int) (w : World) (re : Edges w w.heap.size v es) (hl : 100 < es.length) : Calls Try.prog 5 #[.int .i64 n, v, .int .i64 x] w (Truly w) := by
  obtain ⟨A, c, rfl, hlen, _⟩ := re
  have hl' : 100 < (es.length : Int) := by omega
  have hl2 : (es.length : Int) ≤ 9223372036854775807 := by have := hlen.1; have := hlen.2.1; unfold maxLen at this; omega
  clear hlen
  go_enter Try.func5, Try.ntmps5
  go_wp2_with fail
  refine (fixed_any _).mono ?_
  rintro e w1 ⟨rfl, hb1⟩
  have hB1 : Below w.heap.size w w1 := hb1
  clear hb1
  go_wp2_with fail
  refine (fixed_any _).mono ?_
  rintro e w2 ⟨rfl, hb2⟩
  have hB2 : Below w.heap.size w w2 := hB1.trans (hb2.mono hB1.size)
  clear hb2 hB1
  go_wp2
  go_ret
  exact ⟨rfl, hB2⟩

set_option maxHeartbeats 8000000 in
set_option maxRecDepth 100000 in
theorem order_out2 (v : Value) (n : Int) (es : List (Int × Int)) (x : Int) (w : World) (re : Edges w w.heap.size v es) (hl : es.length ≤ 100) (hb : isG n es = false) : Calls Try.prog 5 #[.int .i64 n, v, .int .i64 x] w (Truly w) := by
  have Hb := Lib.hid hb
  have re0 := re
  obtain ⟨A, c, rfl, _⟩ := re0
  have hl' : (es.length : Int) ≤ 100 := by omega
  clear hb
  go_enter Try.func5, Try.ntmps5
  go_wp2_with fail
  refine (fixed_any _).mono ?_
  rintro e w1 ⟨rfl, hb1⟩
  have hB1 : Below w.heap.size w w1 := hb1
  have re' := re.up hb1
  clear re
  have re := re'
  clear re'
  clear hb1
  go_wp2_with fail
  refine (refgraph_is n _ es _ re (by omega) Hb.out).mono ?_
  rintro e w2 ⟨rfl, hb2⟩
  have hB2 : Below w.heap.size w w2 := hB1.trans (hb2.mono hB1.size)
  have re' := re.up hb2
  clear re
  have re := re'
  clear re'
  clear hb2 hB1
  go_wp2_with fail
  refine (fixed_any _).mono ?_
  rintro e w3 ⟨rfl, hb3⟩
  have hB3 : Below w.heap.size w w3 := hB2.trans (hb3.mono hB2.size)
  have re' := re.up hb3
  clear re
  have re := re'
  clear re'
  clear hb3 hB2
  go_wp2
  go_ret
  exact ⟨rfl, hB3⟩

set_option maxHeartbeats 8000000 in
set_option maxRecDepth 100000 in
theorem order_out3 (v : Value) (n : Int) (es : List (Int × Int)) (x : Int) (w : World) (re : Edges w w.heap.size v es) (hl : es.length ≤ 100) (hb : isG n es = true) (hx : x < 0 ∨ (0 ≤ x ∧ n ≤ x)) : Calls Try.prog 5 #[.int .i64 n, v, .int .i64 x] w (Truly w) := by
  have Hb := Lib.hid hb
  have re0 := re
  obtain ⟨A, c, rfl, _⟩ := re0
  have hl' : (es.length : Int) ≤ 100 := by omega
  clear hb
  rcases hx with hx | ⟨hx, hx2⟩
  all_goals
    go_enter Try.func5, Try.ntmps5
    go_wp2_with fail
    refine (fixed_any _).mono ?_
    rintro e w1 ⟨rfl, hb1⟩
    have hB1 : Below w.heap.size w w1 := hb1
    have re' := re.up hb1
    clear re
    have re := re'
    clear re'
    clear hb1
    go_wp2_with fail
    refine (refgraph_is n _ es _ re (by omega) Hb.out).mono ?_
    rintro e w2 ⟨rfl, hb2⟩
    have hB2 : Below w.heap.size w w2 := hB1.trans (hb2.mono hB1.size)
    have re' := re.up hb2
    clear re
    have re := re'
    clear re'
    clear hb2 hB1
    go_wp2_with fail
    refine (fixed_any _).mono ?_
    rintro e w3 ⟨rfl, hb3⟩
    have hB3 : Below w.heap.size w w3 := hB2.trans (hb3.mono hB2.size)
    have re' := re.up hb3
    clear re
    have re := re'
    clear re'
    clear hb3 hB2
    go_wp2
    go_ret
    exact ⟨rfl, hB3⟩

theorem flat4 (w : World) (a b c d : Value) : ∀ (j : Nat) (v : Value), [a, b, c, d][j]? = some v → (w.alloc (.cells #[a, b, c, d] 37)).cell? ((⟨w.heap.size, 0, none⟩ : Addr).add j) = some v := by
  intro j v hj
  have hb := Blk.new w 37 #[a, b, c, d]
  have hc := hb.cell j
  have he : ((⟨w.heap.size, 0, none⟩ : Addr).add j) = ⟨w.heap.size, j, none⟩ := by
    unfold Addr.add
    split <;> simp_all
  rw [he, hc]
  simpa using hj

set_option maxHeartbeats 8000000 in
set_option maxRecDepth 100000 in
theorem order_in (v : Value) (m : Nat) (ns : List (Nat × Nat)) (x : Nat) (w : World) (re : Edges w w.heap.size v (castE ns)) (hl : ns.length ≤ 100) (hg : GraphN m ns) (hx : x < m) : Calls Try.prog 5 #[.int .i64 m, v, .int .i64 x] w (Truly w) := by
  have Hg := Lib.hid hg
  have Hb := Lib.hid (isG_of hg.1 hg.2.1 hg.2.2.1 hg.2.2.2)
  have hm : m ≤ 64 := hg.2.1
  have Hgb : Hid (GraphN m (backN x ns)) := ⟨hg.1, hg.2.1, by rw [backN_length]; omega, backN_lies hx ns hg.2.2.2⟩
  have Hlow := Lib.hid (nparts_low hg.2.2.2)
  have re0 := re
  obtain ⟨A, c, hv, _, hcell⟩ := re0
  rw [castE_length] at hv hcell
  subst hv
  have Hcell := Lib.hid hcell
  clear hcell
  have hl' : (ns.length : Int) ≤ 100 := by omega
  have hm' : (m : Int) ≤ 64 := by omega
  have hx' : (x : Int) < m := by omega
  have hnm : decide (m ≤ x) = false := by simp; omega
  obtain ⟨i16, hi16, hz0, hz1, hz2⟩ := info_parts info16
  have Hi := Lib.hid hi16
  have Hz0 := Lib.hid hz0
  have Hz1 := Lib.hid hz1
  have Hz2 := Lib.hid hz2
  clear hi16 hz0 hz1 hz2 hg
  have Hcl := Lib.hid (castE_length ns)
  go_enter Try.func5, Try.ntmps5
  go_wp2_with fail
  refine (fixed_any _).mono ?_
  rintro e w1 ⟨rfl, hb1⟩
  have hB1 : Below w.heap.size w w1 := hb1
  have re' := re.up hb1
  clear re
  have re := re'
  clear re'
  clear hb1
  go_wp2_with fail
  refine (refgraph_is m _ (castE ns) _ re (by rw [Hcl.out]; omega) Hb.out).mono ?_
  rintro e w2 ⟨rfl, hb2⟩
  have hB2 : Below w.heap.size w w2 := hB1.trans (hb2.mono hB1.size)
  have re' := re.up hb2
  clear re
  have re := re'
  clear re'
  clear hb2 hB1
  obtain ⟨B, hB⟩ : ∃ B, B = w2.heap.size := ⟨_, rfl⟩
  have Ho0 : Hid (OwnE (w2.alloc (.cells #[.int .i64 (x : Int), .int .i64 (x : Int)] 37)) B (.slice (some ⟨B, 0, none⟩) 1 1) (backN x (ns.drop ns.length))) := by
    show OwnE _ _ _ _
    rw [hB, List.drop_length]
    exact World.ownsRow_lit w2 _ 1 (Nat.le_refl _) (by decide) rfl
  have Hb0 : Hid (Below B w2 (w2.alloc (.cells #[.int .i64 (x : Int), .int .i64 (x : Int)] 37))) := (Below.refl _ _).alloc (by rw [hB]; exact Nat.le_refl _) _
  have Hs0 : Hid (B ≤ (w2.alloc (.cells #[.int .i64 (x : Int), .int .i64 (x : Int)] 37)).heap.size) := by
    show _ ≤ _
    rw [hB]; simp
  have HBe := Lib.hid hB
  have HcB := Lib.hid hB2
  have Hre := Lib.hid re
  clear hB2 re
  go_wp2
  rw [← hB]
  clear hB
  go_loopw [7, 8] (fun vb vi wr => ∃ k : Nat, vi = .int .i64 ((k : Int) - 1) ∧ k ≤ ns.length ∧ OwnE wr B vb (backN x (ns.drop k)) ∧ Below B w2 wr ∧ B ≤ wr.heap.size) (fun _ vi _ => (intOf vi + 1).toNat)
  case atStart => exact ⟨ns.length, rfl, Nat.le_refl _, Ho0.out, Hb0.out, Hs0.out⟩
  case round =>
    obtain ⟨k, rfl, hk, hown, hbr, hsr⟩ := hrel
    clear Ho0 Hb0 Hs0
    obtain ⟨bA, bc, rfl⟩ := hown.slice
    have Hown := Lib.hid hown
    have Hbr := Lib.hid hbr
    have hbl : (backN x (ns.drop k)).length ≤ 201 := by
      rw [backN_length, List.length_drop]
      omega
    clear hown hbr
    by_cases hk0 : k = 0
    · subst hk0
      rw [List.drop_zero] at Hown ⊢
      have hneg : (((0 : Nat) : Int) - 1) = -1 := by omega
      rw [hneg]
      have rb := Hown.out.edges
      have hk2 : Below w2.heap.size w2 wr := by rw [← HBe.out]; exact Hbr.out
      have re := Hre.out.up hk2
      have hBr : Below w.heap.size w wr := HcB.out.trans (hk2.mono HcB.out.size)
      have hbl2 : (backN x ns).length ≤ 201 := by rw [backN_length]; omega
      have Hfb : Hid ((rankN m (backN x ns) == ((backN x ns).length : Int)) = false) := by
        show _ = _
        rw [beq_eq_false_iff_ne, backN_length]
        unfold rankN
        rw [backN_parts]
        have := Hlow.out
        omega
      clear hk2 Hbr Hre HcB
      go_wp2_with fail
      refine (comps_is m _ ns _ re Hg.out).mono ?_
      rintro e w1 ⟨v_rl, rfl, rl, hb1⟩
      have hB1 : Below w.heap.size w w1 := hBr.trans (hb1.mono hBr.size)
      have re' := re.up hb1
      clear re
      have re := re'
      clear re'
      have rb' := rb.up hb1
      clear rb
      have rb := rb'
      clear rb'
      clear hb1 hBr
      go_wp2_with fail
      refine (comps_is m _ (backN x ns) _ rb Hgb.out).mono ?_
      rintro e w2 ⟨v_rm, rfl, rm, hb2⟩
      have hB2 : Below w.heap.size w w2 := hB1.trans (hb2.mono hB1.size)
      have re' := re.up hb2
      clear re
      have re := re'
      clear re'
      have rb' := rb.up hb2
      clear rb
      have rb := rb'
      clear rb'
      have rl' := rl.up hb2
      clear rl
      have rl := rl'
      clear rl'
      clear hb2 hB1
      have rl2 := rl
      obtain ⟨lA, lc, rfl, _⟩ := rl
      rw [compL_length] at rl2 ⊢
      go_wp2_with fail
      refine (same_is _ _ _ _ _ rl2 rm (by rw [compL_length]; omega) (by rw [compL_length]; omega) (same_true (by unfold compL; rw [backN_comp]))).mono ?_
      rintro e w3 ⟨rfl, hb3⟩
      have hB3 : Below w.heap.size w w3 := hB2.trans (hb3.mono hB2.size)
      have re' := re.up hb3
      clear re
      have re := re'
      clear re'
      have rb' := rb.up hb3
      clear rb
      have rb := rb'
      clear rb'
      have rm' := rm.up hb3
      clear rm
      have rm := rm'
      clear rm'
      have rl2' := rl2.up hb3
      clear rl2
      have rl2 := rl2'
      clear rl2'
      clear hb3 hB2
      clear rl2
      clear rm
      go_wp2_with fail
      refine (forest_is m _ (backN x ns) _ rb Hgb.out Hfb.out).mono ?_
      rintro e w4 ⟨rfl, hb4⟩
      have hB4 : Below w.heap.size w w4 := hB3.trans (hb4.mono hB3.size)
      have re' := re.up hb4
      clear re
      have re := re'
      clear re'
      have rb' := rb.up hb4
      clear rb
      have rb := rb'
      clear rb'
      clear hb4 hB3
      clear rb
      go_wp2_with fail
      refine (forest_is m _ ns _ re Hg.out rfl).mono ?_
      rintro e w5 ⟨rfl, hb5⟩
      have hB5 : Below w.heap.size w w5 := hB4.trans (hb5.mono hB4.size)
      have re' := re.up hb5
      clear re
      have re := re'
      clear re'
      clear hb5 hB4
      go_wp2_with fail
      refine (rank_is m _ ns _ re Hg.out rfl).mono ?_
      rintro e w6 ⟨rfl, hb6⟩
      have hB6 : Below w.heap.size w w6 := hB5.trans (hb6.mono hB5.size)
      have re' := re.up hb6
      clear re
      have re := re'
      clear re'
      clear hb6 hB5
      go_wp2
      go_ret
      exact ⟨rfl, hB6⟩
    · obtain ⟨j, rfl⟩ : ∃ j, k = j + 1 := ⟨k - 1, by omega⟩
      have hj : j < ns.length := by omega
      have hji : (((j + 1 : Nat) : Int) - 1) = (j : Int) := by omega
      rw [hji]
      have Hdrop := Lib.hid (drop_at hj)
      obtain ⟨ad, hA, hab, q1, q2⟩ := Hcell.out j hj
      subst hA
      rw [castE_getD] at q1 q2
      simp only at q1 q2
      have hbw : Below w.heap.size w wr := HcB.out.trans (Hbr.out.mono (by rw [HBe.out]; exact HcB.out.size))
      have g1 := (hbw.cell (p := ad.add (j * 2)) (by rw [add_block]; exact hab)).trans q1
      have g2 := (hbw.cell (p := ⟨(ad.add (j * 2)).block, (ad.add (j * 2)).off + 1, none⟩) (by show (ad.add (j * 2)).block < _; rw [add_block]; exact hab)).trans q2
      clear q1 q2 hbw hji hk0
      obtain ⟨⟨a, b⟩, hab2⟩ : ∃ e, e = ns.getD j (0, 0) := ⟨_, rfl⟩
      rw [← hab2] at g1 g2
      have Hn : Hid (backN x (ns.drop j) = backN x (ns.drop (j + 1)) ++ [(b, a), (a, b)]) := by
        show _ = _
        rw [Hdrop.out, ← hab2]
        rfl
      clear hab2 Hdrop
      simp only at g1 g2
      have hj' : (j : Int) < (ns.length : Int) := by omega
      generalize hbk : backN x (ns.drop (j + 1)) = bk at *
      have Hbk := Lib.hid hbk
      clear hbk
      go_wp2
      go_region_law (refine step_append_lies _ rfl _ _ 22 rfl B 37 i16 (.agg #[.int .i64 0, .int .i64 0]) 2 16 (by kernel_rfl) Hi.out Hz0.out Hz1.out Hz2.out rfl (by decide) _ bk.length (flatE bk) rfl (World.ownsRow.alloc Hown.out _).drew _ 2 2 [.int .i64 (b : Int), .int .i64 (a : Int), .int .i64 (a : Int), .int .i64 (b : Int)] rfl rfl (fun p q h => by exact flat4 _ _ _ _ _ p q h) (by intro u hu; simp at hu; rcases hu with rfl | rfl | rfl | rfl <;> rfl) (by decide) (by unfold maxLen; omega) (by omega) (by simp; omega) _ rfl ?_; intro gg cap w4 hown' hgrow _ _)
      all_goals
        have hz4 : B ≤ (wr.alloc (.cells #[.int .i64 (b : Int), .int .i64 (a : Int), .int .i64 (a : Int), .int .i64 (b : Int)] 37)).drew.heap.size := by simp; omega
        have Hb5 : Hid (Below B w2 w4) := ((Hbr.out.alloc hsr (.cells #[.int .i64 (b : Int), .int .i64 (a : Int), .int .i64 (a : Int), .int .i64 (b : Int)] 37)).drew).grown hgrow hz4 (fun i hi => (World.ownsRow.lt Hown.out i hi).1)
        have Hs5 : Hid (B ≤ w4.heap.size) := Nat.le_trans hz4 hgrow.size
        have Hown5 : Hid (OwnE w4 B (.slice (some ⟨gg, 0, none⟩) (bk.length + 2) cap) (backN x (ns.drop j))) := by
          show OwnE _ _ _ _
          rw [Hn.out]
          unfold OwnE
          rw [flatE_append, List.length_append]
          exact hown'
        clear hz4 hgrow hown'
        go_wp2
        go_roundw
        case rel => first | exact ⟨j, rfl, by omega, Hown5.out, Hb5.out, Hs5.out⟩ | ((repeat apply Exists.intro); exact ⟨⟨j, rfl, by omega, Hown5.out, Hb5.out, Hs5.out⟩, rfl⟩)
        case measure => first | (simp [intOf]; done) | (simp [intOf]; omega)

theorem order_any (v : Value) (n : Int) (es : List (Int × Int)) (x : Int) (w : World) (re : Edges w w.heap.size v es) : Calls Try.prog 5 #[.int .i64 n, v, .int .i64 x] w (Truly w) := by
  by_cases hl : 100 < es.length
  · exact order_out1 v n es x w re hl
  · rcases hb : isG n es with _ | _
    · exact order_out2 v n es x w re (by omega) hb
    · by_cases hx : x < 0 ∨ (0 ≤ x ∧ n ≤ x)
      · exact order_out3 v n es x w re (by omega) hb hx
      · obtain ⟨m, ns, rfl, rfl, h1, h2, h3, h4⟩ := isG_nat hb
        obtain ⟨y, rfl⟩ : ∃ y : Nat, x = y := ⟨x.toNat, by omega⟩
        rw [castE_length] at hl
        exact order_in v m ns y w re (by omega) ⟨h1, h2, h3, h4⟩ (by omega)

end Wp
end Go.Proofs.Ytfpfhnkboakejaa
