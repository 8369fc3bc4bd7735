/- The document's Comps: labels that become the lesser of both, edge by edge: walked. -/
import Derived.Test.YtfpfhnkboakejaaJRefG
namespace Go.Proofs.Ytfpfhnkboakejaa
open Go.RowKit
namespace Wp

def sweepUpto (ns : List (Nat × Nat)) (f : Nat → Nat) (i : Nat) : Nat → Nat := (ns.take i).foldl stepF f
theorem sweepUpto_step {ns : List (Nat × Nat)} {f : Nat → Nat} {i : Nat} (hi : i < ns.length) : sweepUpto ns f (i + 1) = stepF (sweepUpto ns f i) (ns.getD i (0, 0)) := by
  unfold sweepUpto
  rw [List.take_succ_eq_append_getElem hi, List.foldl_append]
  simp [List.getD, hi]

set_option maxHeartbeats 4000000 in
set_option maxRecDepth 100000 in
theorem refcomps_bad (n : Int) (v : Value) (es : List (Int × Int)) (w : World) (hr : Edges w w.heap.size v es) (hl : es.length ≤ 1048576) (hb : isG n es = false) :
    Calls Try.prog 10 #[.int .i64 n, v] w fun e w' => e = .returned (.tuple #[.slice none 0 0, .int .i64 1]) ∧ Below w.heap.size w w' := by
  have Hr := Lib.hid hr
  have Hb := Lib.hid hb
  obtain ⟨A, c, rfl, _⟩ := hr
  clear hb
  go_enter Try.func10, Try.ntmps10
  go_wp2_with fail
  refine (refgraph_is n _ es w Hr.out hl Hb.out).mono ?_
  rintro e w1 ⟨rfl, hb1⟩
  go_wp2
  go_ret2
  exact ⟨rfl, hb1⟩

set_option maxHeartbeats 8000000 in
set_option maxRecDepth 100000 in
theorem refcomps_good (m : Nat) (v : Value) (ns : List (Nat × Nat)) (w : World) (hr : Edges w w.heap.size v (castE ns)) (h1 : 1 ≤ m) (h2 : m ≤ 64) (h3 : ns.length ≤ 4096) (h4 : Lies m ns) :
    Calls Try.prog 10 #[.int .i64 m, v] w (GivesLabels w m (compF ns)) := by
  have Hr := Lib.hid hr
  have Hg := Lib.hid (isG_of h1 h2 h3 h4)
  have Hlies := Lib.hid h4
  have hl : (castE ns).length ≤ 1048576 := by rw [castE_length]; omega
  obtain ⟨A, c, hv, _, hcell⟩ := hr
  rw [castE_length] at hv hcell
  subst hv
  have Hcell := Lib.hid hcell
  clear hcell h4
  have h2' : (m : Int) ≤ 64 := by omega
  have h1' : 1 ≤ (m : Int) := by omega
  have h3' : (ns.length : Int) ≤ 4096 := by omega
  have hmk := fun W => run_make_row' 24 3 (.int .i64 0) 8 Try.underlying24 info3 rfl .i64 .i64 m (by omega) (by omega) W
  go_enter Try.func10, Try.ntmps10
  go_wp2_with fail
  refine (refgraph_is m _ (castE ns) w Hr.out hl Hg.out).mono ?_
  rintro e w1 ⟨rfl, hb1⟩
  obtain ⟨g, hg⟩ : ∃ g, g = w1.heap.size := ⟨_, rfl⟩
  have Hgs : Hid (w.heap.size ≤ g) := by
    show _ ≤ _
    rw [hg]; exact hb1.size
  have Hlab0 : Hid (Labels (w1.alloc (.cells (madeCells #[.int .i64 0] m) 3)) g m (fun j => if j < 0 then j else 0)) := by
    show Labels _ _ _ _
    rw [hg]
    exact World.rowIs.congr (World.rowIs_made w1 (.int .i64 0) m 3) fun i _ => by simp
  have Hb1 : Hid (Below w.heap.size w (w1.alloc (.cells (madeCells #[.int .i64 0] m) 3))) := hb1.alloc hb1.size _
  clear hb1
  go_wp2
  rw [← hg]
  clear hg hmk
  go_loopw [7] (fun vk wr => ∃ k : Nat, vk = .int .i64 k ∧ k ≤ m ∧ Labels wr g m (fun j => if j < k then j else 0) ∧ Below w.heap.size w wr) (fun vk _ => m - (intOf vk).toNat)
  case atStart => exact ⟨0, rfl, Nat.zero_le _, Hlab0.out, Hb1.out⟩
  case round =>
    obtain ⟨k, rfl, hk, hlab, hbr⟩ := hrel
    have Hlab := Lib.hid hlab
    have Hbr := Lib.hid hbr
    clear hlab hbr
    by_cases hlt : k < m
    · have hc : wr.cell? ⟨g, k, none⟩ = some (.int .i64 0) := by
        have := Hlab.out.cell hlt
        simpa using this
      have hfz : wr.frozen? ⟨g, k, none⟩ = false := Hlab.out.frozen k
      go_wp2
      go_roundw
      case rel =>
        refine ⟨k + 1, by go_num, by omega, (Hlab.out.set k k).congr fun i hi => ?_, Hbr.out.setCell Hgs.out _⟩
        by_cases hik : i = k
        · simp [hik]
        · by_cases hlt' : i < k
          · simp [hik, hlt', show i < k + 1 by omega]
          · simp [hik, hlt', show ¬ i < k + 1 by omega]
      case measure => simp [intOf]; omega
    · have hke : k = m := by omega
      have Hlab2 := Lib.hid (Hlab.out.congr (f' := roundsF ns 0) (fun i hi => by simp [roundsF, show i < k by omega]))
      clear Hlab
      go_wp2
      go_loopw [8] (fun vk wr => ∃ k : Nat, vk = .int .i64 k ∧ k ≤ m ∧ Labels wr g m (roundsF ns k) ∧ Below w.heap.size w wr) (fun vk _ => m - (intOf vk).toNat)
      case atStart => exact ⟨0, rfl, Nat.zero_le _, Hlab2.out, Hbr.out⟩
      case round =>
        clear Hlab2 Hbr hke hlt hk
        obtain ⟨k, rfl, hk, hlab, hbr⟩ := hrel
        have Hlab := Lib.hid hlab
        have Hbr := Lib.hid hbr
        clear hlab hbr
        by_cases hlt : k < m
        · go_wp2
          go_loopw [9] (fun vi wr => ∃ i : Nat, vi = .int .i64 i ∧ i ≤ ns.length ∧ Labels wr g m (sweepUpto ns (roundsF ns k) i) ∧ Below w.heap.size w wr) (fun vi _ => ns.length - (intOf vi).toNat)
          case atStart => exact ⟨0, rfl, Nat.zero_le _, Hlab.out, Hbr.out⟩
          case round =>
            clear Hlab Hbr
            obtain ⟨i, rfl, hi, hlab, hbr⟩ := hrel
            have Hlab := Lib.hid hlab
            have Hbr := Lib.hid hbr
            clear hlab hbr
            by_cases hil : i < ns.length
            · obtain ⟨ad, hA, hab, q1, q2⟩ := Hcell.out i hil
              subst hA
              rw [castE_getD] at q1 q2
              simp only at q1 q2
              have g1 := (Hbr.out.cell (p := ad.add (i * 2)) (by rw [add_block]; exact hab)).trans q1
              have g2 := (Hbr.out.cell (p := ⟨(ad.add (i * 2)).block, (ad.add (i * 2)).off + 1, none⟩) (by show (ad.add (i * 2)).block < _; rw [add_block]; exact hab)).trans q2
              clear q1 q2 Hcell
              have hlie := edge_lies Hlies.out hil
              have Hstep := Lib.hid (sweepUpto_step (f := roundsF ns k) hil)
              obtain ⟨⟨x, y⟩, hxy⟩ : ∃ e, e = ns.getD i (0, 0) := ⟨_, rfl⟩
              rw [← hxy] at g1 g2 hlie Hstep
              clear hxy
              simp only at g1 g2 hlie
              obtain ⟨hx, hy⟩ := hlie
              have c1 := Hlab.out.cell hx
              have c2 := Hlab.out.cell hy
              have f1 := Hlab.out.frozen x
              have f2 := Hlab.out.frozen y
              have hx' : (x : Int) < m := by omega
              have hy' : (y : Int) < m := by omega
              have hil' : (i : Int) < (ns.length : Int) := by omega
              obtain ⟨px, hpx⟩ : ∃ p, p = sweepUpto ns (roundsF ns k) i x := ⟨_, rfl⟩
              obtain ⟨py, hpy⟩ : ∃ p, p = sweepUpto ns (roundsF ns k) i y := ⟨_, rfl⟩
              rw [← hpx] at c1
              rw [← hpy] at c2
              obtain ⟨mn, hmn⟩ : ∃ mn, mn = min px py := ⟨_, rfl⟩
              have Hst : Hid (sweepUpto ns (roundsF ns k) (i + 1) = fun j => if j = y then mn else if j = x then mn else sweepUpto ns (roundsF ns k) i j) := by
                show _ = _
                rw [Hstep.out, hmn, hpx, hpy]
                rfl
              clear hpx hpy
              have hcase : (mn = px ∧ px ≤ py) ∨ (mn = py ∧ py < px) := by omega
              clear hmn
              have Hset := Lib.hid (fun W (h : Labels W g m (sweepUpto ns (roundsF ns k) i)) => (h.set x mn).set y mn)
              go_wp2
              go_quiet (fail)
              go_wp2
              rcases hcase with ⟨rfl, hle⟩ | ⟨rfl, hle⟩
              all_goals
                go_quiet (fail)
                generalize hW : wr.drewN _ = W
                have hlw : Labels W g m (sweepUpto ns (roundsF ns k) i) := by rw [← hW]; exact Hlab.out
                have hbw : Below w.heap.size w W := by rw [← hW]; exact below_drewN Hbr.out _
                clear hW
                have d1 := hlw.cell hx
                have e1 := hlw.frozen x
                have hl2 := hlw.set x mn
                have d2 := hlw.cell hy
                have e2 := hlw.frozen y
                have hl3 := hl2.set y mn
                have Hl3 := Lib.hid (hl3.congr (f' := sweepUpto ns (roundsF ns k) (i + 1)) (fun j _ => by rw [Hst.out]))
                have Hbw := Lib.hid hbw
                clear hlw hl2 hl3 hbw
                by_cases hxy : x = y
                · subst hxy
                  go_wp2
                  go_roundw
                  case rel => exact ⟨i + 1, by go_num, by omega, Hl3.out, ((below_drewN Hbw.out _).setCell Hgs.out _).setCell Hgs.out _⟩
                  case measure => simp [intOf]; omega
                · have hyx : ¬ y = x := fun h => hxy h.symm
                  go_wp2
                  go_roundw
                  case rel => exact ⟨i + 1, by go_num, by omega, Hl3.out, ((below_drewN Hbw.out _).setCell Hgs.out _).setCell Hgs.out _⟩
                  case measure => simp [intOf]; omega
            · have hie : i = ns.length := by omega
              have Hl2 := Lib.hid (Hlab.out.congr (f' := roundsF ns (k + 1)) (fun j _ => by unfold sweepUpto; rw [hie, List.take_length]; rfl))
              go_wp2
              go_roundw
              case rel => exact ⟨k + 1, by go_num, by omega, Hl2.out, Hbr.out⟩
              case measure => simp [intOf]; omega
        · have hke : k = m := by omega
          have Hfin := Lib.hid (Hlab.out.congr (f' := compF ns) (fun j hj => by rw [hke]; exact rounds_comp Hlies.out j hj))
          go_wp2
          go_ret2
          exact ⟨g, rfl, Hfin.out, Hgs.out, Hbr.out⟩

end Wp
end Go.Proofs.Ytfpfhnkboakejaa
