/- The law on more edges, walked: it answers true. -/
import Derived.Test.YtfpfhnkboakejaaJFixed
import Derived.Test.YtfpfhnkboakejaaJApp
namespace Go.Proofs.Ytfpfhnkboakejaa
open Go.RowKit
namespace Wp

set_option maxHeartbeats 8000000 in
set_option maxRecDepth 100000 in
theorem more_out1 (va vb : Value) (n : Int) (a b : List (Int × Int)) (w : World) (ra : Edges w w.heap.size va a) (rb : Edges w w.heap.size vb b) (la : a.length ≤ 140737488355328) (lb : b.length ≤ 140737488355328) (hl : 100 < a.length + b.length) : Calls Try.prog 7 #[.int .i64 n, va, vb] w (Truly w) := by
  have ra0 := ra
  have rb0 := rb
  obtain ⟨A, ca, rfl, _⟩ := ra0
  obtain ⟨A', cb, rfl, _⟩ := rb0
  have ha2 : (a.length : Int) ≤ 140737488355328 := by omega
  have hb2 : (b.length : Int) ≤ 140737488355328 := by omega
  have hl' : 100 < (a.length : Int) + (b.length : Int) := by omega
  clear ra rb
  go_enter Try.func7, Try.ntmps7
  go_wp2_with fail
  refine (fixed_any _).mono ?_
  rintro e w1 ⟨rfl, hb1⟩
  have hB1 : Below w.heap.size w w1 := hb1
  clear hb1
  go_wp2_with fail
  refine (fixed_any _).mono ?_
  rintro e w2 ⟨rfl, hb2⟩
  have hB2 : Below w.heap.size w w2 := hB1.trans (hb2.mono hB1.size)
  clear hb2 hB1
  go_wp2
  go_ret
  exact ⟨rfl, hB2⟩

set_option maxHeartbeats 8000000 in
set_option maxRecDepth 100000 in
theorem more_out2 (va vb : Value) (n : Int) (a b : List (Int × Int)) (w : World) (ra : Edges w w.heap.size va a) (rb : Edges w w.heap.size vb b) (la : a.length ≤ 140737488355328) (lb : b.length ≤ 140737488355328) (hl : a.length + b.length ≤ 100) (hb : isG n a = false) : Calls Try.prog 7 #[.int .i64 n, va, vb] w (Truly w) := by
  have ra0 := ra
  have rb0 := rb
  obtain ⟨A, ca, rfl, _⟩ := ra0
  obtain ⟨A', cb, rfl, _⟩ := rb0
  have ha2 : (a.length : Int) ≤ 140737488355328 := by omega
  have hb2 : (b.length : Int) ≤ 140737488355328 := by omega
  have hl' : (a.length : Int) + (b.length : Int) ≤ 100 := by omega
  have Hb := Lib.hid hb
  clear hb rb
  go_enter Try.func7, Try.ntmps7
  go_wp2_with fail
  refine (fixed_any _).mono ?_
  rintro e w1 ⟨rfl, hb1⟩
  have hB1 : Below w.heap.size w w1 := hb1
  have ra' := ra.up hb1
  clear ra
  have ra := ra'
  clear ra'
  clear hb1
  go_wp2_with fail
  refine (refgraph_is n _ a _ ra (by omega) Hb.out).mono ?_
  rintro e w2 ⟨rfl, hb2⟩
  have hB2 : Below w.heap.size w w2 := hB1.trans (hb2.mono hB1.size)
  have ra' := ra.up hb2
  clear ra
  have ra := ra'
  clear ra'
  clear hb2 hB1
  go_wp2_with fail
  refine (fixed_any _).mono ?_
  rintro e w3 ⟨rfl, hb3⟩
  have hB3 : Below w.heap.size w w3 := hB2.trans (hb3.mono hB2.size)
  have ra' := ra.up hb3
  clear ra
  have ra := ra'
  clear ra'
  clear hb3 hB2
  go_wp2
  go_ret
  exact ⟨rfl, hB3⟩

set_option maxHeartbeats 8000000 in
set_option maxRecDepth 100000 in
theorem more_out3 (va vb : Value) (n : Int) (a b : List (Int × Int)) (w : World) (ra : Edges w w.heap.size va a) (rb : Edges w w.heap.size vb b) (la : a.length ≤ 140737488355328) (lb : b.length ≤ 140737488355328) (hl : a.length + b.length ≤ 100) (ha : isG n a = true) (hb : isG n b = false) : Calls Try.prog 7 #[.int .i64 n, va, vb] w (Truly w) := by
  have ra0 := ra
  have rb0 := rb
  obtain ⟨A, ca, rfl, _⟩ := ra0
  obtain ⟨A', cb, rfl, _⟩ := rb0
  have ha2 : (a.length : Int) ≤ 140737488355328 := by omega
  have hb2 : (b.length : Int) ≤ 140737488355328 := by omega
  have hl' : (a.length : Int) + (b.length : Int) ≤ 100 := by omega
  have Ha := Lib.hid ha
  have Hb := Lib.hid hb
  clear ha hb
  go_enter Try.func7, Try.ntmps7
  go_wp2_with fail
  refine (fixed_any _).mono ?_
  rintro e w1 ⟨rfl, hb1⟩
  have hB1 : Below w.heap.size w w1 := hb1
  have ra' := ra.up hb1
  clear ra
  have ra := ra'
  clear ra'
  have rb' := rb.up hb1
  clear rb
  have rb := rb'
  clear rb'
  clear hb1
  go_wp2_with fail
  refine (refgraph_is n _ a _ ra (by omega) Ha.out).mono ?_
  rintro e w2 ⟨rfl, hb2⟩
  have hB2 : Below w.heap.size w w2 := hB1.trans (hb2.mono hB1.size)
  have ra' := ra.up hb2
  clear ra
  have ra := ra'
  clear ra'
  have rb' := rb.up hb2
  clear rb
  have rb := rb'
  clear rb'
  clear hb2 hB1
  go_wp2_with fail
  refine (refgraph_is n _ b _ rb (by omega) Hb.out).mono ?_
  rintro e w3 ⟨rfl, hb3⟩
  have hB3 : Below w.heap.size w w3 := hB2.trans (hb3.mono hB2.size)
  have ra' := ra.up hb3
  clear ra
  have ra := ra'
  clear ra'
  have rb' := rb.up hb3
  clear rb
  have rb := rb'
  clear rb'
  clear hb3 hB2
  go_wp2_with fail
  refine (fixed_any _).mono ?_
  rintro e w4 ⟨rfl, hb4⟩
  have hB4 : Below w.heap.size w w4 := hB3.trans (hb4.mono hB3.size)
  have ra' := ra.up hb4
  clear ra
  have ra := ra'
  clear ra'
  have rb' := rb.up hb4
  clear rb
  have rb := rb'
  clear rb'
  clear hb4 hB3
  go_wp2
  go_ret
  exact ⟨rfl, hB4⟩

theorem rank_more {m : Nat} {a b : List (Nat × Nat)} (ha : Lies m a) (hb : Lies m b) : rankN m (a ++ b) ≤ rankN m a + rankN m b ∧ rankN m a ≤ rankN m (a ++ b) ∧ rankN m b ≤ rankN m (a ++ b) := by
  have h1 := nparts_sum a b [] hb (fun e he => absurd he (by simp))
  rw [List.append_nil, List.nil_append, nparts_nil] at h1
  have h2 := nparts_more b a hb
  have h3 := nparts_more' a b ha
  unfold rankN
  omega

set_option maxHeartbeats 8000000 in
set_option maxRecDepth 100000 in
theorem more_in (va vb : Value) (m : Nat) (a b : List (Nat × Nat)) (w : World) (ra : Edges w w.heap.size va (castE a)) (rb : Edges w w.heap.size vb (castE b)) (hl : a.length + b.length ≤ 100) (ha : GraphN m a) (hb : GraphN m b) : Calls Try.prog 7 #[.int .i64 m, va, vb] w (Truly w) := by
  have Ha := Lib.hid ha
  have Hb := Lib.hid hb
  have Hga := Lib.hid (isG_of ha.1 ha.2.1 ha.2.2.1 ha.2.2.2)
  have Hgb := Lib.hid (isG_of hb.1 hb.2.1 hb.2.2.1 hb.2.2.2)
  have Hboth : Hid (GraphN m (a ++ b)) := ⟨ha.1, ha.2.1, by rw [List.length_append]; omega, Lies.append.2 ⟨ha.2.2.2, hb.2.2.2⟩⟩
  have Hrk := Lib.hid (rank_more ha.2.2.2 hb.2.2.2)
  have hm : m ≤ 64 := ha.2.1
  have hm' : (m : Int) ≤ 64 := by omega
  have ra0 := ra
  have rb0 := rb
  obtain ⟨A, ca, hv, _⟩ := ra0
  rw [castE_length] at hv
  subst hv
  obtain ⟨A', cb, hv, _⟩ := rb0
  rw [castE_length] at hv
  subst hv
  have hl' : (a.length : Int) + (b.length : Int) ≤ 100 := by omega
  have hla : (a.length : Int) ≤ 100 := by omega
  have hlb : (b.length : Int) ≤ 100 := by omega
  have Hca := Lib.hid (castE_length a)
  have Hcb := Lib.hid (castE_length b)
  clear ha hb
  go_enter Try.func7, Try.ntmps7
  go_wp2_with fail
  refine (fixed_any _).mono ?_
  rintro e w1 ⟨rfl, hb1⟩
  have hB1 : Below w.heap.size w w1 := hb1
  have ra' := ra.up hb1
  clear ra
  have ra := ra'
  clear ra'
  have rb' := rb.up hb1
  clear rb
  have rb := rb'
  clear rb'
  clear hb1
  go_wp2_with fail
  refine (refgraph_is m _ (castE a) _ ra (by rw [Hca.out]; omega) Hga.out).mono ?_
  rintro e w2 ⟨rfl, hb2⟩
  have hB2 : Below w.heap.size w w2 := hB1.trans (hb2.mono hB1.size)
  have ra' := ra.up hb2
  clear ra
  have ra := ra'
  clear ra'
  have rb' := rb.up hb2
  clear rb
  have rb := rb'
  clear rb'
  clear hb2 hB1
  go_wp2_with fail
  refine (refgraph_is m _ (castE b) _ rb (by rw [Hcb.out]; omega) Hgb.out).mono ?_
  rintro e w3 ⟨rfl, hb3⟩
  have hB3 : Below w.heap.size w w3 := hB2.trans (hb3.mono hB2.size)
  have ra' := ra.up hb3
  clear ra
  have ra := ra'
  clear ra'
  have rb' := rb.up hb3
  clear rb
  have rb := rb'
  clear rb'
  clear hb3 hB2
  obtain ⟨C, hC⟩ : ∃ C, C = w3.heap.size := ⟨_, rfl⟩
  have Ho : Hid (OwnE (w3.alloc (.cells #[] 37)) C (.slice (some ⟨w3.heap.size, 0, none⟩) 0 0) []) := by
    show OwnE _ _ _ _
    rw [hC]
    exact World.ownsRow_made w3 #[] 0 (Nat.le_refl _) (by unfold maxLen; omega) rfl
  have Hz : Hid (C ≤ (w3.alloc (.cells #[] 37)).heap.size) := by
    show _ ≤ _
    rw [hC]; simp
  have hk0 : Below C w3 (w3.alloc (.cells #[] 37)) := (Below.refl _ _).alloc (by rw [hC]; exact Nat.le_refl _) _
  have HC := Lib.hid hC
  clear hC
  go_wp2_with (at_builtin; refine wpList_append_edges rfl _ _ rfl C _ _ _ [] a rfl rfl Ho.out (ra.upA _) (by simp) (by omega) Hz.out ?_)
  intro v1 x1 hown1 hgr1
  have hk1 : Below C w3 x1 := hk0.grown hgr1 Hz.out (fun i hi => (World.ownsRow.lt Ho.out i hi).1)
  have Hs1 : Hid (C ≤ x1.heap.size) := Nat.le_trans Hz.out hgr1.size
  obtain ⟨pA, pc, rfl⟩ := hown1.slice
  have Hown1 := Lib.hid hown1
  have Hrb1 : Hid (Edges x1 x1.heap.size (.slice A' b.length cb) (castE b)) := rb.up (by rw [← HC.out]; exact hk1)
  clear hown1 hgr1 hk0
  go_wp2_with (at_builtin; refine wpList_append_edges rfl _ _ rfl C _ _ _ a b rfl rfl Hown1.out Hrb1.out (by omega) (by omega) Hs1.out ?_)
  intro v2 x2 hown2 hgr2
  have hk2 : Below C w3 x2 := hk1.grown hgr2 Hs1.out (fun i hi => (World.ownsRow.lt Hown1.out i hi).1)
  rw [HC.out] at hk2
  have hBb : Below w.heap.size w x2 := hB3.trans (hk2.mono hB3.size)
  have ra' := ra.up hk2
  clear ra
  have ra := ra'
  clear ra'
  have rb' := rb.up hk2
  clear rb
  have rb := rb'
  clear rb'
  have rab := hown2.edges
  obtain ⟨qA, qc, rfl⟩ := hown2.slice
  obtain ⟨L, hL⟩ : ∃ L, L = (a ++ b).length := ⟨_, rfl⟩
  rw [← hL] at rab ⊢
  have hL1 : (L : Int) ≤ 100 := by rw [hL, List.length_append]; omega
  have HL := Lib.hid hL
  clear hL
  clear hk1 hk2 hown2 hgr2 hB3
  go_wp2_with fail
  refine (comps_is m _ a _ ra Ha.out).mono ?_
  rintro e w4 ⟨v_rl, rfl, rl, hb4⟩
  have hB4 : Below w.heap.size w w4 := hBb.trans (hb4.mono hBb.size)
  have ra' := ra.up hb4
  clear ra
  have ra := ra'
  clear ra'
  have rb' := rb.up hb4
  clear rb
  have rb := rb'
  clear rb'
  have rab' := rab.up hb4
  clear rab
  have rab := rab'
  clear rab'
  clear hb4 hBb
  go_wp2_with fail
  refine (comps_is m _ (a ++ b) _ rab Hboth.out).mono ?_
  rintro e w5 ⟨v_rm, rfl, rm, hb5⟩
  have hB5 : Below w.heap.size w w5 := hB4.trans (hb5.mono hB4.size)
  have ra' := ra.up hb5
  clear ra
  have ra := ra'
  clear ra'
  have rb' := rb.up hb5
  clear rb
  have rb := rb'
  clear rb'
  have rab' := rab.up hb5
  clear rab
  have rab := rab'
  clear rab'
  have rl' := rl.up hb5
  clear rl
  have rl := rl'
  clear rl'
  clear hb5 hB4
  have rl2 := rl
  obtain ⟨lA, lc, rfl, _⟩ := rl
  rw [compL_length] at rl2 ⊢
  have rm2 := rm
  obtain ⟨kA, kc, rfl, _⟩ := rm
  rw [compL_length] at rm2 ⊢
  have Hra := Lib.hid ra
  have Hrb := Lib.hid rb
  have Hrab := Lib.hid rab
  have Hl2 := Lib.hid rl2
  have Hm2 := Lib.hid rm2
  have HB := Lib.hid hB5
  clear ra rb rab rl2 rm2 hB5
  go_wp2
  go_loopw [12] (fun vv wr => ∃ v : Nat, vv = .int .i64 v ∧ v ≤ m ∧ Below w5.heap.size w5 wr) (fun vv _ => m - (intOf vv).toNat)
  case atStart => exact ⟨0, rfl, Nat.zero_le _, Below.refl _ _⟩
  case round =>
    obtain ⟨v, rfl, hv, hbr⟩ := hrel
    have Hbr := Lib.hid hbr
    clear hbr
    by_cases hlt : v < m
    · obtain ⟨lA', lc', e1, _, hcl⟩ := Hl2.out
      injection e1 with e1 e1b e1c
      subst e1
      clear e1b e1c
      obtain ⟨kA', kc', e2, _, hck⟩ := Hm2.out
      injection e2 with e2 e2b e2c
      subst e2
      clear e2b e2c
      obtain ⟨ad, hA, hab, q1⟩ := hcl v (by rw [compL_length]; exact hlt)
      obtain ⟨bd, hB, hbb, q2⟩ := hck v (by rw [compL_length]; exact hlt)
      have hle := comp_le a v
      obtain ⟨_, hB', _, q3⟩ := hck (compF a v) (by rw [compL_length]; omega)
      subst hA
      rw [hB] at hB'
      injection hB' with hB'
      subst hB'
      subst hB
      rw [compL_getD hlt] at q1 q2
      rw [compL_getD (by omega), comp_more] at q3
      have g1 := (Hbr.out.cell (p := ad.add v) (by rw [add_block]; exact hab)).trans q1
      have g2 := (Hbr.out.cell (p := bd.add v) (by rw [add_block]; exact hbb)).trans q2
      have g3 := (Hbr.out.cell (p := bd.add (compF a v)) (by rw [add_block]; exact hbb)).trans q3
      clear q1 q2 q3 hcl hck
      generalize compF a v = x at *
      generalize compF (a ++ b) v = y at *
      have hv' : (v : Int) < m := by omega
      have hx' : (x : Int) < m := by omega
      have hx0 : decide ((x : Int) < 0) = false := by
        rw [decide_eq_false_iff_not]; omega
      have hxm : decide (m ≤ x) = false := by
        rw [decide_eq_false_iff_not]; omega
      go_wp2
      go_quiet (fail)
      go_wp2
      go_roundw
      case rel => exact ⟨v + 1, by go_num, by omega, below_drewN Hbr.out _⟩
      case measure => simp [intOf]; omega
    · have hve : v = m := by omega
      have ra := Hra.out.up Hbr.out
      have rb := Hrb.out.up Hbr.out
      have rab := Hrab.out.up Hbr.out
      have hBr : Below w.heap.size w wr := HB.out.trans (Hbr.out.mono HB.out.size)
      clear Hra Hrb Hrab Hbr HB
      have hra := rankN_bound m a
      have hrb := rankN_bound m b
      have hrab := rankN_bound m (a ++ b)
      have hrk := Hrk.out
      clear Hrk
      obtain ⟨xa, hxa⟩ : ∃ x, rankN m a = x := ⟨_, rfl⟩
      obtain ⟨xb, hxb⟩ : ∃ x, rankN m b = x := ⟨_, rfl⟩
      obtain ⟨xab, hxab⟩ : ∃ x, rankN m (a ++ b) = x := ⟨_, rfl⟩
      rw [hxa] at hra hrk
      rw [hxb] at hrb hrk
      rw [hxab] at hrab hrk
      have Hxa := Lib.hid hxa
      have Hxb := Lib.hid hxb
      have Hxab := Lib.hid hxab
      clear hxa hxb hxab
      obtain ⟨hra1, hra2⟩ := hra
      obtain ⟨hrb1, hrb2⟩ := hrb
      obtain ⟨hrab1, hrab2⟩ := hrab
      obtain ⟨hrk1, hrk2, hrk3⟩ := hrk
      have hmx : xb ≤ xa ∨ xa < xb := by omega
      rcases hmx with hmx | hmx
      all_goals
        go_wp2_with fail
        refine (rank_is m _ (a ++ b) _ rab Hboth.out Hxab.out).mono ?_
        rintro e w1 ⟨rfl, hb1⟩
        have hB1 : Below w.heap.size w w1 := hBr.trans (hb1.mono hBr.size)
        have ra' := ra.up hb1
        clear ra
        have ra := ra'
        clear ra'
        have rb' := rb.up hb1
        clear rb
        have rb := rb'
        clear rb'
        have rab' := rab.up hb1
        clear rab
        have rab := rab'
        clear rab'
        clear hb1 hBr
        go_wp2_with fail
        refine (rank_is m _ a _ ra Ha.out Hxa.out).mono ?_
        rintro e w2 ⟨rfl, hb2⟩
        have hB2 : Below w.heap.size w w2 := hB1.trans (hb2.mono hB1.size)
        have ra' := ra.up hb2
        clear ra
        have ra := ra'
        clear ra'
        have rb' := rb.up hb2
        clear rb
        have rb := rb'
        clear rb'
        have rab' := rab.up hb2
        clear rab
        have rab := rab'
        clear rab'
        clear hb2 hB1
        go_wp2_with fail
        refine (rank_is m _ b _ rb Hb.out Hxb.out).mono ?_
        rintro e w3 ⟨rfl, hb3⟩
        have hB3 : Below w.heap.size w w3 := hB2.trans (hb3.mono hB2.size)
        have ra' := ra.up hb3
        clear ra
        have ra := ra'
        clear ra'
        have rb' := rb.up hb3
        clear rb
        have rb := rb'
        clear rb'
        have rab' := rab.up hb3
        clear rab
        have rab := rab'
        clear rab'
        clear hb3 hB2
        go_wp2_with fail
        refine (rank_is m _ a _ ra Ha.out Hxa.out).mono ?_
        rintro e w4 ⟨rfl, hb4⟩
        have hB4 : Below w.heap.size w w4 := hB3.trans (hb4.mono hB3.size)
        have ra' := ra.up hb4
        clear ra
        have ra := ra'
        clear ra'
        have rb' := rb.up hb4
        clear rb
        have rb := rb'
        clear rb'
        have rab' := rab.up hb4
        clear rab
        have rab := rab'
        clear rab'
        clear hb4 hB3
        go_wp2_with fail
        refine (rank_is m _ b _ rb Hb.out Hxb.out).mono ?_
        rintro e w5 ⟨rfl, hb5⟩
        have hB5 : Below w.heap.size w w5 := hB4.trans (hb5.mono hB4.size)
        have ra' := ra.up hb5
        clear ra
        have ra := ra'
        clear ra'
        have rb' := rb.up hb5
        clear rb
        have rb := rb'
        clear rb'
        have rab' := rab.up hb5
        clear rab
        have rab := rab'
        clear rab'
        clear hb5 hB4
        go_wp2
        go_ret
        exact ⟨rfl, hB5⟩

theorem more_any (va vb : Value) (n : Int) (a b : List (Int × Int)) (w : World) (ra : Edges w w.heap.size va a) (rb : Edges w w.heap.size vb b) (la : a.length ≤ 140737488355328) (lb : b.length ≤ 140737488355328) : Calls Try.prog 7 #[.int .i64 n, va, vb] w (Truly w) := by
  by_cases hl : 100 < a.length + b.length
  · exact more_out1 va vb n a b w ra rb la lb hl
  · rcases ha : isG n a with _ | _
    · exact more_out2 va vb n a b w ra rb la lb (by omega) ha
    · rcases hb : isG n b with _ | _
      · exact more_out3 va vb n a b w ra rb la lb (by omega) ha hb
      · obtain ⟨m, ns, rfl, rfl, h1, h2, h3, h4⟩ := isG_nat ha
        obtain ⟨m', ns', e, rfl, h1', h2', h3', h4'⟩ := isG_nat hb
        have e' : m = m' := by omega
        subst e'
        rw [castE_length, castE_length] at hl
        exact more_in va vb m ns ns' w ra rb (by omega) ⟨h1, h2, h3, h4⟩ ⟨h1', h2', h3', h4'⟩

end Wp
end Go.Proofs.Ytfpfhnkboakejaa
