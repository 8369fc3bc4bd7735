/- The law on parts, walked: it answers true. -/
import Derived.Test.YtfpfhnkboakejaaJFixed
import Derived.Test.YtfpfhnkboakejaaJLawP
import Derived.Test.YtfpfhnkboakejaaSRefU
namespace Go.Proofs.Ytfpfhnkboakejaa
open Go.RowKit
namespace Wp

set_option maxHeartbeats 8000000 in
set_option maxRecDepth 100000 in
theorem partl_out1 (v : Value) (n : Int) (es : List (Int × Int)) (w : World) (re : Edges w w.heap.size v es) (hl : 100 < es.length) : Calls Try.prog 4 #[.int .i64 n, v] w (Truly w) := by
  obtain ⟨A, c, rfl, hlen, _⟩ := re
  have hl' : 100 < (es.length : Int) := by omega
  have hl2 : (es.length : Int) ≤ 9223372036854775807 := by have := hlen.1; have := hlen.2.1; unfold maxLen at this; omega
  clear hlen
  go_enter Try.func4, Try.ntmps4
  go_wp2_with fail
  refine (fixed_any _).mono ?_
  rintro e w1 ⟨rfl, hb1⟩
  have hB1 : Below w.heap.size w w1 := hb1
  clear hb1
  go_wp2_with fail
  refine (fixed_any _).mono ?_
  rintro e w2 ⟨rfl, hb2⟩
  have hB2 : Below w.heap.size w w2 := hB1.trans (hb2.mono hB1.size)
  clear hb2 hB1
  go_wp2
  go_ret
  exact ⟨rfl, hB2⟩

set_option maxHeartbeats 8000000 in
set_option maxRecDepth 100000 in
theorem partl_out2 (v : Value) (n : Int) (es : List (Int × Int)) (w : World) (re : Edges w w.heap.size v es) (hl : es.length ≤ 100) (hb : isG n es = false) : Calls Try.prog 4 #[.int .i64 n, v] w (Truly w) := by
  have Hb := Lib.hid hb
  have re0 := re
  obtain ⟨A, c, rfl, _⟩ := re0
  have hl' : (es.length : Int) ≤ 100 := by omega
  clear hb
  go_enter Try.func4, Try.ntmps4
  go_wp2_with fail
  refine (fixed_any _).mono ?_
  rintro e w1 ⟨rfl, hb1⟩
  have hB1 : Below w.heap.size w w1 := hb1
  have re' := re.up hb1
  clear re
  have re := re'
  clear re'
  clear hb1
  go_wp2_with fail
  refine (refgraph_is n _ es _ re (by omega) Hb.out).mono ?_
  rintro e w2 ⟨rfl, hb2⟩
  have hB2 : Below w.heap.size w w2 := hB1.trans (hb2.mono hB1.size)
  have re' := re.up hb2
  clear re
  have re := re'
  clear re'
  clear hb2 hB1
  go_wp2_with fail
  refine (fixed_any _).mono ?_
  rintro e w3 ⟨rfl, hb3⟩
  have hB3 : Below w.heap.size w w3 := hB2.trans (hb3.mono hB2.size)
  have re' := re.up hb3
  clear re
  have re := re'
  clear re'
  clear hb3 hB2
  go_wp2
  go_ret
  exact ⟨rfl, hB3⟩

theorem Edges.tail {w : World} {B : Nat} {ad : Addr} {n c : Nat} {e : Nat × Nat} {t : List (Nat × Nat)} (h : Edges w B (.slice (some ad) n c) (castE (e :: t))) :
    (c = 1 → Edges w B (.slice (some ad) 0 0) (castE t) ∧ t = []) ∧ (c ≠ 1 → Edges w B (.slice (some (ad.add 2)) t.length (c - 1)) (castE t)) := by
  obtain ⟨A, c', hv, hn, hk⟩ := h
  injection hv with h1 h2 h3
  subst h1
  subst h3
  rw [castE_length, List.length_cons] at hn
  constructor
  · intro hc
    have ht : t = [] := List.eq_nil_of_length_eq_zero (by omega)
    subst ht
    exact ⟨⟨some ad, 0, rfl, ⟨Nat.le_refl _, by decide, fun e => by cases e⟩, fun k hk => absurd hk (by simp [castE])⟩, rfl⟩
  · intro hc
    refine ⟨some (ad.add 2), c - 1, by rw [castE_length], ⟨by rw [castE_length]; omega, by omega, fun e => by cases e⟩, fun k hk' => ?_⟩
    rw [castE_length] at hk'
    obtain ⟨ad', hA, hb, q1, q2⟩ := hk (k + 1) (by rw [castE_length, List.length_cons]; omega)
    injection hA with hA
    subst hA
    have ha : (ad.add 2).add (k * 2) = ad.add ((k + 1) * 2) := by
      rw [Go.Deep.add_add]
      congr 1
      omega
    refine ⟨_, rfl, by rw [add_block]; exact hb, ?_, ?_⟩
    · rw [ha]
      simpa [castE] using q1
    · rw [ha]
      simpa [castE] using q2

set_option maxHeartbeats 8000000 in
set_option maxRecDepth 100000 in
theorem partl_in (v : Value) (m : Nat) (ns : List (Nat × Nat)) (w : World) (re : Edges w w.heap.size v (castE ns)) (hl : ns.length ≤ 100) (hg : GraphN m ns) : Calls Try.prog 4 #[.int .i64 m, v] w (Truly w) := by
  have Hg := Lib.hid hg
  have Hb := Lib.hid (isG_of hg.1 hg.2.1 hg.2.2.1 hg.2.2.2)
  have hm : m ≤ 64 := hg.2.1
  have hm' : (m : Int) ≤ 64 := by omega
  have hm1 : 1 ≤ (m : Int) := by have := hg.1; omega
  have Hcl := Lib.hid (castE_length ns)
  have re0 := re
  obtain ⟨A, c, hv, _⟩ := re0
  rw [castE_length] at hv
  subst hv
  have hl' : (ns.length : Int) ≤ 100 := by omega
  have Hlies := Lib.hid hg.2.2.2
  clear hg
  have Hle := Lib.hid (comp_le ns)
  have Hid' := Lib.hid (comp_idem ns)
  have Hedge := Lib.hid (fun e (he : e ∈ ns) => comp_edge he)
  have Hrk : Hid (rankN m ns = (m : Int) - ((castP (partsL m (compF ns))).length : Int)) := by
    show _ = _
    rw [castP_length, parts_length]
    rfl
  have hpl : (castP (partsL m (compF ns))).length ≤ m := by
    rw [castP_length, parts_length]
    exact cnt_le _ _
  go_enter Try.func4, Try.ntmps4
  go_wp2_with fail
  refine (fixed_any _).mono ?_
  rintro e w1 ⟨rfl, hb1⟩
  have hB1 : Below w.heap.size w w1 := hb1
  have re' := re.up hb1
  clear re
  have re := re'
  clear re'
  clear hb1
  go_wp2_with fail
  refine (refgraph_is m _ (castE ns) _ re (by rw [Hcl.out]; omega) Hb.out).mono ?_
  rintro e w2 ⟨rfl, hb2⟩
  have hB2 : Below w.heap.size w w2 := hB1.trans (hb2.mono hB1.size)
  have re' := re.up hb2
  clear re
  have re := re'
  clear re'
  clear hb2 hB1
  go_wp2_with fail
  refine (parts_is m _ ns _ re Hg.out rfl).mono ?_
  rintro e w3 ⟨v_rp, rfl, rp, hb3⟩
  have hB3 : Below w.heap.size w w3 := hB2.trans (hb3.mono hB2.size)
  have re' := re.up hb3
  clear re
  have re := re'
  clear re'
  clear hb3 hB2
  go_wp2_with fail
  refine (comps_is m _ ns _ re Hg.out).mono ?_
  rintro e w4 ⟨v_rl, rfl, rl, hb4⟩
  have hB4 : Below w.heap.size w w4 := hB3.trans (hb4.mono hB3.size)
  have re' := re.up hb4
  clear re
  have re := re'
  clear re'
  have rp' := rp.up hb4
  clear rp
  have rp := rp'
  clear rp'
  clear hb4 hB3
  have rl2 := rl
  obtain ⟨lA, lc, rfl, _⟩ := rl
  rw [compL_length] at rl2 ⊢
  have rp2 := rp
  obtain ⟨pA, pc, rfl, _⟩ := rp
  obtain ⟨L, hL⟩ : ∃ L, L = (castP (partsL m (compF ns))).length := ⟨_, rfl⟩
  rw [← hL] at rp2 hpl Hrk ⊢
  have HL := Lib.hid hL
  clear hL
  have hpl' : (L : Int) ≤ m := by omega
  obtain ⟨rk, hrk⟩ : ∃ rk, rankN m ns = rk := ⟨_, rfl⟩
  have hrk2 : (m : Int) - (L : Int) = rk := by rw [← Hrk.out]; exact hrk
  have Hrk2 := Lib.hid hrk
  clear hrk Hrk
  go_wp2_with fail
  refine (rank_is m _ ns _ re Hg.out Hrk2.out).mono ?_
  rintro e w5 ⟨rfl, hb5⟩
  have hB5 : Below w.heap.size w w5 := hB4.trans (hb5.mono hB4.size)
  have re' := re.up hb5
  clear re
  have re := re'
  clear re'
  have rl2' := rl2.up hb5
  clear rl2
  have rl2 := rl2'
  clear rl2'
  have rp2' := rp2.up hb5
  clear rp2
  have rp2 := rp2'
  clear rp2'
  clear hb5 hB4
  have Hre := Lib.hid re
  have Hrl := Lib.hid rl2
  have Hrp := Lib.hid rp2
  have HB := Lib.hid hB5
  clear re rl2 rp2 hB5
  have Hr0 : Hid (Row (w5.alloc (.cells #[] 3)) (w5.alloc (.cells #[] 3)).heap.size (.slice (some ⟨w5.heap.size, 0, none⟩) 0 0) (unionUpto (castP (partsL m (compF ns))) 0)) := (Row.lit0 w5).here
  have Hb0 : Hid (Below w5.heap.size w5 (w5.alloc (.cells #[] 3))) := (Below.refl _ _).alloc (Nat.le_refl _) _
  have hw5 : Below w.heap.size w w5 := HB.out
  obtain ⟨pp, hppe⟩ : ∃ pp, pp = castP (partsL m (compF ns)) := ⟨_, rfl⟩
  have Hat : Hid (∀ i, i < L → ∃ r, r < m ∧ compF ns r = r ∧ pp.getD i [] = castL (partAt m (compF ns) r) ∧ meetL (unionUpto pp i) (pp.getD i []) = []) := by
    intro i hi
    rw [HL.out, castP_length] at hi
    obtain ⟨r, _, h1, h2, h3⟩ := pp_at hi
    rw [hppe]
    exact ⟨r, h1, h2, h3, pp_apart hm hi⟩
  have Hall : Hid ((unionUpto pp L).length = m) := by
    show _ = _
    rw [HL.out, hppe]
    exact pp_all hm Hle.out Hid'.out
  have Hlen : Hid (∀ i, i ≤ L → (unionUpto pp i).length ≤ 64 * i) := by
    intro i hi
    rw [HL.out] at hi
    rw [hppe]
    exact unionUpto_len (pp_short hm) i hi
  have Hsucc : Hid (∀ i, i < L → unionUpto pp (i + 1) = unionL (unionUpto pp i) (pp.getD i [])) := by
    intro i hi
    rw [HL.out] at hi
    rw [hppe]
    exact unionUpto_succ hi
  have Hppl : Hid (pp.length = L) := by
    show _ = _
    rw [HL.out, hppe]
  rw [← hppe] at Hrp Hr0
  clear hppe HL
  go_wp2
  go_loopw [9, 10] (fun va vi wr => ∃ i : Nat, vi = .int .i64 i ∧ i ≤ L ∧ Row wr wr.heap.size va (unionUpto pp i) ∧ Below w5.heap.size w5 wr) (fun _ vi _ => L - (intOf vi).toNat)
  case atStart => exact ⟨0, rfl, Nat.zero_le _, Hr0.out, Hb0.out⟩
  case round =>
    obtain ⟨i, rfl, hi, hall, hbr⟩ := hrel
    clear Hr0 Hb0
    have Hall2 := Lib.hid hall
    have Hbr := Lib.hid hbr
    clear hall hbr
    by_cases hlt : i < L
    · obtain ⟨r, hrm, hrr, hpi, hmt⟩ := Hat.out i hlt
      obtain ⟨pA', pc', e1, _, hk1⟩ := Hrp.out
      rw [Hppl.out] at e1 hk1
      injection e1 with e1 _ e1c
      subst e1
      subst e1c
      obtain ⟨ad, u, hA, hadb, hc1, hru⟩ := hk1 i hlt
      subst hA
      clear hk1
      rw [hpi] at hru hmt
      obtain ⟨t, ht⟩ := partAt_head Hle.out hrr hrm
      have hset : mayB (castL (partAt m (compF ns) r)) = true := mayB_of (part_isSet hm (compF ns) r)
      have hql : (castL (partAt m (compF ns) r)).length ≤ 64 := by
        rw [castL_length]
        have := partAt_length m (compF ns) r
        omega
      have hq0 : 1 ≤ (castL (partAt m (compF ns) r)).length := by
        rw [castL_length, ht]
        simp
      have Hnext : Hid (unionUpto pp (i + 1) = unionL (unionUpto pp i) (castL (partAt m (compF ns) r))) := by
        show _ = _
        rw [Hsucc.out i hlt, hpi]
      have hal : (unionUpto pp i).length ≤ 4096 := by
        have := Hlen.out i (by omega)
        omega
      have Hhead : Hid ((castL (partAt m (compF ns) r)).getD 0 0 = (r : Int)) := by
        show _ = _
        rw [ht]
        rfl
      have Hmem : Hid (∀ k, k < (castL (partAt m (compF ns) r)).length → ∃ x : Nat, (castL (partAt m (compF ns) r)).getD k 0 = (x : Int) ∧ x < m ∧ compF ns x = r) := by
        intro k hk
        have hm2 : (castL (partAt m (compF ns) r)).getD k 0 ∈ castL (partAt m (compF ns) r) := by simp [List.getD, hk]
        obtain ⟨x, hx, e⟩ := castL_mem.1 hm2
        exact ⟨x, e, (mem_partAt.1 hx).1, (mem_partAt.1 hx).2⟩
      generalize castL (partAt m (compF ns) r) = q at *
      have Hset := Lib.hid hset
      have Hmt := Lib.hid hmt
      have Hadb := Lib.hid hadb
      have Hc1 := Lib.hid hc1
      have Hru := Lib.hid hru
      clear hset hmt hpi ht hrr
      obtain ⟨uA, uc, rfl, _, hcu⟩ := hru
      have Hcu := Lib.hid hcu
      clear hcu
      have hql' : (q.length : Int) ≤ 64 := by omega
      have hq0' : ((q.length : Int) == 0) = false := by rw [beq_eq_false_iff_ne]; omega
      have hlt' : (i : Int) < (L : Int) := by omega
      have hBr := Hbr.out
      have rall := Hall2.out
      have ru := (Hru.out.below hBr).mono hBr.size
      have c1 := (hBr.cell (p := ad.add i) (by rw [add_block]; exact Hadb.out)).trans Hc1.out
      clear Hbr Hall2 hadb hc1
      go_wp2_with fail
      refine (refmay_is _ q _ ru (by omega) Hset.out).mono ?_
      rintro e w1 ⟨rfl, hb1⟩
      have hB1 : Below w5.heap.size w5 w1 := hBr.trans (hb1.mono hBr.size)
      have rall' := rall.up hb1
      clear rall
      have rall := rall'
      clear rall'
      have ru' := ru.up hb1
      clear ru
      have ru := ru'
      clear ru'
      clear hb1 hBr
      clear c1
      have c1 := (hB1.cell (p := ad.add i) (by rw [add_block]; exact Hadb.out)).trans Hc1.out
      go_wp2_with fail
      refine (refmeet_any _ _ _ q _ rall ru (by omega) (by omega)).mono ?_
      rintro e w2 ⟨v_rmt, rfl, rmt, hb2⟩
      have hB2 : Below w5.heap.size w5 w2 := hB1.trans (hb2.mono hB1.size)
      have rall' := rall.up hb2
      clear rall
      have rall := rall'
      clear rall'
      have ru' := ru.up hb2
      clear ru
      have ru := ru'
      clear ru'
      clear hb2 hB1
      clear c1
      have c1 := (hB2.cell (p := ad.add i) (by rw [add_block]; exact Hadb.out)).trans Hc1.out
      rw [Hmt.out] at rmt
      obtain ⟨mA, mc, rfl, _⟩ := rmt
      go_wp2_with fail
      refine (refunion_any _ _ _ q _ rall ru (by omega) (by omega)).mono ?_
      rintro e w3 ⟨v_rn, rfl, rn, hb3⟩
      have hB3 : Below w5.heap.size w5 w3 := hB2.trans (hb3.mono hB2.size)
      have rall' := rall.up hb3
      clear rall
      have rall := rall'
      clear rall'
      have ru' := ru.up hb3
      clear ru
      have ru := ru'
      clear ru'
      clear hb3 hB2
      clear c1
      have c1 := (hB3.cell (p := ad.add i) (by rw [add_block]; exact Hadb.out)).trans Hc1.out
      rw [← Hnext.out] at rn
      clear rall
      clear ru
      have HBi := Lib.hid hB3
      have Hrn := Lib.hid rn
      clear hB3 rn c1
      go_wp2
      go_loopw [11] (fun vk wr => ∃ (k dq : Nat), vk = .int .i64 k ∧ k ≤ q.length ∧ wr = w3.drewN dq) (fun vk _ => q.length - (intOf vk).toNat)
      case atStart => exact ⟨0, 0, rfl, Nat.zero_le _, rfl⟩
      case round =>
        obtain ⟨k, dq, rfl, hk, hwr⟩ := hrel
        have Hwr := Lib.hid hwr
        have Hbw : Hid (Below w5.heap.size w5 wr) := by
          show Below _ _ _
          rw [hwr]
          exact below_drewN HBi.out _
        clear hwr
        have c1 := (Hbw.out.cell (p := ad.add i) (by rw [add_block]; exact Hadb.out)).trans Hc1.out
        by_cases hlk : k < q.length
        · obtain ⟨x, hx1, hx2, hx3⟩ := Hmem.out k hlk
          obtain ⟨bd, hbA, hbb, q2⟩ := Hcu.out k hlk
          obtain ⟨_, hbA', _, q3⟩ := Hcu.out 0 (by omega)
          subst hbA
          injection hbA' with hbA'
          subst hbA'
          rw [hx1] at q2
          rw [Hhead.out, add_zero] at q3
          obtain ⟨lA', lc', e2, _, hcl⟩ := Hrl.out
          injection e2 with e2 e2b e2c
          subst e2
          clear e2b e2c
          obtain ⟨ld, hlA, hlb, q4⟩ := hcl x (by rw [compL_length]; exact hx2)
          subst hlA
          rw [compL_getD hx2, hx3] at q4
          clear hcl
          have g2 := (Hbw.out.cell (p := bd.add k) (by rw [add_block]; exact hbb)).trans q2
          have g3 := (Hbw.out.cell (p := bd) hbb).trans q3
          have g4 := (Hbw.out.cell (p := ld.add x) (by rw [add_block]; exact hlb)).trans q4
          clear q2 q3 q4 hx1 hx3
          have hlk' : (k : Int) < (q.length : Int) := by omega
          have hx2' : (x : Int) < (m : Int) := by omega
          have hxm : decide (m ≤ x) = false := by
            rw [decide_eq_false_iff_not]; omega
          have hq00 : 0 < q.length := by omega
          go_wp2
          go_quiet (fail)
          go_wp2
          go_roundw
          case rel => exact ⟨k + 1, dq + nq, by go_num, by omega, by rw [Hwr.out, World.drewN_drewN]⟩
          case measure => simp [intOf]; omega
        · have hke : k = q.length := by omega
          have Hrn2 : Hid (Row wr wr.heap.size v_rn (unionUpto pp (i + 1))) := by
            show Row _ _ _ _
            rw [Hwr.out]
            exact Hrn.out.up (below_drewN (Below.refl _ _) dq)
          go_wp2
          go_roundw
          case rel => exact ⟨i + 1, by go_num, by omega, Hrn2.out, Hbw.out⟩
          case measure => simp [intOf]; omega
    · have hiL : i = L := by omega
      have hal := Hall2.out
      rw [hiL] at hal
      obtain ⟨wo, rfl⟩ : ∃ wo, wo = wr := ⟨_, rfl⟩
      obtain ⟨aA, ac, rfl, _⟩ := hal
      rw [Hall.out]
      clear Hall2 hiL
      have HBo := Hbr
      clear Hbr
      go_wp2
      go_loopw [12] (fun vj wr => ∃ (j dq : Nat), vj = .int .i64 j ∧ j ≤ ns.length ∧ wr = wo.drewN dq) (fun vj _ => ns.length - (intOf vj).toNat)
      case atStart => exact ⟨0, 0, rfl, Nat.zero_le _, rfl⟩
      case round =>
        obtain ⟨j, dq, rfl, hj, hwr⟩ := hrel
        have Hwr := Lib.hid hwr
        have Hbw : Hid (Below w5.heap.size w5 wr) := by
          show Below _ _ _
          rw [hwr]
          exact below_drewN HBo.out _
        clear hwr
        by_cases hjl : j < ns.length
        · obtain ⟨A', c', e1, _, hce⟩ := Hre.out
          rw [castE_length] at e1 hce
          injection e1 with e1 e1b e1c
          subst e1
          clear e1b e1c
          obtain ⟨ad, hA, hab, q1, q2⟩ := hce j hjl
          subst hA
          clear hce
          rw [castE_getD] at q1 q2
          simp only at q1 q2
          have hlie := edge_lies Hlies.out hjl
          have hee := Hedge.out (ns.getD j (0, 0)) (by simp [List.getD, hjl])
          generalize ns.getD j (0, 0) = ee at *
          obtain ⟨x, y⟩ := ee
          simp only at q1 q2 hlie hee
          obtain ⟨hx, hy⟩ := hlie
          obtain ⟨lA', lc', e2, _, hcl⟩ := Hrl.out
          injection e2 with e2 e2b e2c
          subst e2
          clear e2b e2c
          obtain ⟨ld, hlA, hlb, q3⟩ := hcl x (by rw [compL_length]; exact hx)
          obtain ⟨_, hlA', _, q4⟩ := hcl y (by rw [compL_length]; exact hy)
          subst hlA
          injection hlA' with hlA'
          subst hlA'
          rw [compL_getD hx, hee] at q3
          rw [compL_getD hy] at q4
          clear hcl hee
          generalize compF ns y = z at q3 q4
          have g1 := (Hbw.out.cell (p := ad.add (j * 2)) (by rw [add_block]; exact hab)).trans q1
          have g2 := (Hbw.out.cell (p := ⟨(ad.add (j * 2)).block, (ad.add (j * 2)).off + 1, none⟩) (by show (ad.add (j * 2)).block < _; rw [add_block]; exact hab)).trans q2
          have g3 := (Hbw.out.cell (p := ld.add x) (by rw [add_block]; exact hlb)).trans q3
          have g4 := (Hbw.out.cell (p := ld.add y) (by rw [add_block]; exact hlb)).trans q4
          clear q1 q2 q3 q4
          have hjl' : (j : Int) < (ns.length : Int) := by omega
          have hx' : (x : Int) < (m : Int) := by omega
          have hy' : (y : Int) < (m : Int) := by omega
          go_wp2
          go_quiet (fail)
          go_wp2
          go_roundw
          case rel => exact ⟨j + 1, dq + nq, by go_num, by omega, by rw [Hwr.out, World.drewN_drewN]⟩
          case measure => simp [intOf]; omega
        · have hje : ¬ (j : Int) < (ns.length : Int) := by omega
          by_cases hn0 : 0 < ns.length
          · obtain ⟨e, t, hns⟩ : ∃ e t, ns = e :: t := by
              cases ns with
              | nil => simp at hn0
              | cons e t => exact ⟨e, t, rfl⟩
            have hre := Hre.out
            obtain ⟨A', c', e1, hcc, hce⟩ := Hre.out
            rw [castE_length] at e1 hce hcc
            injection e1 with e1 e1b e1c
            subst e1
            obtain ⟨ad, hA, hab, _⟩ := hce 0 hn0
            subst hA
            have hcl : ns.length ≤ c := by rw [e1c]; exact hcc.1
            have hcm : c ≤ maxLen := by rw [e1c]; exact hcc.2.1
            clear hce hcc e1b e1c
            have h2 : Edges w5 w5.heap.size (.slice (some ad) ns.length c) (castE (e :: t)) := by rw [← hns]; exact hre
            have htl := h2.tail
            have hlt : Lies m (e :: t) := by rw [← hns]; exact Hlies.out
            have hrl := rank_less hlt
            have hgt : GraphN m t := ⟨Hg.out.1, hm, by have := congrArg List.length hns; simp at this; omega, fun z hz => hlt z (by simp [hz])⟩
            have hrk1 : rankN m t ≤ rk ∧ rk - 1 ≤ rankN m t := by
              have h3 := Hrk2.out
              rw [hns] at h3
              unfold rankN at h3 ⊢
              omega
            have hlen : t.length + 1 = ns.length := by rw [hns]; rfl
            have Hlen2 := Lib.hid hlen
            have Htl := Lib.hid htl
            have Hgt := Lib.hid hgt
            have hrb := rankN_bound m t
            obtain ⟨less, hless⟩ : ∃ x, rankN m t = x := ⟨_, rfl⟩
            rw [hless] at hrk1 hrb
            have Hless := Lib.hid hless
            obtain ⟨hrka, hrkb⟩ := hrk1
            obtain ⟨hrbc, hrbd⟩ := hrb
            have hrkc := rankN_bound m ns
            rw [Hrk2.out] at hrkc
            obtain ⟨hrkd, hrke⟩ := hrkc
            clear hns hless hrl hlt htl h2 hre hlen hgt
            have hcm' : (c : Int) ≤ 9223372036854775807 := by unfold maxLen at hcm; omega
            have hcl' : (ns.length : Int) ≤ (c : Int) := by omega
            have h1n : 1 ≤ (ns.length : Int) := by omega
            have hbd : Below w5.heap.size w5 wr := Hbw.out
            have Hbd := Lib.hid hbd
            clear hbd
            by_cases hc1 : c = 1
            · have He : Hid (Edges wr wr.heap.size (.slice (some ad) (ns.length - 1) 0) (castE t)) := by
                show Edges _ _ _ _
                have h3 := Htl.out.1 hc1
                rw [show ns.length - 1 = 0 from by omega]
                exact h3.1.up Hbd.out
              go_wp2_with fail
              refine (rank_is m _ t _ He.out Hgt.out Hless.out).mono ?_
              rintro e6 w6 ⟨rfl, hb6⟩
              have Hb6 := Lib.hid hb6
              clear hb6
              go_wp2
              go_ret
              exact ⟨rfl, (HB.out.trans (Hbd.out.mono HB.out.size)).trans (Hb6.out.mono (Nat.le_trans HB.out.size Hbd.out.size))⟩
            · have He : Hid (Edges wr wr.heap.size (.slice (some ⟨ad.block, ad.off + 2, none⟩) (ns.length - 1) (c - 1)) (castE t)) := by
                show Edges _ _ _ _
                have h3 := Htl.out.2 hc1
                rw [show ns.length - 1 = t.length from by have := Hlen2.out; omega]
                exact h3.up Hbd.out
              go_wp2_with fail
              refine (rank_is m _ t _ He.out Hgt.out Hless.out).mono ?_
              rintro e6 w6 ⟨rfl, hb6⟩
              have Hb6 := Lib.hid hb6
              clear hb6
              go_wp2
              go_ret
              exact ⟨rfl, (HB.out.trans (Hbd.out.mono HB.out.size)).trans (Hb6.out.mono (Nat.le_trans HB.out.size Hbd.out.size))⟩
          · go_wp2
            go_ret
            exact ⟨rfl, HB.out.trans (Hbw.out.mono HB.out.size)⟩

theorem partl_any (v : Value) (n : Int) (es : List (Int × Int)) (w : World) (re : Edges w w.heap.size v es) : Calls Try.prog 4 #[.int .i64 n, v] w (Truly w) := by
  by_cases hl : 100 < es.length
  · exact partl_out1 v n es w re hl
  · rcases hb : isG n es with _ | _
    · exact partl_out2 v n es w re (by omega) hb
    · obtain ⟨m, ns, rfl, rfl, h1, h2, h3, h4⟩ := isG_nat hb
      rw [castE_length] at hl
      exact partl_in v m ns w re (by omega) ⟨h1, h2, h3, h4⟩

end Wp
end Go.Proofs.Ytfpfhnkboakejaa
