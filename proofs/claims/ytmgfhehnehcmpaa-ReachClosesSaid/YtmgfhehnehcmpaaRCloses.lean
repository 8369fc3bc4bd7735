/- The law that what one comes to is closed, and of the way, walked: it answers true. -/
import Derived.Test.YtmgfhehnehcmpaaRCloseP
import Derived.Test.YtmgfhehnehcmpaaRFixed
import Derived.Test.YtmgfhehnehcmpaaSRefMeet
namespace Go.Proofs.Ytmgfhehnehcmpaa
open Go.RowKit
namespace Wp

theorem rhas_is (v : Value) (l : List Int) (x : Int) (t : Bool) (h : hasB l x = t) (w : World) (hr : Row w w.heap.size v l) (hl : l.length ≤ 1048576) :
    Calls Try.prog 24 #[v, .int .i64 x] w (Says w t) := by
  subst h
  exact refhas_any v l x w hr hl

set_option maxHeartbeats 8000000 in
set_option maxRecDepth 100000 in
theorem closes_1 (v va vb : Value) (adj : List (List Int)) (a b : List Int) (w : World) (hr : Rows2 w w.heap.size v adj) (ha : Row w w.heap.size va a) (hb : Row w w.heap.size vb b) (b1 : 40 < (adj.length : Int)) : Calls Try.prog 5 #[v, va, vb] w (Truly w) := by
  have HB0 := Lib.hid (Below.refl w.heap.size w)
  have HR0 := Lib.hid hr
  have HA0 := Lib.hid ha
  have HC0 := Lib.hid hb
  obtain ⟨A, c, rfl, hcap, hcell⟩ := hr
  have Hcell := Lib.hid hcell
  clear ha hb hcell
  go_enter Try.func5, Try.ntmps5
  go_wp2_with fail
  refine (rfixed_any _).mono ?_
  rintro e w1 ⟨rfl, hb2⟩
  have adj_3 := Lib.hid (HR0.out.up hb2)
  clear HR0
  have a_4 := Lib.hid (HA0.out.up hb2)
  clear HA0
  have b_5 := Lib.hid (HC0.out.up hb2)
  clear HC0
  have HB6 := Lib.hid (below_next HB0.out (Nat.le_refl _) hb2)
  clear hb2 HB0
  clear adj_3
  clear a_4
  clear b_5
  go_wp2_with fail
  refine (rfixed_any _).mono ?_
  rintro e w7 ⟨rfl, hb8⟩
  have HB9 := Lib.hid (below_next HB6.out (Nat.le_refl _) hb8)
  clear hb8 HB6
  go_wp2
  go_ret
  exact ⟨rfl, HB9.out⟩

set_option maxHeartbeats 8000000 in
set_option maxRecDepth 100000 in
theorem closes_2 (v va vb : Value) (adj : List (List Int)) (a b : List Int) (w : World) (hr : Rows2 w w.heap.size v adj) (ha : Row w w.heap.size va a) (hb : Row w w.heap.size vb b) (b1 : ¬ 40 < (adj.length : Int)) (h1 : digB adj = false) : Calls Try.prog 5 #[v, va, vb] w (Truly w) := by
  have HB0 := Lib.hid (Below.refl w.heap.size w)
  have HR0 := Lib.hid hr
  have HA0 := Lib.hid ha
  have HC0 := Lib.hid hb
  obtain ⟨A, c, rfl, hcap, hcell⟩ := hr
  have Hcell := Lib.hid hcell
  clear ha hb hcell
  have H1 := Lib.hid h1
  clear h1
  go_enter Try.func5, Try.ntmps5
  go_wp2_with fail
  refine (rfixed_any _).mono ?_
  rintro e w1 ⟨rfl, hb2⟩
  have adj_3 := Lib.hid (HR0.out.up hb2)
  clear HR0
  have a_4 := Lib.hid (HA0.out.up hb2)
  clear HA0
  have b_5 := Lib.hid (HC0.out.up hb2)
  clear HC0
  have HB6 := Lib.hid (below_next HB0.out (Nat.le_refl _) hb2)
  clear hb2 HB0
  go_wp2_with fail
  refine (r7may_is _ adj false H1.out _ adj_3.out).mono ?_
  rintro e w7 ⟨rfl, hb8⟩
  have adj_9 := Lib.hid (adj_3.out.up hb8)
  clear adj_3
  have a_10 := Lib.hid (a_4.out.up hb8)
  clear a_4
  have b_11 := Lib.hid (b_5.out.up hb8)
  clear b_5
  have HB12 := Lib.hid (below_next HB6.out (Nat.le_refl _) hb8)
  clear hb8 HB6
  clear adj_9
  clear a_10
  clear b_11
  go_wp2_with fail
  refine (rfixed_any _).mono ?_
  rintro e w13 ⟨rfl, hb14⟩
  have HB15 := Lib.hid (below_next HB12.out (Nat.le_refl _) hb14)
  clear hb14 HB12
  go_wp2
  go_ret
  exact ⟨rfl, HB15.out⟩

set_option maxHeartbeats 8000000 in
set_option maxRecDepth 100000 in
theorem closes_3 (v va vb : Value) (adj : List (List Int)) (a b : List Int) (w : World) (hr : Rows2 w w.heap.size v adj) (ha : Row w w.heap.size va a) (hb : Row w w.heap.size vb b) (b1 : ¬ 40 < (adj.length : Int)) (h1 : digB adj = true) (h2 : subB a (allL adj.length) = false) : Calls Try.prog 5 #[v, va, vb] w (Truly w) := by
  have HB0 := Lib.hid (Below.refl w.heap.size w)
  have HR0 := Lib.hid hr
  have HA0 := Lib.hid ha
  have HC0 := Lib.hid hb
  obtain ⟨A, c, rfl, hcap, hcell⟩ := hr
  have Hcell := Lib.hid hcell
  clear ha hb hcell
  have H1 := Lib.hid h1
  have H2 := Lib.hid h2
  clear h1 h2
  go_enter Try.func5, Try.ntmps5
  go_wp2_with fail
  refine (rfixed_any _).mono ?_
  rintro e w1 ⟨rfl, hb2⟩
  have adj_3 := Lib.hid (HR0.out.up hb2)
  clear HR0
  have a_4 := Lib.hid (HA0.out.up hb2)
  clear HA0
  have b_5 := Lib.hid (HC0.out.up hb2)
  clear HC0
  have HB6 := Lib.hid (below_next HB0.out (Nat.le_refl _) hb2)
  clear hb2 HB0
  go_wp2_with fail
  refine (r7may_is _ adj true H1.out _ adj_3.out).mono ?_
  rintro e w7 ⟨rfl, hb8⟩
  have adj_9 := Lib.hid (adj_3.out.up hb8)
  clear adj_3
  have a_10 := Lib.hid (a_4.out.up hb8)
  clear a_4
  have b_11 := Lib.hid (b_5.out.up hb8)
  clear b_5
  have HB12 := Lib.hid (below_next HB6.out (Nat.le_refl _) hb8)
  clear hb8 HB6
  go_wp2_with fail
  refine (refall_any adj.length _).mono ?_
  rintro e w15 ⟨v13, rfl, r14, hb16⟩
  have adj_17 := Lib.hid (adj_9.out.up hb16)
  clear adj_9
  have a_18 := Lib.hid (a_10.out.up hb16)
  clear a_10
  have b_19 := Lib.hid (b_11.out.up hb16)
  clear b_11
  have HB20 := Lib.hid (below_next HB12.out (Nat.le_refl _) hb16)
  clear hb16 HB12
  have all_21 := Lib.hid (r14)
  clear r14
  go_wp2_with fail
  refine (rsub_is _ _ a (allL adj.length) false H2.out _ a_18.out all_21.out (all_len _)).mono ?_
  rintro e w22 ⟨rfl, hb23⟩
  have adj_24 := Lib.hid (adj_17.out.up hb23)
  clear adj_17
  have a_25 := Lib.hid (a_18.out.up hb23)
  clear a_18
  have b_26 := Lib.hid (b_19.out.up hb23)
  clear b_19
  have all_27 := Lib.hid (all_21.out.up hb23)
  clear all_21
  have HB28 := Lib.hid (below_next HB20.out (Nat.le_refl _) hb23)
  clear hb23 HB20
  clear all_27
  clear adj_24
  clear a_25
  clear b_26
  go_wp2_with fail
  refine (rfixed_any _).mono ?_
  rintro e w29 ⟨rfl, hb30⟩
  have HB31 := Lib.hid (below_next HB28.out (Nat.le_refl _) hb30)
  clear hb30 HB28
  go_wp2
  go_ret
  exact ⟨rfl, HB31.out⟩

set_option maxHeartbeats 8000000 in
set_option maxRecDepth 100000 in
theorem closes_4 (v va vb : Value) (adj : List (List Int)) (a b : List Int) (w : World) (hr : Rows2 w w.heap.size v adj) (ha : Row w w.heap.size va a) (hb : Row w w.heap.size vb b) (b1 : ¬ 40 < (adj.length : Int)) (h1 : digB adj = true) (h2 : subB a (allL adj.length) = true) (h3 : subB b (allL adj.length) = false) : Calls Try.prog 5 #[v, va, vb] w (Truly w) := by
  have HB0 := Lib.hid (Below.refl w.heap.size w)
  have HR0 := Lib.hid hr
  have HA0 := Lib.hid ha
  have HC0 := Lib.hid hb
  obtain ⟨A, c, rfl, hcap, hcell⟩ := hr
  have Hcell := Lib.hid hcell
  clear ha hb hcell
  have H1 := Lib.hid h1
  have H2 := Lib.hid h2
  have H3 := Lib.hid h3
  clear h1 h2 h3
  go_enter Try.func5, Try.ntmps5
  go_wp2_with fail
  refine (rfixed_any _).mono ?_
  rintro e w1 ⟨rfl, hb2⟩
  have adj_3 := Lib.hid (HR0.out.up hb2)
  clear HR0
  have a_4 := Lib.hid (HA0.out.up hb2)
  clear HA0
  have b_5 := Lib.hid (HC0.out.up hb2)
  clear HC0
  have HB6 := Lib.hid (below_next HB0.out (Nat.le_refl _) hb2)
  clear hb2 HB0
  go_wp2_with fail
  refine (r7may_is _ adj true H1.out _ adj_3.out).mono ?_
  rintro e w7 ⟨rfl, hb8⟩
  have adj_9 := Lib.hid (adj_3.out.up hb8)
  clear adj_3
  have a_10 := Lib.hid (a_4.out.up hb8)
  clear a_4
  have b_11 := Lib.hid (b_5.out.up hb8)
  clear b_5
  have HB12 := Lib.hid (below_next HB6.out (Nat.le_refl _) hb8)
  clear hb8 HB6
  go_wp2_with fail
  refine (refall_any adj.length _).mono ?_
  rintro e w15 ⟨v13, rfl, r14, hb16⟩
  have adj_17 := Lib.hid (adj_9.out.up hb16)
  clear adj_9
  have a_18 := Lib.hid (a_10.out.up hb16)
  clear a_10
  have b_19 := Lib.hid (b_11.out.up hb16)
  clear b_11
  have HB20 := Lib.hid (below_next HB12.out (Nat.le_refl _) hb16)
  clear hb16 HB12
  have all_21 := Lib.hid (r14)
  clear r14
  go_wp2_with fail
  refine (rsub_is _ _ a (allL adj.length) true H2.out _ a_18.out all_21.out (all_len _)).mono ?_
  rintro e w22 ⟨rfl, hb23⟩
  have adj_24 := Lib.hid (adj_17.out.up hb23)
  clear adj_17
  have a_25 := Lib.hid (a_18.out.up hb23)
  clear a_18
  have b_26 := Lib.hid (b_19.out.up hb23)
  clear b_19
  have all_27 := Lib.hid (all_21.out.up hb23)
  clear all_21
  have HB28 := Lib.hid (below_next HB20.out (Nat.le_refl _) hb23)
  clear hb23 HB20
  clear all_27
  go_wp2_with fail
  refine (refall_any adj.length _).mono ?_
  rintro e w31 ⟨v29, rfl, r30, hb32⟩
  have adj_33 := Lib.hid (adj_24.out.up hb32)
  clear adj_24
  have a_34 := Lib.hid (a_25.out.up hb32)
  clear a_25
  have b_35 := Lib.hid (b_26.out.up hb32)
  clear b_26
  have HB36 := Lib.hid (below_next HB28.out (Nat.le_refl _) hb32)
  clear hb32 HB28
  have all_37 := Lib.hid (r30)
  clear r30
  go_wp2_with fail
  refine (rsub_is _ _ b (allL adj.length) false H3.out _ b_35.out all_37.out (all_len _)).mono ?_
  rintro e w38 ⟨rfl, hb39⟩
  have adj_40 := Lib.hid (adj_33.out.up hb39)
  clear adj_33
  have a_41 := Lib.hid (a_34.out.up hb39)
  clear a_34
  have b_42 := Lib.hid (b_35.out.up hb39)
  clear b_35
  have all_43 := Lib.hid (all_37.out.up hb39)
  clear all_37
  have HB44 := Lib.hid (below_next HB36.out (Nat.le_refl _) hb39)
  clear hb39 HB36
  clear all_43
  clear adj_40
  clear a_41
  clear b_42
  go_wp2_with fail
  refine (rfixed_any _).mono ?_
  rintro e w45 ⟨rfl, hb46⟩
  have HB47 := Lib.hid (below_next HB44.out (Nat.le_refl _) hb46)
  clear hb46 HB44
  go_wp2
  go_ret
  exact ⟨rfl, HB47.out⟩

set_option maxHeartbeats 8000000 in
set_option maxRecDepth 100000 in
theorem closes_f (v va vb : Value) (adj : List (List Int)) (a b : List Int) (w : World) (hr : Rows2 w w.heap.size v adj) (ha : Row w w.heap.size va a) (hb : Row w w.heap.size vb b) (b1 : ¬ 40 < (adj.length : Int)) (h1 : digB adj = true) (h2 : subB a (allL adj.length) = true) (h3 : subB b (allL adj.length) = true) (l : List Int) (hpc : pathC adj a b = (l, false)) (hpf : PF adj a b l false) : Calls Try.prog 5 #[v, va, vb] w (Truly w) := by
  have HB0 := Lib.hid (Below.refl w.heap.size w)
  have HR0 := Lib.hid hr
  have HA0 := Lib.hid ha
  have HC0 := Lib.hid hb
  obtain ⟨A, c, rfl, hcap, hcell⟩ := hr
  have Hcell := Lib.hid hcell
  clear ha hb hcell
  have H1 := Lib.hid h1
  have H2 := Lib.hid h2
  have H3 := Lib.hid h3
  have HPC := Lib.hid hpc
  have HPF := Lib.hid hpf
  have ha := sub_all (by omega) h2
  have hb := sub_all (by omega) h3
  have hla := pts_len (ok_pts ha)
  have hlb := pts_len (ok_pts hb)
  have hlx := pts_len (ok_pts (from_pts h1 ha))
  have HS1 := Lib.hid ((sub_iff (ok_set ha) from_set).2 fun x hx => from_has h1 ha hx)
  have HS2 := Lib.hid ((sub_iff (from_set (adj := adj) (src := a)) (all_set (adj.length : Int))).2 fun x hx => (mem_all (by omega) (by omega) x).2 ((ok_pts (from_pts h1 ha)).pt x hx))
  have HX := Lib.hid (fun i (hi : i < (fromL adj a).length) => show ∃ q : Nat, (fromL adj a).getD i 0 = (q : Int) ∧ q < adj.length ∧ subB (adj.getD q []) (fromL adj a) = true by
    have hm : (fromL adj a).getD i 0 ∈ fromL adj a := by
      rw [show (fromL adj a).getD i 0 = (fromL adj a)[i] by simp [List.getD, hi]]
      exact List.getElem_mem hi
    have hp := (ok_pts (from_pts h1 ha)).pt _ hm
    refine ⟨((fromL adj a).getD i 0).toNat, by omega, by omega, ?_⟩
    have hset : IsSet (adj.getD ((fromL adj a).getD i 0).toNat []) := ⟨(digB_dig h1).1.up _, fun y hy => by have := (digB_dig h1).1.pt _ y hy; unfold Fit; omega⟩
    exact (sub_iff hset from_set).2 fun y hy => from_closed h1 ha hm hy)
  have hlp := hpf.len
  have hmeet := hpf.meet
  have hpos := hpf.pos
  have hm0 : (meetL (fromL adj a) b).length = 0 := by
    rcases Nat.eq_zero_or_pos (meetL (fromL adj a) b).length with h | h
    · exact h
    · exact absurd (hmeet.2 h) (by decide)
  have hl0 : l.length = 0 := by
    rcases Nat.eq_zero_or_pos l.length with h | h
    · exact h
    · exact absurd (hpos.2 h) (by decide)
  clear h1 h2 h3 hpc hpf ha hb hmeet hpos
  go_enter Try.func5, Try.ntmps5
  go_wp2_with fail
  refine (rfixed_any _).mono ?_
  rintro e w1 ⟨rfl, hb2⟩
  have adj_3 := Lib.hid (HR0.out.up hb2)
  clear HR0
  have a_4 := Lib.hid (HA0.out.up hb2)
  clear HA0
  have b_5 := Lib.hid (HC0.out.up hb2)
  clear HC0
  have HB6 := Lib.hid (below_next HB0.out (Nat.le_refl _) hb2)
  clear hb2 HB0
  go_wp2_with fail
  refine (r7may_is _ adj true H1.out _ adj_3.out).mono ?_
  rintro e w7 ⟨rfl, hb8⟩
  have adj_9 := Lib.hid (adj_3.out.up hb8)
  clear adj_3
  have a_10 := Lib.hid (a_4.out.up hb8)
  clear a_4
  have b_11 := Lib.hid (b_5.out.up hb8)
  clear b_5
  have HB12 := Lib.hid (below_next HB6.out (Nat.le_refl _) hb8)
  clear hb8 HB6
  go_wp2_with fail
  refine (refall_any adj.length _).mono ?_
  rintro e w15 ⟨v13, rfl, r14, hb16⟩
  have adj_17 := Lib.hid (adj_9.out.up hb16)
  clear adj_9
  have a_18 := Lib.hid (a_10.out.up hb16)
  clear a_10
  have b_19 := Lib.hid (b_11.out.up hb16)
  clear b_11
  have HB20 := Lib.hid (below_next HB12.out (Nat.le_refl _) hb16)
  clear hb16 HB12
  have all_21 := Lib.hid (r14)
  clear r14
  go_wp2_with fail
  refine (rsub_is _ _ a (allL adj.length) true H2.out _ a_18.out all_21.out (all_len _)).mono ?_
  rintro e w22 ⟨rfl, hb23⟩
  have adj_24 := Lib.hid (adj_17.out.up hb23)
  clear adj_17
  have a_25 := Lib.hid (a_18.out.up hb23)
  clear a_18
  have b_26 := Lib.hid (b_19.out.up hb23)
  clear b_19
  have all_27 := Lib.hid (all_21.out.up hb23)
  clear all_21
  have HB28 := Lib.hid (below_next HB20.out (Nat.le_refl _) hb23)
  clear hb23 HB20
  clear all_27
  go_wp2_with fail
  refine (refall_any adj.length _).mono ?_
  rintro e w31 ⟨v29, rfl, r30, hb32⟩
  have adj_33 := Lib.hid (adj_24.out.up hb32)
  clear adj_24
  have a_34 := Lib.hid (a_25.out.up hb32)
  clear a_25
  have b_35 := Lib.hid (b_26.out.up hb32)
  clear b_26
  have HB36 := Lib.hid (below_next HB28.out (Nat.le_refl _) hb32)
  clear hb32 HB28
  have all_37 := Lib.hid (r30)
  clear r30
  go_wp2_with fail
  refine (rsub_is _ _ b (allL adj.length) true H3.out _ b_35.out all_37.out (all_len _)).mono ?_
  rintro e w38 ⟨rfl, hb39⟩
  have adj_40 := Lib.hid (adj_33.out.up hb39)
  clear adj_33
  have a_41 := Lib.hid (a_34.out.up hb39)
  clear a_34
  have b_42 := Lib.hid (b_35.out.up hb39)
  clear b_35
  have all_43 := Lib.hid (all_37.out.up hb39)
  clear all_37
  have HB44 := Lib.hid (below_next HB36.out (Nat.le_refl _) hb39)
  clear hb39 HB36
  clear all_43
  go_wp2_with fail
  refine (from_is adj a (fromL adj a) rfl _ _ _ adj_40.out a_41.out).mono ?_
  rintro e w47 ⟨v45, rfl, r46, hb48⟩
  have adj_49 := Lib.hid (adj_40.out.up hb48)
  clear adj_40
  have a_50 := Lib.hid (a_41.out.up hb48)
  clear a_41
  have b_51 := Lib.hid (b_42.out.up hb48)
  clear b_42
  have HB52 := Lib.hid (below_next HB44.out (Nat.le_refl _) hb48)
  clear hb48 HB44
  have x_53 := Lib.hid (r46)
  clear r46
  go_wp2_with fail
  refine (path_is adj a b l false HPC.out _ _ _ _ adj_49.out a_50.out b_51.out).mono ?_
  rintro e w56 ⟨u54, rfl, r55, hb57⟩
  have adj_58 := Lib.hid (adj_49.out.up hb57)
  clear adj_49
  have a_59 := Lib.hid (a_50.out.up hb57)
  clear a_50
  have b_60 := Lib.hid (b_51.out.up hb57)
  clear b_51
  have x_61 := Lib.hid (x_53.out.up hb57)
  clear x_53
  have HB62 := Lib.hid (below_next HB52.out (Nat.le_refl _) hb57)
  clear hb57 HB52
  have p_63 := Lib.hid (r55)
  obtain ⟨Ap, cp, rfl, -⟩ := r55
  go_wp2_with fail
  refine (rsub_is _ _ a (fromL adj a) true HS1.out _ a_59.out x_61.out (by omega)).mono ?_
  rintro e w64 ⟨rfl, hb65⟩
  have adj_66 := Lib.hid (adj_58.out.up hb65)
  clear adj_58
  have a_67 := Lib.hid (a_59.out.up hb65)
  clear a_59
  have b_68 := Lib.hid (b_60.out.up hb65)
  clear b_60
  have x_69 := Lib.hid (x_61.out.up hb65)
  clear x_61
  have p_70 := Lib.hid (p_63.out.up hb65)
  clear p_63
  have HB71 := Lib.hid (below_next HB62.out (Nat.le_refl _) hb65)
  clear hb65 HB62
  go_wp2_with fail
  refine (refall_any adj.length _).mono ?_
  rintro e w74 ⟨v72, rfl, r73, hb75⟩
  have adj_76 := Lib.hid (adj_66.out.up hb75)
  clear adj_66
  have a_77 := Lib.hid (a_67.out.up hb75)
  clear a_67
  have b_78 := Lib.hid (b_68.out.up hb75)
  clear b_68
  have x_79 := Lib.hid (x_69.out.up hb75)
  clear x_69
  have p_80 := Lib.hid (p_70.out.up hb75)
  clear p_70
  have HB81 := Lib.hid (below_next HB71.out (Nat.le_refl _) hb75)
  clear hb75 HB71
  have all_82 := Lib.hid (r73)
  clear r73
  go_wp2_with fail
  refine (rsub_is _ _ (fromL adj a) (allL adj.length) true HS2.out _ x_79.out all_82.out (all_len _)).mono ?_
  rintro e w83 ⟨rfl, hb84⟩
  have adj_85 := Lib.hid (adj_76.out.up hb84)
  clear adj_76
  have a_86 := Lib.hid (a_77.out.up hb84)
  clear a_77
  have b_87 := Lib.hid (b_78.out.up hb84)
  clear b_78
  have x_88 := Lib.hid (x_79.out.up hb84)
  clear x_79
  have p_89 := Lib.hid (p_80.out.up hb84)
  clear p_80
  have all_90 := Lib.hid (all_82.out.up hb84)
  clear all_82
  have HB91 := Lib.hid (below_next HB81.out (Nat.le_refl _) hb84)
  clear hb84 HB81
  clear all_90
  obtain ⟨Ax, cx, rfl, -⟩ := id x_88.out
  go_wp2_with fail
  refine (refmeet_any _ _ (fromL adj a) b _ x_88.out b_87.out (by omega) (by omega)).mono ?_
  rintro e w94 ⟨v92, rfl, r93, hb95⟩
  have adj_96 := Lib.hid (adj_85.out.up hb95)
  clear adj_85
  have a_97 := Lib.hid (a_86.out.up hb95)
  clear a_86
  have b_98 := Lib.hid (b_87.out.up hb95)
  clear b_87
  have x_99 := Lib.hid (x_88.out.up hb95)
  clear x_88
  have p_100 := Lib.hid (p_89.out.up hb95)
  clear p_89
  have HB101 := Lib.hid (below_next HB91.out (Nat.le_refl _) hb95)
  clear hb95 HB91
  have m_102 := Lib.hid (r93)
  obtain ⟨A_m, c_m, rfl, -⟩ := r93
  clear m_102
  go_wp2
  go_loopw [10] (fun vi wr => ∃ i : Nat, vi = .int .i64 i ∧ i ≤ (fromL adj a).length ∧ Below w94.heap.size w94 wr) (fun vi _ => (fromL adj a).length - (intOf vi).toNat)
  case atStart => exact ⟨0, rfl, Nat.zero_le _, Below.refl _ _⟩
  case round =>
    obtain ⟨i, rfl, hi, hbr⟩ := hrel
    have Hbr := Lib.hid hbr
    have HxR := Lib.hid (x_99.out.up hbr)
    have HaR := Lib.hid (adj_96.out.up hbr)
    clear hbr
    by_cases hlt : i < (fromL adj a).length
    · have hiI : (i : Int) < ((fromL adj a).length : Int) := by omega
      obtain ⟨q, hq, hqn, hsub⟩ := HX.out i hlt
      have hqI : (q : Int) < (adj.length : Int) := by omega
      obtain ⟨A2, c2, e2, _, hkx⟩ := id HxR.out
      injection e2 with e3 e4 e5
      subst e3
      obtain ⟨adx, hAx, _, hcx⟩ := hkx i hlt
      subst hAx
      rw [hq] at hcx
      obtain ⟨A3, c3, e6, _, hka⟩ := id HaR.out
      injection e6 with e7 e8 e9
      subst e7
      obtain ⟨ada, ua, hAa, _, hca, hru⟩ := hka q hqn
      subst hAa
      have Hru := Lib.hid hru
      have Hsub := Lib.hid hsub
      clear hru hsub hkx hka e4 e5 e8 e9 hq
      go_wp2_with fail
      refine (rsub_is _ _ (adj.getD q []) (fromL adj a) true Hsub.out wr Hru.out HxR.out (by omega)).mono ?_
      rintro e w9 ⟨rfl, hb9⟩
      have Hb9 := Lib.hid (below_next Hbr.out (Nat.le_refl _) hb9)
      clear hb9 hcx hca
      go_wp2
      go_roundw
      case rel => exact ⟨i + 1, by go_num, by omega, Hb9.out⟩
      case measure => simp [intOf]; omega
    · have hie : i = (fromL adj a).length := by omega
      have HBy := Lib.hid (below_next HB101.out (Nat.le_refl _) Hbr.out)
      have HYadj := Lib.hid (adj_96.out.up Hbr.out)
      have HYa := Lib.hid (a_97.out.up Hbr.out)
      have HYb := Lib.hid (b_98.out.up Hbr.out)
      have HYx := Lib.hid (x_99.out.up Hbr.out)
      have HYp := Lib.hid (p_100.out.up Hbr.out)
      clear hlt hi
      subst hie
      go_wp2
      refine wp_loop_rounds 1 ?_
      rw [rounds_succ]
      go_wp2
      go_ret
      exact ⟨rfl, HBy.out⟩

set_option maxHeartbeats 8000000 in
set_option maxRecDepth 100000 in
theorem closes_t (v va vb : Value) (adj : List (List Int)) (a b : List Int) (w : World) (hr : Rows2 w w.heap.size v adj) (ha : Row w w.heap.size va a) (hb : Row w w.heap.size vb b) (b1 : ¬ 40 < (adj.length : Int)) (h1 : digB adj = true) (h2 : subB a (allL adj.length) = true) (h3 : subB b (allL adj.length) = true) (l : List Int) (hpc : pathC adj a b = (l, true)) (hpf : PF adj a b l true) : Calls Try.prog 5 #[v, va, vb] w (Truly w) := by
  have HB0 := Lib.hid (Below.refl w.heap.size w)
  have HR0 := Lib.hid hr
  have HA0 := Lib.hid ha
  have HC0 := Lib.hid hb
  obtain ⟨A, c, rfl, hcap, hcell⟩ := hr
  have Hcell := Lib.hid hcell
  clear ha hb hcell
  have H1 := Lib.hid h1
  have H2 := Lib.hid h2
  have H3 := Lib.hid h3
  have HPC := Lib.hid hpc
  have HPF := Lib.hid hpf
  have ha := sub_all (by omega) h2
  have hb := sub_all (by omega) h3
  have hla := pts_len (ok_pts ha)
  have hlb := pts_len (ok_pts hb)
  have hlx := pts_len (ok_pts (from_pts h1 ha))
  have HS1 := Lib.hid ((sub_iff (ok_set ha) from_set).2 fun x hx => from_has h1 ha hx)
  have HS2 := Lib.hid ((sub_iff (from_set (adj := adj) (src := a)) (all_set (adj.length : Int))).2 fun x hx => (mem_all (by omega) (by omega) x).2 ((ok_pts (from_pts h1 ha)).pt x hx))
  have HX := Lib.hid (fun i (hi : i < (fromL adj a).length) => show ∃ q : Nat, (fromL adj a).getD i 0 = (q : Int) ∧ q < adj.length ∧ subB (adj.getD q []) (fromL adj a) = true by
    have hm : (fromL adj a).getD i 0 ∈ fromL adj a := by
      rw [show (fromL adj a).getD i 0 = (fromL adj a)[i] by simp [List.getD, hi]]
      exact List.getElem_mem hi
    have hp := (ok_pts (from_pts h1 ha)).pt _ hm
    refine ⟨((fromL adj a).getD i 0).toNat, by omega, by omega, ?_⟩
    have hset : IsSet (adj.getD ((fromL adj a).getD i 0).toNat []) := ⟨(digB_dig h1).1.up _, fun y hy => by have := (digB_dig h1).1.pt _ y hy; unfold Fit; omega⟩
    exact (sub_iff hset from_set).2 fun y hy => from_closed h1 ha hm hy)
  have hlp := hpf.len
  have hmeet := hpf.meet
  have hpos := hpf.pos
  have hm0 : 0 < (meetL (fromL adj a) b).length := hmeet.1 rfl
  have Hsa := Lib.hid (ok_set ha)
  have Hsb := Lib.hid (ok_set hb)
  have HRS := Lib.hid (fun y => show IsSet (adj.getD y []) from ⟨(digB_dig h1).1.up y, fun z hz => by have := (digB_dig h1).1.pt y z hz; unfold Fit; omega⟩)
  have HRL := Lib.hid (fun y => show (adj.getD y []).length ≤ 1048576 by have := pts_len (n := adj.length) ⟨(digB_dig h1).1.up y, (digB_dig h1).1.pt y⟩; omega)
  have hl0 : 0 < l.length := hpos.1 rfl
  have hm1 : (0 : Int) < ((meetL (fromL adj a) b).length : Int) := by omega
  have hl1 : (0 : Int) < (l.length : Int) := by omega
  clear h1 h2 h3 hpc hpf ha hb hmeet hpos
  go_enter Try.func5, Try.ntmps5
  go_wp2_with fail
  refine (rfixed_any _).mono ?_
  rintro e w1 ⟨rfl, hb2⟩
  have adj_3 := Lib.hid (HR0.out.up hb2)
  clear HR0
  have a_4 := Lib.hid (HA0.out.up hb2)
  clear HA0
  have b_5 := Lib.hid (HC0.out.up hb2)
  clear HC0
  have HB6 := Lib.hid (below_next HB0.out (Nat.le_refl _) hb2)
  clear hb2 HB0
  go_wp2_with fail
  refine (r7may_is _ adj true H1.out _ adj_3.out).mono ?_
  rintro e w7 ⟨rfl, hb8⟩
  have adj_9 := Lib.hid (adj_3.out.up hb8)
  clear adj_3
  have a_10 := Lib.hid (a_4.out.up hb8)
  clear a_4
  have b_11 := Lib.hid (b_5.out.up hb8)
  clear b_5
  have HB12 := Lib.hid (below_next HB6.out (Nat.le_refl _) hb8)
  clear hb8 HB6
  go_wp2_with fail
  refine (refall_any adj.length _).mono ?_
  rintro e w15 ⟨v13, rfl, r14, hb16⟩
  have adj_17 := Lib.hid (adj_9.out.up hb16)
  clear adj_9
  have a_18 := Lib.hid (a_10.out.up hb16)
  clear a_10
  have b_19 := Lib.hid (b_11.out.up hb16)
  clear b_11
  have HB20 := Lib.hid (below_next HB12.out (Nat.le_refl _) hb16)
  clear hb16 HB12
  have all_21 := Lib.hid (r14)
  clear r14
  go_wp2_with fail
  refine (rsub_is _ _ a (allL adj.length) true H2.out _ a_18.out all_21.out (all_len _)).mono ?_
  rintro e w22 ⟨rfl, hb23⟩
  have adj_24 := Lib.hid (adj_17.out.up hb23)
  clear adj_17
  have a_25 := Lib.hid (a_18.out.up hb23)
  clear a_18
  have b_26 := Lib.hid (b_19.out.up hb23)
  clear b_19
  have all_27 := Lib.hid (all_21.out.up hb23)
  clear all_21
  have HB28 := Lib.hid (below_next HB20.out (Nat.le_refl _) hb23)
  clear hb23 HB20
  clear all_27
  go_wp2_with fail
  refine (refall_any adj.length _).mono ?_
  rintro e w31 ⟨v29, rfl, r30, hb32⟩
  have adj_33 := Lib.hid (adj_24.out.up hb32)
  clear adj_24
  have a_34 := Lib.hid (a_25.out.up hb32)
  clear a_25
  have b_35 := Lib.hid (b_26.out.up hb32)
  clear b_26
  have HB36 := Lib.hid (below_next HB28.out (Nat.le_refl _) hb32)
  clear hb32 HB28
  have all_37 := Lib.hid (r30)
  clear r30
  go_wp2_with fail
  refine (rsub_is _ _ b (allL adj.length) true H3.out _ b_35.out all_37.out (all_len _)).mono ?_
  rintro e w38 ⟨rfl, hb39⟩
  have adj_40 := Lib.hid (adj_33.out.up hb39)
  clear adj_33
  have a_41 := Lib.hid (a_34.out.up hb39)
  clear a_34
  have b_42 := Lib.hid (b_35.out.up hb39)
  clear b_35
  have all_43 := Lib.hid (all_37.out.up hb39)
  clear all_37
  have HB44 := Lib.hid (below_next HB36.out (Nat.le_refl _) hb39)
  clear hb39 HB36
  clear all_43
  go_wp2_with fail
  refine (from_is adj a (fromL adj a) rfl _ _ _ adj_40.out a_41.out).mono ?_
  rintro e w47 ⟨v45, rfl, r46, hb48⟩
  have adj_49 := Lib.hid (adj_40.out.up hb48)
  clear adj_40
  have a_50 := Lib.hid (a_41.out.up hb48)
  clear a_41
  have b_51 := Lib.hid (b_42.out.up hb48)
  clear b_42
  have HB52 := Lib.hid (below_next HB44.out (Nat.le_refl _) hb48)
  clear hb48 HB44
  have x_53 := Lib.hid (r46)
  clear r46
  go_wp2_with fail
  refine (path_is adj a b l true HPC.out _ _ _ _ adj_49.out a_50.out b_51.out).mono ?_
  rintro e w56 ⟨u54, rfl, r55, hb57⟩
  have adj_58 := Lib.hid (adj_49.out.up hb57)
  clear adj_49
  have a_59 := Lib.hid (a_50.out.up hb57)
  clear a_50
  have b_60 := Lib.hid (b_51.out.up hb57)
  clear b_51
  have x_61 := Lib.hid (x_53.out.up hb57)
  clear x_53
  have HB62 := Lib.hid (below_next HB52.out (Nat.le_refl _) hb57)
  clear hb57 HB52
  have p_63 := Lib.hid (r55)
  obtain ⟨Ap, cp, rfl, -⟩ := r55
  go_wp2_with fail
  refine (rsub_is _ _ a (fromL adj a) true HS1.out _ a_59.out x_61.out (by omega)).mono ?_
  rintro e w64 ⟨rfl, hb65⟩
  have adj_66 := Lib.hid (adj_58.out.up hb65)
  clear adj_58
  have a_67 := Lib.hid (a_59.out.up hb65)
  clear a_59
  have b_68 := Lib.hid (b_60.out.up hb65)
  clear b_60
  have x_69 := Lib.hid (x_61.out.up hb65)
  clear x_61
  have p_70 := Lib.hid (p_63.out.up hb65)
  clear p_63
  have HB71 := Lib.hid (below_next HB62.out (Nat.le_refl _) hb65)
  clear hb65 HB62
  go_wp2_with fail
  refine (refall_any adj.length _).mono ?_
  rintro e w74 ⟨v72, rfl, r73, hb75⟩
  have adj_76 := Lib.hid (adj_66.out.up hb75)
  clear adj_66
  have a_77 := Lib.hid (a_67.out.up hb75)
  clear a_67
  have b_78 := Lib.hid (b_68.out.up hb75)
  clear b_68
  have x_79 := Lib.hid (x_69.out.up hb75)
  clear x_69
  have p_80 := Lib.hid (p_70.out.up hb75)
  clear p_70
  have HB81 := Lib.hid (below_next HB71.out (Nat.le_refl _) hb75)
  clear hb75 HB71
  have all_82 := Lib.hid (r73)
  clear r73
  go_wp2_with fail
  refine (rsub_is _ _ (fromL adj a) (allL adj.length) true HS2.out _ x_79.out all_82.out (all_len _)).mono ?_
  rintro e w83 ⟨rfl, hb84⟩
  have adj_85 := Lib.hid (adj_76.out.up hb84)
  clear adj_76
  have a_86 := Lib.hid (a_77.out.up hb84)
  clear a_77
  have b_87 := Lib.hid (b_78.out.up hb84)
  clear b_78
  have x_88 := Lib.hid (x_79.out.up hb84)
  clear x_79
  have p_89 := Lib.hid (p_80.out.up hb84)
  clear p_80
  have all_90 := Lib.hid (all_82.out.up hb84)
  clear all_82
  have HB91 := Lib.hid (below_next HB81.out (Nat.le_refl _) hb84)
  clear hb84 HB81
  clear all_90
  obtain ⟨Ax, cx, rfl, -⟩ := id x_88.out
  go_wp2_with fail
  refine (refmeet_any _ _ (fromL adj a) b _ x_88.out b_87.out (by omega) (by omega)).mono ?_
  rintro e w94 ⟨v92, rfl, r93, hb95⟩
  have adj_96 := Lib.hid (adj_85.out.up hb95)
  clear adj_85
  have a_97 := Lib.hid (a_86.out.up hb95)
  clear a_86
  have b_98 := Lib.hid (b_87.out.up hb95)
  clear b_87
  have x_99 := Lib.hid (x_88.out.up hb95)
  clear x_88
  have p_100 := Lib.hid (p_89.out.up hb95)
  clear p_89
  have HB101 := Lib.hid (below_next HB91.out (Nat.le_refl _) hb95)
  clear hb95 HB91
  have m_102 := Lib.hid (r93)
  obtain ⟨A_m, c_m, rfl, -⟩ := r93
  clear m_102
  go_wp2
  go_loopw [10] (fun vi wr => ∃ i : Nat, vi = .int .i64 i ∧ i ≤ (fromL adj a).length ∧ Below w94.heap.size w94 wr) (fun vi _ => (fromL adj a).length - (intOf vi).toNat)
  case atStart => exact ⟨0, rfl, Nat.zero_le _, Below.refl _ _⟩
  case round =>
    obtain ⟨i, rfl, hi, hbr⟩ := hrel
    have Hbr := Lib.hid hbr
    have HxR := Lib.hid (x_99.out.up hbr)
    have HaR := Lib.hid (adj_96.out.up hbr)
    clear hbr
    by_cases hlt : i < (fromL adj a).length
    · have hiI : (i : Int) < ((fromL adj a).length : Int) := by omega
      obtain ⟨q, hq, hqn, hsub⟩ := HX.out i hlt
      have hqI : (q : Int) < (adj.length : Int) := by omega
      obtain ⟨A2, c2, e2, _, hkx⟩ := id HxR.out
      injection e2 with e3 e4 e5
      subst e3
      obtain ⟨adx, hAx, _, hcx⟩ := hkx i hlt
      subst hAx
      rw [hq] at hcx
      obtain ⟨A3, c3, e6, _, hka⟩ := id HaR.out
      injection e6 with e7 e8 e9
      subst e7
      obtain ⟨ada, ua, hAa, _, hca, hru⟩ := hka q hqn
      subst hAa
      have Hru := Lib.hid hru
      have Hsub := Lib.hid hsub
      clear hru hsub hkx hka e4 e5 e8 e9 hq
      go_wp2_with fail
      refine (rsub_is _ _ (adj.getD q []) (fromL adj a) true Hsub.out wr Hru.out HxR.out (by omega)).mono ?_
      rintro e w9 ⟨rfl, hb9⟩
      have Hb9 := Lib.hid (below_next Hbr.out (Nat.le_refl _) hb9)
      clear hb9 hcx hca
      go_wp2
      go_roundw
      case rel => exact ⟨i + 1, by go_num, by omega, Hb9.out⟩
      case measure => simp [intOf]; omega
    · have hie : i = (fromL adj a).length := by omega
      have HBy := Lib.hid (below_next HB101.out (Nat.le_refl _) Hbr.out)
      have HYadj := Lib.hid (adj_96.out.up Hbr.out)
      have HYa := Lib.hid (a_97.out.up Hbr.out)
      have HYb := Lib.hid (b_98.out.up Hbr.out)
      have HYx := Lib.hid (x_99.out.up Hbr.out)
      have HYp := Lib.hid (p_100.out.up Hbr.out)
      clear hlt hi
      subst hie
      have Hcp : Hid (∀ k, k < l.length → ∃ ad : Addr, Ap = some ad ∧ ∀ W, Below wr.heap.size wr W → W.cell? (ad.add k) = some (.int .i64 (l.getD k 0))) := Lib.hid (by
        obtain ⟨A', c', e, _, hk⟩ := HYp.out
        injection e with e1 e2 e3
        subst e1
        intro k hk'
        obtain ⟨ad, h1, h2, h3⟩ := hk k hk'
        exact ⟨ad, h1, fun W hW => (hW.cell (p := ad.add k) (by rw [add_block]; exact h2)).trans h3⟩)
      go_wp2
      go_loopw [11] (fun vi wx => ∃ i : Nat, vi = .int .i64 i ∧ i ≤ l.length ∧ Below wr.heap.size wr wx) (fun vi _ => l.length - (intOf vi).toNat)
      case atStart => exact ⟨0, rfl, Nat.zero_le _, Below.refl _ _⟩
      case round =>
        obtain ⟨i, rfl, hi, hbx⟩ := hrel
        have Hbx := Lib.hid hbx
        clear hbx
        by_cases hlt : i < l.length
        · have hiI : (i : Int) < (l.length : Int) := by omega
          obtain ⟨x, hx, hxn⟩ : ∃ x : Nat, l.getD i 0 = (x : Int) ∧ x < adj.length := by
            have := HPF.out.pt i hlt
            exact ⟨(l.getD i 0).toNat, by omega, by omega⟩
          have hxI : ¬ ((adj.length : Int) ≤ (x : Int)) := by omega
          obtain ⟨adp, hAp, hcp⟩ := Hcp.out i hlt
          subst hAp
          rw [hx] at hcp
          have Hpi := Lib.hid hcp
          have Hx := Lib.hid hx
          have hs1 : IntKind.i64.wrap ((l.length : Int) - 1) = (l.length : Int) - 1 := by rw [IntKind.wrap_i64]; omega
          have hs2 : wrap64 ((l.length : Int) - 1) = (l.length : Int) - 1 := by unfold wrap64; omega
          clear hx hcp
          by_cases h0 : i = 0
          · have hi0 : ¬ (0 < i) := by omega
            have hi0' : ¬ ((0 : Int) < (i : Int)) := by omega
            have g1 := Hpi.out _ Hbx.out.drew
            clear h0
            by_cases hla : i + 1 < l.length
            · have hlI : (i : Int) < (l.length : Int) - 1 := by omega
              have HNd : Hid (hasB b (x : Int) = false) := Lib.hid (by
                rw [Bool.eq_false_iff]
                intro h
                have := (has_iff Hsb.out _).1 h
                rw [← Hx.out] at this
                exact HPF.out.ndst i hla this)
              go_wp2
              refine wp_region_any (by kernel_rfl) ?_
              change wpAny _ _ _ _ _ _ _ (World.drew _)
              refine wpAny_take (i := 0) (v := ?_) rfl (by kernel_rfl) (by kernel_rfl) (by kernel_rfl) (fun _ _ _ h => h) (Or.inl ⟨by first | rfl | (simp [Region.wanted, yielded, go_sem, undef]; done) | (simp [Region.wanted, yielded, go_sem, undef]; omega), ?_⟩) ?_
              rotate_left
              · intro w; go_simp; try with_reducible rfl
              (refine wpAny_act (b := ?_) ?_ ?_; rotate_left; (go_simp; with_reducible rfl))
              refine wpAny_take (i := 1) (v := ?_) rfl (by kernel_rfl) (by kernel_rfl) (by kernel_rfl) (fun _ _ _ h => h) (Or.inl ⟨by first | rfl | (simp [Region.wanted, yielded, go_sem, undef]; done) | (simp [Region.wanted, yielded, go_sem, undef]; omega), ?_⟩) ?_
              rotate_left
              · intro w; go_simp; try with_reducible rfl
              (refine wpAny_act (b := ?_) ?_ ?_; rotate_left; (go_simp; with_reducible rfl))
              refine wpAny_take (i := 2) (v := ?_) rfl (by kernel_rfl) (by kernel_rfl) (by kernel_rfl) (fun _ _ _ h => h) (Or.inl ⟨by first | rfl | (simp [Region.wanted, yielded, go_sem, undef]; done) | (simp [Region.wanted, yielded, go_sem, undef]; omega), ?_⟩) ?_
              rotate_left
              · intro w; go_simp; try with_reducible rfl
              (refine wpAny_act (b := ?_) ?_ ?_; rotate_left; (go_simp; with_reducible rfl))
              refine wpAny_ready (rs := [3]) (by kernel_rfl) (by simp) ?_
              refine AllReady.cons rfl (fun K hK => ?_) AllReady.nil
              go_simp
              refine hK _ _ ?_
              clear hK K
              refine wpAny_take (i := 4) (v := ?_) rfl (by kernel_rfl) (by kernel_rfl) (by kernel_rfl) (fun _ _ _ h => h) (Or.inl ⟨by first | rfl | (simp [Region.wanted, yielded, go_sem, undef]; done) | (simp [Region.wanted, yielded, go_sem, undef]; omega), ?_⟩) ?_
              rotate_left
              · intro w; go_simp; try with_reducible rfl
              (refine wpAny_act (b := ?_) ?_ ?_; rotate_left; (go_simp; with_reducible rfl))
              refine wpAny_take (i := 5) (v := ?_) rfl (by kernel_rfl) (by kernel_rfl) (by kernel_rfl) (fun _ _ _ h => h) (Or.inl ⟨by first | rfl | (simp [Region.wanted, yielded, go_sem, undef]; done) | (simp [Region.wanted, yielded, go_sem, undef]; omega), ?_⟩) ?_
              rotate_left
              · intro w; go_simp; try with_reducible rfl
              (refine wpAny_act (b := ?_) ?_ ?_; rotate_left; (go_simp; with_reducible rfl))
              refine wpAny_take (i := 6) (v := ?_) rfl (by kernel_rfl) (by kernel_rfl) (by kernel_rfl) (fun _ _ _ h => h) (Or.inl ⟨by first | rfl | (simp [Region.wanted, yielded, go_sem, undef]; done) | (simp [Region.wanted, yielded, go_sem, undef]; omega), ?_⟩) ?_
              rotate_left
              · intro w; go_simp; try with_reducible rfl
              (refine wpAny_act (b := ?_) ?_ ?_; rotate_left; (go_simp; with_reducible rfl))
              refine wpAny_take (i := 7) (v := ?_) rfl (by kernel_rfl) (by kernel_rfl) (by kernel_rfl) (fun _ _ _ h => h) (Or.inl ⟨by first | rfl | (simp [Region.wanted, yielded, go_sem, undef]; done) | (simp [Region.wanted, yielded, go_sem, undef]; omega), ?_⟩) ?_
              rotate_left
              · intro w; go_simp; try with_reducible rfl
              (refine wpAny_act (b := ?_) ?_ ?_; rotate_left; (go_simp; with_reducible rfl))
              refine wpAny_take (i := 8) (v := ?_) rfl (by kernel_rfl) (by kernel_rfl) (by kernel_rfl) (fun _ _ _ h => h) (Or.inl ⟨by first | rfl | (simp [Region.wanted, yielded, go_sem, undef]; done) | (simp [Region.wanted, yielded, go_sem, undef]; omega), ?_⟩) ?_
              rotate_left
              · intro w; go_simp; try with_reducible rfl
              (refine wpAny_act (b := ?_) ?_ ?_; rotate_left; (go_simp; with_reducible rfl))
              refine wpAny_take (i := 10) (v := ?_) rfl (by kernel_rfl) (by kernel_rfl) (by kernel_rfl) (fun _ _ _ h => h) (Or.inl ⟨by first | rfl | (simp [Region.wanted, yielded, go_sem, undef]; done) | (simp [Region.wanted, yielded, go_sem, undef]; omega), ?_⟩) ?_
              rotate_left
              · intro w; go_simp; try with_reducible rfl
              (refine wpAny_act (b := ?_) ?_ ?_; rotate_left; (go_simp; with_reducible rfl))
              refine wpAny_take (i := 11) (v := ?_) rfl (by kernel_rfl) (by kernel_rfl) (by kernel_rfl) (fun _ _ _ h => h) (Or.inl ⟨by first | rfl | (simp [Region.wanted, yielded, go_sem, undef]; done) | (simp [Region.wanted, yielded, go_sem, undef]; omega), ?_⟩) ?_
              rotate_left
              · intro w; go_simp; try with_reducible rfl
              (refine wpAny_act (b := ?_) ?_ ?_; rotate_left; (go_simp; with_reducible rfl))
              refine wpAny_ready (rs := [9]) (by kernel_rfl) (by simp) ?_
              refine AllReady.cons rfl (fun K hK => ?_) AllReady.nil
              go_simp
              refine hK _ _ ?_
              clear hK K
              refine wpAny_take (i := 12) (v := ?_) rfl (by kernel_rfl) (by kernel_rfl) (by kernel_rfl) (fun _ _ _ h => h) (Or.inl ⟨by first | rfl | (simp [Region.wanted, yielded, go_sem, undef]; done) | (simp [Region.wanted, yielded, go_sem, undef]; omega), ?_⟩) ?_
              rotate_left
              · intro w; go_simp; try with_reducible rfl
              (refine wpAny_act (b := ?_) ?_ ?_; rotate_left; (go_simp; with_reducible rfl))
              refine wpAny_take (i := 13) (v := ?_) rfl (by kernel_rfl) (by kernel_rfl) (by kernel_rfl) (fun _ _ _ h => h) (Or.inl ⟨by first | rfl | (simp [Region.wanted, yielded, go_sem, undef]; done) | (simp [Region.wanted, yielded, go_sem, undef]; omega), ?_⟩) ?_
              rotate_left
              · intro w; go_simp; try with_reducible rfl
              (refine wpAny_act (b := ?_) ?_ ?_; rotate_left; (go_simp; with_reducible rfl))
              refine wpAny_take (i := 14) (v := ?_) rfl (by kernel_rfl) (by kernel_rfl) (by kernel_rfl) (fun _ _ _ h => h) (Or.inl ⟨by first | rfl | (simp [Region.wanted, yielded, go_sem, undef]; done) | (simp [Region.wanted, yielded, go_sem, undef]; omega), ?_⟩) ?_
              rotate_left
              · intro w; go_simp; try with_reducible rfl
              (refine wpAny_act (b := ?_) ?_ ?_; rotate_left; (go_simp; with_reducible rfl))
              refine wpAny_take (i := 15) (v := ?_) rfl (by kernel_rfl) (by kernel_rfl) (by kernel_rfl) (fun _ _ _ h => h) (Or.inl ⟨by first | rfl | (simp [Region.wanted, yielded, go_sem, undef]; done) | (simp [Region.wanted, yielded, go_sem, undef]; omega), ?_⟩) ?_
              rotate_left
              · intro w; go_simp; try with_reducible rfl
              (refine wpAny_act (b := ?_) ?_ ?_; rotate_left; (go_simp; with_reducible rfl))
              refine wpAny_take (i := 16) (v := ?_) rfl (by kernel_rfl) (by kernel_rfl) (by kernel_rfl) (fun _ _ _ h => h) (Or.inl ⟨by first | rfl | (simp [Region.wanted, yielded, go_sem, undef]; done) | (simp [Region.wanted, yielded, go_sem, undef]; omega), ?_⟩) ?_
              rotate_left
              · intro w; go_simp; try with_reducible rfl
              (refine wpAny_act (b := ?_) ?_ ?_; rotate_left; (go_simp; with_reducible rfl))
              refine wpAny_take (i := 17) (v := ?_) rfl (by kernel_rfl) (by kernel_rfl) (by kernel_rfl) (fun _ _ _ h => h) (Or.inl ⟨by first | rfl | (simp [Region.wanted, yielded, go_sem, undef]; done) | (simp [Region.wanted, yielded, go_sem, undef]; omega), ?_⟩) ?_
              rotate_left
              · intro w; go_simp; try with_reducible rfl
              (refine wpAny_act (b := ?_) ?_ ?_; rotate_left; (go_simp; with_reducible rfl))
              refine wpAny_take (i := 18) (v := undef) rfl (by kernel_rfl) (by kernel_rfl) (by kernel_rfl) (fun _ _ _ h => h) (Or.inr ⟨by first | (simp [Region.wanted, yielded, go_sem, undef]; done) | (simp [Region.wanted, yielded, go_sem, undef]; omega), rfl⟩) ?_
              (refine wpAny_act (b := ?_) ?_ ?_; rotate_left; (go_simp; with_reducible rfl))
              refine wpAny_take (i := 19) (v := undef) rfl (by kernel_rfl) (by kernel_rfl) (by kernel_rfl) (fun _ _ _ h => h) (Or.inr ⟨by first | (simp [Region.wanted, yielded, go_sem, undef]; done) | (simp [Region.wanted, yielded, go_sem, undef]; omega), rfl⟩) ?_
              (refine wpAny_act (b := ?_) ?_ ?_; rotate_left; (go_simp; with_reducible rfl))
              refine wpAny_take (i := 20) (v := undef) rfl (by kernel_rfl) (by kernel_rfl) (by kernel_rfl) (fun _ _ _ h => h) (Or.inr ⟨by first | (simp [Region.wanted, yielded, go_sem, undef]; done) | (simp [Region.wanted, yielded, go_sem, undef]; omega), rfl⟩) ?_
              (refine wpAny_act (b := ?_) ?_ ?_; rotate_left; (go_simp; with_reducible rfl))
              refine wpAny_take (i := 21) (v := undef) rfl (by kernel_rfl) (by kernel_rfl) (by kernel_rfl) (fun _ _ _ h => h) (Or.inr ⟨by first | (simp [Region.wanted, yielded, go_sem, undef]; done) | (simp [Region.wanted, yielded, go_sem, undef]; omega), rfl⟩) ?_
              (refine wpAny_act (b := ?_) ?_ ?_; rotate_left; (go_simp; with_reducible rfl))
              refine wpAny_take (i := 22) (v := undef) rfl (by kernel_rfl) (by kernel_rfl) (by kernel_rfl) (fun _ _ _ h => h) (Or.inr ⟨by first | (simp [Region.wanted, yielded, go_sem, undef]; done) | (simp [Region.wanted, yielded, go_sem, undef]; omega), rfl⟩) ?_
              (refine wpAny_act (b := ?_) ?_ ?_; rotate_left; (go_simp; with_reducible rfl))
              refine wpAny_take (i := 23) (v := undef) rfl (by kernel_rfl) (by kernel_rfl) (by kernel_rfl) (fun _ _ _ h => h) (Or.inr ⟨by first | (simp [Region.wanted, yielded, go_sem, undef]; done) | (simp [Region.wanted, yielded, go_sem, undef]; omega), rfl⟩) ?_
              (refine wpAny_act (b := ?_) ?_ ?_; rotate_left; (go_simp; with_reducible rfl))
              refine wpAny_take (i := 24) (v := undef) rfl (by kernel_rfl) (by kernel_rfl) (by kernel_rfl) (fun _ _ _ h => h) (Or.inr ⟨by first | (simp [Region.wanted, yielded, go_sem, undef]; done) | (simp [Region.wanted, yielded, go_sem, undef]; omega), rfl⟩) ?_
              (refine wpAny_act (b := ?_) ?_ ?_; rotate_left; (go_simp; with_reducible rfl))
              refine wpAny_take (i := 25) (v := undef) rfl (by kernel_rfl) (by kernel_rfl) (by kernel_rfl) (fun _ _ _ h => h) (Or.inr ⟨by first | (simp [Region.wanted, yielded, go_sem, undef]; done) | (simp [Region.wanted, yielded, go_sem, undef]; omega), rfl⟩) ?_
              (refine wpAny_act (b := ?_) ?_ ?_; rotate_left; (go_simp; with_reducible rfl))
              refine wpAny_take (i := 26) (v := undef) rfl (by kernel_rfl) (by kernel_rfl) (by kernel_rfl) (fun _ _ _ h => h) (Or.inr ⟨by first | (simp [Region.wanted, yielded, go_sem, undef]; done) | (simp [Region.wanted, yielded, go_sem, undef]; omega), rfl⟩) ?_
              (refine wpAny_act (b := ?_) ?_ ?_; rotate_left; (go_simp; with_reducible rfl))
              refine wpAny_take (i := 27) (v := undef) rfl (by kernel_rfl) (by kernel_rfl) (by kernel_rfl) (fun _ _ _ h => h) (Or.inr ⟨by first | (simp [Region.wanted, yielded, go_sem, undef]; done) | (simp [Region.wanted, yielded, go_sem, undef]; omega), rfl⟩) ?_
              (refine wpAny_act (b := ?_) ?_ ?_; rotate_left; (go_simp; with_reducible rfl))
              refine wpAny_take (i := 28) (v := undef) rfl (by kernel_rfl) (by kernel_rfl) (by kernel_rfl) (fun _ _ _ h => h) (Or.inr ⟨by first | (simp [Region.wanted, yielded, go_sem, undef]; done) | (simp [Region.wanted, yielded, go_sem, undef]; omega), rfl⟩) ?_
              (refine wpAny_act (b := ?_) ?_ ?_; rotate_left; (go_simp; with_reducible rfl))
              refine wpAny_take (i := 29) (v := undef) rfl (by kernel_rfl) (by kernel_rfl) (by kernel_rfl) (fun _ _ _ h => h) (Or.inr ⟨by first | (simp [Region.wanted, yielded, go_sem, undef]; done) | (simp [Region.wanted, yielded, go_sem, undef]; omega), rfl⟩) ?_
              (refine wpAny_act (b := ?_) ?_ ?_; rotate_left; (go_simp; with_reducible rfl))
              refine wpAny_take (i := 30) (v := undef) rfl (by kernel_rfl) (by kernel_rfl) (by kernel_rfl) (fun _ _ _ h => h) (Or.inr ⟨by first | (simp [Region.wanted, yielded, go_sem, undef]; done) | (simp [Region.wanted, yielded, go_sem, undef]; omega), rfl⟩) ?_
              (refine wpAny_act (b := ?_) ?_ ?_; rotate_left; (go_simp; with_reducible rfl))
              refine wpAny_take (i := 31) (v := undef) rfl (by kernel_rfl) (by kernel_rfl) (by kernel_rfl) (fun _ _ _ h => h) (Or.inr ⟨by first | (simp [Region.wanted, yielded, go_sem, undef]; done) | (simp [Region.wanted, yielded, go_sem, undef]; omega), rfl⟩) ?_
              (refine wpAny_act (b := ?_) ?_ ?_; rotate_left; (go_simp; with_reducible rfl))
              refine wpAny_take (i := 32) (v := ?_) rfl (by kernel_rfl) (by kernel_rfl) (by kernel_rfl) (fun _ _ _ h => h) (Or.inl ⟨by first | rfl | (simp [Region.wanted, yielded, go_sem, undef]; done) | (simp [Region.wanted, yielded, go_sem, undef]; omega), ?_⟩) ?_
              rotate_left
              · intro w; go_simp; try with_reducible rfl
              (refine wpAny_act (b := ?_) ?_ ?_; rotate_left; (go_simp; with_reducible rfl))
              refine wpAny_take (i := 33) (v := ?_) rfl (by kernel_rfl) (by kernel_rfl) (by kernel_rfl) (fun _ _ _ h => h) (Or.inl ⟨by first | rfl | (simp [Region.wanted, yielded, go_sem, undef]; done) | (simp [Region.wanted, yielded, go_sem, undef]; omega), ?_⟩) ?_
              rotate_left
              · intro w; go_simp; try with_reducible rfl
              (refine wpAny_act (b := ?_) ?_ ?_; rotate_left; (go_simp; with_reducible rfl))
              refine wpAny_take (i := 34) (v := ?_) rfl (by kernel_rfl) (by kernel_rfl) (by kernel_rfl) (fun _ _ _ h => h) (Or.inl ⟨by first | rfl | (simp [Region.wanted, yielded, go_sem, undef]; done) | (simp [Region.wanted, yielded, go_sem, undef]; omega), ?_⟩) ?_
              rotate_left
              · intro w; go_simp; try with_reducible rfl
              (refine wpAny_act (b := ?_) ?_ ?_; rotate_left; (go_simp; with_reducible rfl))
              refine wpAny_take (i := 35) (v := ?_) rfl (by kernel_rfl) (by kernel_rfl) (by kernel_rfl) (fun _ _ _ h => h) (Or.inl ⟨by first | rfl | (simp [Region.wanted, yielded, go_sem, undef]; done) | (simp [Region.wanted, yielded, go_sem, undef]; omega), ?_⟩) ?_
              rotate_left
              · intro w; go_simp; try with_reducible rfl
              (refine wpAny_act (b := ?_) ?_ ?_; rotate_left; (go_simp; with_reducible rfl))
              refine wpAny_take (i := 36) (v := ?_) rfl (by kernel_rfl) (by kernel_rfl) (by kernel_rfl) (fun _ _ _ h => h) (Or.inl ⟨by first | rfl | (simp [Region.wanted, yielded, go_sem, undef]; done) | (simp [Region.wanted, yielded, go_sem, undef]; omega), ?_⟩) ?_
              rotate_left
              · intro w; go_simp; try with_reducible rfl
              (refine wpAny_act (b := ?_) ?_ ?_; rotate_left; (go_simp; with_reducible rfl))
              refine wpAny_take (i := 37) (v := ?_) rfl (by kernel_rfl) (by kernel_rfl) (by kernel_rfl) (fun _ _ _ h => h) (Or.inl ⟨by first | rfl | (simp [Region.wanted, yielded, go_sem, undef]; done) | (simp [Region.wanted, yielded, go_sem, undef]; omega), ?_⟩) ?_
              rotate_left
              · intro w; go_simp; try with_reducible rfl
              (refine wpAny_act (b := ?_) ?_ ?_; rotate_left; (go_simp; with_reducible rfl))
              refine wpAny_take (i := 38) (v := undef) rfl (by kernel_rfl) (by kernel_rfl) (by kernel_rfl) (fun _ _ _ h => h) (Or.inr ⟨by first | (simp [Region.wanted, yielded, go_sem, undef]; done) | (simp [Region.wanted, yielded, go_sem, undef]; omega), rfl⟩) ?_
              (refine wpAny_act (b := ?_) ?_ ?_; rotate_left; (go_simp; with_reducible rfl))
              refine wpAny_take (i := 39) (v := undef) rfl (by kernel_rfl) (by kernel_rfl) (by kernel_rfl) (fun _ _ _ h => h) (Or.inr ⟨by first | (simp [Region.wanted, yielded, go_sem, undef]; done) | (simp [Region.wanted, yielded, go_sem, undef]; omega), rfl⟩) ?_
              (refine wpAny_act (b := ?_) ?_ ?_; rotate_left; (go_simp; with_reducible rfl))
              refine wpAny_take (i := 40) (v := undef) rfl (by kernel_rfl) (by kernel_rfl) (by kernel_rfl) (fun _ _ _ h => h) (Or.inr ⟨by first | (simp [Region.wanted, yielded, go_sem, undef]; done) | (simp [Region.wanted, yielded, go_sem, undef]; omega), rfl⟩) ?_
              (refine wpAny_act (b := ?_) ?_ ?_; rotate_left; (go_simp; with_reducible rfl))
              refine wpAny_take (i := 41) (v := undef) rfl (by kernel_rfl) (by kernel_rfl) (by kernel_rfl) (fun _ _ _ h => h) (Or.inr ⟨by first | (simp [Region.wanted, yielded, go_sem, undef]; done) | (simp [Region.wanted, yielded, go_sem, undef]; omega), rfl⟩) ?_
              (refine wpAny_act (b := ?_) ?_ ?_; rotate_left; (go_simp; with_reducible rfl))
              refine wpAny_take (i := 42) (v := undef) rfl (by kernel_rfl) (by kernel_rfl) (by kernel_rfl) (fun _ _ _ h => h) (Or.inr ⟨by first | (simp [Region.wanted, yielded, go_sem, undef]; done) | (simp [Region.wanted, yielded, go_sem, undef]; omega), rfl⟩) ?_
              (refine wpAny_act (b := ?_) ?_ ?_; rotate_left; (go_simp; with_reducible rfl))
              refine wpAny_take (i := 43) (v := undef) rfl (by kernel_rfl) (by kernel_rfl) (by kernel_rfl) (fun _ _ _ h => h) (Or.inr ⟨by first | (simp [Region.wanted, yielded, go_sem, undef]; done) | (simp [Region.wanted, yielded, go_sem, undef]; omega), rfl⟩) ?_
              (refine wpAny_act (b := ?_) ?_ ?_; rotate_left; (go_simp; with_reducible rfl))
              refine wpAny_take (i := 44) (v := ?_) rfl (by kernel_rfl) (by kernel_rfl) (by kernel_rfl) (fun _ _ _ h => h) (Or.inl ⟨by first | rfl | (simp [Region.wanted, yielded, go_sem, undef]; done) | (simp [Region.wanted, yielded, go_sem, undef]; omega), ?_⟩) ?_
              rotate_left
              · intro w; go_simp; try with_reducible rfl
              (refine wpAny_act (b := ?_) ?_ ?_; rotate_left; (go_simp; with_reducible rfl))
              refine wpAny_take (i := 45) (v := ?_) rfl (by kernel_rfl) (by kernel_rfl) (by kernel_rfl) (fun _ _ _ h => h) (Or.inl ⟨by first | rfl | (simp [Region.wanted, yielded, go_sem, undef]; done) | (simp [Region.wanted, yielded, go_sem, undef]; omega), ?_⟩) ?_
              rotate_left
              · intro w; go_simp; try with_reducible rfl
              (refine wpAny_act (b := ?_) ?_ ?_; rotate_left; (go_simp; with_reducible rfl))
              refine wpAny_take (i := 46) (v := ?_) rfl (by kernel_rfl) (by kernel_rfl) (by kernel_rfl) (fun _ _ _ h => h) (Or.inl ⟨by first | rfl | (simp [Region.wanted, yielded, go_sem, undef]; done) | (simp [Region.wanted, yielded, go_sem, undef]; omega), ?_⟩) ?_
              rotate_left
              · intro w; go_simp; try with_reducible rfl
              (refine wpAny_act (b := ?_) ?_ ?_; rotate_left; (go_simp; with_reducible rfl))
              refine wpAny_take (i := 47) (v := ?_) rfl (by kernel_rfl) (by kernel_rfl) (by kernel_rfl) (fun _ _ _ h => h) (Or.inl ⟨by first | rfl | (simp [Region.wanted, yielded, go_sem, undef]; done) | (simp [Region.wanted, yielded, go_sem, undef]; omega), ?_⟩) ?_
              rotate_left
              · intro w; go_simp; try with_reducible rfl
              (refine wpAny_act (b := ?_) ?_ ?_; rotate_left; (go_simp; with_reducible rfl))
              refine wpAny_take (i := 48) (v := ?_) rfl (by kernel_rfl) (by kernel_rfl) (by kernel_rfl) (fun _ _ _ h => h) (Or.inl ⟨by first | rfl | (simp [Region.wanted, yielded, go_sem, undef]; done) | (simp [Region.wanted, yielded, go_sem, undef]; omega), ?_⟩) ?_
              rotate_left
              · intro w; go_simp; try with_reducible rfl
              (refine wpAny_act (b := ?_) ?_ ?_; rotate_left; (go_simp; with_reducible rfl))
              refine wpAny_take (i := 49) (v := ?_) rfl (by kernel_rfl) (by kernel_rfl) (by kernel_rfl) (fun _ _ _ h => h) (Or.inl ⟨by first | rfl | (simp [Region.wanted, yielded, go_sem, undef]; done) | (simp [Region.wanted, yielded, go_sem, undef]; omega), ?_⟩) ?_
              rotate_left
              · intro w; go_simp; try with_reducible rfl
              (refine wpAny_act (b := ?_) ?_ ?_; rotate_left; (go_simp; with_reducible rfl))
              refine wpAny_take (i := 50) (v := ?_) rfl (by kernel_rfl) (by kernel_rfl) (by kernel_rfl) (fun _ _ _ h => h) (Or.inl ⟨by first | rfl | (simp [Region.wanted, yielded, go_sem, undef]; done) | (simp [Region.wanted, yielded, go_sem, undef]; omega), ?_⟩) ?_
              rotate_left
              · intro w; go_simp; try with_reducible rfl
              (refine wpAny_act (b := ?_) ?_ ?_; rotate_left; (go_simp; with_reducible rfl))
              refine wpAny_take (i := 51) (v := ?_) rfl (by kernel_rfl) (by kernel_rfl) (by kernel_rfl) (fun _ _ _ h => h) (Or.inl ⟨by first | rfl | (simp [Region.wanted, yielded, go_sem, undef]; done) | (simp [Region.wanted, yielded, go_sem, undef]; omega), ?_⟩) ?_
              rotate_left
              · intro w; go_simp; try with_reducible rfl
              (refine wpAny_act (b := ?_) ?_ ?_; rotate_left; (go_simp; with_reducible rfl))
              refine wpAny_take (i := 52) (v := ?_) rfl (by kernel_rfl) (by kernel_rfl) (by kernel_rfl) (fun _ _ _ h => h) (Or.inl ⟨by first | rfl | (simp [Region.wanted, yielded, go_sem, undef]; done) | (simp [Region.wanted, yielded, go_sem, undef]; omega), ?_⟩) ?_
              rotate_left
              · intro w; go_simp; try with_reducible rfl
              (refine wpAny_act (b := ?_) ?_ ?_; rotate_left; (go_simp; with_reducible rfl))
              refine wpAny_take (i := 53) (v := ?_) rfl (by kernel_rfl) (by kernel_rfl) (by kernel_rfl) (fun _ _ _ h => h) (Or.inl ⟨by first | rfl | (simp [Region.wanted, yielded, go_sem, undef]; done) | (simp [Region.wanted, yielded, go_sem, undef]; omega), ?_⟩) ?_
              rotate_left
              · intro w; go_simp; try with_reducible rfl
              (refine wpAny_act (b := ?_) ?_ ?_; rotate_left; (go_simp; with_reducible rfl))
              refine wpAny_take (i := 54) (v := ?_) rfl (by kernel_rfl) (by kernel_rfl) (by kernel_rfl) (fun _ _ _ h => h) (Or.inl ⟨by first | rfl | (simp [Region.wanted, yielded, go_sem, undef]; done) | (simp [Region.wanted, yielded, go_sem, undef]; omega), ?_⟩) ?_
              rotate_left
              · intro w; go_simp; try with_reducible rfl
              (refine wpAny_act (b := ?_) ?_ ?_; rotate_left; (go_simp; with_reducible rfl))
              refine wpAny_take (i := 55) (v := ?_) rfl (by kernel_rfl) (by kernel_rfl) (by kernel_rfl) (fun _ _ _ h => h) (Or.inl ⟨by first | rfl | (simp [Region.wanted, yielded, go_sem, undef]; done) | (simp [Region.wanted, yielded, go_sem, undef]; omega), ?_⟩) ?_
              rotate_left
              · intro w; go_simp; try with_reducible rfl
              (refine wpAny_act (b := ?_) ?_ ?_; rotate_left; (go_simp; with_reducible rfl))
              refine wpAny_take (i := 56) (v := ?_) rfl (by kernel_rfl) (by kernel_rfl) (by kernel_rfl) (fun _ _ _ h => h) (Or.inl ⟨by first | rfl | (simp [Region.wanted, yielded, go_sem, undef]; done) | (simp [Region.wanted, yielded, go_sem, undef]; omega), ?_⟩) ?_
              rotate_left
              · intro w; go_simp; try with_reducible rfl
              (refine wpAny_act (b := ?_) ?_ ?_; rotate_left; (go_simp; with_reducible rfl))
              refine wpAny_ready (rs := [57]) (by kernel_rfl) (by simp) ?_
              refine AllReady.cons rfl (fun K hK => ?_) AllReady.nil
              go_simp
              refine hK _ _ ?_
              clear hK K
              refine wpAny_ready (rs := [58]) (by kernel_rfl) (by simp) ?_
              refine AllReady.cons rfl (fun K hK => ?_) AllReady.nil
              go_simp
              refine (rhas_is _ b (x : Int) false HNd.out _ (HYb.out.up (Hbx.out.drew)) (by omega)).mono ?_
              rintro e w8 ⟨rfl, hb8⟩
              have Hb8 := Lib.hid (below_next (Hbx.out.drew) (Nat.le_refl _) hb8)
              clear hb8
              refine hK _ _ ?_
              clear hK K g1
              refine wpAny_take (i := 59) (v := ?_) rfl (by kernel_rfl) (by kernel_rfl) (by kernel_rfl) (fun _ _ _ h => h) (Or.inl ⟨by first | rfl | (simp [Region.wanted, yielded, go_sem, undef]; done) | (simp [Region.wanted, yielded, go_sem, undef]; omega), ?_⟩) ?_
              rotate_left
              · intro w; go_simp; try with_reducible rfl
              (refine wpAny_act (b := ?_) ?_ ?_; rotate_left; (go_simp; with_reducible rfl))
              refine wpAny_take (i := 60) (v := ?_) rfl (by kernel_rfl) (by kernel_rfl) (by kernel_rfl) (fun _ _ _ h => h) (Or.inl ⟨by first | rfl | (simp [Region.wanted, yielded, go_sem, undef]; done) | (simp [Region.wanted, yielded, go_sem, undef]; omega), ?_⟩) ?_
              rotate_left
              · intro w; go_simp; try with_reducible rfl
              (refine wpAny_act (b := ?_) ?_ ?_; rotate_left; (go_simp; with_reducible rfl))
              refine wpAny_done (by kernel_rfl) ?_ _
              go_wp2
              go_roundw
              case rel => exact ⟨i + 1, by go_num, by omega, Hb8.out⟩
              case measure => simp [intOf]; omega
            · have hlI : ¬ ((i : Int) < (l.length : Int) - 1) := by omega
              go_wp2
              refine wp_region_any (by kernel_rfl) ?_
              change wpAny _ _ _ _ _ _ _ (World.drew _)
              refine wpAny_take (i := 0) (v := ?_) rfl (by kernel_rfl) (by kernel_rfl) (by kernel_rfl) (fun _ _ _ h => h) (Or.inl ⟨by first | rfl | (simp [Region.wanted, yielded, go_sem, undef]; done) | (simp [Region.wanted, yielded, go_sem, undef]; omega), ?_⟩) ?_
              rotate_left
              · intro w; go_simp; try with_reducible rfl
              (refine wpAny_act (b := ?_) ?_ ?_; rotate_left; (go_simp; with_reducible rfl))
              refine wpAny_take (i := 1) (v := ?_) rfl (by kernel_rfl) (by kernel_rfl) (by kernel_rfl) (fun _ _ _ h => h) (Or.inl ⟨by first | rfl | (simp [Region.wanted, yielded, go_sem, undef]; done) | (simp [Region.wanted, yielded, go_sem, undef]; omega), ?_⟩) ?_
              rotate_left
              · intro w; go_simp; try with_reducible rfl
              (refine wpAny_act (b := ?_) ?_ ?_; rotate_left; (go_simp; with_reducible rfl))
              refine wpAny_take (i := 2) (v := ?_) rfl (by kernel_rfl) (by kernel_rfl) (by kernel_rfl) (fun _ _ _ h => h) (Or.inl ⟨by first | rfl | (simp [Region.wanted, yielded, go_sem, undef]; done) | (simp [Region.wanted, yielded, go_sem, undef]; omega), ?_⟩) ?_
              rotate_left
              · intro w; go_simp; try with_reducible rfl
              (refine wpAny_act (b := ?_) ?_ ?_; rotate_left; (go_simp; with_reducible rfl))
              refine wpAny_ready (rs := [3]) (by kernel_rfl) (by simp) ?_
              refine AllReady.cons rfl (fun K hK => ?_) AllReady.nil
              go_simp
              refine hK _ _ ?_
              clear hK K
              refine wpAny_take (i := 4) (v := ?_) rfl (by kernel_rfl) (by kernel_rfl) (by kernel_rfl) (fun _ _ _ h => h) (Or.inl ⟨by first | rfl | (simp [Region.wanted, yielded, go_sem, undef]; done) | (simp [Region.wanted, yielded, go_sem, undef]; omega), ?_⟩) ?_
              rotate_left
              · intro w; go_simp; try with_reducible rfl
              (refine wpAny_act (b := ?_) ?_ ?_; rotate_left; (go_simp; with_reducible rfl))
              refine wpAny_take (i := 5) (v := ?_) rfl (by kernel_rfl) (by kernel_rfl) (by kernel_rfl) (fun _ _ _ h => h) (Or.inl ⟨by first | rfl | (simp [Region.wanted, yielded, go_sem, undef]; done) | (simp [Region.wanted, yielded, go_sem, undef]; omega), ?_⟩) ?_
              rotate_left
              · intro w; go_simp; try with_reducible rfl
              (refine wpAny_act (b := ?_) ?_ ?_; rotate_left; (go_simp; with_reducible rfl))
              refine wpAny_take (i := 6) (v := ?_) rfl (by kernel_rfl) (by kernel_rfl) (by kernel_rfl) (fun _ _ _ h => h) (Or.inl ⟨by first | rfl | (simp [Region.wanted, yielded, go_sem, undef]; done) | (simp [Region.wanted, yielded, go_sem, undef]; omega), ?_⟩) ?_
              rotate_left
              · intro w; go_simp; try with_reducible rfl
              (refine wpAny_act (b := ?_) ?_ ?_; rotate_left; (go_simp; with_reducible rfl))
              refine wpAny_take (i := 7) (v := ?_) rfl (by kernel_rfl) (by kernel_rfl) (by kernel_rfl) (fun _ _ _ h => h) (Or.inl ⟨by first | rfl | (simp [Region.wanted, yielded, go_sem, undef]; done) | (simp [Region.wanted, yielded, go_sem, undef]; omega), ?_⟩) ?_
              rotate_left
              · intro w; go_simp; try with_reducible rfl
              (refine wpAny_act (b := ?_) ?_ ?_; rotate_left; (go_simp; with_reducible rfl))
              refine wpAny_take (i := 8) (v := ?_) rfl (by kernel_rfl) (by kernel_rfl) (by kernel_rfl) (fun _ _ _ h => h) (Or.inl ⟨by first | rfl | (simp [Region.wanted, yielded, go_sem, undef]; done) | (simp [Region.wanted, yielded, go_sem, undef]; omega), ?_⟩) ?_
              rotate_left
              · intro w; go_simp; try with_reducible rfl
              (refine wpAny_act (b := ?_) ?_ ?_; rotate_left; (go_simp; with_reducible rfl))
              refine wpAny_take (i := 10) (v := ?_) rfl (by kernel_rfl) (by kernel_rfl) (by kernel_rfl) (fun _ _ _ h => h) (Or.inl ⟨by first | rfl | (simp [Region.wanted, yielded, go_sem, undef]; done) | (simp [Region.wanted, yielded, go_sem, undef]; omega), ?_⟩) ?_
              rotate_left
              · intro w; go_simp; try with_reducible rfl
              (refine wpAny_act (b := ?_) ?_ ?_; rotate_left; (go_simp; with_reducible rfl))
              refine wpAny_take (i := 11) (v := ?_) rfl (by kernel_rfl) (by kernel_rfl) (by kernel_rfl) (fun _ _ _ h => h) (Or.inl ⟨by first | rfl | (simp [Region.wanted, yielded, go_sem, undef]; done) | (simp [Region.wanted, yielded, go_sem, undef]; omega), ?_⟩) ?_
              rotate_left
              · intro w; go_simp; try with_reducible rfl
              (refine wpAny_act (b := ?_) ?_ ?_; rotate_left; (go_simp; with_reducible rfl))
              refine wpAny_ready (rs := [9]) (by kernel_rfl) (by simp) ?_
              refine AllReady.cons rfl (fun K hK => ?_) AllReady.nil
              go_simp
              refine hK _ _ ?_
              clear hK K
              refine wpAny_take (i := 12) (v := ?_) rfl (by kernel_rfl) (by kernel_rfl) (by kernel_rfl) (fun _ _ _ h => h) (Or.inl ⟨by first | rfl | (simp [Region.wanted, yielded, go_sem, undef]; done) | (simp [Region.wanted, yielded, go_sem, undef]; omega), ?_⟩) ?_
              rotate_left
              · intro w; go_simp; try with_reducible rfl
              (refine wpAny_act (b := ?_) ?_ ?_; rotate_left; (go_simp; with_reducible rfl))
              refine wpAny_take (i := 13) (v := ?_) rfl (by kernel_rfl) (by kernel_rfl) (by kernel_rfl) (fun _ _ _ h => h) (Or.inl ⟨by first | rfl | (simp [Region.wanted, yielded, go_sem, undef]; done) | (simp [Region.wanted, yielded, go_sem, undef]; omega), ?_⟩) ?_
              rotate_left
              · intro w; go_simp; try with_reducible rfl
              (refine wpAny_act (b := ?_) ?_ ?_; rotate_left; (go_simp; with_reducible rfl))
              refine wpAny_take (i := 14) (v := ?_) rfl (by kernel_rfl) (by kernel_rfl) (by kernel_rfl) (fun _ _ _ h => h) (Or.inl ⟨by first | rfl | (simp [Region.wanted, yielded, go_sem, undef]; done) | (simp [Region.wanted, yielded, go_sem, undef]; omega), ?_⟩) ?_
              rotate_left
              · intro w; go_simp; try with_reducible rfl
              (refine wpAny_act (b := ?_) ?_ ?_; rotate_left; (go_simp; with_reducible rfl))
              refine wpAny_take (i := 15) (v := ?_) rfl (by kernel_rfl) (by kernel_rfl) (by kernel_rfl) (fun _ _ _ h => h) (Or.inl ⟨by first | rfl | (simp [Region.wanted, yielded, go_sem, undef]; done) | (simp [Region.wanted, yielded, go_sem, undef]; omega), ?_⟩) ?_
              rotate_left
              · intro w; go_simp; try with_reducible rfl
              (refine wpAny_act (b := ?_) ?_ ?_; rotate_left; (go_simp; with_reducible rfl))
              refine wpAny_take (i := 16) (v := ?_) rfl (by kernel_rfl) (by kernel_rfl) (by kernel_rfl) (fun _ _ _ h => h) (Or.inl ⟨by first | rfl | (simp [Region.wanted, yielded, go_sem, undef]; done) | (simp [Region.wanted, yielded, go_sem, undef]; omega), ?_⟩) ?_
              rotate_left
              · intro w; go_simp; try with_reducible rfl
              (refine wpAny_act (b := ?_) ?_ ?_; rotate_left; (go_simp; with_reducible rfl))
              refine wpAny_take (i := 17) (v := ?_) rfl (by kernel_rfl) (by kernel_rfl) (by kernel_rfl) (fun _ _ _ h => h) (Or.inl ⟨by first | rfl | (simp [Region.wanted, yielded, go_sem, undef]; done) | (simp [Region.wanted, yielded, go_sem, undef]; omega), ?_⟩) ?_
              rotate_left
              · intro w; go_simp; try with_reducible rfl
              (refine wpAny_act (b := ?_) ?_ ?_; rotate_left; (go_simp; with_reducible rfl))
              refine wpAny_take (i := 18) (v := undef) rfl (by kernel_rfl) (by kernel_rfl) (by kernel_rfl) (fun _ _ _ h => h) (Or.inr ⟨by first | (simp [Region.wanted, yielded, go_sem, undef]; done) | (simp [Region.wanted, yielded, go_sem, undef]; omega), rfl⟩) ?_
              (refine wpAny_act (b := ?_) ?_ ?_; rotate_left; (go_simp; with_reducible rfl))
              refine wpAny_take (i := 19) (v := undef) rfl (by kernel_rfl) (by kernel_rfl) (by kernel_rfl) (fun _ _ _ h => h) (Or.inr ⟨by first | (simp [Region.wanted, yielded, go_sem, undef]; done) | (simp [Region.wanted, yielded, go_sem, undef]; omega), rfl⟩) ?_
              (refine wpAny_act (b := ?_) ?_ ?_; rotate_left; (go_simp; with_reducible rfl))
              refine wpAny_take (i := 20) (v := undef) rfl (by kernel_rfl) (by kernel_rfl) (by kernel_rfl) (fun _ _ _ h => h) (Or.inr ⟨by first | (simp [Region.wanted, yielded, go_sem, undef]; done) | (simp [Region.wanted, yielded, go_sem, undef]; omega), rfl⟩) ?_
              (refine wpAny_act (b := ?_) ?_ ?_; rotate_left; (go_simp; with_reducible rfl))
              refine wpAny_take (i := 21) (v := undef) rfl (by kernel_rfl) (by kernel_rfl) (by kernel_rfl) (fun _ _ _ h => h) (Or.inr ⟨by first | (simp [Region.wanted, yielded, go_sem, undef]; done) | (simp [Region.wanted, yielded, go_sem, undef]; omega), rfl⟩) ?_
              (refine wpAny_act (b := ?_) ?_ ?_; rotate_left; (go_simp; with_reducible rfl))
              refine wpAny_take (i := 22) (v := undef) rfl (by kernel_rfl) (by kernel_rfl) (by kernel_rfl) (fun _ _ _ h => h) (Or.inr ⟨by first | (simp [Region.wanted, yielded, go_sem, undef]; done) | (simp [Region.wanted, yielded, go_sem, undef]; omega), rfl⟩) ?_
              (refine wpAny_act (b := ?_) ?_ ?_; rotate_left; (go_simp; with_reducible rfl))
              refine wpAny_take (i := 23) (v := undef) rfl (by kernel_rfl) (by kernel_rfl) (by kernel_rfl) (fun _ _ _ h => h) (Or.inr ⟨by first | (simp [Region.wanted, yielded, go_sem, undef]; done) | (simp [Region.wanted, yielded, go_sem, undef]; omega), rfl⟩) ?_
              (refine wpAny_act (b := ?_) ?_ ?_; rotate_left; (go_simp; with_reducible rfl))
              refine wpAny_take (i := 24) (v := undef) rfl (by kernel_rfl) (by kernel_rfl) (by kernel_rfl) (fun _ _ _ h => h) (Or.inr ⟨by first | (simp [Region.wanted, yielded, go_sem, undef]; done) | (simp [Region.wanted, yielded, go_sem, undef]; omega), rfl⟩) ?_
              (refine wpAny_act (b := ?_) ?_ ?_; rotate_left; (go_simp; with_reducible rfl))
              refine wpAny_take (i := 25) (v := undef) rfl (by kernel_rfl) (by kernel_rfl) (by kernel_rfl) (fun _ _ _ h => h) (Or.inr ⟨by first | (simp [Region.wanted, yielded, go_sem, undef]; done) | (simp [Region.wanted, yielded, go_sem, undef]; omega), rfl⟩) ?_
              (refine wpAny_act (b := ?_) ?_ ?_; rotate_left; (go_simp; with_reducible rfl))
              refine wpAny_take (i := 26) (v := undef) rfl (by kernel_rfl) (by kernel_rfl) (by kernel_rfl) (fun _ _ _ h => h) (Or.inr ⟨by first | (simp [Region.wanted, yielded, go_sem, undef]; done) | (simp [Region.wanted, yielded, go_sem, undef]; omega), rfl⟩) ?_
              (refine wpAny_act (b := ?_) ?_ ?_; rotate_left; (go_simp; with_reducible rfl))
              refine wpAny_take (i := 27) (v := undef) rfl (by kernel_rfl) (by kernel_rfl) (by kernel_rfl) (fun _ _ _ h => h) (Or.inr ⟨by first | (simp [Region.wanted, yielded, go_sem, undef]; done) | (simp [Region.wanted, yielded, go_sem, undef]; omega), rfl⟩) ?_
              (refine wpAny_act (b := ?_) ?_ ?_; rotate_left; (go_simp; with_reducible rfl))
              refine wpAny_take (i := 28) (v := undef) rfl (by kernel_rfl) (by kernel_rfl) (by kernel_rfl) (fun _ _ _ h => h) (Or.inr ⟨by first | (simp [Region.wanted, yielded, go_sem, undef]; done) | (simp [Region.wanted, yielded, go_sem, undef]; omega), rfl⟩) ?_
              (refine wpAny_act (b := ?_) ?_ ?_; rotate_left; (go_simp; with_reducible rfl))
              refine wpAny_take (i := 29) (v := undef) rfl (by kernel_rfl) (by kernel_rfl) (by kernel_rfl) (fun _ _ _ h => h) (Or.inr ⟨by first | (simp [Region.wanted, yielded, go_sem, undef]; done) | (simp [Region.wanted, yielded, go_sem, undef]; omega), rfl⟩) ?_
              (refine wpAny_act (b := ?_) ?_ ?_; rotate_left; (go_simp; with_reducible rfl))
              refine wpAny_take (i := 30) (v := undef) rfl (by kernel_rfl) (by kernel_rfl) (by kernel_rfl) (fun _ _ _ h => h) (Or.inr ⟨by first | (simp [Region.wanted, yielded, go_sem, undef]; done) | (simp [Region.wanted, yielded, go_sem, undef]; omega), rfl⟩) ?_
              (refine wpAny_act (b := ?_) ?_ ?_; rotate_left; (go_simp; with_reducible rfl))
              refine wpAny_take (i := 31) (v := undef) rfl (by kernel_rfl) (by kernel_rfl) (by kernel_rfl) (fun _ _ _ h => h) (Or.inr ⟨by first | (simp [Region.wanted, yielded, go_sem, undef]; done) | (simp [Region.wanted, yielded, go_sem, undef]; omega), rfl⟩) ?_
              (refine wpAny_act (b := ?_) ?_ ?_; rotate_left; (go_simp; with_reducible rfl))
              refine wpAny_take (i := 32) (v := ?_) rfl (by kernel_rfl) (by kernel_rfl) (by kernel_rfl) (fun _ _ _ h => h) (Or.inl ⟨by first | rfl | (simp [Region.wanted, yielded, go_sem, undef]; done) | (simp [Region.wanted, yielded, go_sem, undef]; omega), ?_⟩) ?_
              rotate_left
              · intro w; go_simp; try with_reducible rfl
              (refine wpAny_act (b := ?_) ?_ ?_; rotate_left; (go_simp; with_reducible rfl))
              refine wpAny_take (i := 33) (v := ?_) rfl (by kernel_rfl) (by kernel_rfl) (by kernel_rfl) (fun _ _ _ h => h) (Or.inl ⟨by first | rfl | (simp [Region.wanted, yielded, go_sem, undef]; done) | (simp [Region.wanted, yielded, go_sem, undef]; omega), ?_⟩) ?_
              rotate_left
              · intro w; go_simp; try with_reducible rfl
              (refine wpAny_act (b := ?_) ?_ ?_; rotate_left; (go_simp; with_reducible rfl))
              refine wpAny_take (i := 34) (v := ?_) rfl (by kernel_rfl) (by kernel_rfl) (by kernel_rfl) (fun _ _ _ h => h) (Or.inl ⟨by first | rfl | (simp [Region.wanted, yielded, go_sem, undef]; done) | (simp [Region.wanted, yielded, go_sem, undef]; omega), ?_⟩) ?_
              rotate_left
              · intro w; go_simp; try with_reducible rfl
              (refine wpAny_act (b := ?_) ?_ ?_; rotate_left; (go_simp; with_reducible rfl))
              refine wpAny_take (i := 35) (v := ?_) rfl (by kernel_rfl) (by kernel_rfl) (by kernel_rfl) (fun _ _ _ h => h) (Or.inl ⟨by first | rfl | (simp [Region.wanted, yielded, go_sem, undef]; done) | (simp [Region.wanted, yielded, go_sem, undef]; omega), ?_⟩) ?_
              rotate_left
              · intro w; go_simp; try with_reducible rfl
              (refine wpAny_act (b := ?_) ?_ ?_; rotate_left; (go_simp; with_reducible rfl))
              refine wpAny_take (i := 36) (v := ?_) rfl (by kernel_rfl) (by kernel_rfl) (by kernel_rfl) (fun _ _ _ h => h) (Or.inl ⟨by first | rfl | (simp [Region.wanted, yielded, go_sem, undef]; done) | (simp [Region.wanted, yielded, go_sem, undef]; omega), ?_⟩) ?_
              rotate_left
              · intro w; go_simp; try with_reducible rfl
              (refine wpAny_act (b := ?_) ?_ ?_; rotate_left; (go_simp; with_reducible rfl))
              refine wpAny_take (i := 37) (v := ?_) rfl (by kernel_rfl) (by kernel_rfl) (by kernel_rfl) (fun _ _ _ h => h) (Or.inl ⟨by first | rfl | (simp [Region.wanted, yielded, go_sem, undef]; done) | (simp [Region.wanted, yielded, go_sem, undef]; omega), ?_⟩) ?_
              rotate_left
              · intro w; go_simp; try with_reducible rfl
              (refine wpAny_act (b := ?_) ?_ ?_; rotate_left; (go_simp; with_reducible rfl))
              refine wpAny_take (i := 38) (v := undef) rfl (by kernel_rfl) (by kernel_rfl) (by kernel_rfl) (fun _ _ _ h => h) (Or.inr ⟨by first | (simp [Region.wanted, yielded, go_sem, undef]; done) | (simp [Region.wanted, yielded, go_sem, undef]; omega), rfl⟩) ?_
              (refine wpAny_act (b := ?_) ?_ ?_; rotate_left; (go_simp; with_reducible rfl))
              refine wpAny_take (i := 39) (v := undef) rfl (by kernel_rfl) (by kernel_rfl) (by kernel_rfl) (fun _ _ _ h => h) (Or.inr ⟨by first | (simp [Region.wanted, yielded, go_sem, undef]; done) | (simp [Region.wanted, yielded, go_sem, undef]; omega), rfl⟩) ?_
              (refine wpAny_act (b := ?_) ?_ ?_; rotate_left; (go_simp; with_reducible rfl))
              refine wpAny_take (i := 40) (v := undef) rfl (by kernel_rfl) (by kernel_rfl) (by kernel_rfl) (fun _ _ _ h => h) (Or.inr ⟨by first | (simp [Region.wanted, yielded, go_sem, undef]; done) | (simp [Region.wanted, yielded, go_sem, undef]; omega), rfl⟩) ?_
              (refine wpAny_act (b := ?_) ?_ ?_; rotate_left; (go_simp; with_reducible rfl))
              refine wpAny_take (i := 41) (v := undef) rfl (by kernel_rfl) (by kernel_rfl) (by kernel_rfl) (fun _ _ _ h => h) (Or.inr ⟨by first | (simp [Region.wanted, yielded, go_sem, undef]; done) | (simp [Region.wanted, yielded, go_sem, undef]; omega), rfl⟩) ?_
              (refine wpAny_act (b := ?_) ?_ ?_; rotate_left; (go_simp; with_reducible rfl))
              refine wpAny_take (i := 42) (v := undef) rfl (by kernel_rfl) (by kernel_rfl) (by kernel_rfl) (fun _ _ _ h => h) (Or.inr ⟨by first | (simp [Region.wanted, yielded, go_sem, undef]; done) | (simp [Region.wanted, yielded, go_sem, undef]; omega), rfl⟩) ?_
              (refine wpAny_act (b := ?_) ?_ ?_; rotate_left; (go_simp; with_reducible rfl))
              refine wpAny_take (i := 43) (v := undef) rfl (by kernel_rfl) (by kernel_rfl) (by kernel_rfl) (fun _ _ _ h => h) (Or.inr ⟨by first | (simp [Region.wanted, yielded, go_sem, undef]; done) | (simp [Region.wanted, yielded, go_sem, undef]; omega), rfl⟩) ?_
              (refine wpAny_act (b := ?_) ?_ ?_; rotate_left; (go_simp; with_reducible rfl))
              refine wpAny_take (i := 44) (v := ?_) rfl (by kernel_rfl) (by kernel_rfl) (by kernel_rfl) (fun _ _ _ h => h) (Or.inl ⟨by first | rfl | (simp [Region.wanted, yielded, go_sem, undef]; done) | (simp [Region.wanted, yielded, go_sem, undef]; omega), ?_⟩) ?_
              rotate_left
              · intro w; go_simp; try with_reducible rfl
              (refine wpAny_act (b := ?_) ?_ ?_; rotate_left; (go_simp; with_reducible rfl))
              refine wpAny_take (i := 45) (v := ?_) rfl (by kernel_rfl) (by kernel_rfl) (by kernel_rfl) (fun _ _ _ h => h) (Or.inl ⟨by first | rfl | (simp [Region.wanted, yielded, go_sem, undef]; done) | (simp [Region.wanted, yielded, go_sem, undef]; omega), ?_⟩) ?_
              rotate_left
              · intro w; go_simp; try with_reducible rfl
              (refine wpAny_act (b := ?_) ?_ ?_; rotate_left; (go_simp; with_reducible rfl))
              refine wpAny_take (i := 46) (v := ?_) rfl (by kernel_rfl) (by kernel_rfl) (by kernel_rfl) (fun _ _ _ h => h) (Or.inl ⟨by first | rfl | (simp [Region.wanted, yielded, go_sem, undef]; done) | (simp [Region.wanted, yielded, go_sem, undef]; omega), ?_⟩) ?_
              rotate_left
              · intro w; go_simp; try with_reducible rfl
              (refine wpAny_act (b := ?_) ?_ ?_; rotate_left; (go_simp; with_reducible rfl))
              refine wpAny_take (i := 47) (v := ?_) rfl (by kernel_rfl) (by kernel_rfl) (by kernel_rfl) (fun _ _ _ h => h) (Or.inl ⟨by first | rfl | (simp [Region.wanted, yielded, go_sem, undef]; done) | (simp [Region.wanted, yielded, go_sem, undef]; omega), ?_⟩) ?_
              rotate_left
              · intro w; go_simp; try with_reducible rfl
              (refine wpAny_act (b := ?_) ?_ ?_; rotate_left; (go_simp; with_reducible rfl))
              refine wpAny_take (i := 48) (v := ?_) rfl (by kernel_rfl) (by kernel_rfl) (by kernel_rfl) (fun _ _ _ h => h) (Or.inl ⟨by first | rfl | (simp [Region.wanted, yielded, go_sem, undef]; done) | (simp [Region.wanted, yielded, go_sem, undef]; omega), ?_⟩) ?_
              rotate_left
              · intro w; go_simp; try with_reducible rfl
              (refine wpAny_act (b := ?_) ?_ ?_; rotate_left; (go_simp; with_reducible rfl))
              refine wpAny_take (i := 49) (v := ?_) rfl (by kernel_rfl) (by kernel_rfl) (by kernel_rfl) (fun _ _ _ h => h) (Or.inl ⟨by first | rfl | (simp [Region.wanted, yielded, go_sem, undef]; done) | (simp [Region.wanted, yielded, go_sem, undef]; omega), ?_⟩) ?_
              rotate_left
              · intro w; go_simp; try with_reducible rfl
              (refine wpAny_act (b := ?_) ?_ ?_; rotate_left; (go_simp; with_reducible rfl))
              refine wpAny_take (i := 50) (v := ?_) rfl (by kernel_rfl) (by kernel_rfl) (by kernel_rfl) (fun _ _ _ h => h) (Or.inl ⟨by first | rfl | (simp [Region.wanted, yielded, go_sem, undef]; done) | (simp [Region.wanted, yielded, go_sem, undef]; omega), ?_⟩) ?_
              rotate_left
              · intro w; go_simp; try with_reducible rfl
              (refine wpAny_act (b := ?_) ?_ ?_; rotate_left; (go_simp; with_reducible rfl))
              refine wpAny_take (i := 51) (v := ?_) rfl (by kernel_rfl) (by kernel_rfl) (by kernel_rfl) (fun _ _ _ h => h) (Or.inl ⟨by first | rfl | (simp [Region.wanted, yielded, go_sem, undef]; done) | (simp [Region.wanted, yielded, go_sem, undef]; omega), ?_⟩) ?_
              rotate_left
              · intro w; go_simp; try with_reducible rfl
              (refine wpAny_act (b := ?_) ?_ ?_; rotate_left; (go_simp; with_reducible rfl))
              refine wpAny_take (i := 52) (v := ?_) rfl (by kernel_rfl) (by kernel_rfl) (by kernel_rfl) (fun _ _ _ h => h) (Or.inl ⟨by first | rfl | (simp [Region.wanted, yielded, go_sem, undef]; done) | (simp [Region.wanted, yielded, go_sem, undef]; omega), ?_⟩) ?_
              rotate_left
              · intro w; go_simp; try with_reducible rfl
              (refine wpAny_act (b := ?_) ?_ ?_; rotate_left; (go_simp; with_reducible rfl))
              refine wpAny_take (i := 53) (v := undef) rfl (by kernel_rfl) (by kernel_rfl) (by kernel_rfl) (fun _ _ _ h => h) (Or.inr ⟨by first | (simp [Region.wanted, yielded, go_sem, undef]; done) | (simp [Region.wanted, yielded, go_sem, undef]; omega), rfl⟩) ?_
              (refine wpAny_act (b := ?_) ?_ ?_; rotate_left; (go_simp; with_reducible rfl))
              refine wpAny_take (i := 54) (v := undef) rfl (by kernel_rfl) (by kernel_rfl) (by kernel_rfl) (fun _ _ _ h => h) (Or.inr ⟨by first | (simp [Region.wanted, yielded, go_sem, undef]; done) | (simp [Region.wanted, yielded, go_sem, undef]; omega), rfl⟩) ?_
              (refine wpAny_act (b := ?_) ?_ ?_; rotate_left; (go_simp; with_reducible rfl))
              refine wpAny_take (i := 55) (v := undef) rfl (by kernel_rfl) (by kernel_rfl) (by kernel_rfl) (fun _ _ _ h => h) (Or.inr ⟨by first | (simp [Region.wanted, yielded, go_sem, undef]; done) | (simp [Region.wanted, yielded, go_sem, undef]; omega), rfl⟩) ?_
              (refine wpAny_act (b := ?_) ?_ ?_; rotate_left; (go_simp; with_reducible rfl))
              refine wpAny_take (i := 56) (v := undef) rfl (by kernel_rfl) (by kernel_rfl) (by kernel_rfl) (fun _ _ _ h => h) (Or.inr ⟨by first | (simp [Region.wanted, yielded, go_sem, undef]; done) | (simp [Region.wanted, yielded, go_sem, undef]; omega), rfl⟩) ?_
              (refine wpAny_act (b := ?_) ?_ ?_; rotate_left; (go_simp; with_reducible rfl))
              refine wpAny_take (i := 57) (v := undef) rfl (by kernel_rfl) (by kernel_rfl) (by kernel_rfl) (fun _ _ _ h => h) (Or.inr ⟨by first | (simp [Region.wanted, yielded, go_sem, undef]; done) | (simp [Region.wanted, yielded, go_sem, undef]; omega), rfl⟩) ?_
              (refine wpAny_act (b := ?_) ?_ ?_; rotate_left; (go_simp; with_reducible rfl))
              refine wpAny_take (i := 58) (v := undef) rfl (by kernel_rfl) (by kernel_rfl) (by kernel_rfl) (fun _ _ _ h => h) (Or.inr ⟨by first | (simp [Region.wanted, yielded, go_sem, undef]; done) | (simp [Region.wanted, yielded, go_sem, undef]; omega), rfl⟩) ?_
              (refine wpAny_act (b := ?_) ?_ ?_; rotate_left; (go_simp; with_reducible rfl))
              refine wpAny_take (i := 59) (v := ?_) rfl (by kernel_rfl) (by kernel_rfl) (by kernel_rfl) (fun _ _ _ h => h) (Or.inl ⟨by first | rfl | (simp [Region.wanted, yielded, go_sem, undef]; done) | (simp [Region.wanted, yielded, go_sem, undef]; omega), ?_⟩) ?_
              rotate_left
              · intro w; go_simp; try with_reducible rfl
              (refine wpAny_act (b := ?_) ?_ ?_; rotate_left; (go_simp; with_reducible rfl))
              refine wpAny_take (i := 60) (v := ?_) rfl (by kernel_rfl) (by kernel_rfl) (by kernel_rfl) (fun _ _ _ h => h) (Or.inl ⟨by first | rfl | (simp [Region.wanted, yielded, go_sem, undef]; done) | (simp [Region.wanted, yielded, go_sem, undef]; omega), ?_⟩) ?_
              rotate_left
              · intro w; go_simp; try with_reducible rfl
              (refine wpAny_act (b := ?_) ?_ ?_; rotate_left; (go_simp; with_reducible rfl))
              refine wpAny_done (by kernel_rfl) ?_ _
              clear g1
              go_wp2
              go_roundw
              case rel => exact ⟨i + 1, by go_num, by omega, Hbx.out.drew⟩
              case measure => simp [intOf]; omega
          · have hi0 : 0 < i := by omega
            have hi0' : (0 : Int) < (i : Int) := by omega
            obtain ⟨y, hy, hyn⟩ : ∃ y : Nat, l.getD (i - 1) 0 = (y : Int) ∧ y < adj.length := by
              have := HPF.out.pt (i - 1) (by omega)
              exact ⟨(l.getD (i - 1) 0).toNat, by omega, by omega⟩
            obtain ⟨adp', hAp', hcq⟩ := Hcp.out (i - 1) (by omega)
            injection hAp' with hAp'
            subst hAp'
            rw [hy] at hcq
            have hyI : (y : Int) < (adj.length : Int) := by omega
            have hw1 : IntKind.i64.wrap ((i : Int) - 1) = (i : Int) - 1 := by rw [IntKind.wrap_i64]; omega
            have hw2 : (0 : Int) ≤ (i : Int) - 1 := by omega
            have hw3 : (i : Int) - 1 < (l.length : Int) := by omega
            have hw4 : ((i : Int) - 1).toNat = i - 1 := by omega
            have hw5 : (1 : Int) ≤ (i : Int) := by omega
            obtain ⟨A3, c3, e6, _, hka⟩ := id HYadj.out
            injection e6 with e7 e8 e9
            subst e7
            obtain ⟨ada, ua, hAa, haab, hca, hru⟩ := hka y hyn
            subst hAa
            have Hrow := Lib.hid (fun W (hW : Below _ _ W) => hru.up hW)
            have HHas : Hid (hasB (adj.getD y []) (x : Int) = true) := Lib.hid ((has_iff (HRS.out y) _).2 (by
              have := HPF.out.arc (i - 1) (by omega)
              rw [show i - 1 + 1 = i by omega, Hx.out, hy, Int.toNat_natCast] at this
              exact this))
            have HNs : Hid (hasB a (x : Int) = false) := Lib.hid (by
              rw [Bool.eq_false_iff]
              intro h
              have := (has_iff Hsa.out _).1 h
              rw [← Hx.out] at this
              exact HPF.out.nsrc i (by omega) hlt this)
            have Hrl := Lib.hid (HRL.out y)
            have g1 := Hpi.out _ Hbx.out.drew
            have g2 := hcq _ Hbx.out.drew
            have g3 := (Hbx.out.drew.cell (p := ada.add y) (by rw [add_block]; exact haab)).trans hca
            clear h0 hka hca hru e8 e9 hy
            by_cases hla : i + 1 < l.length
            · have hlI : (i : Int) < (l.length : Int) - 1 := by omega
              have HNd : Hid (hasB b (x : Int) = false) := Lib.hid (by
                rw [Bool.eq_false_iff]
                intro h
                have := (has_iff Hsb.out _).1 h
                rw [← Hx.out] at this
                exact HPF.out.ndst i hla this)
              go_wp2
              refine wp_region_any (by kernel_rfl) ?_
              change wpAny _ _ _ _ _ _ _ (World.drew _)
              refine wpAny_take (i := 0) (v := ?_) rfl (by kernel_rfl) (by kernel_rfl) (by kernel_rfl) (fun _ _ _ h => h) (Or.inl ⟨by first | rfl | (simp [Region.wanted, yielded, go_sem, undef]; done) | (simp [Region.wanted, yielded, go_sem, undef]; omega), ?_⟩) ?_
              rotate_left
              · intro w; go_simp; try with_reducible rfl
              (refine wpAny_act (b := ?_) ?_ ?_; rotate_left; (go_simp; with_reducible rfl))
              refine wpAny_take (i := 1) (v := ?_) rfl (by kernel_rfl) (by kernel_rfl) (by kernel_rfl) (fun _ _ _ h => h) (Or.inl ⟨by first | rfl | (simp [Region.wanted, yielded, go_sem, undef]; done) | (simp [Region.wanted, yielded, go_sem, undef]; omega), ?_⟩) ?_
              rotate_left
              · intro w; go_simp; try with_reducible rfl
              (refine wpAny_act (b := ?_) ?_ ?_; rotate_left; (go_simp; with_reducible rfl))
              refine wpAny_take (i := 2) (v := ?_) rfl (by kernel_rfl) (by kernel_rfl) (by kernel_rfl) (fun _ _ _ h => h) (Or.inl ⟨by first | rfl | (simp [Region.wanted, yielded, go_sem, undef]; done) | (simp [Region.wanted, yielded, go_sem, undef]; omega), ?_⟩) ?_
              rotate_left
              · intro w; go_simp; try with_reducible rfl
              (refine wpAny_act (b := ?_) ?_ ?_; rotate_left; (go_simp; with_reducible rfl))
              refine wpAny_ready (rs := [3]) (by kernel_rfl) (by simp) ?_
              refine AllReady.cons rfl (fun K hK => ?_) AllReady.nil
              go_simp
              refine hK _ _ ?_
              clear hK K
              refine wpAny_take (i := 4) (v := ?_) rfl (by kernel_rfl) (by kernel_rfl) (by kernel_rfl) (fun _ _ _ h => h) (Or.inl ⟨by first | rfl | (simp [Region.wanted, yielded, go_sem, undef]; done) | (simp [Region.wanted, yielded, go_sem, undef]; omega), ?_⟩) ?_
              rotate_left
              · intro w; go_simp; try with_reducible rfl
              (refine wpAny_act (b := ?_) ?_ ?_; rotate_left; (go_simp; with_reducible rfl))
              refine wpAny_take (i := 5) (v := ?_) rfl (by kernel_rfl) (by kernel_rfl) (by kernel_rfl) (fun _ _ _ h => h) (Or.inl ⟨by first | rfl | (simp [Region.wanted, yielded, go_sem, undef]; done) | (simp [Region.wanted, yielded, go_sem, undef]; omega), ?_⟩) ?_
              rotate_left
              · intro w; go_simp; try with_reducible rfl
              (refine wpAny_act (b := ?_) ?_ ?_; rotate_left; (go_simp; with_reducible rfl))
              refine wpAny_take (i := 6) (v := ?_) rfl (by kernel_rfl) (by kernel_rfl) (by kernel_rfl) (fun _ _ _ h => h) (Or.inl ⟨by first | rfl | (simp [Region.wanted, yielded, go_sem, undef]; done) | (simp [Region.wanted, yielded, go_sem, undef]; omega), ?_⟩) ?_
              rotate_left
              · intro w; go_simp; try with_reducible rfl
              (refine wpAny_act (b := ?_) ?_ ?_; rotate_left; (go_simp; with_reducible rfl))
              refine wpAny_take (i := 7) (v := ?_) rfl (by kernel_rfl) (by kernel_rfl) (by kernel_rfl) (fun _ _ _ h => h) (Or.inl ⟨by first | rfl | (simp [Region.wanted, yielded, go_sem, undef]; done) | (simp [Region.wanted, yielded, go_sem, undef]; omega), ?_⟩) ?_
              rotate_left
              · intro w; go_simp; try with_reducible rfl
              (refine wpAny_act (b := ?_) ?_ ?_; rotate_left; (go_simp; with_reducible rfl))
              refine wpAny_take (i := 8) (v := ?_) rfl (by kernel_rfl) (by kernel_rfl) (by kernel_rfl) (fun _ _ _ h => h) (Or.inl ⟨by first | rfl | (simp [Region.wanted, yielded, go_sem, undef]; done) | (simp [Region.wanted, yielded, go_sem, undef]; omega), ?_⟩) ?_
              rotate_left
              · intro w; go_simp; try with_reducible rfl
              (refine wpAny_act (b := ?_) ?_ ?_; rotate_left; (go_simp; with_reducible rfl))
              refine wpAny_take (i := 10) (v := ?_) rfl (by kernel_rfl) (by kernel_rfl) (by kernel_rfl) (fun _ _ _ h => h) (Or.inl ⟨by first | rfl | (simp [Region.wanted, yielded, go_sem, undef]; done) | (simp [Region.wanted, yielded, go_sem, undef]; omega), ?_⟩) ?_
              rotate_left
              · intro w; go_simp; try with_reducible rfl
              (refine wpAny_act (b := ?_) ?_ ?_; rotate_left; (go_simp; with_reducible rfl))
              refine wpAny_take (i := 11) (v := ?_) rfl (by kernel_rfl) (by kernel_rfl) (by kernel_rfl) (fun _ _ _ h => h) (Or.inl ⟨by first | rfl | (simp [Region.wanted, yielded, go_sem, undef]; done) | (simp [Region.wanted, yielded, go_sem, undef]; omega), ?_⟩) ?_
              rotate_left
              · intro w; go_simp; try with_reducible rfl
              (refine wpAny_act (b := ?_) ?_ ?_; rotate_left; (go_simp; with_reducible rfl))
              refine wpAny_ready (rs := [9]) (by kernel_rfl) (by simp) ?_
              refine AllReady.cons rfl (fun K hK => ?_) AllReady.nil
              go_simp
              refine hK _ _ ?_
              clear hK K
              refine wpAny_take (i := 12) (v := ?_) rfl (by kernel_rfl) (by kernel_rfl) (by kernel_rfl) (fun _ _ _ h => h) (Or.inl ⟨by first | rfl | (simp [Region.wanted, yielded, go_sem, undef]; done) | (simp [Region.wanted, yielded, go_sem, undef]; omega), ?_⟩) ?_
              rotate_left
              · intro w; go_simp; try with_reducible rfl
              (refine wpAny_act (b := ?_) ?_ ?_; rotate_left; (go_simp; with_reducible rfl))
              refine wpAny_take (i := 13) (v := ?_) rfl (by kernel_rfl) (by kernel_rfl) (by kernel_rfl) (fun _ _ _ h => h) (Or.inl ⟨by first | rfl | (simp [Region.wanted, yielded, go_sem, undef]; done) | (simp [Region.wanted, yielded, go_sem, undef]; omega), ?_⟩) ?_
              rotate_left
              · intro w; go_simp; try with_reducible rfl
              (refine wpAny_act (b := ?_) ?_ ?_; rotate_left; (go_simp; with_reducible rfl))
              refine wpAny_take (i := 14) (v := ?_) rfl (by kernel_rfl) (by kernel_rfl) (by kernel_rfl) (fun _ _ _ h => h) (Or.inl ⟨by first | rfl | (simp [Region.wanted, yielded, go_sem, undef]; done) | (simp [Region.wanted, yielded, go_sem, undef]; omega), ?_⟩) ?_
              rotate_left
              · intro w; go_simp; try with_reducible rfl
              (refine wpAny_act (b := ?_) ?_ ?_; rotate_left; (go_simp; with_reducible rfl))
              refine wpAny_take (i := 15) (v := ?_) rfl (by kernel_rfl) (by kernel_rfl) (by kernel_rfl) (fun _ _ _ h => h) (Or.inl ⟨by first | rfl | (simp [Region.wanted, yielded, go_sem, undef]; done) | (simp [Region.wanted, yielded, go_sem, undef]; omega), ?_⟩) ?_
              rotate_left
              · intro w; go_simp; try with_reducible rfl
              (refine wpAny_act (b := ?_) ?_ ?_; rotate_left; (go_simp; with_reducible rfl))
              refine wpAny_take (i := 16) (v := ?_) rfl (by kernel_rfl) (by kernel_rfl) (by kernel_rfl) (fun _ _ _ h => h) (Or.inl ⟨by first | rfl | (simp [Region.wanted, yielded, go_sem, undef]; done) | (simp [Region.wanted, yielded, go_sem, undef]; omega), ?_⟩) ?_
              rotate_left
              · intro w; go_simp; try with_reducible rfl
              (refine wpAny_act (b := ?_) ?_ ?_; rotate_left; (go_simp; with_reducible rfl))
              refine wpAny_take (i := 17) (v := ?_) rfl (by kernel_rfl) (by kernel_rfl) (by kernel_rfl) (fun _ _ _ h => h) (Or.inl ⟨by first | rfl | (simp [Region.wanted, yielded, go_sem, undef]; done) | (simp [Region.wanted, yielded, go_sem, undef]; omega), ?_⟩) ?_
              rotate_left
              · intro w; go_simp; try with_reducible rfl
              (refine wpAny_act (b := ?_) ?_ ?_; rotate_left; (go_simp; with_reducible rfl))
              refine wpAny_take (i := 18) (v := ?_) rfl (by kernel_rfl) (by kernel_rfl) (by kernel_rfl) (fun _ _ _ h => h) (Or.inl ⟨by first | rfl | (simp [Region.wanted, yielded, go_sem, undef]; done) | (simp [Region.wanted, yielded, go_sem, undef]; omega), ?_⟩) ?_
              rotate_left
              · intro w; go_simp; try with_reducible rfl
              (refine wpAny_act (b := ?_) ?_ ?_; rotate_left; (go_simp; with_reducible rfl))
              refine wpAny_take (i := 19) (v := ?_) rfl (by kernel_rfl) (by kernel_rfl) (by kernel_rfl) (fun _ _ _ h => h) (Or.inl ⟨by first | rfl | (simp [Region.wanted, yielded, go_sem, undef]; done) | (simp [Region.wanted, yielded, go_sem, undef]; omega), ?_⟩) ?_
              rotate_left
              · intro w; go_simp; try with_reducible rfl
              (refine wpAny_act (b := ?_) ?_ ?_; rotate_left; (go_simp; with_reducible rfl))
              refine wpAny_take (i := 20) (v := ?_) rfl (by kernel_rfl) (by kernel_rfl) (by kernel_rfl) (fun _ _ _ h => h) (Or.inl ⟨by first | rfl | (simp [Region.wanted, yielded, go_sem, undef]; done) | (simp [Region.wanted, yielded, go_sem, undef]; omega), ?_⟩) ?_
              rotate_left
              · intro w; go_simp; try with_reducible rfl
              (refine wpAny_act (b := ?_) ?_ ?_; rotate_left; (go_simp; with_reducible rfl))
              refine wpAny_take (i := 21) (v := ?_) rfl (by kernel_rfl) (by kernel_rfl) (by kernel_rfl) (fun _ _ _ h => h) (Or.inl ⟨by first | rfl | (simp [Region.wanted, yielded, go_sem, undef]; done) | (simp [Region.wanted, yielded, go_sem, undef]; omega), ?_⟩) ?_
              rotate_left
              · intro w; go_simp; try with_reducible rfl
              (refine wpAny_act (b := ?_) ?_ ?_; rotate_left; (go_simp; with_reducible rfl))
              refine wpAny_take (i := 22) (v := ?_) rfl (by kernel_rfl) (by kernel_rfl) (by kernel_rfl) (fun _ _ _ h => h) (Or.inl ⟨by first | rfl | (simp [Region.wanted, yielded, go_sem, undef]; done) | (simp [Region.wanted, yielded, go_sem, undef]; omega), ?_⟩) ?_
              rotate_left
              · intro w; go_simp; try with_reducible rfl
              (refine wpAny_act (b := ?_) ?_ ?_; rotate_left; (go_simp; with_reducible rfl))
              refine wpAny_take (i := 26) (v := ?_) rfl (by kernel_rfl) (by kernel_rfl) (by kernel_rfl) (fun _ _ _ h => h) (Or.inl ⟨by first | rfl | (simp [Region.wanted, yielded, go_sem, undef]; done) | (simp [Region.wanted, yielded, go_sem, undef]; omega), ?_⟩) ?_
              rotate_left
              · intro w; go_simp; try with_reducible rfl
              (refine wpAny_act (b := ?_) ?_ ?_; rotate_left; (go_simp; with_reducible rfl))
              refine wpAny_take (i := 27) (v := ?_) rfl (by kernel_rfl) (by kernel_rfl) (by kernel_rfl) (fun _ _ _ h => h) (Or.inl ⟨by first | rfl | (simp [Region.wanted, yielded, go_sem, undef]; done) | (simp [Region.wanted, yielded, go_sem, undef]; omega), ?_⟩) ?_
              rotate_left
              · intro w; go_simp; try with_reducible rfl
              (refine wpAny_act (b := ?_) ?_ ?_; rotate_left; (go_simp; with_reducible rfl))
              refine wpAny_take (i := 28) (v := ?_) rfl (by kernel_rfl) (by kernel_rfl) (by kernel_rfl) (fun _ _ _ h => h) (Or.inl ⟨by first | rfl | (simp [Region.wanted, yielded, go_sem, undef]; done) | (simp [Region.wanted, yielded, go_sem, undef]; omega), ?_⟩) ?_
              rotate_left
              · intro w; go_simp; try with_reducible rfl
              (refine wpAny_act (b := ?_) ?_ ?_; rotate_left; (go_simp; with_reducible rfl))
              refine wpAny_ready (rs := [23, 29]) (by kernel_rfl) (by simp) ?_
              refine AllReady.cons rfl (fun K hK => ?_) (AllReady.cons rfl (fun K hK => ?_) AllReady.nil)
              go_simp
              refine hK _ _ ?_
              clear hK K
              refine wpAny_take (i := 24) (v := ?_) rfl (by kernel_rfl) (by kernel_rfl) (by kernel_rfl) (fun _ _ _ h => h) (Or.inl ⟨by first | rfl | (simp [Region.wanted, yielded, go_sem, undef]; done) | (simp [Region.wanted, yielded, go_sem, undef]; omega), ?_⟩) ?_
              rotate_left
              · intro w; go_simp; try with_reducible rfl
              (refine wpAny_act (b := ?_) ?_ ?_; rotate_left; (go_simp; with_reducible rfl))
              refine wpAny_ready (rs := [25, 29]) (by kernel_rfl) (by simp) ?_
              refine AllReady.cons rfl (fun K hK => ?_) (AllReady.cons rfl (fun K hK => ?_) AllReady.nil)
              go_simp
              refine hK _ _ ?_
              clear hK K
              refine wpAny_ready (rs := [29]) (by kernel_rfl) (by simp) ?_
              refine AllReady.cons rfl (fun K hK => ?_) AllReady.nil
              go_simp
              refine hK _ _ ?_
              clear hK K
              refine ?tl
              rotate_left
              go_simp
              refine hK _ _ ?_
              clear hK K
              refine wpAny_ready (rs := [25]) (by kernel_rfl) (by simp) ?_
              refine AllReady.cons rfl (fun K hK => ?_) AllReady.nil
              go_simp
              refine hK _ _ ?_
              clear hK K
              exact ?tl
              go_simp
              refine hK _ _ ?_
              clear hK K
              refine wpAny_ready (rs := [23]) (by kernel_rfl) (by simp) ?_
              refine AllReady.cons rfl (fun K hK => ?_) AllReady.nil
              go_simp
              refine hK _ _ ?_
              clear hK K
              refine wpAny_take (i := 24) (v := ?_) rfl (by kernel_rfl) (by kernel_rfl) (by kernel_rfl) (fun _ _ _ h => h) (Or.inl ⟨by first | rfl | (simp [Region.wanted, yielded, go_sem, undef]; done) | (simp [Region.wanted, yielded, go_sem, undef]; omega), ?_⟩) ?_
              rotate_left
              · intro w; go_simp; try with_reducible rfl
              (refine wpAny_act (b := ?_) ?_ ?_; rotate_left; (go_simp; with_reducible rfl))
              refine wpAny_ready (rs := [25]) (by kernel_rfl) (by simp) ?_
              refine AllReady.cons rfl (fun K hK => ?_) AllReady.nil
              go_simp
              refine hK _ _ ?_
              clear hK K
              exact ?tl
              case tl =>
                refine wpAny_ready (rs := [30]) (by kernel_rfl) (by simp) ?_
                refine AllReady.cons rfl (fun K hK => ?_) AllReady.nil
                go_simp
                refine (rhas_is _ (adj.getD y []) (x : Int) true HHas.out _ (Hrow.out _ Hbx.out.drew) Hrl.out).mono ?_
                rintro e w5 ⟨rfl, hb5⟩
                have Hb5 := Lib.hid (below_next Hbx.out.drew (Nat.le_refl _) hb5)
                clear hb5 g1 g2 g3
                have g1 := Hpi.out _ Hb5.out
                refine hK _ _ ?_
                clear hK K
                refine wpAny_take (i := 31) (v := ?_) rfl (by kernel_rfl) (by kernel_rfl) (by kernel_rfl) (fun _ _ _ h => h) (Or.inl ⟨by first | rfl | (simp [Region.wanted, yielded, go_sem, undef]; done) | (simp [Region.wanted, yielded, go_sem, undef]; omega), ?_⟩) ?_
                rotate_left
                · intro w; go_simp; try with_reducible rfl
                (refine wpAny_act (b := ?_) ?_ ?_; rotate_left; (go_simp; with_reducible rfl))
                refine wpAny_take (i := 32) (v := ?_) rfl (by kernel_rfl) (by kernel_rfl) (by kernel_rfl) (fun _ _ _ h => h) (Or.inl ⟨by first | rfl | (simp [Region.wanted, yielded, go_sem, undef]; done) | (simp [Region.wanted, yielded, go_sem, undef]; omega), ?_⟩) ?_
                rotate_left
                · intro w; go_simp; try with_reducible rfl
                (refine wpAny_act (b := ?_) ?_ ?_; rotate_left; (go_simp; with_reducible rfl))
                refine wpAny_take (i := 33) (v := ?_) rfl (by kernel_rfl) (by kernel_rfl) (by kernel_rfl) (fun _ _ _ h => h) (Or.inl ⟨by first | rfl | (simp [Region.wanted, yielded, go_sem, undef]; done) | (simp [Region.wanted, yielded, go_sem, undef]; omega), ?_⟩) ?_
                rotate_left
                · intro w; go_simp; try with_reducible rfl
                (refine wpAny_act (b := ?_) ?_ ?_; rotate_left; (go_simp; with_reducible rfl))
                refine wpAny_take (i := 34) (v := ?_) rfl (by kernel_rfl) (by kernel_rfl) (by kernel_rfl) (fun _ _ _ h => h) (Or.inl ⟨by first | rfl | (simp [Region.wanted, yielded, go_sem, undef]; done) | (simp [Region.wanted, yielded, go_sem, undef]; omega), ?_⟩) ?_
                rotate_left
                · intro w; go_simp; try with_reducible rfl
                (refine wpAny_act (b := ?_) ?_ ?_; rotate_left; (go_simp; with_reducible rfl))
                refine wpAny_take (i := 35) (v := ?_) rfl (by kernel_rfl) (by kernel_rfl) (by kernel_rfl) (fun _ _ _ h => h) (Or.inl ⟨by first | rfl | (simp [Region.wanted, yielded, go_sem, undef]; done) | (simp [Region.wanted, yielded, go_sem, undef]; omega), ?_⟩) ?_
                rotate_left
                · intro w; go_simp; try with_reducible rfl
                (refine wpAny_act (b := ?_) ?_ ?_; rotate_left; (go_simp; with_reducible rfl))
                refine wpAny_take (i := 36) (v := ?_) rfl (by kernel_rfl) (by kernel_rfl) (by kernel_rfl) (fun _ _ _ h => h) (Or.inl ⟨by first | rfl | (simp [Region.wanted, yielded, go_sem, undef]; done) | (simp [Region.wanted, yielded, go_sem, undef]; omega), ?_⟩) ?_
                rotate_left
                · intro w; go_simp; try with_reducible rfl
                (refine wpAny_act (b := ?_) ?_ ?_; rotate_left; (go_simp; with_reducible rfl))
                refine wpAny_take (i := 37) (v := ?_) rfl (by kernel_rfl) (by kernel_rfl) (by kernel_rfl) (fun _ _ _ h => h) (Or.inl ⟨by first | rfl | (simp [Region.wanted, yielded, go_sem, undef]; done) | (simp [Region.wanted, yielded, go_sem, undef]; omega), ?_⟩) ?_
                rotate_left
                · intro w; go_simp; try with_reducible rfl
                (refine wpAny_act (b := ?_) ?_ ?_; rotate_left; (go_simp; with_reducible rfl))
                refine wpAny_take (i := 38) (v := ?_) rfl (by kernel_rfl) (by kernel_rfl) (by kernel_rfl) (fun _ _ _ h => h) (Or.inl ⟨by first | rfl | (simp [Region.wanted, yielded, go_sem, undef]; done) | (simp [Region.wanted, yielded, go_sem, undef]; omega), ?_⟩) ?_
                rotate_left
                · intro w; go_simp; try with_reducible rfl
                (refine wpAny_act (b := ?_) ?_ ?_; rotate_left; (go_simp; with_reducible rfl))
                refine wpAny_take (i := 39) (v := ?_) rfl (by kernel_rfl) (by kernel_rfl) (by kernel_rfl) (fun _ _ _ h => h) (Or.inl ⟨by first | rfl | (simp [Region.wanted, yielded, go_sem, undef]; done) | (simp [Region.wanted, yielded, go_sem, undef]; omega), ?_⟩) ?_
                rotate_left
                · intro w; go_simp; try with_reducible rfl
                (refine wpAny_act (b := ?_) ?_ ?_; rotate_left; (go_simp; with_reducible rfl))
                refine wpAny_take (i := 40) (v := ?_) rfl (by kernel_rfl) (by kernel_rfl) (by kernel_rfl) (fun _ _ _ h => h) (Or.inl ⟨by first | rfl | (simp [Region.wanted, yielded, go_sem, undef]; done) | (simp [Region.wanted, yielded, go_sem, undef]; omega), ?_⟩) ?_
                rotate_left
                · intro w; go_simp; try with_reducible rfl
                (refine wpAny_act (b := ?_) ?_ ?_; rotate_left; (go_simp; with_reducible rfl))
                refine wpAny_take (i := 41) (v := ?_) rfl (by kernel_rfl) (by kernel_rfl) (by kernel_rfl) (fun _ _ _ h => h) (Or.inl ⟨by first | rfl | (simp [Region.wanted, yielded, go_sem, undef]; done) | (simp [Region.wanted, yielded, go_sem, undef]; omega), ?_⟩) ?_
                rotate_left
                · intro w; go_simp; try with_reducible rfl
                (refine wpAny_act (b := ?_) ?_ ?_; rotate_left; (go_simp; with_reducible rfl))
                refine wpAny_ready (rs := [42]) (by kernel_rfl) (by simp) ?_
                refine AllReady.cons rfl (fun K hK => ?_) AllReady.nil
                go_simp
                refine hK _ _ ?_
                clear hK K
                refine wpAny_ready (rs := [43]) (by kernel_rfl) (by simp) ?_
                refine AllReady.cons rfl (fun K hK => ?_) AllReady.nil
                go_simp
                refine (rhas_is _ a (x : Int) false HNs.out _ (HYa.out.up Hb5.out) (by omega)).mono ?_
                rintro e w6 ⟨rfl, hb6⟩
                have Hb6 := Lib.hid (below_next Hb5.out (Nat.le_refl _) hb6)
                clear hb6 g1
                have g1 := Hpi.out _ Hb6.out
                refine hK _ _ ?_
                clear hK K
                refine wpAny_take (i := 44) (v := ?_) rfl (by kernel_rfl) (by kernel_rfl) (by kernel_rfl) (fun _ _ _ h => h) (Or.inl ⟨by first | rfl | (simp [Region.wanted, yielded, go_sem, undef]; done) | (simp [Region.wanted, yielded, go_sem, undef]; omega), ?_⟩) ?_
                rotate_left
                · intro w; go_simp; try with_reducible rfl
                (refine wpAny_act (b := ?_) ?_ ?_; rotate_left; (go_simp; with_reducible rfl))
                refine wpAny_take (i := 45) (v := ?_) rfl (by kernel_rfl) (by kernel_rfl) (by kernel_rfl) (fun _ _ _ h => h) (Or.inl ⟨by first | rfl | (simp [Region.wanted, yielded, go_sem, undef]; done) | (simp [Region.wanted, yielded, go_sem, undef]; omega), ?_⟩) ?_
                rotate_left
                · intro w; go_simp; try with_reducible rfl
                (refine wpAny_act (b := ?_) ?_ ?_; rotate_left; (go_simp; with_reducible rfl))
                refine wpAny_take (i := 46) (v := ?_) rfl (by kernel_rfl) (by kernel_rfl) (by kernel_rfl) (fun _ _ _ h => h) (Or.inl ⟨by first | rfl | (simp [Region.wanted, yielded, go_sem, undef]; done) | (simp [Region.wanted, yielded, go_sem, undef]; omega), ?_⟩) ?_
                rotate_left
                · intro w; go_simp; try with_reducible rfl
                (refine wpAny_act (b := ?_) ?_ ?_; rotate_left; (go_simp; with_reducible rfl))
                refine wpAny_take (i := 47) (v := ?_) rfl (by kernel_rfl) (by kernel_rfl) (by kernel_rfl) (fun _ _ _ h => h) (Or.inl ⟨by first | rfl | (simp [Region.wanted, yielded, go_sem, undef]; done) | (simp [Region.wanted, yielded, go_sem, undef]; omega), ?_⟩) ?_
                rotate_left
                · intro w; go_simp; try with_reducible rfl
                (refine wpAny_act (b := ?_) ?_ ?_; rotate_left; (go_simp; with_reducible rfl))
                refine wpAny_take (i := 48) (v := ?_) rfl (by kernel_rfl) (by kernel_rfl) (by kernel_rfl) (fun _ _ _ h => h) (Or.inl ⟨by first | rfl | (simp [Region.wanted, yielded, go_sem, undef]; done) | (simp [Region.wanted, yielded, go_sem, undef]; omega), ?_⟩) ?_
                rotate_left
                · intro w; go_simp; try with_reducible rfl
                (refine wpAny_act (b := ?_) ?_ ?_; rotate_left; (go_simp; with_reducible rfl))
                refine wpAny_take (i := 49) (v := ?_) rfl (by kernel_rfl) (by kernel_rfl) (by kernel_rfl) (fun _ _ _ h => h) (Or.inl ⟨by first | rfl | (simp [Region.wanted, yielded, go_sem, undef]; done) | (simp [Region.wanted, yielded, go_sem, undef]; omega), ?_⟩) ?_
                rotate_left
                · intro w; go_simp; try with_reducible rfl
                (refine wpAny_act (b := ?_) ?_ ?_; rotate_left; (go_simp; with_reducible rfl))
                refine wpAny_take (i := 50) (v := ?_) rfl (by kernel_rfl) (by kernel_rfl) (by kernel_rfl) (fun _ _ _ h => h) (Or.inl ⟨by first | rfl | (simp [Region.wanted, yielded, go_sem, undef]; done) | (simp [Region.wanted, yielded, go_sem, undef]; omega), ?_⟩) ?_
                rotate_left
                · intro w; go_simp; try with_reducible rfl
                (refine wpAny_act (b := ?_) ?_ ?_; rotate_left; (go_simp; with_reducible rfl))
                refine wpAny_take (i := 51) (v := ?_) rfl (by kernel_rfl) (by kernel_rfl) (by kernel_rfl) (fun _ _ _ h => h) (Or.inl ⟨by first | rfl | (simp [Region.wanted, yielded, go_sem, undef]; done) | (simp [Region.wanted, yielded, go_sem, undef]; omega), ?_⟩) ?_
                rotate_left
                · intro w; go_simp; try with_reducible rfl
                (refine wpAny_act (b := ?_) ?_ ?_; rotate_left; (go_simp; with_reducible rfl))
                refine wpAny_take (i := 52) (v := ?_) rfl (by kernel_rfl) (by kernel_rfl) (by kernel_rfl) (fun _ _ _ h => h) (Or.inl ⟨by first | rfl | (simp [Region.wanted, yielded, go_sem, undef]; done) | (simp [Region.wanted, yielded, go_sem, undef]; omega), ?_⟩) ?_
                rotate_left
                · intro w; go_simp; try with_reducible rfl
                (refine wpAny_act (b := ?_) ?_ ?_; rotate_left; (go_simp; with_reducible rfl))
                refine wpAny_take (i := 53) (v := ?_) rfl (by kernel_rfl) (by kernel_rfl) (by kernel_rfl) (fun _ _ _ h => h) (Or.inl ⟨by first | rfl | (simp [Region.wanted, yielded, go_sem, undef]; done) | (simp [Region.wanted, yielded, go_sem, undef]; omega), ?_⟩) ?_
                rotate_left
                · intro w; go_simp; try with_reducible rfl
                (refine wpAny_act (b := ?_) ?_ ?_; rotate_left; (go_simp; with_reducible rfl))
                refine wpAny_take (i := 54) (v := ?_) rfl (by kernel_rfl) (by kernel_rfl) (by kernel_rfl) (fun _ _ _ h => h) (Or.inl ⟨by first | rfl | (simp [Region.wanted, yielded, go_sem, undef]; done) | (simp [Region.wanted, yielded, go_sem, undef]; omega), ?_⟩) ?_
                rotate_left
                · intro w; go_simp; try with_reducible rfl
                (refine wpAny_act (b := ?_) ?_ ?_; rotate_left; (go_simp; with_reducible rfl))
                refine wpAny_take (i := 55) (v := ?_) rfl (by kernel_rfl) (by kernel_rfl) (by kernel_rfl) (fun _ _ _ h => h) (Or.inl ⟨by first | rfl | (simp [Region.wanted, yielded, go_sem, undef]; done) | (simp [Region.wanted, yielded, go_sem, undef]; omega), ?_⟩) ?_
                rotate_left
                · intro w; go_simp; try with_reducible rfl
                (refine wpAny_act (b := ?_) ?_ ?_; rotate_left; (go_simp; with_reducible rfl))
                refine wpAny_take (i := 56) (v := ?_) rfl (by kernel_rfl) (by kernel_rfl) (by kernel_rfl) (fun _ _ _ h => h) (Or.inl ⟨by first | rfl | (simp [Region.wanted, yielded, go_sem, undef]; done) | (simp [Region.wanted, yielded, go_sem, undef]; omega), ?_⟩) ?_
                rotate_left
                · intro w; go_simp; try with_reducible rfl
                (refine wpAny_act (b := ?_) ?_ ?_; rotate_left; (go_simp; with_reducible rfl))
                refine wpAny_ready (rs := [57]) (by kernel_rfl) (by simp) ?_
                refine AllReady.cons rfl (fun K hK => ?_) AllReady.nil
                go_simp
                refine hK _ _ ?_
                clear hK K
                refine wpAny_ready (rs := [58]) (by kernel_rfl) (by simp) ?_
                refine AllReady.cons rfl (fun K hK => ?_) AllReady.nil
                go_simp
                refine (rhas_is _ b (x : Int) false HNd.out _ (HYb.out.up (Hb6.out)) (by omega)).mono ?_
                rintro e w8 ⟨rfl, hb8⟩
                have Hb8 := Lib.hid (below_next (Hb6.out) (Nat.le_refl _) hb8)
                clear hb8
                refine hK _ _ ?_
                clear hK K g1
                refine wpAny_take (i := 59) (v := ?_) rfl (by kernel_rfl) (by kernel_rfl) (by kernel_rfl) (fun _ _ _ h => h) (Or.inl ⟨by first | rfl | (simp [Region.wanted, yielded, go_sem, undef]; done) | (simp [Region.wanted, yielded, go_sem, undef]; omega), ?_⟩) ?_
                rotate_left
                · intro w; go_simp; try with_reducible rfl
                (refine wpAny_act (b := ?_) ?_ ?_; rotate_left; (go_simp; with_reducible rfl))
                refine wpAny_take (i := 60) (v := ?_) rfl (by kernel_rfl) (by kernel_rfl) (by kernel_rfl) (fun _ _ _ h => h) (Or.inl ⟨by first | rfl | (simp [Region.wanted, yielded, go_sem, undef]; done) | (simp [Region.wanted, yielded, go_sem, undef]; omega), ?_⟩) ?_
                rotate_left
                · intro w; go_simp; try with_reducible rfl
                (refine wpAny_act (b := ?_) ?_ ?_; rotate_left; (go_simp; with_reducible rfl))
                refine wpAny_done (by kernel_rfl) ?_ _
                go_wp2
                go_roundw
                case rel => exact ⟨i + 1, by go_num, by omega, Hb8.out⟩
                case measure => simp [intOf]; omega
            · have hlI : ¬ ((i : Int) < (l.length : Int) - 1) := by omega
              go_wp2
              refine wp_region_any (by kernel_rfl) ?_
              change wpAny _ _ _ _ _ _ _ (World.drew _)
              refine wpAny_take (i := 0) (v := ?_) rfl (by kernel_rfl) (by kernel_rfl) (by kernel_rfl) (fun _ _ _ h => h) (Or.inl ⟨by first | rfl | (simp [Region.wanted, yielded, go_sem, undef]; done) | (simp [Region.wanted, yielded, go_sem, undef]; omega), ?_⟩) ?_
              rotate_left
              · intro w; go_simp; try with_reducible rfl
              (refine wpAny_act (b := ?_) ?_ ?_; rotate_left; (go_simp; with_reducible rfl))
              refine wpAny_take (i := 1) (v := ?_) rfl (by kernel_rfl) (by kernel_rfl) (by kernel_rfl) (fun _ _ _ h => h) (Or.inl ⟨by first | rfl | (simp [Region.wanted, yielded, go_sem, undef]; done) | (simp [Region.wanted, yielded, go_sem, undef]; omega), ?_⟩) ?_
              rotate_left
              · intro w; go_simp; try with_reducible rfl
              (refine wpAny_act (b := ?_) ?_ ?_; rotate_left; (go_simp; with_reducible rfl))
              refine wpAny_take (i := 2) (v := ?_) rfl (by kernel_rfl) (by kernel_rfl) (by kernel_rfl) (fun _ _ _ h => h) (Or.inl ⟨by first | rfl | (simp [Region.wanted, yielded, go_sem, undef]; done) | (simp [Region.wanted, yielded, go_sem, undef]; omega), ?_⟩) ?_
              rotate_left
              · intro w; go_simp; try with_reducible rfl
              (refine wpAny_act (b := ?_) ?_ ?_; rotate_left; (go_simp; with_reducible rfl))
              refine wpAny_ready (rs := [3]) (by kernel_rfl) (by simp) ?_
              refine AllReady.cons rfl (fun K hK => ?_) AllReady.nil
              go_simp
              refine hK _ _ ?_
              clear hK K
              refine wpAny_take (i := 4) (v := ?_) rfl (by kernel_rfl) (by kernel_rfl) (by kernel_rfl) (fun _ _ _ h => h) (Or.inl ⟨by first | rfl | (simp [Region.wanted, yielded, go_sem, undef]; done) | (simp [Region.wanted, yielded, go_sem, undef]; omega), ?_⟩) ?_
              rotate_left
              · intro w; go_simp; try with_reducible rfl
              (refine wpAny_act (b := ?_) ?_ ?_; rotate_left; (go_simp; with_reducible rfl))
              refine wpAny_take (i := 5) (v := ?_) rfl (by kernel_rfl) (by kernel_rfl) (by kernel_rfl) (fun _ _ _ h => h) (Or.inl ⟨by first | rfl | (simp [Region.wanted, yielded, go_sem, undef]; done) | (simp [Region.wanted, yielded, go_sem, undef]; omega), ?_⟩) ?_
              rotate_left
              · intro w; go_simp; try with_reducible rfl
              (refine wpAny_act (b := ?_) ?_ ?_; rotate_left; (go_simp; with_reducible rfl))
              refine wpAny_take (i := 6) (v := ?_) rfl (by kernel_rfl) (by kernel_rfl) (by kernel_rfl) (fun _ _ _ h => h) (Or.inl ⟨by first | rfl | (simp [Region.wanted, yielded, go_sem, undef]; done) | (simp [Region.wanted, yielded, go_sem, undef]; omega), ?_⟩) ?_
              rotate_left
              · intro w; go_simp; try with_reducible rfl
              (refine wpAny_act (b := ?_) ?_ ?_; rotate_left; (go_simp; with_reducible rfl))
              refine wpAny_take (i := 7) (v := ?_) rfl (by kernel_rfl) (by kernel_rfl) (by kernel_rfl) (fun _ _ _ h => h) (Or.inl ⟨by first | rfl | (simp [Region.wanted, yielded, go_sem, undef]; done) | (simp [Region.wanted, yielded, go_sem, undef]; omega), ?_⟩) ?_
              rotate_left
              · intro w; go_simp; try with_reducible rfl
              (refine wpAny_act (b := ?_) ?_ ?_; rotate_left; (go_simp; with_reducible rfl))
              refine wpAny_take (i := 8) (v := ?_) rfl (by kernel_rfl) (by kernel_rfl) (by kernel_rfl) (fun _ _ _ h => h) (Or.inl ⟨by first | rfl | (simp [Region.wanted, yielded, go_sem, undef]; done) | (simp [Region.wanted, yielded, go_sem, undef]; omega), ?_⟩) ?_
              rotate_left
              · intro w; go_simp; try with_reducible rfl
              (refine wpAny_act (b := ?_) ?_ ?_; rotate_left; (go_simp; with_reducible rfl))
              refine wpAny_take (i := 10) (v := ?_) rfl (by kernel_rfl) (by kernel_rfl) (by kernel_rfl) (fun _ _ _ h => h) (Or.inl ⟨by first | rfl | (simp [Region.wanted, yielded, go_sem, undef]; done) | (simp [Region.wanted, yielded, go_sem, undef]; omega), ?_⟩) ?_
              rotate_left
              · intro w; go_simp; try with_reducible rfl
              (refine wpAny_act (b := ?_) ?_ ?_; rotate_left; (go_simp; with_reducible rfl))
              refine wpAny_take (i := 11) (v := ?_) rfl (by kernel_rfl) (by kernel_rfl) (by kernel_rfl) (fun _ _ _ h => h) (Or.inl ⟨by first | rfl | (simp [Region.wanted, yielded, go_sem, undef]; done) | (simp [Region.wanted, yielded, go_sem, undef]; omega), ?_⟩) ?_
              rotate_left
              · intro w; go_simp; try with_reducible rfl
              (refine wpAny_act (b := ?_) ?_ ?_; rotate_left; (go_simp; with_reducible rfl))
              refine wpAny_ready (rs := [9]) (by kernel_rfl) (by simp) ?_
              refine AllReady.cons rfl (fun K hK => ?_) AllReady.nil
              go_simp
              refine hK _ _ ?_
              clear hK K
              refine wpAny_take (i := 12) (v := ?_) rfl (by kernel_rfl) (by kernel_rfl) (by kernel_rfl) (fun _ _ _ h => h) (Or.inl ⟨by first | rfl | (simp [Region.wanted, yielded, go_sem, undef]; done) | (simp [Region.wanted, yielded, go_sem, undef]; omega), ?_⟩) ?_
              rotate_left
              · intro w; go_simp; try with_reducible rfl
              (refine wpAny_act (b := ?_) ?_ ?_; rotate_left; (go_simp; with_reducible rfl))
              refine wpAny_take (i := 13) (v := ?_) rfl (by kernel_rfl) (by kernel_rfl) (by kernel_rfl) (fun _ _ _ h => h) (Or.inl ⟨by first | rfl | (simp [Region.wanted, yielded, go_sem, undef]; done) | (simp [Region.wanted, yielded, go_sem, undef]; omega), ?_⟩) ?_
              rotate_left
              · intro w; go_simp; try with_reducible rfl
              (refine wpAny_act (b := ?_) ?_ ?_; rotate_left; (go_simp; with_reducible rfl))
              refine wpAny_take (i := 14) (v := ?_) rfl (by kernel_rfl) (by kernel_rfl) (by kernel_rfl) (fun _ _ _ h => h) (Or.inl ⟨by first | rfl | (simp [Region.wanted, yielded, go_sem, undef]; done) | (simp [Region.wanted, yielded, go_sem, undef]; omega), ?_⟩) ?_
              rotate_left
              · intro w; go_simp; try with_reducible rfl
              (refine wpAny_act (b := ?_) ?_ ?_; rotate_left; (go_simp; with_reducible rfl))
              refine wpAny_take (i := 15) (v := ?_) rfl (by kernel_rfl) (by kernel_rfl) (by kernel_rfl) (fun _ _ _ h => h) (Or.inl ⟨by first | rfl | (simp [Region.wanted, yielded, go_sem, undef]; done) | (simp [Region.wanted, yielded, go_sem, undef]; omega), ?_⟩) ?_
              rotate_left
              · intro w; go_simp; try with_reducible rfl
              (refine wpAny_act (b := ?_) ?_ ?_; rotate_left; (go_simp; with_reducible rfl))
              refine wpAny_take (i := 16) (v := ?_) rfl (by kernel_rfl) (by kernel_rfl) (by kernel_rfl) (fun _ _ _ h => h) (Or.inl ⟨by first | rfl | (simp [Region.wanted, yielded, go_sem, undef]; done) | (simp [Region.wanted, yielded, go_sem, undef]; omega), ?_⟩) ?_
              rotate_left
              · intro w; go_simp; try with_reducible rfl
              (refine wpAny_act (b := ?_) ?_ ?_; rotate_left; (go_simp; with_reducible rfl))
              refine wpAny_take (i := 17) (v := ?_) rfl (by kernel_rfl) (by kernel_rfl) (by kernel_rfl) (fun _ _ _ h => h) (Or.inl ⟨by first | rfl | (simp [Region.wanted, yielded, go_sem, undef]; done) | (simp [Region.wanted, yielded, go_sem, undef]; omega), ?_⟩) ?_
              rotate_left
              · intro w; go_simp; try with_reducible rfl
              (refine wpAny_act (b := ?_) ?_ ?_; rotate_left; (go_simp; with_reducible rfl))
              refine wpAny_take (i := 18) (v := ?_) rfl (by kernel_rfl) (by kernel_rfl) (by kernel_rfl) (fun _ _ _ h => h) (Or.inl ⟨by first | rfl | (simp [Region.wanted, yielded, go_sem, undef]; done) | (simp [Region.wanted, yielded, go_sem, undef]; omega), ?_⟩) ?_
              rotate_left
              · intro w; go_simp; try with_reducible rfl
              (refine wpAny_act (b := ?_) ?_ ?_; rotate_left; (go_simp; with_reducible rfl))
              refine wpAny_take (i := 19) (v := ?_) rfl (by kernel_rfl) (by kernel_rfl) (by kernel_rfl) (fun _ _ _ h => h) (Or.inl ⟨by first | rfl | (simp [Region.wanted, yielded, go_sem, undef]; done) | (simp [Region.wanted, yielded, go_sem, undef]; omega), ?_⟩) ?_
              rotate_left
              · intro w; go_simp; try with_reducible rfl
              (refine wpAny_act (b := ?_) ?_ ?_; rotate_left; (go_simp; with_reducible rfl))
              refine wpAny_take (i := 20) (v := ?_) rfl (by kernel_rfl) (by kernel_rfl) (by kernel_rfl) (fun _ _ _ h => h) (Or.inl ⟨by first | rfl | (simp [Region.wanted, yielded, go_sem, undef]; done) | (simp [Region.wanted, yielded, go_sem, undef]; omega), ?_⟩) ?_
              rotate_left
              · intro w; go_simp; try with_reducible rfl
              (refine wpAny_act (b := ?_) ?_ ?_; rotate_left; (go_simp; with_reducible rfl))
              refine wpAny_take (i := 21) (v := ?_) rfl (by kernel_rfl) (by kernel_rfl) (by kernel_rfl) (fun _ _ _ h => h) (Or.inl ⟨by first | rfl | (simp [Region.wanted, yielded, go_sem, undef]; done) | (simp [Region.wanted, yielded, go_sem, undef]; omega), ?_⟩) ?_
              rotate_left
              · intro w; go_simp; try with_reducible rfl
              (refine wpAny_act (b := ?_) ?_ ?_; rotate_left; (go_simp; with_reducible rfl))
              refine wpAny_take (i := 22) (v := ?_) rfl (by kernel_rfl) (by kernel_rfl) (by kernel_rfl) (fun _ _ _ h => h) (Or.inl ⟨by first | rfl | (simp [Region.wanted, yielded, go_sem, undef]; done) | (simp [Region.wanted, yielded, go_sem, undef]; omega), ?_⟩) ?_
              rotate_left
              · intro w; go_simp; try with_reducible rfl
              (refine wpAny_act (b := ?_) ?_ ?_; rotate_left; (go_simp; with_reducible rfl))
              refine wpAny_take (i := 26) (v := ?_) rfl (by kernel_rfl) (by kernel_rfl) (by kernel_rfl) (fun _ _ _ h => h) (Or.inl ⟨by first | rfl | (simp [Region.wanted, yielded, go_sem, undef]; done) | (simp [Region.wanted, yielded, go_sem, undef]; omega), ?_⟩) ?_
              rotate_left
              · intro w; go_simp; try with_reducible rfl
              (refine wpAny_act (b := ?_) ?_ ?_; rotate_left; (go_simp; with_reducible rfl))
              refine wpAny_take (i := 27) (v := ?_) rfl (by kernel_rfl) (by kernel_rfl) (by kernel_rfl) (fun _ _ _ h => h) (Or.inl ⟨by first | rfl | (simp [Region.wanted, yielded, go_sem, undef]; done) | (simp [Region.wanted, yielded, go_sem, undef]; omega), ?_⟩) ?_
              rotate_left
              · intro w; go_simp; try with_reducible rfl
              (refine wpAny_act (b := ?_) ?_ ?_; rotate_left; (go_simp; with_reducible rfl))
              refine wpAny_take (i := 28) (v := ?_) rfl (by kernel_rfl) (by kernel_rfl) (by kernel_rfl) (fun _ _ _ h => h) (Or.inl ⟨by first | rfl | (simp [Region.wanted, yielded, go_sem, undef]; done) | (simp [Region.wanted, yielded, go_sem, undef]; omega), ?_⟩) ?_
              rotate_left
              · intro w; go_simp; try with_reducible rfl
              (refine wpAny_act (b := ?_) ?_ ?_; rotate_left; (go_simp; with_reducible rfl))
              refine wpAny_ready (rs := [23, 29]) (by kernel_rfl) (by simp) ?_
              refine AllReady.cons rfl (fun K hK => ?_) (AllReady.cons rfl (fun K hK => ?_) AllReady.nil)
              go_simp
              refine hK _ _ ?_
              clear hK K
              refine wpAny_take (i := 24) (v := ?_) rfl (by kernel_rfl) (by kernel_rfl) (by kernel_rfl) (fun _ _ _ h => h) (Or.inl ⟨by first | rfl | (simp [Region.wanted, yielded, go_sem, undef]; done) | (simp [Region.wanted, yielded, go_sem, undef]; omega), ?_⟩) ?_
              rotate_left
              · intro w; go_simp; try with_reducible rfl
              (refine wpAny_act (b := ?_) ?_ ?_; rotate_left; (go_simp; with_reducible rfl))
              refine wpAny_ready (rs := [25, 29]) (by kernel_rfl) (by simp) ?_
              refine AllReady.cons rfl (fun K hK => ?_) (AllReady.cons rfl (fun K hK => ?_) AllReady.nil)
              go_simp
              refine hK _ _ ?_
              clear hK K
              refine wpAny_ready (rs := [29]) (by kernel_rfl) (by simp) ?_
              refine AllReady.cons rfl (fun K hK => ?_) AllReady.nil
              go_simp
              refine hK _ _ ?_
              clear hK K
              refine ?tl
              rotate_left
              go_simp
              refine hK _ _ ?_
              clear hK K
              refine wpAny_ready (rs := [25]) (by kernel_rfl) (by simp) ?_
              refine AllReady.cons rfl (fun K hK => ?_) AllReady.nil
              go_simp
              refine hK _ _ ?_
              clear hK K
              exact ?tl
              go_simp
              refine hK _ _ ?_
              clear hK K
              refine wpAny_ready (rs := [23]) (by kernel_rfl) (by simp) ?_
              refine AllReady.cons rfl (fun K hK => ?_) AllReady.nil
              go_simp
              refine hK _ _ ?_
              clear hK K
              refine wpAny_take (i := 24) (v := ?_) rfl (by kernel_rfl) (by kernel_rfl) (by kernel_rfl) (fun _ _ _ h => h) (Or.inl ⟨by first | rfl | (simp [Region.wanted, yielded, go_sem, undef]; done) | (simp [Region.wanted, yielded, go_sem, undef]; omega), ?_⟩) ?_
              rotate_left
              · intro w; go_simp; try with_reducible rfl
              (refine wpAny_act (b := ?_) ?_ ?_; rotate_left; (go_simp; with_reducible rfl))
              refine wpAny_ready (rs := [25]) (by kernel_rfl) (by simp) ?_
              refine AllReady.cons rfl (fun K hK => ?_) AllReady.nil
              go_simp
              refine hK _ _ ?_
              clear hK K
              exact ?tl
              case tl =>
                refine wpAny_ready (rs := [30]) (by kernel_rfl) (by simp) ?_
                refine AllReady.cons rfl (fun K hK => ?_) AllReady.nil
                go_simp
                refine (rhas_is _ (adj.getD y []) (x : Int) true HHas.out _ (Hrow.out _ Hbx.out.drew) Hrl.out).mono ?_
                rintro e w5 ⟨rfl, hb5⟩
                have Hb5 := Lib.hid (below_next Hbx.out.drew (Nat.le_refl _) hb5)
                clear hb5 g1 g2 g3
                have g1 := Hpi.out _ Hb5.out
                refine hK _ _ ?_
                clear hK K
                refine wpAny_take (i := 31) (v := ?_) rfl (by kernel_rfl) (by kernel_rfl) (by kernel_rfl) (fun _ _ _ h => h) (Or.inl ⟨by first | rfl | (simp [Region.wanted, yielded, go_sem, undef]; done) | (simp [Region.wanted, yielded, go_sem, undef]; omega), ?_⟩) ?_
                rotate_left
                · intro w; go_simp; try with_reducible rfl
                (refine wpAny_act (b := ?_) ?_ ?_; rotate_left; (go_simp; with_reducible rfl))
                refine wpAny_take (i := 32) (v := ?_) rfl (by kernel_rfl) (by kernel_rfl) (by kernel_rfl) (fun _ _ _ h => h) (Or.inl ⟨by first | rfl | (simp [Region.wanted, yielded, go_sem, undef]; done) | (simp [Region.wanted, yielded, go_sem, undef]; omega), ?_⟩) ?_
                rotate_left
                · intro w; go_simp; try with_reducible rfl
                (refine wpAny_act (b := ?_) ?_ ?_; rotate_left; (go_simp; with_reducible rfl))
                refine wpAny_take (i := 33) (v := ?_) rfl (by kernel_rfl) (by kernel_rfl) (by kernel_rfl) (fun _ _ _ h => h) (Or.inl ⟨by first | rfl | (simp [Region.wanted, yielded, go_sem, undef]; done) | (simp [Region.wanted, yielded, go_sem, undef]; omega), ?_⟩) ?_
                rotate_left
                · intro w; go_simp; try with_reducible rfl
                (refine wpAny_act (b := ?_) ?_ ?_; rotate_left; (go_simp; with_reducible rfl))
                refine wpAny_take (i := 34) (v := ?_) rfl (by kernel_rfl) (by kernel_rfl) (by kernel_rfl) (fun _ _ _ h => h) (Or.inl ⟨by first | rfl | (simp [Region.wanted, yielded, go_sem, undef]; done) | (simp [Region.wanted, yielded, go_sem, undef]; omega), ?_⟩) ?_
                rotate_left
                · intro w; go_simp; try with_reducible rfl
                (refine wpAny_act (b := ?_) ?_ ?_; rotate_left; (go_simp; with_reducible rfl))
                refine wpAny_take (i := 35) (v := ?_) rfl (by kernel_rfl) (by kernel_rfl) (by kernel_rfl) (fun _ _ _ h => h) (Or.inl ⟨by first | rfl | (simp [Region.wanted, yielded, go_sem, undef]; done) | (simp [Region.wanted, yielded, go_sem, undef]; omega), ?_⟩) ?_
                rotate_left
                · intro w; go_simp; try with_reducible rfl
                (refine wpAny_act (b := ?_) ?_ ?_; rotate_left; (go_simp; with_reducible rfl))
                refine wpAny_take (i := 36) (v := ?_) rfl (by kernel_rfl) (by kernel_rfl) (by kernel_rfl) (fun _ _ _ h => h) (Or.inl ⟨by first | rfl | (simp [Region.wanted, yielded, go_sem, undef]; done) | (simp [Region.wanted, yielded, go_sem, undef]; omega), ?_⟩) ?_
                rotate_left
                · intro w; go_simp; try with_reducible rfl
                (refine wpAny_act (b := ?_) ?_ ?_; rotate_left; (go_simp; with_reducible rfl))
                refine wpAny_take (i := 37) (v := ?_) rfl (by kernel_rfl) (by kernel_rfl) (by kernel_rfl) (fun _ _ _ h => h) (Or.inl ⟨by first | rfl | (simp [Region.wanted, yielded, go_sem, undef]; done) | (simp [Region.wanted, yielded, go_sem, undef]; omega), ?_⟩) ?_
                rotate_left
                · intro w; go_simp; try with_reducible rfl
                (refine wpAny_act (b := ?_) ?_ ?_; rotate_left; (go_simp; with_reducible rfl))
                refine wpAny_take (i := 38) (v := ?_) rfl (by kernel_rfl) (by kernel_rfl) (by kernel_rfl) (fun _ _ _ h => h) (Or.inl ⟨by first | rfl | (simp [Region.wanted, yielded, go_sem, undef]; done) | (simp [Region.wanted, yielded, go_sem, undef]; omega), ?_⟩) ?_
                rotate_left
                · intro w; go_simp; try with_reducible rfl
                (refine wpAny_act (b := ?_) ?_ ?_; rotate_left; (go_simp; with_reducible rfl))
                refine wpAny_take (i := 39) (v := ?_) rfl (by kernel_rfl) (by kernel_rfl) (by kernel_rfl) (fun _ _ _ h => h) (Or.inl ⟨by first | rfl | (simp [Region.wanted, yielded, go_sem, undef]; done) | (simp [Region.wanted, yielded, go_sem, undef]; omega), ?_⟩) ?_
                rotate_left
                · intro w; go_simp; try with_reducible rfl
                (refine wpAny_act (b := ?_) ?_ ?_; rotate_left; (go_simp; with_reducible rfl))
                refine wpAny_take (i := 40) (v := ?_) rfl (by kernel_rfl) (by kernel_rfl) (by kernel_rfl) (fun _ _ _ h => h) (Or.inl ⟨by first | rfl | (simp [Region.wanted, yielded, go_sem, undef]; done) | (simp [Region.wanted, yielded, go_sem, undef]; omega), ?_⟩) ?_
                rotate_left
                · intro w; go_simp; try with_reducible rfl
                (refine wpAny_act (b := ?_) ?_ ?_; rotate_left; (go_simp; with_reducible rfl))
                refine wpAny_take (i := 41) (v := ?_) rfl (by kernel_rfl) (by kernel_rfl) (by kernel_rfl) (fun _ _ _ h => h) (Or.inl ⟨by first | rfl | (simp [Region.wanted, yielded, go_sem, undef]; done) | (simp [Region.wanted, yielded, go_sem, undef]; omega), ?_⟩) ?_
                rotate_left
                · intro w; go_simp; try with_reducible rfl
                (refine wpAny_act (b := ?_) ?_ ?_; rotate_left; (go_simp; with_reducible rfl))
                refine wpAny_ready (rs := [42]) (by kernel_rfl) (by simp) ?_
                refine AllReady.cons rfl (fun K hK => ?_) AllReady.nil
                go_simp
                refine hK _ _ ?_
                clear hK K
                refine wpAny_ready (rs := [43]) (by kernel_rfl) (by simp) ?_
                refine AllReady.cons rfl (fun K hK => ?_) AllReady.nil
                go_simp
                refine (rhas_is _ a (x : Int) false HNs.out _ (HYa.out.up Hb5.out) (by omega)).mono ?_
                rintro e w6 ⟨rfl, hb6⟩
                have Hb6 := Lib.hid (below_next Hb5.out (Nat.le_refl _) hb6)
                clear hb6 g1
                have g1 := Hpi.out _ Hb6.out
                refine hK _ _ ?_
                clear hK K
                refine wpAny_take (i := 44) (v := ?_) rfl (by kernel_rfl) (by kernel_rfl) (by kernel_rfl) (fun _ _ _ h => h) (Or.inl ⟨by first | rfl | (simp [Region.wanted, yielded, go_sem, undef]; done) | (simp [Region.wanted, yielded, go_sem, undef]; omega), ?_⟩) ?_
                rotate_left
                · intro w; go_simp; try with_reducible rfl
                (refine wpAny_act (b := ?_) ?_ ?_; rotate_left; (go_simp; with_reducible rfl))
                refine wpAny_take (i := 45) (v := ?_) rfl (by kernel_rfl) (by kernel_rfl) (by kernel_rfl) (fun _ _ _ h => h) (Or.inl ⟨by first | rfl | (simp [Region.wanted, yielded, go_sem, undef]; done) | (simp [Region.wanted, yielded, go_sem, undef]; omega), ?_⟩) ?_
                rotate_left
                · intro w; go_simp; try with_reducible rfl
                (refine wpAny_act (b := ?_) ?_ ?_; rotate_left; (go_simp; with_reducible rfl))
                refine wpAny_take (i := 46) (v := ?_) rfl (by kernel_rfl) (by kernel_rfl) (by kernel_rfl) (fun _ _ _ h => h) (Or.inl ⟨by first | rfl | (simp [Region.wanted, yielded, go_sem, undef]; done) | (simp [Region.wanted, yielded, go_sem, undef]; omega), ?_⟩) ?_
                rotate_left
                · intro w; go_simp; try with_reducible rfl
                (refine wpAny_act (b := ?_) ?_ ?_; rotate_left; (go_simp; with_reducible rfl))
                refine wpAny_take (i := 47) (v := ?_) rfl (by kernel_rfl) (by kernel_rfl) (by kernel_rfl) (fun _ _ _ h => h) (Or.inl ⟨by first | rfl | (simp [Region.wanted, yielded, go_sem, undef]; done) | (simp [Region.wanted, yielded, go_sem, undef]; omega), ?_⟩) ?_
                rotate_left
                · intro w; go_simp; try with_reducible rfl
                (refine wpAny_act (b := ?_) ?_ ?_; rotate_left; (go_simp; with_reducible rfl))
                refine wpAny_take (i := 48) (v := ?_) rfl (by kernel_rfl) (by kernel_rfl) (by kernel_rfl) (fun _ _ _ h => h) (Or.inl ⟨by first | rfl | (simp [Region.wanted, yielded, go_sem, undef]; done) | (simp [Region.wanted, yielded, go_sem, undef]; omega), ?_⟩) ?_
                rotate_left
                · intro w; go_simp; try with_reducible rfl
                (refine wpAny_act (b := ?_) ?_ ?_; rotate_left; (go_simp; with_reducible rfl))
                refine wpAny_take (i := 49) (v := ?_) rfl (by kernel_rfl) (by kernel_rfl) (by kernel_rfl) (fun _ _ _ h => h) (Or.inl ⟨by first | rfl | (simp [Region.wanted, yielded, go_sem, undef]; done) | (simp [Region.wanted, yielded, go_sem, undef]; omega), ?_⟩) ?_
                rotate_left
                · intro w; go_simp; try with_reducible rfl
                (refine wpAny_act (b := ?_) ?_ ?_; rotate_left; (go_simp; with_reducible rfl))
                refine wpAny_take (i := 50) (v := ?_) rfl (by kernel_rfl) (by kernel_rfl) (by kernel_rfl) (fun _ _ _ h => h) (Or.inl ⟨by first | rfl | (simp [Region.wanted, yielded, go_sem, undef]; done) | (simp [Region.wanted, yielded, go_sem, undef]; omega), ?_⟩) ?_
                rotate_left
                · intro w; go_simp; try with_reducible rfl
                (refine wpAny_act (b := ?_) ?_ ?_; rotate_left; (go_simp; with_reducible rfl))
                refine wpAny_take (i := 51) (v := ?_) rfl (by kernel_rfl) (by kernel_rfl) (by kernel_rfl) (fun _ _ _ h => h) (Or.inl ⟨by first | rfl | (simp [Region.wanted, yielded, go_sem, undef]; done) | (simp [Region.wanted, yielded, go_sem, undef]; omega), ?_⟩) ?_
                rotate_left
                · intro w; go_simp; try with_reducible rfl
                (refine wpAny_act (b := ?_) ?_ ?_; rotate_left; (go_simp; with_reducible rfl))
                refine wpAny_take (i := 52) (v := ?_) rfl (by kernel_rfl) (by kernel_rfl) (by kernel_rfl) (fun _ _ _ h => h) (Or.inl ⟨by first | rfl | (simp [Region.wanted, yielded, go_sem, undef]; done) | (simp [Region.wanted, yielded, go_sem, undef]; omega), ?_⟩) ?_
                rotate_left
                · intro w; go_simp; try with_reducible rfl
                (refine wpAny_act (b := ?_) ?_ ?_; rotate_left; (go_simp; with_reducible rfl))
                refine wpAny_take (i := 53) (v := undef) rfl (by kernel_rfl) (by kernel_rfl) (by kernel_rfl) (fun _ _ _ h => h) (Or.inr ⟨by first | (simp [Region.wanted, yielded, go_sem, undef]; done) | (simp [Region.wanted, yielded, go_sem, undef]; omega), rfl⟩) ?_
                (refine wpAny_act (b := ?_) ?_ ?_; rotate_left; (go_simp; with_reducible rfl))
                refine wpAny_take (i := 54) (v := undef) rfl (by kernel_rfl) (by kernel_rfl) (by kernel_rfl) (fun _ _ _ h => h) (Or.inr ⟨by first | (simp [Region.wanted, yielded, go_sem, undef]; done) | (simp [Region.wanted, yielded, go_sem, undef]; omega), rfl⟩) ?_
                (refine wpAny_act (b := ?_) ?_ ?_; rotate_left; (go_simp; with_reducible rfl))
                refine wpAny_take (i := 55) (v := undef) rfl (by kernel_rfl) (by kernel_rfl) (by kernel_rfl) (fun _ _ _ h => h) (Or.inr ⟨by first | (simp [Region.wanted, yielded, go_sem, undef]; done) | (simp [Region.wanted, yielded, go_sem, undef]; omega), rfl⟩) ?_
                (refine wpAny_act (b := ?_) ?_ ?_; rotate_left; (go_simp; with_reducible rfl))
                refine wpAny_take (i := 56) (v := undef) rfl (by kernel_rfl) (by kernel_rfl) (by kernel_rfl) (fun _ _ _ h => h) (Or.inr ⟨by first | (simp [Region.wanted, yielded, go_sem, undef]; done) | (simp [Region.wanted, yielded, go_sem, undef]; omega), rfl⟩) ?_
                (refine wpAny_act (b := ?_) ?_ ?_; rotate_left; (go_simp; with_reducible rfl))
                refine wpAny_take (i := 57) (v := undef) rfl (by kernel_rfl) (by kernel_rfl) (by kernel_rfl) (fun _ _ _ h => h) (Or.inr ⟨by first | (simp [Region.wanted, yielded, go_sem, undef]; done) | (simp [Region.wanted, yielded, go_sem, undef]; omega), rfl⟩) ?_
                (refine wpAny_act (b := ?_) ?_ ?_; rotate_left; (go_simp; with_reducible rfl))
                refine wpAny_take (i := 58) (v := undef) rfl (by kernel_rfl) (by kernel_rfl) (by kernel_rfl) (fun _ _ _ h => h) (Or.inr ⟨by first | (simp [Region.wanted, yielded, go_sem, undef]; done) | (simp [Region.wanted, yielded, go_sem, undef]; omega), rfl⟩) ?_
                (refine wpAny_act (b := ?_) ?_ ?_; rotate_left; (go_simp; with_reducible rfl))
                refine wpAny_take (i := 59) (v := ?_) rfl (by kernel_rfl) (by kernel_rfl) (by kernel_rfl) (fun _ _ _ h => h) (Or.inl ⟨by first | rfl | (simp [Region.wanted, yielded, go_sem, undef]; done) | (simp [Region.wanted, yielded, go_sem, undef]; omega), ?_⟩) ?_
                rotate_left
                · intro w; go_simp; try with_reducible rfl
                (refine wpAny_act (b := ?_) ?_ ?_; rotate_left; (go_simp; with_reducible rfl))
                refine wpAny_take (i := 60) (v := ?_) rfl (by kernel_rfl) (by kernel_rfl) (by kernel_rfl) (fun _ _ _ h => h) (Or.inl ⟨by first | rfl | (simp [Region.wanted, yielded, go_sem, undef]; done) | (simp [Region.wanted, yielded, go_sem, undef]; omega), ?_⟩) ?_
                rotate_left
                · intro w; go_simp; try with_reducible rfl
                (refine wpAny_act (b := ?_) ?_ ?_; rotate_left; (go_simp; with_reducible rfl))
                refine wpAny_done (by kernel_rfl) ?_ _
                clear g1
                go_wp2
                go_roundw
                case rel => exact ⟨i + 1, by go_num, by omega, Hb6.out⟩
                case measure => simp [intOf]; omega
        · have hie : i = l.length := by omega
          clear hlt hi
          subst hie
          obtain ⟨adp, hAp, hc0⟩ := Hcp.out 0 hl0
          subst hAp
          obtain ⟨adp', hAp', hcl⟩ := Hcp.out (l.length - 1) (by omega)
          injection hAp' with hAp'
          subst hAp'
          have HHd : Hid (hasB a (l.getD 0 0) = true) := Lib.hid ((has_iff Hsa.out _).2 (HPF.out.head rfl))
          have HLs : Hid (hasB b (l.getD (l.length - 1) 0) = true) := Lib.hid ((has_iff Hsb.out _).2 (HPF.out.last rfl))
          have Hcl := Lib.hid hcl
          have g0 := hc0 _ Hbx.out
          rw [add_zero] at g0
          have hs1 : IntKind.i64.wrap ((l.length : Int) - 1) = (l.length : Int) - 1 := by rw [IntKind.wrap_i64]; omega
          have hs2 : wrap64 ((l.length : Int) - 1) = (l.length : Int) - 1 := by unfold wrap64; omega
          have hs3 : ((l.length : Int) - 1).toNat = l.length - 1 := by omega
          have hs4 : (0 : Int) ≤ (l.length : Int) - 1 := by omega
          have hs5 : (1 : Int) ≤ (l.length : Int) := by omega
          clear hc0 hcl
          generalize l.getD 0 0 = x0 at *
          go_wp2_with fail
          refine (rhas_is _ a x0 true HHd.out _ (HYa.out.up Hbx.out) (by omega)).mono ?_
          rintro e w8 ⟨rfl, hb8⟩
          have Hb8 := Lib.hid (below_next Hbx.out (Nat.le_refl _) hb8)
          clear hb8 g0
          have g1 := Hcl.out _ Hb8.out
          generalize l.getD (l.length - 1) 0 = x1 at *
          go_wp2_with fail
          refine (rhas_is _ b x1 true HLs.out _ (HYb.out.up Hb8.out) (by omega)).mono ?_
          rintro e w9 ⟨rfl, hb9⟩
          have Hb9 := Lib.hid (below_next Hb8.out (Nat.le_refl _) hb9)
          clear hb9 g1
          go_wp2
          go_ret
          exact ⟨rfl, below_next HBy.out (Nat.le_refl _) Hb9.out⟩

theorem closes_any (v va vb : Value) (adj : List (List Int)) (a b : List Int) (w : World) (hr : Rows2 w w.heap.size v adj) (ha : Row w w.heap.size va a) (hb : Row w w.heap.size vb b) : Calls Try.prog 5 #[v, va, vb] w (Truly w) := by
  by_cases b1 : 40 < (adj.length : Int)
  · exact closes_1 v va vb adj a b w hr ha hb b1
  · rcases h1 : digB adj with _ | _
    · exact closes_2 v va vb adj a b w hr ha hb b1 h1
    · rcases h2 : subB a (allL adj.length) with _ | _
      · exact closes_3 v va vb adj a b w hr ha hb b1 h1 h2
      · rcases h3 : subB b (allL adj.length) with _ | _
        · exact closes_4 v va vb adj a b w hr ha hb b1 h1 h2 h3
        · obtain ⟨l, t, hpc, hpf⟩ := path_ex h1 (sub_all (by omega) h2) (sub_all (by omega) h3)
          cases t with
          | false => exact closes_f v va vb adj a b w hr ha hb b1 h1 h2 h3 l hpc hpf
          | true => exact closes_t v va vb adj a b w hr ha hb b1 h1 h2 h3 l hpc hpf

end Wp
end Go.Proofs.Ytmgfhehnehcmpaa
