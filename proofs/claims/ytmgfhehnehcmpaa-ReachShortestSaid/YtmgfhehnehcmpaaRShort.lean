/- The law of a shortest way, walked: it answers true. -/
import Derived.Test.YtmgfhehnehcmpaaRShortP
import Derived.Test.YtmgfhehnehcmpaaRFixed
import Derived.Test.YtmgfhehnehcmpaaSRefMeet
import Derived.StillTailTactics
namespace Go.Proofs.Ytmgfhehnehcmpaa
open Go.RowKit
namespace Wp

theorem rhas_is (v : Value) (l : List Int) (x : Int) (t : Bool) (h : hasB l x = t) (w : World) (hr : Row w w.heap.size v l) (hl : l.length ≤ 1048576) :
    Calls Try.prog 24 #[v, .int .i64 x] w (Says w t) := by
  subst h
  exact refhas_any v l x w hr hl

set_option maxHeartbeats 8000000 in
set_option maxRecDepth 100000 in
theorem short_1 (v va vb : Value) (adj : List (List Int)) (a b : List Int) (w : World) (hr : Rows2 w w.heap.size v adj) (ha : Row w w.heap.size va a) (hb : Row w w.heap.size vb b) (b1 : 40 < (adj.length : Int)) : Calls Try.prog 6 #[v, va, vb] w (Truly w) := by
  have HB0 := Lib.hid (Below.refl w.heap.size w)
  have HR0 := Lib.hid hr
  have HA0 := Lib.hid ha
  have HC0 := Lib.hid hb
  obtain ⟨A, c, rfl, hcap, hcell⟩ := hr
  have Hcell := Lib.hid hcell
  clear ha hb hcell
  go_enter Try.func6, Try.ntmps6
  go_wp2_with fail
  refine (rfixed_any _).mono ?_
  rintro e w1 ⟨rfl, hb2⟩
  have adj_3 := Lib.hid (HR0.out.up hb2)
  clear HR0
  have a_4 := Lib.hid (HA0.out.up hb2)
  clear HA0
  have b_5 := Lib.hid (HC0.out.up hb2)
  clear HC0
  have HB6 := Lib.hid (below_next HB0.out (Nat.le_refl _) hb2)
  clear hb2 HB0
  clear adj_3
  clear a_4
  clear b_5
  go_wp2_with fail
  refine (rfixed_any _).mono ?_
  rintro e w7 ⟨rfl, hb8⟩
  have HB9 := Lib.hid (below_next HB6.out (Nat.le_refl _) hb8)
  clear hb8 HB6
  go_wp2
  go_ret
  exact ⟨rfl, HB9.out⟩

set_option maxHeartbeats 8000000 in
set_option maxRecDepth 100000 in
theorem short_2 (v va vb : Value) (adj : List (List Int)) (a b : List Int) (w : World) (hr : Rows2 w w.heap.size v adj) (ha : Row w w.heap.size va a) (hb : Row w w.heap.size vb b) (b1 : ¬ 40 < (adj.length : Int)) (h1 : digB adj = false) : Calls Try.prog 6 #[v, va, vb] w (Truly w) := by
  have HB0 := Lib.hid (Below.refl w.heap.size w)
  have HR0 := Lib.hid hr
  have HA0 := Lib.hid ha
  have HC0 := Lib.hid hb
  obtain ⟨A, c, rfl, hcap, hcell⟩ := hr
  have Hcell := Lib.hid hcell
  clear ha hb hcell
  have H1 := Lib.hid h1
  clear h1
  go_enter Try.func6, Try.ntmps6
  go_wp2_with fail
  refine (rfixed_any _).mono ?_
  rintro e w1 ⟨rfl, hb2⟩
  have adj_3 := Lib.hid (HR0.out.up hb2)
  clear HR0
  have a_4 := Lib.hid (HA0.out.up hb2)
  clear HA0
  have b_5 := Lib.hid (HC0.out.up hb2)
  clear HC0
  have HB6 := Lib.hid (below_next HB0.out (Nat.le_refl _) hb2)
  clear hb2 HB0
  go_wp2_with fail
  refine (r7may_is _ adj false H1.out _ adj_3.out).mono ?_
  rintro e w7 ⟨rfl, hb8⟩
  have adj_9 := Lib.hid (adj_3.out.up hb8)
  clear adj_3
  have a_10 := Lib.hid (a_4.out.up hb8)
  clear a_4
  have b_11 := Lib.hid (b_5.out.up hb8)
  clear b_5
  have HB12 := Lib.hid (below_next HB6.out (Nat.le_refl _) hb8)
  clear hb8 HB6
  clear adj_9
  clear a_10
  clear b_11
  go_wp2_with fail
  refine (rfixed_any _).mono ?_
  rintro e w13 ⟨rfl, hb14⟩
  have HB15 := Lib.hid (below_next HB12.out (Nat.le_refl _) hb14)
  clear hb14 HB12
  go_wp2
  go_ret
  exact ⟨rfl, HB15.out⟩

set_option maxHeartbeats 8000000 in
set_option maxRecDepth 100000 in
theorem short_3 (v va vb : Value) (adj : List (List Int)) (a b : List Int) (w : World) (hr : Rows2 w w.heap.size v adj) (ha : Row w w.heap.size va a) (hb : Row w w.heap.size vb b) (b1 : ¬ 40 < (adj.length : Int)) (h1 : digB adj = true) (h2 : subB a (allL adj.length) = false) : Calls Try.prog 6 #[v, va, vb] w (Truly w) := by
  have HB0 := Lib.hid (Below.refl w.heap.size w)
  have HR0 := Lib.hid hr
  have HA0 := Lib.hid ha
  have HC0 := Lib.hid hb
  obtain ⟨A, c, rfl, hcap, hcell⟩ := hr
  have Hcell := Lib.hid hcell
  clear ha hb hcell
  have H1 := Lib.hid h1
  have H2 := Lib.hid h2
  clear h1 h2
  go_enter Try.func6, Try.ntmps6
  go_wp2_with fail
  refine (rfixed_any _).mono ?_
  rintro e w1 ⟨rfl, hb2⟩
  have adj_3 := Lib.hid (HR0.out.up hb2)
  clear HR0
  have a_4 := Lib.hid (HA0.out.up hb2)
  clear HA0
  have b_5 := Lib.hid (HC0.out.up hb2)
  clear HC0
  have HB6 := Lib.hid (below_next HB0.out (Nat.le_refl _) hb2)
  clear hb2 HB0
  go_wp2_with fail
  refine (r7may_is _ adj true H1.out _ adj_3.out).mono ?_
  rintro e w7 ⟨rfl, hb8⟩
  have adj_9 := Lib.hid (adj_3.out.up hb8)
  clear adj_3
  have a_10 := Lib.hid (a_4.out.up hb8)
  clear a_4
  have b_11 := Lib.hid (b_5.out.up hb8)
  clear b_5
  have HB12 := Lib.hid (below_next HB6.out (Nat.le_refl _) hb8)
  clear hb8 HB6
  go_wp2_with fail
  refine (refall_any adj.length _).mono ?_
  rintro e w15 ⟨v13, rfl, r14, hb16⟩
  have adj_17 := Lib.hid (adj_9.out.up hb16)
  clear adj_9
  have a_18 := Lib.hid (a_10.out.up hb16)
  clear a_10
  have b_19 := Lib.hid (b_11.out.up hb16)
  clear b_11
  have HB20 := Lib.hid (below_next HB12.out (Nat.le_refl _) hb16)
  clear hb16 HB12
  have all_21 := Lib.hid (r14)
  clear r14
  go_wp2_with fail
  refine (rsub_is _ _ a (allL adj.length) false H2.out _ a_18.out all_21.out (all_len _)).mono ?_
  rintro e w22 ⟨rfl, hb23⟩
  have adj_24 := Lib.hid (adj_17.out.up hb23)
  clear adj_17
  have a_25 := Lib.hid (a_18.out.up hb23)
  clear a_18
  have b_26 := Lib.hid (b_19.out.up hb23)
  clear b_19
  have all_27 := Lib.hid (all_21.out.up hb23)
  clear all_21
  have HB28 := Lib.hid (below_next HB20.out (Nat.le_refl _) hb23)
  clear hb23 HB20
  clear all_27
  clear adj_24
  clear a_25
  clear b_26
  go_wp2_with fail
  refine (rfixed_any _).mono ?_
  rintro e w29 ⟨rfl, hb30⟩
  have HB31 := Lib.hid (below_next HB28.out (Nat.le_refl _) hb30)
  clear hb30 HB28
  go_wp2
  go_ret
  exact ⟨rfl, HB31.out⟩

set_option maxHeartbeats 8000000 in
set_option maxRecDepth 100000 in
theorem short_4 (v va vb : Value) (adj : List (List Int)) (a b : List Int) (w : World) (hr : Rows2 w w.heap.size v adj) (ha : Row w w.heap.size va a) (hb : Row w w.heap.size vb b) (b1 : ¬ 40 < (adj.length : Int)) (h1 : digB adj = true) (h2 : subB a (allL adj.length) = true) (h3 : subB b (allL adj.length) = false) : Calls Try.prog 6 #[v, va, vb] w (Truly w) := by
  have HB0 := Lib.hid (Below.refl w.heap.size w)
  have HR0 := Lib.hid hr
  have HA0 := Lib.hid ha
  have HC0 := Lib.hid hb
  obtain ⟨A, c, rfl, hcap, hcell⟩ := hr
  have Hcell := Lib.hid hcell
  clear ha hb hcell
  have H1 := Lib.hid h1
  have H2 := Lib.hid h2
  have H3 := Lib.hid h3
  clear h1 h2 h3
  go_enter Try.func6, Try.ntmps6
  go_wp2_with fail
  refine (rfixed_any _).mono ?_
  rintro e w1 ⟨rfl, hb2⟩
  have adj_3 := Lib.hid (HR0.out.up hb2)
  clear HR0
  have a_4 := Lib.hid (HA0.out.up hb2)
  clear HA0
  have b_5 := Lib.hid (HC0.out.up hb2)
  clear HC0
  have HB6 := Lib.hid (below_next HB0.out (Nat.le_refl _) hb2)
  clear hb2 HB0
  go_wp2_with fail
  refine (r7may_is _ adj true H1.out _ adj_3.out).mono ?_
  rintro e w7 ⟨rfl, hb8⟩
  have adj_9 := Lib.hid (adj_3.out.up hb8)
  clear adj_3
  have a_10 := Lib.hid (a_4.out.up hb8)
  clear a_4
  have b_11 := Lib.hid (b_5.out.up hb8)
  clear b_5
  have HB12 := Lib.hid (below_next HB6.out (Nat.le_refl _) hb8)
  clear hb8 HB6
  go_wp2_with fail
  refine (refall_any adj.length _).mono ?_
  rintro e w15 ⟨v13, rfl, r14, hb16⟩
  have adj_17 := Lib.hid (adj_9.out.up hb16)
  clear adj_9
  have a_18 := Lib.hid (a_10.out.up hb16)
  clear a_10
  have b_19 := Lib.hid (b_11.out.up hb16)
  clear b_11
  have HB20 := Lib.hid (below_next HB12.out (Nat.le_refl _) hb16)
  clear hb16 HB12
  have all_21 := Lib.hid (r14)
  clear r14
  go_wp2_with fail
  refine (rsub_is _ _ a (allL adj.length) true H2.out _ a_18.out all_21.out (all_len _)).mono ?_
  rintro e w22 ⟨rfl, hb23⟩
  have adj_24 := Lib.hid (adj_17.out.up hb23)
  clear adj_17
  have a_25 := Lib.hid (a_18.out.up hb23)
  clear a_18
  have b_26 := Lib.hid (b_19.out.up hb23)
  clear b_19
  have all_27 := Lib.hid (all_21.out.up hb23)
  clear all_21
  have HB28 := Lib.hid (below_next HB20.out (Nat.le_refl _) hb23)
  clear hb23 HB20
  clear all_27
  go_wp2_with fail
  refine (refall_any adj.length _).mono ?_
  rintro e w31 ⟨v29, rfl, r30, hb32⟩
  have adj_33 := Lib.hid (adj_24.out.up hb32)
  clear adj_24
  have a_34 := Lib.hid (a_25.out.up hb32)
  clear a_25
  have b_35 := Lib.hid (b_26.out.up hb32)
  clear b_26
  have HB36 := Lib.hid (below_next HB28.out (Nat.le_refl _) hb32)
  clear hb32 HB28
  have all_37 := Lib.hid (r30)
  clear r30
  go_wp2_with fail
  refine (rsub_is _ _ b (allL adj.length) false H3.out _ b_35.out all_37.out (all_len _)).mono ?_
  rintro e w38 ⟨rfl, hb39⟩
  have adj_40 := Lib.hid (adj_33.out.up hb39)
  clear adj_33
  have a_41 := Lib.hid (a_34.out.up hb39)
  clear a_34
  have b_42 := Lib.hid (b_35.out.up hb39)
  clear b_35
  have all_43 := Lib.hid (all_37.out.up hb39)
  clear all_37
  have HB44 := Lib.hid (below_next HB36.out (Nat.le_refl _) hb39)
  clear hb39 HB36
  clear all_43
  clear adj_40
  clear a_41
  clear b_42
  go_wp2_with fail
  refine (rfixed_any _).mono ?_
  rintro e w45 ⟨rfl, hb46⟩
  have HB47 := Lib.hid (below_next HB44.out (Nat.le_refl _) hb46)
  clear hb46 HB44
  go_wp2
  go_ret
  exact ⟨rfl, HB47.out⟩

set_option maxHeartbeats 8000000 in
set_option maxRecDepth 100000 in
theorem short_f (v va vb : Value) (adj : List (List Int)) (a b : List Int) (w : World) (hr : Rows2 w w.heap.size v adj) (ha : Row w w.heap.size va a) (hb : Row w w.heap.size vb b) (b1 : ¬ 40 < (adj.length : Int)) (h1 : digB adj = true) (h2 : subB a (allL adj.length) = true) (h3 : subB b (allL adj.length) = true) (l : List Int) (hpc : pathC adj a b = (l, false)) (hl0 : l.length = 0) : Calls Try.prog 6 #[v, va, vb] w (Truly w) := by
  have HB0 := Lib.hid (Below.refl w.heap.size w)
  have HR0 := Lib.hid hr
  have HA0 := Lib.hid ha
  have HC0 := Lib.hid hb
  obtain ⟨A, c, rfl, hcap, hcell⟩ := hr
  have Hcell := Lib.hid hcell
  clear ha hb hcell
  have H1 := Lib.hid h1
  have H2 := Lib.hid h2
  have H3 := Lib.hid h3
  have HPC := Lib.hid hpc
  clear h1 h2 h3 hpc
  go_enter Try.func6, Try.ntmps6
  go_wp2_with fail
  refine (rfixed_any _).mono ?_
  rintro e w1 ⟨rfl, hb2⟩
  have adj_3 := Lib.hid (HR0.out.up hb2)
  clear HR0
  have a_4 := Lib.hid (HA0.out.up hb2)
  clear HA0
  have b_5 := Lib.hid (HC0.out.up hb2)
  clear HC0
  have HB6 := Lib.hid (below_next HB0.out (Nat.le_refl _) hb2)
  clear hb2 HB0
  go_wp2_with fail
  refine (r7may_is _ adj true H1.out _ adj_3.out).mono ?_
  rintro e w7 ⟨rfl, hb8⟩
  have adj_9 := Lib.hid (adj_3.out.up hb8)
  clear adj_3
  have a_10 := Lib.hid (a_4.out.up hb8)
  clear a_4
  have b_11 := Lib.hid (b_5.out.up hb8)
  clear b_5
  have HB12 := Lib.hid (below_next HB6.out (Nat.le_refl _) hb8)
  clear hb8 HB6
  go_wp2_with fail
  refine (refall_any adj.length _).mono ?_
  rintro e w15 ⟨v13, rfl, r14, hb16⟩
  have adj_17 := Lib.hid (adj_9.out.up hb16)
  clear adj_9
  have a_18 := Lib.hid (a_10.out.up hb16)
  clear a_10
  have b_19 := Lib.hid (b_11.out.up hb16)
  clear b_11
  have HB20 := Lib.hid (below_next HB12.out (Nat.le_refl _) hb16)
  clear hb16 HB12
  have all_21 := Lib.hid (r14)
  clear r14
  go_wp2_with fail
  refine (rsub_is _ _ a (allL adj.length) true H2.out _ a_18.out all_21.out (all_len _)).mono ?_
  rintro e w22 ⟨rfl, hb23⟩
  have adj_24 := Lib.hid (adj_17.out.up hb23)
  clear adj_17
  have a_25 := Lib.hid (a_18.out.up hb23)
  clear a_18
  have b_26 := Lib.hid (b_19.out.up hb23)
  clear b_19
  have all_27 := Lib.hid (all_21.out.up hb23)
  clear all_21
  have HB28 := Lib.hid (below_next HB20.out (Nat.le_refl _) hb23)
  clear hb23 HB20
  clear all_27
  go_wp2_with fail
  refine (refall_any adj.length _).mono ?_
  rintro e w31 ⟨v29, rfl, r30, hb32⟩
  have adj_33 := Lib.hid (adj_24.out.up hb32)
  clear adj_24
  have a_34 := Lib.hid (a_25.out.up hb32)
  clear a_25
  have b_35 := Lib.hid (b_26.out.up hb32)
  clear b_26
  have HB36 := Lib.hid (below_next HB28.out (Nat.le_refl _) hb32)
  clear hb32 HB28
  have all_37 := Lib.hid (r30)
  clear r30
  go_wp2_with fail
  refine (rsub_is _ _ b (allL adj.length) true H3.out _ b_35.out all_37.out (all_len _)).mono ?_
  rintro e w38 ⟨rfl, hb39⟩
  have adj_40 := Lib.hid (adj_33.out.up hb39)
  clear adj_33
  have a_41 := Lib.hid (a_34.out.up hb39)
  clear a_34
  have b_42 := Lib.hid (b_35.out.up hb39)
  clear b_35
  have all_43 := Lib.hid (all_37.out.up hb39)
  clear all_37
  have HB44 := Lib.hid (below_next HB36.out (Nat.le_refl _) hb39)
  clear hb39 HB36
  clear all_43
  go_wp2_with fail
  refine (path_is adj a b l false HPC.out _ _ _ _ adj_40.out a_41.out b_42.out).mono ?_
  rintro e w47 ⟨u45, rfl, r46, hb48⟩
  have adj_49 := Lib.hid (adj_40.out.up hb48)
  clear adj_40
  have a_50 := Lib.hid (a_41.out.up hb48)
  clear a_41
  have b_51 := Lib.hid (b_42.out.up hb48)
  clear b_42
  have HB52 := Lib.hid (below_next HB44.out (Nat.le_refl _) hb48)
  clear hb48 HB44
  have p_53 := Lib.hid (r46)
  obtain ⟨Ap, cp, rfl, -⟩ := r46
  clear p_53
  clear adj_49
  clear a_50
  clear b_51
  go_wp2
  go_ret
  exact ⟨rfl, HB52.out⟩

set_option maxHeartbeats 8000000 in
set_option maxRecDepth 100000 in
theorem short_t (v va vb : Value) (adj : List (List Int)) (a b : List Int) (w : World) (hr : Rows2 w w.heap.size v adj) (ha : Row w w.heap.size va a) (hb : Row w w.heap.size vb b) (b1 : ¬ 40 < (adj.length : Int)) (h1 : digB adj = true) (h2 : subB a (allL adj.length) = true) (h3 : subB b (allL adj.length) = true) (l : List Int) (hpc : pathC adj a b = (l, true)) (hsf : SF adj b l) : Calls Try.prog 6 #[v, va, vb] w (Truly w) := by
  have HB0 := Lib.hid (Below.refl w.heap.size w)
  have HR0 := Lib.hid hr
  have HA0 := Lib.hid ha
  have HC0 := Lib.hid hb
  obtain ⟨A, c, rfl, hcap, hcell⟩ := hr
  have Hcell := Lib.hid hcell
  clear ha hb hcell
  have H1 := Lib.hid h1
  have H2 := Lib.hid h2
  have H3 := Lib.hid h3
  have HPC := Lib.hid hpc
  have HSF := Lib.hid hsf
  have HRS := Lib.hid (fun y => show IsSet (adj.getD y []) from ⟨(digB_dig h1).1.up y, fun z hz => by have := (digB_dig h1).1.pt y z hz; unfold Fit; omega⟩)
  have HRL := Lib.hid (fun y => show (adj.getD y []).length ≤ 1048576 by have := pts_len (n := adj.length) ⟨(digB_dig h1).1.up y, (digB_dig h1).1.pt y⟩; omega)
  have hl0 := hsf.pos
  have hll := hsf.len
  clear h1 h2 h3 hpc hsf
  go_enter Try.func6, Try.ntmps6
  go_wp2_with fail
  refine (rfixed_any _).mono ?_
  rintro e w1 ⟨rfl, hb2⟩
  have adj_3 := Lib.hid (HR0.out.up hb2)
  clear HR0
  have a_4 := Lib.hid (HA0.out.up hb2)
  clear HA0
  have b_5 := Lib.hid (HC0.out.up hb2)
  clear HC0
  have HB6 := Lib.hid (below_next HB0.out (Nat.le_refl _) hb2)
  clear hb2 HB0
  go_wp2_with fail
  refine (r7may_is _ adj true H1.out _ adj_3.out).mono ?_
  rintro e w7 ⟨rfl, hb8⟩
  have adj_9 := Lib.hid (adj_3.out.up hb8)
  clear adj_3
  have a_10 := Lib.hid (a_4.out.up hb8)
  clear a_4
  have b_11 := Lib.hid (b_5.out.up hb8)
  clear b_5
  have HB12 := Lib.hid (below_next HB6.out (Nat.le_refl _) hb8)
  clear hb8 HB6
  go_wp2_with fail
  refine (refall_any adj.length _).mono ?_
  rintro e w15 ⟨v13, rfl, r14, hb16⟩
  have adj_17 := Lib.hid (adj_9.out.up hb16)
  clear adj_9
  have a_18 := Lib.hid (a_10.out.up hb16)
  clear a_10
  have b_19 := Lib.hid (b_11.out.up hb16)
  clear b_11
  have HB20 := Lib.hid (below_next HB12.out (Nat.le_refl _) hb16)
  clear hb16 HB12
  have all_21 := Lib.hid (r14)
  clear r14
  go_wp2_with fail
  refine (rsub_is _ _ a (allL adj.length) true H2.out _ a_18.out all_21.out (all_len _)).mono ?_
  rintro e w22 ⟨rfl, hb23⟩
  have adj_24 := Lib.hid (adj_17.out.up hb23)
  clear adj_17
  have a_25 := Lib.hid (a_18.out.up hb23)
  clear a_18
  have b_26 := Lib.hid (b_19.out.up hb23)
  clear b_19
  have all_27 := Lib.hid (all_21.out.up hb23)
  clear all_21
  have HB28 := Lib.hid (below_next HB20.out (Nat.le_refl _) hb23)
  clear hb23 HB20
  clear all_27
  go_wp2_with fail
  refine (refall_any adj.length _).mono ?_
  rintro e w31 ⟨v29, rfl, r30, hb32⟩
  have adj_33 := Lib.hid (adj_24.out.up hb32)
  clear adj_24
  have a_34 := Lib.hid (a_25.out.up hb32)
  clear a_25
  have b_35 := Lib.hid (b_26.out.up hb32)
  clear b_26
  have HB36 := Lib.hid (below_next HB28.out (Nat.le_refl _) hb32)
  clear hb32 HB28
  have all_37 := Lib.hid (r30)
  clear r30
  go_wp2_with fail
  refine (rsub_is _ _ b (allL adj.length) true H3.out _ b_35.out all_37.out (all_len _)).mono ?_
  rintro e w38 ⟨rfl, hb39⟩
  have adj_40 := Lib.hid (adj_33.out.up hb39)
  clear adj_33
  have a_41 := Lib.hid (a_34.out.up hb39)
  clear a_34
  have b_42 := Lib.hid (b_35.out.up hb39)
  clear b_35
  have all_43 := Lib.hid (all_37.out.up hb39)
  clear all_37
  have HB44 := Lib.hid (below_next HB36.out (Nat.le_refl _) hb39)
  clear hb39 HB36
  clear all_43
  go_wp2_with fail
  refine (path_is adj a b l true HPC.out _ _ _ _ adj_40.out a_41.out b_42.out).mono ?_
  rintro e w47 ⟨u45, rfl, r46, hb48⟩
  have adj_49 := Lib.hid (adj_40.out.up hb48)
  clear adj_40
  have a_50 := Lib.hid (a_41.out.up hb48)
  clear a_41
  have b_51 := Lib.hid (b_42.out.up hb48)
  clear b_42
  have HB52 := Lib.hid (below_next HB44.out (Nat.le_refl _) hb48)
  clear hb48 HB44
  have p_53 := Lib.hid (r46)
  obtain ⟨Ap, cp, rfl, hcapp, hcellp⟩ := r46
  obtain ⟨ad, hAp, _, _⟩ := hcellp 0 hl0
  subst hAp
  clear a_50
  have Hcp : Hid (∀ W, Below w47.heap.size w47 W → ∀ k, k < l.length → W.cell? (ad.add k) = some (.int .i64 (l.getD k 0))) := Lib.hid (fun W hW k hk' => by
    obtain ⟨ad', h1, h2, h3⟩ := hcellp k hk'
    injection h1 with h1
    subst h1
    exact (hW.cell (p := ad.add k) (by rw [add_block]; exact h2)).trans h3)
  have Hca : Hid (∀ W, Below w47.heap.size w47 W → ∀ x, x < adj.length → ∃ (ada : Addr) (ua : Value), A = some ada ∧ W.cell? (ada.add x) = some ua ∧ Row W W.heap.size ua (adj.getD x [])) := Lib.hid (fun W hW x hx => by
    obtain ⟨A3, c3, e6, _, hka⟩ := id (adj_49.out.up hW)
    injection e6 with e7 e8 e9
    subst e7
    obtain ⟨ada, ua, hAa, haab, hca, hru⟩ := hka x hx
    exact ⟨ada, ua, hAa, hca, hru⟩)
  have hcp1 := hcapp.1
  have hcp2 := hcapp.2.1
  clear hcellp hcapp
  go_wp2
  go_loopw [9] (fun vi wr => ∃ i : Nat, vi = .int .i64 (i : Int) ∧ i ≤ l.length ∧ Hid (Below w47.heap.size w47 wr)) (fun vi _ => l.length - (intOf vi).toNat)
  case atStart => exact ⟨0, rfl, Nat.zero_le _, Below.refl _ _⟩
  case round =>
    obtain ⟨i, rfl, hi, Hbx⟩ := hrel
    by_cases hlt : i < l.length
    · have hiI : (i : Int) < (l.length : Int) := by omega
      obtain ⟨x, hx, hxn⟩ : ∃ x : Nat, l.getD i 0 = (x : Int) ∧ x < adj.length := by
        have := HSF.out.pt i hlt
        exact ⟨(l.getD i 0).toNat, by omega, by omega⟩
      have hxI : ¬ ((adj.length : Int) ≤ (x : Int)) := by omega
      have hxJ : (x : Int) < (adj.length : Int) := by omega
      have hcp := Hcp.out _ Hbx.out i hlt
      rw [hx] at hcp
      have HX := Lib.hid hx
      have HCI : Hid (∀ W, Below w47.heap.size w47 W → W.cell? (ad.add i) = some (.int .i64 (x : Int))) := Lib.hid (fun W hW => by
        have := Hcp.out W hW i hlt
        rwa [hx] at this)
      clear hx
      go_wp2
      clear hcp
      go_loopw [10] (fun vk wx => ∃ k : Nat, vk = .int .i64 (k : Int) ∧ i + 2 ≤ k ∧ k ≤ l.length + 2 ∧ Hid (Below w47.heap.size w47 wx)) (fun vk _ => l.length + 2 - (intOf vk).toNat)
      case atStart => exact ⟨i + 2, by go_num, Nat.le_refl _, by omega, Hbx.out⟩
      case round =>
        obtain ⟨k, rfl, hk1, hk2, Hby⟩ := hrel
        by_cases hkl : k < l.length
        · have hkI : (k : Int) < (l.length : Int) := by omega
          have hci := HCI.out _ Hby.out
          have hck := Hcp.out _ Hby.out k hkl
          obtain ⟨ada, ua, hAa, hca, hru⟩ := Hca.out _ Hby.out x hxn
          subst hAa
          have HN : Hid (hasB (adj.getD x []) (l.getD k 0) = false) := Lib.hid (by
            have hsx : IsSet (adj.getD x []) := HRS.out x
            rw [Bool.eq_false_iff]
            intro hh
            have h2 := (has_iff hsx _).1 hh
            have h3 := HSF.out.straight i k hk1 hkl
            rw [HX.out, Int.toNat_natCast] at h3
            exact h3 h2)
          have HRU := Lib.hid hru
          have HRl := Lib.hid (HRL.out x)
          obtain ⟨y, hy⟩ : ∃ y, l.getD k 0 = y := ⟨_, rfl⟩
          rw [hy] at hck HN
          obtain ⟨Au, nu, cu, rfl⟩ : ∃ Au nu cu, ua = .slice Au nu cu := by
            obtain ⟨Au, cu, e, _⟩ := hru
            exact ⟨Au, _, cu, e⟩
          clear hy hru
          go_wp2
          refine wp_region_still_tail 11 (by kernel_rfl) (by kernel_rfl) ?_
          simp only [List.take_succ_cons, List.take_zero, List.drop_succ_cons, List.drop_zero]
          iterate 11 still_step
          refine wpStill_nil ?_
          change wpList _ _ _ _ _ wr.drew
          have HD := Lib.hid Hby.out.drew
          have HRD := Lib.hid (HRU.out.up (Below.refl wr.heap.size wr).drew)
          clear hci hck hca
          generalize wr.drew = wd at *
          go_wp2_with fail
          refine (rhas_is _ (adj.getD x []) y false HN.out _ HRD.out HRl.out).mono ?_
          rintro e w5 ⟨rfl, hb5⟩
          have H5 := Lib.hid (below_next HD.out (Nat.le_refl _) hb5)
          clear hb5
          go_wp2
          go_roundw
          case rel => exact ⟨k + 1, by go_num, by omega, by omega, H5.out⟩
          case measure => simp [intOf]; omega
        · have hkI : ¬ (k : Int) < (l.length : Int) := by omega
          go_wp2
          go_roundw
          case rel => exact ⟨i + 1, by go_num, by omega, Hby.out⟩
          case measure => simp [intOf]; omega
    · have hie : i = l.length := by omega
      clear hlt hi
      subst hie
      have HBZ := Lib.hid (below_next HB52.out (Nat.le_refl _) Hbx.out)
      by_cases h2 : l.length < 2
      · have h2I : (l.length : Int) < 2 := by omega
        have h1e : (l.length : Int) = 1 := by omega
        have h1b : ((l.length : Int) == 1) = true := by rw [h1e]; rfl
        clear h1e
        go_wp2
        go_ret
        exact ⟨rfl, HBZ.out⟩
      · have h2I : ¬ (l.length : Int) < 2 := by omega
        have HS1 : Hid (Row wr wr.heap.size (.slice (some (ad.add 1)) 1 (cp - 1)) [l.getD 1 0]) := Lib.hid (by
          have := Row.behind (p_53.out.up Hbx.out) 1 (cp - 1) (by omega) ⟨by omega, by omega⟩
          rwa [show (l.drop 1).take 1 = [l.getD 1 0] by
            match l, h2 with
            | [], h2 => exact absurd (by simp) h2
            | [_], h2 => exact absurd (by simp) h2
            | x :: y :: r, _ => simp] at this)
        have HS2 : Hid (Row wr wr.heap.size (.slice (some (ad.add 1)) (l.length - 1) (cp - 1)) (l.drop 1)) := Lib.hid (by
          have := Row.behind (p_53.out.up Hbx.out) (l.length - 1) (cp - 1) (by omega) ⟨by omega, by omega⟩
          rwa [List.take_of_length_le (by rw [List.length_drop]; exact Nat.le_refl _)] at this)
        have HAx := Lib.hid (adj_49.out.up Hbx.out)
        have HBx := Lib.hid (b_51.out.up Hbx.out)
        have HP2 := Lib.hid (HSF.out.second (by omega))
        have hcpI : (2 : Int) ≤ (cp : Int) := by omega
        have hcp0 : ¬ cp - 1 = 0 := by omega
        have hcp3 : 1 ≤ cp := by omega
        have hcp4 : 2 ≤ cp := by omega
        have hl1 : 1 ≤ l.length := by omega
        have hl2 : 2 ≤ l.length := by omega
        go_wp2_with fail
        refine (path_is adj [l.getD 1 0] b (l.drop 1) true HP2.out _ _ _ _ HAx.out HS1.out HBx.out).mono ?_
        rintro e w5 ⟨u5, rfl, hr5, hb5⟩
        have HB5 := Lib.hid (below_next HBZ.out (Nat.le_refl _) hb5)
        have HR5 := Lib.hid hr5
        have HS5 := Lib.hid (HS2.out.up hb5)
        have HDL := Lib.hid (show (l.drop 1).length ≤ 1048576 by rw [List.length_drop]; omega)
        clear hr5 hb5
        go_wp2_with fail
        refine (same_is _ _ (l.drop 1) (l.drop 1) _ HR5.out HS5.out HDL.out HDL.out (same_true rfl)).mono ?_
        rintro e w6 ⟨rfl, hb6⟩
        have HB6 := Lib.hid (below_next HB5.out (Nat.le_refl _) hb6)
        clear hb6
        go_wp2
        go_ret
        exact ⟨rfl, HB6.out⟩

theorem short_any (v va vb : Value) (adj : List (List Int)) (a b : List Int) (w : World) (hr : Rows2 w w.heap.size v adj) (ha : Row w w.heap.size va a) (hb : Row w w.heap.size vb b) : Calls Try.prog 6 #[v, va, vb] w (Truly w) := by
  by_cases b1 : 40 < (adj.length : Int)
  · exact short_1 v va vb adj a b w hr ha hb b1
  · rcases h1 : digB adj with _ | _
    · exact short_2 v va vb adj a b w hr ha hb b1 h1
    · rcases h2 : subB a (allL adj.length) with _ | _
      · exact short_3 v va vb adj a b w hr ha hb b1 h1 h2
      · rcases h3 : subB b (allL adj.length) with _ | _
        · exact short_4 v va vb adj a b w hr ha hb b1 h1 h2 h3
        · obtain ⟨l, t, hpc, hok⟩ := path_ok_ex h1 (sub_all (by omega) h2) (sub_all (by omega) h3)
          cases t with
          | false =>
            refine short_f v va vb adj a b w hr ha hb b1 h1 h2 h3 l hpc ?_
            have := path_pf h1 (sub_all (by omega) h2) (sub_all (by omega) h3) hok
            rcases Nat.eq_zero_or_pos l.length with h | h
            · exact h
            · exact absurd (this.pos.2 h) (by decide)
          | true => exact short_t v va vb adj a b w hr ha hb b1 h1 h2 h3 l hpc (short_facts h1 (sub_all (by omega) h2) (sub_all (by omega) h3) hok)

end Wp
end Go.Proofs.Ytmgfhehnehcmpaa
