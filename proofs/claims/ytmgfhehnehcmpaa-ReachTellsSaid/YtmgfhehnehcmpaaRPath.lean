/- What one comes to, and the way: the program's From and Path, walked. -/
import Derived.Test.YtmgfhehnehcmpaaRWay
import Derived.Test.YtmgfhehnehcmpaaRMay
namespace Go.Proofs.Ytmgfhehnehcmpaa
open Go.RowKit
namespace Wp

theorem field0 (a b : Value) (w : World) : Sem.run Try.prog (Instr.field 52 (.agg #[a, b]) 0) w = .ok a w := by
  kernel_rfl
def goodB (adj : List (List Int)) (src : List Int) : Bool := digB adj && okL adj.length src
def fromL (adj : List (List Int)) (src : List Int) : List Int := if goodB adj src then sortL (finS adj src).1 else []
theorem good_no1 {adj : List (List Int)} {src : List Int} (h : digB adj = false) : goodB adj src = false := by unfold goodB; rw [h]; rfl
theorem good_no2 {adj : List (List Int)} {src : List Int} (h : okL adj.length src = false) : goodB adj src = false := by unfold goodB; rw [h, Bool.and_false]
theorem good_yes {adj : List (List Int)} {src : List Int} (h1 : digB adj = true) (h2 : okL adj.length src = true) : goodB adj src = true := by unfold goodB; rw [h1, h2]; rfl

set_option maxHeartbeats 4000000 in
set_option maxRecDepth 100000 in
theorem from_any (v vf : Value) (adj : List (List Int)) (src : List Int) (w : World) (hr : Rows2 w w.heap.size v adj) (hf : Row w w.heap.size vf src) :
    Calls Try.prog 19 #[v, vf] w (Gives w (fromL adj src)) := by
  have Hr := Lib.hid hr
  have Hf := Lib.hid hf
  obtain ⟨A, c, rfl, _⟩ := hr
  rcases h1 : digB adj with _ | _
  · have H1 := Lib.hid h1
    have hres : fromL adj src = [] := by unfold fromL; rw [good_no1 h1]; rfl
    rw [hres]
    clear h1 hres
    go_enter Try.func19, Try.ntmps19
    go_wp2_with fail
    refine (rmay_is _ adj false H1.out w Hr.out).mono ?_
    rintro e w1 ⟨rfl, hb1⟩
    have Hb1 := Lib.hid hb1
    clear hb1
    go_wp2
    go_ret
    exact ⟨_, rfl, Row.nil_ _ _, Hb1.out⟩
  · have H1 := Lib.hid h1
    rcases h2 : okL adj.length src with _ | _
    · have H2 := Lib.hid h2
      have hres : fromL adj src = [] := by unfold fromL; rw [good_no2 h2]; rfl
      rw [hres]
      clear h1 h2 hres
      go_enter Try.func19, Try.ntmps19
      go_wp2_with fail
      refine (rmay_is _ adj true H1.out w Hr.out).mono ?_
      rintro e w1 ⟨rfl, hb1⟩
      have Hb1 := Lib.hid hb1
      have Hf1 := Lib.hid (Hf.out.up hb1)
      clear hb1
      go_wp2_with fail
      refine (points_is adj.length _ src false H2.out w1 Hf1.out).mono ?_
      rintro e w2 ⟨rfl, hb2⟩
      have Hb2 := Lib.hid (below_next Hb1.out (Nat.le_refl _) hb2)
      clear hb2
      go_wp2
      go_ret
      exact ⟨_, rfl, Row.nil_ _ _, Hb2.out⟩
    · have H2 := Lib.hid h2
      have hres : fromL adj src = sortL (finS adj src).1 := by unfold fromL; rw [good_yes h1 h2]; rfl
      rw [hres]
      have Hdig := Lib.hid (digB_dig h1)
      have Hpts := Lib.hid (ok_pts h2)
      have Hlen : Hid ((finS adj src).1.length ≤ 2097152) := Lib.hid (by
        obtain ⟨par, hd⟩ := fin_done Hdig.out.1 Hpts.out
        have := hd.len
        have := Hdig.out.2
        omega)
      clear h1 h2 hres
      go_enter Try.func19, Try.ntmps19
      go_wp2_with fail
      refine (rmay_is _ adj true H1.out w Hr.out).mono ?_
      rintro e w1 ⟨rfl, hb1⟩
      have Hb1 := Lib.hid hb1
      have Hf1 := Lib.hid (Hf.out.up hb1)
      have Hr1 := Lib.hid (Hr.out.up hb1)
      clear hb1
      go_wp2_with fail
      refine (points_is adj.length _ src true H2.out w1 Hf1.out).mono ?_
      rintro e w2 ⟨rfl, hb2⟩
      have Hb2 := Lib.hid (below_next Hb1.out (Nat.le_refl _) hb2)
      have Hf2 := Lib.hid (Hf1.out.up hb2)
      have Hr2 := Lib.hid (Hr1.out.up hb2)
      clear hb2
      go_wp2_with fail
      refine (walking_any _ _ adj src w2 Hr2.out Hf2.out Hdig.out.1 Hpts.out Hdig.out.2).mono ?_
      rintro e w3 ⟨cv, g, rfl, hrow, _, hb3⟩
      have Hb3 := Lib.hid (below_next Hb2.out (Nat.le_refl _) hb3)
      have Hrow := Lib.hid hrow
      have hfd := fun W => field0 cv (.slice (some ⟨g, 0, none⟩) adj.length adj.length) W
      clear hb3 hrow
      go_wp2_with fail
      refine (sort_any _ _ _ Hrow.out Hlen.out).mono ?_
      rintro e w4 ⟨v4, rfl, hr4, hb4⟩
      have Hr4 := Lib.hid hr4
      have Hb4 := Lib.hid (below_next Hb3.out (Nat.le_refl _) hb4)
      clear hb4 hr4
      go_wp2
      go_ret
      exact ⟨_, rfl, Hr4.out, Hb4.out⟩

theorem search_is (v : Value) (l : List Int) (x : Int) (b : Bool) (hb : l.contains x = b) (w : World) (hr : Row w w.heap.size v l) (hs : IsSet l) (hl : l.length ≤ 1048576) :
    Calls Try.prog 36 #[v, .int .i64 x] w fun e w' => ∃ k : Int, e = .returned (.tuple #[.int .i64 k, .bool b]) ∧ Below w.heap.size w w' := by
  subst hb
  obtain ⟨A, c, rfl, hn, hk⟩ := hr
  by_cases h0 : l.length = 0
  · have hl0 : l = [] := List.eq_nil_of_length_eq_zero h0
    subst hl0
    refine (Try.slices_BinarySearch_int_empty A c x w).mono ?_
    rintro e w' ⟨rfl, rfl⟩
    exact ⟨0, rfl, Below.refl _ _⟩
  · obtain ⟨b, off, rfl, _, hc⟩ := row_addr (by omega) hk
    have h := Try.slices_BinarySearch_int b off l.length c l x w (Nat.le_refl _) (by omega) hc (by rw [List.take_length]; exact hs.1.imp fun h => Int.le_of_lt h)
    rw [List.take_length] at h
    refine h.mono ?_
    rintro e w' ⟨rfl, q, rfl⟩
    exact ⟨_, rfl, below_drewN (Below.refl _ _) q⟩

/-- What Path answers. -/
def PathOK (adj : List (List Int)) (src dst : List Int) (l : List Int) (b : Bool) : Prop :=
  ((goodB adj src && okL adj.length dst) = false ∧ b = false ∧ l = []) ∨ ((goodB adj src && okL adj.length dst) = true ∧
    ((b = false ∧ l = [] ∧ ∀ x ∈ (finS adj src).1, x ∉ dst) ∨ (b = true ∧ ∃ j, j < (finS adj src).1.length ∧ cAt (finS adj src).1 j ∈ dst ∧ (∀ i, i < j → cAt (finS adj src).1 i ∉ dst) ∧ ∃ par, Done adj src (finS adj src).1 (finS adj src).2 par ∧ Way (finS adj src).1 par src.length j l)))
def PathP (w : World) (adj : List (List Int)) (src dst : List Int) (e : Ending) (w' : World) : Prop :=
  ∃ (v : Value) (l : List Int) (b : Bool), e = .returned (.tuple #[v, .bool b]) ∧ Row w' w'.heap.size v l ∧ Below w.heap.size w w' ∧ PathOK adj src dst l b

theorem cpath_no {adj : List (List Int)} {src dst : List Int} (h : (goodB adj src && okL adj.length dst) = false) : PathOK adj src dst [] false := .inl ⟨h, rfl, rfl⟩

set_option maxHeartbeats 4000000 in
set_option maxRecDepth 100000 in
theorem path_out (v vf vt : Value) (adj : List (List Int)) (src dst : List Int) (w : World) (hr : Rows2 w w.heap.size v adj) (hf : Row w w.heap.size vf src) (ht : Row w w.heap.size vt dst) (hno : (goodB adj src && okL adj.length dst) = false) :
    Calls Try.prog 14 #[v, vf, vt] w (PathP w adj src dst) := by
  have Hr := Lib.hid hr
  have Hf := Lib.hid hf
  have Ht := Lib.hid ht
  have Hno := Lib.hid hno
  obtain ⟨A, c, rfl, _⟩ := hr
  rcases h1 : digB adj with _ | _
  · have H1 := Lib.hid h1
    clear h1 hno
    go_enter Try.func14, Try.ntmps14
    go_wp2_with fail
    refine (rmay_is _ adj false H1.out w Hr.out).mono ?_
    rintro e w1 ⟨rfl, hb1⟩
    have Hb1 := Lib.hid hb1
    clear hb1
    go_wp2
    go_ret2
    exact ⟨_, _, _, rfl, Row.nil_ _ _, Hb1.out, cpath_no Hno.out⟩
  · have H1 := Lib.hid h1
    rcases h2 : okL adj.length src with _ | _
    · have H2 := Lib.hid h2
      clear h1 h2 hno
      go_enter Try.func14, Try.ntmps14
      go_wp2_with fail
      refine (rmay_is _ adj true H1.out w Hr.out).mono ?_
      rintro e w1 ⟨rfl, hb1⟩
      have Hb1 := Lib.hid hb1
      have Hf1 := Lib.hid (Hf.out.up hb1)
      clear hb1
      go_wp2_with fail
      refine (points_is adj.length _ src false H2.out w1 Hf1.out).mono ?_
      rintro e w2 ⟨rfl, hb2⟩
      have Hb2 := Lib.hid (below_next Hb1.out (Nat.le_refl _) hb2)
      clear hb2
      go_wp2
      go_ret2
      exact ⟨_, _, _, rfl, Row.nil_ _ _, Hb2.out, cpath_no Hno.out⟩
    · have H2 := Lib.hid h2
      have H3 : Hid (okL adj.length dst = false) := Lib.hid (by rwa [good_yes h1 h2, Bool.true_and] at hno)
      clear h1 h2 hno
      go_enter Try.func14, Try.ntmps14
      go_wp2_with fail
      refine (rmay_is _ adj true H1.out w Hr.out).mono ?_
      rintro e w1 ⟨rfl, hb1⟩
      have Hb1 := Lib.hid hb1
      have Hf1 := Lib.hid (Hf.out.up hb1)
      have Ht1 := Lib.hid (Ht.out.up hb1)
      clear hb1
      go_wp2_with fail
      refine (points_is adj.length _ src true H2.out w1 Hf1.out).mono ?_
      rintro e w2 ⟨rfl, hb2⟩
      have Hb2 := Lib.hid (below_next Hb1.out (Nat.le_refl _) hb2)
      have Ht2 := Lib.hid (Ht1.out.up hb2)
      clear hb2
      go_wp2_with fail
      refine (points_is adj.length _ dst false H3.out w2 Ht2.out).mono ?_
      rintro e w3 ⟨rfl, hb3⟩
      have Hb3 := Lib.hid (below_next Hb2.out (Nat.le_refl _) hb3)
      clear hb3
      go_wp2
      go_ret2
      exact ⟨_, _, _, rfl, Row.nil_ _ _, Hb3.out, cpath_no Hno.out⟩

set_option maxHeartbeats 4000000 in
set_option maxRecDepth 100000 in
theorem path_in (v vf vt : Value) (adj : List (List Int)) (src dst : List Int) (w : World) (hr : Rows2 w w.heap.size v adj) (hf : Row w w.heap.size vf src) (ht : Row w w.heap.size vt dst) (h1 : digB adj = true) (h2 : okL adj.length src = true) (h3 : okL adj.length dst = true) :
    Calls Try.prog 14 #[v, vf, vt] w (PathP w adj src dst) := by
  have Hr := Lib.hid hr
  have Hf := Lib.hid hf
  have Ht := Lib.hid ht
  obtain ⟨A, c, rfl, _⟩ := hr
  have H1 := Lib.hid h1
  have H2 := Lib.hid h2
  have H3 := Lib.hid h3
  have Hg : Hid ((goodB adj src && okL adj.length dst) = true) := Lib.hid (by rw [good_yes h1 h2, h3]; rfl)
  have Hdig := Lib.hid (digB_dig h1)
  have Hpts := Lib.hid (ok_pts h2)
  have Hset := Lib.hid (ok_set h3)
  obtain ⟨par, hdone⟩ := fin_done Hdig.out.1 Hpts.out
  have Hdone := Lib.hid hdone
  have hlen := hdone.len
  have hn4 := Hdig.out.2
  have Hdl : Hid (dst.length ≤ 1048576) := Lib.hid (by
    have := nodup_le (b := (List.range adj.length).map Int.ofNat) ((ok_pts h3).up.imp fun hab e => by omega) fun x hx => by
      have := (ok_pts h3).pt x hx
      exact List.mem_map.2 ⟨x.toNat, List.mem_range.2 (by omega), by show (x.toNat : Int) = x; omega⟩
    rw [List.length_map, List.length_range] at this
    omega)
  clear h1 h2 h3 hdone
  go_enter Try.func14, Try.ntmps14
  go_wp2_with fail
  refine (rmay_is _ adj true H1.out w Hr.out).mono ?_
  rintro e w1 ⟨rfl, hb1⟩
  have Hb1 := Lib.hid hb1
  have Hf1 := Lib.hid (Hf.out.up hb1)
  have Ht1 := Lib.hid (Ht.out.up hb1)
  have Hr1 := Lib.hid (Hr.out.up hb1)
  clear hb1
  go_wp2_with fail
  refine (points_is adj.length _ src true H2.out w1 Hf1.out).mono ?_
  rintro e w2 ⟨rfl, hb2⟩
  have Hb2 := Lib.hid (below_next Hb1.out (Nat.le_refl _) hb2)
  have Hf2 := Lib.hid (Hf1.out.up hb2)
  have Ht2 := Lib.hid (Ht1.out.up hb2)
  have Hr2 := Lib.hid (Hr1.out.up hb2)
  clear hb2
  go_wp2_with fail
  refine (points_is adj.length _ dst true H3.out w2 Ht2.out).mono ?_
  rintro e w3 ⟨rfl, hb3⟩
  have Hb3 := Lib.hid (below_next Hb2.out (Nat.le_refl _) hb3)
  have Hf3 := Lib.hid (Hf2.out.up hb3)
  have Ht3 := Lib.hid (Ht2.out.up hb3)
  have Hr3 := Lib.hid (Hr2.out.up hb3)
  clear hb3
  go_wp2_with fail
  refine (walking_any _ _ adj src w3 Hr3.out Hf3.out Hdig.out.1 Hpts.out Hdig.out.2).mono ?_
  rintro e w4 ⟨cv, g, rfl, hrow, hah, hb4⟩
  have Hb4 := Lib.hid (below_next Hb3.out (Nat.le_refl _) hb4)
  have Ht4 := Lib.hid (Ht3.out.up hb4)
  have Hrow := Lib.hid hrow
  have Hah := Lib.hid hah
  obtain ⟨Ac, cc, hcv, -⟩ := id hrow
  subst hcv
  clear hb4 hrow hah
  obtain ⟨st, hst⟩ : ∃ st, finS adj src = st := ⟨_, rfl⟩
  rw [hst] at Hdone Hrow Hah hlen ⊢
  have HST := Lib.hid hst
  clear hst
  obtain ⟨L, hL⟩ : ∃ L, st.1.length = L := ⟨_, rfl⟩
  have HL := Lib.hid hL
  have hL4 : L ≤ 4096 := by omega
  rw [hL]
  have hbx := Blk.new w4 52 #[.slice Ac L cc, .slice (some ⟨g, 0, none⟩) adj.length adj.length]
  obtain ⟨w5, hw5⟩ : ∃ w5, w4.alloc (.cells #[.slice Ac L cc, .slice (some ⟨g, 0, none⟩) adj.length adj.length] 52) = w5 := ⟨_, rfl⟩
  have HW := Lib.hid hw5
  have Hup : Hid (Below w4.heap.size w4 w5) := Lib.hid (by rw [← hw5]; exact (Below.refl _ w4).alloc (Nat.le_refl _) _)
  rw [hw5] at hbx
  have Hbx := Lib.hid hbx
  have k1 := Blk.cell hbx 0
  clear hbx hw5 hL hlen
  go_wp2
  rw [HW.out]
  have Hrow5 : Hid (∀ k, k < L → ∃ ad : Addr, Ac = some ad ∧ ad.block < w5.heap.size ∧ w5.cell? (ad.add k) = some (.int .i64 (cAt st.1 k))) := Lib.hid (by
    obtain ⟨A', c', e, _, hk⟩ := Hrow.out.up Hup.out
    injection e with e1 e2 e3
    subst e1
    intro k hk'
    exact hk k (by rw [HL.out]; exact hk'))
  have Ht5 := Lib.hid (Ht4.out.up Hup.out)
  have Hah5 := Lib.hid (Hah.out.below Hup.out)
  have Hrw5 : Hid (Row w5 w5.heap.size (.slice Ac L cc) st.1) := Lib.hid (by have := Hrow.out.up Hup.out; rwa [HL.out] at this)
  have Hb5 := Lib.hid (below_next Hb4.out (Nat.le_refl _) Hup.out)
  clear k1
  go_loopw [36] (fun vi wr => ∃ i : Nat, vi = .int .i64 i ∧ i ≤ L ∧ Below w5.heap.size w5 wr ∧ ∀ m, m < i → cAt st.1 m ∉ dst) (fun vi _ => L - (intOf vi).toNat)
  case atStart => exact ⟨0, rfl, Nat.zero_le _, Below.refl _ _, fun m hm => absurd hm (Nat.not_lt_zero _)⟩
  case round =>
    obtain ⟨i, rfl, hi, hbr, hno⟩ := hrel
    have Hbr := Lib.hid hbr
    have Hno := Lib.hid hno
    clear hbr hno
    by_cases hlt : i < L
    · have hiI : (i : Int) < (L : Int) := by omega
      obtain ⟨ad, hA, hab, hck⟩ := Hrow5.out i hlt
      subst hA
      have g1 := (Hbr.out.cell (p := ad.add i) (by rw [add_block]; exact hab)).trans hck
      have Hnx : Hid (cAt st.1 i ∉ dst → ∀ m, m < i + 1 → cAt st.1 m ∉ dst) := Lib.hid fun h m hm => by
        by_cases e : m = i
        · rw [e]; exact h
        · exact Hno.out m (by omega)
      obtain ⟨x, hx⟩ : ∃ x, cAt st.1 i = x := ⟨_, rfl⟩
      rw [hx] at g1
      have Hx := Lib.hid hx
      clear hck hx
      rcases hc : dst.contains x with _ | _
      · have Hc := Lib.hid hc
        clear hc
        go_wp2_with fail
        refine (search_is _ dst x false Hc.out wr (Ht5.out.up Hbr.out) Hset.out Hdl.out).mono ?_
        rintro e w6 ⟨kk, rfl, hb6⟩
        have Hb6 := Lib.hid (below_next Hbr.out (Nat.le_refl _) hb6)
        have Hn6 : Hid (∀ m, m < i + 1 → cAt st.1 m ∉ dst) := Lib.hid (Hnx.out (by
          rw [Hx.out]
          intro h
          rw [List.contains_iff_mem.2 h] at Hc
          exact absurd Hc.out (by decide)))
        clear hb6 g1
        go_wp2
        go_roundw
        case rel => exact ⟨i + 1, by go_num, by omega, Hb6.out, Hn6.out⟩
        case measure => simp [intOf]; omega
      · have Hc := Lib.hid hc
        clear hc
        go_wp2_with fail
        refine (search_is _ dst x true Hc.out wr (Ht5.out.up Hbr.out) Hset.out Hdl.out).mono ?_
        rintro e w6 ⟨kk, rfl, hb6⟩
        have Hb6 := Lib.hid (below_next Hbr.out (Nat.le_refl _) hb6)
        have hiS : i < st.1.length := by rw [HL.out]; exact hlt
        obtain ⟨l, hway⟩ := way_ex Hdone.out i hiS
        have Hway := Lib.hid hway
        have HiS := Lib.hid hiS
        have b1 := Blk.cell (Hbx.out.below Hb6.out (Blk.lt Hbx.out)) 0
        have b2 := Blk.cell (Hbx.out.below Hb6.out (Blk.lt Hbx.out)) 1
        clear hb6 g1 hway hiS
        go_wp2_with fail
        rw [← Hx.out]
        refine (way_any (.slice (some ad) L cc) g adj src st.1 st.2 par i l w6 (Hrw5.out.up Hb6.out) (Hah5.out.below Hb6.out) Hdone.out HiS.out Hway.out hn4).mono ?_
        rintro e w7 ⟨v7, rfl, hr7, hb7⟩
        have Hr7 := Lib.hid hr7
        have Hb7 := Lib.hid (below_next (below_next Hb5.out (Nat.le_refl _) Hb6.out) (Nat.le_refl _) hb7)
        clear hr7 hb7 b1 b2
        go_wp2
        go_ret2
        exact ⟨_, _, _, rfl, Hr7.out, Hb7.out, .inr ⟨Hg.out, .inr ⟨rfl, i, by rw [HST.out]; exact HiS.out, by rw [HST.out, Hx.out]; exact List.contains_iff_mem.1 Hc.out, by rw [HST.out]; exact Hno.out, par, by rw [HST.out]; exact Hdone.out, by rw [HST.out]; exact Hway.out⟩⟩⟩
    · have hie : i = L := by omega
      subst hie
      have Hbz := Lib.hid (below_next Hb5.out (Nat.le_refl _) Hbr.out)
      go_wp2
      go_ret2
      exact ⟨_, _, _, rfl, Row.nil_ _ _, Hbz.out, .inr ⟨Hg.out, .inl ⟨rfl, rfl, fun x hx => by
        rw [HST.out] at hx
        obtain ⟨m, hm, rfl⟩ := mem_cAt hx
        exact Hno.out m (by rw [← HL.out]; exact hm)⟩⟩⟩
theorem path_any (v vf vt : Value) (adj : List (List Int)) (src dst : List Int) (w : World) (hr : Rows2 w w.heap.size v adj) (hf : Row w w.heap.size vf src) (ht : Row w w.heap.size vt dst) :
    Calls Try.prog 14 #[v, vf, vt] w (PathP w adj src dst) := by
  rcases h : goodB adj src && okL adj.length dst with _ | _
  · exact path_out v vf vt adj src dst w hr hf ht h
  · rw [Bool.and_eq_true] at h
    have h0 := h.1
    unfold goodB at h0
    rw [Bool.and_eq_true] at h0
    exact path_in v vf vt adj src dst w hr hf ht h0.1 h0.2 h.2

end Wp
end Go.Proofs.Ytmgfhehnehcmpaa
