/- The law of what one comes to from two sets, walked: it answers true. -/
import Derived.Test.YtjhkmilfhecdfaaRFixed
import Derived.Test.YtjhkmilfhecdfaaR7May
import Derived.Test.YtjhkmilfhecdfaaSRefU
namespace Go.Proofs.Ytjhkmilfhecdfaa
open Go.RowKit
namespace Wp

theorem pts_len {n : Nat} {l : List Int} (h : Pts n l) : l.length ≤ n := by
  have := nodup_le (b := (List.range n).map Int.ofNat) (h.up.imp fun hab e => by omega) fun x hx => by
    have := h.pt x hx
    exact List.mem_map.2 ⟨x.toNat, List.mem_range.2 (by omega), by show (x.toNat : Int) = x; omega⟩
  rwa [List.length_map, List.length_range] at this
theorem sub_all {n : Nat} {a : List Int} (hn : n ≤ 4096) (h : subB a (allL n) = true) : okL n a = true := by
  have hs : IsSet a := by
    unfold subB at h
    rw [Bool.and_eq_true, Bool.and_eq_true, mayB_iff] at h
    exact h.1.1
  refine pts_ok hn ⟨hs.1, fun x hx => ?_⟩
  have := (sub_iff hs (all_set _)).1 h x hx
  exact (mem_all (by omega) (by omega) x).1 this
section
variable {adj : List (List Int)} {src : List Int}
theorem mem_from (hd : digB adj = true) (hs : okL adj.length src = true) (x : Int) : x ∈ fromL adj src ↔ x ∈ (finS adj src).1 := by
  obtain ⟨par, h⟩ := fin_done (digB_dig hd).1 (ok_pts hs)
  have hn := (digB_dig hd).2
  unfold fromL
  rw [good_yes hd hs, if_pos rfl, mem_sortL]
  exact ⟨fun h => h.1, fun hx => ⟨hx, by have := h.pt x hx; unfold Fit; omega⟩⟩
theorem from_set : IsSet (fromL adj src) := by
  unfold fromL
  split
  · exact sortL_set _
  · exact isSet_nil
theorem from_has (hd : digB adj = true) (hs : okL adj.length src = true) {x : Int} (hx : x ∈ src) : x ∈ fromL adj src := by
  obtain ⟨par, h⟩ := fin_done (digB_dig hd).1 (ok_pts hs)
  exact (mem_from hd hs x).2 (h.has hx)
theorem from_closed (hd : digB adj = true) (hs : okL adj.length src = true) {x y : Int} (hx : x ∈ fromL adj src) (hy : y ∈ adj.getD x.toNat []) : y ∈ fromL adj src := by
  obtain ⟨par, h⟩ := fin_done (digB_dig hd).1 (ok_pts hs)
  exact (mem_from hd hs y).2 (h.closed ((mem_from hd hs x).1 hx) hy)
theorem from_least (hd : digB adj = true) (hs : okL adj.length src = true) (S : Int → Prop) (h1 : ∀ x ∈ src, S x) (h2 : ∀ x y, S x → y ∈ adj.getD x.toNat [] → S y) : ∀ x ∈ fromL adj src, S x := by
  obtain ⟨par, h⟩ := fin_done (digB_dig hd).1 (ok_pts hs)
  exact fun x hx => h.least S h1 (fun x y _ => h2 x y) x ((mem_from hd hs x).1 hx)
theorem from_pts (hd : digB adj = true) (hs : okL adj.length src = true) : okL adj.length (fromL adj src) = true := by
  obtain ⟨par, h⟩ := fin_done (digB_dig hd).1 (ok_pts hs)
  exact pts_ok (digB_dig hd).2 ⟨from_set.1, fun x hx => h.pt x ((mem_from hd hs x).1 hx)⟩
end

section
variable {adj : List (List Int)} {a b : List Int}
theorem union_ok (hn : adj.length ≤ 4096) (ha : okL adj.length a = true) (hb : okL adj.length b = true) : okL adj.length (unionL a b) = true := by
  refine pts_ok hn ⟨(union_set a b).1, fun x hx => ?_⟩
  rcases (mem_union (ok_set ha) (ok_set hb) x).1 hx with h | h
  · exact (ok_pts ha).pt x h
  · exact (ok_pts hb).pt x h
theorem from_join (hd : digB adj = true) (ha : okL adj.length a = true) (hb : okL adj.length b = true) : fromL adj (unionL a b) = unionL (fromL adj a) (fromL adj b) := by
  have hn := (digB_dig hd).2
  have hu := union_ok hn ha hb
  have hm := mem_union (ok_set ha) (ok_set hb)
  have hm2 := mem_union (from_set (adj := adj) (src := a)) (from_set (adj := adj) (src := b))
  refine from_set.ext (union_set _ _) fun x => ⟨fun hx => ?_, fun hx => ?_⟩
  · refine from_least hd hu (fun x => x ∈ unionL (fromL adj a) (fromL adj b)) (fun x hx => ?_) (fun x y hx hy => ?_) x hx
    · rcases (hm x).1 hx with h | h
      · exact (hm2 x).2 (.inl (from_has hd ha h))
      · exact (hm2 x).2 (.inr (from_has hd hb h))
    · rcases (hm2 x).1 hx with h | h
      · exact (hm2 y).2 (.inl (from_closed hd ha h hy))
      · exact (hm2 y).2 (.inr (from_closed hd hb h hy))
  · rcases (hm2 x).1 hx with h | h
    · exact from_least hd ha (fun x => x ∈ fromL adj (unionL a b)) (fun x hx => from_has hd hu ((hm x).2 (.inl hx))) (fun x y hx hy => from_closed hd hu hx hy) x h
    · exact from_least hd hb (fun x => x ∈ fromL adj (unionL a b)) (fun x hx => from_has hd hu ((hm x).2 (.inr hx))) (fun x y hx hy => from_closed hd hu hx hy) x h
theorem from_idem (hd : digB adj = true) (ha : okL adj.length a = true) : fromL adj (fromL adj a) = fromL adj a := by
  have hp := from_pts hd ha
  exact from_set.ext from_set fun x => ⟨fun hx => from_least hd hp (fun x => x ∈ fromL adj a) (fun x hx => hx) (fun x y hx hy => from_closed hd ha hx hy) x hx, fun hx => from_has hd hp hx⟩
end
theorem rsub_is (va vb : Value) (a b : List Int) (t : Bool) (h : subB a b = t) (w : World) (ha : Row w w.heap.size va a) (hb : Row w w.heap.size vb b) (hlb : b.length ≤ 1048576) :
    Calls Try.prog 29 #[va, vb] w (Says w t) := by
  subst h
  obtain ⟨_, _, _, ⟨h1, h2, _⟩, _⟩ := id ha
  exact refsub_any va vb a b w ha hb (by unfold maxLen at h2; omega) hlb
theorem all_len (n : Nat) : (allL n).length ≤ 1048576 := by have := (all_length n).1; omega

set_option maxHeartbeats 8000000 in
set_option maxRecDepth 100000 in
theorem joins_1 (v va vb : Value) (adj : List (List Int)) (a b : List Int) (w : World) (hr : Rows2 w w.heap.size v adj) (ha : Row w w.heap.size va a) (hb : Row w w.heap.size vb b) (b1 : 40 < (adj.length : Int)) : Calls Try.prog 12 #[v, va, vb] w (Truly w) := by
  have HB0 := Lib.hid (Below.refl w.heap.size w)
  have HR0 := Lib.hid hr
  have HA0 := Lib.hid ha
  have HC0 := Lib.hid hb
  obtain ⟨A, c, rfl, _⟩ := hr
  clear ha hb
  go_enter Try.func12, Try.ntmps12
  go_wp2_with fail
  refine (rfixed_any _).mono ?_
  rintro e w1 ⟨rfl, hb2⟩
  have adj_3 := Lib.hid (HR0.out.up hb2)
  clear HR0
  have a_4 := Lib.hid (HA0.out.up hb2)
  clear HA0
  have b_5 := Lib.hid (HC0.out.up hb2)
  clear HC0
  have HB6 := Lib.hid (below_next HB0.out (Nat.le_refl _) hb2)
  clear hb2 HB0
  clear adj_3
  clear a_4
  clear b_5
  go_wp2_with fail
  refine (rfixed_any _).mono ?_
  rintro e w7 ⟨rfl, hb8⟩
  have HB9 := Lib.hid (below_next HB6.out (Nat.le_refl _) hb8)
  clear hb8 HB6
  go_wp2
  go_ret
  exact ⟨rfl, HB9.out⟩

set_option maxHeartbeats 8000000 in
set_option maxRecDepth 100000 in
theorem joins_2 (v va vb : Value) (adj : List (List Int)) (a b : List Int) (w : World) (hr : Rows2 w w.heap.size v adj) (ha : Row w w.heap.size va a) (hb : Row w w.heap.size vb b) (b1 : ¬ 40 < (adj.length : Int)) (h1 : digB adj = false) : Calls Try.prog 12 #[v, va, vb] w (Truly w) := by
  have HB0 := Lib.hid (Below.refl w.heap.size w)
  have HR0 := Lib.hid hr
  have HA0 := Lib.hid ha
  have HC0 := Lib.hid hb
  obtain ⟨A, c, rfl, _⟩ := hr
  clear ha hb
  have H1 := Lib.hid h1
  clear h1
  go_enter Try.func12, Try.ntmps12
  go_wp2_with fail
  refine (rfixed_any _).mono ?_
  rintro e w1 ⟨rfl, hb2⟩
  have adj_3 := Lib.hid (HR0.out.up hb2)
  clear HR0
  have a_4 := Lib.hid (HA0.out.up hb2)
  clear HA0
  have b_5 := Lib.hid (HC0.out.up hb2)
  clear HC0
  have HB6 := Lib.hid (below_next HB0.out (Nat.le_refl _) hb2)
  clear hb2 HB0
  go_wp2_with fail
  refine (r7may_is _ adj false H1.out _ adj_3.out).mono ?_
  rintro e w7 ⟨rfl, hb8⟩
  have adj_9 := Lib.hid (adj_3.out.up hb8)
  clear adj_3
  have a_10 := Lib.hid (a_4.out.up hb8)
  clear a_4
  have b_11 := Lib.hid (b_5.out.up hb8)
  clear b_5
  have HB12 := Lib.hid (below_next HB6.out (Nat.le_refl _) hb8)
  clear hb8 HB6
  clear adj_9
  clear a_10
  clear b_11
  go_wp2_with fail
  refine (rfixed_any _).mono ?_
  rintro e w13 ⟨rfl, hb14⟩
  have HB15 := Lib.hid (below_next HB12.out (Nat.le_refl _) hb14)
  clear hb14 HB12
  go_wp2
  go_ret
  exact ⟨rfl, HB15.out⟩

set_option maxHeartbeats 8000000 in
set_option maxRecDepth 100000 in
theorem joins_3 (v va vb : Value) (adj : List (List Int)) (a b : List Int) (w : World) (hr : Rows2 w w.heap.size v adj) (ha : Row w w.heap.size va a) (hb : Row w w.heap.size vb b) (b1 : ¬ 40 < (adj.length : Int)) (h1 : digB adj = true) (h2 : subB a (allL adj.length) = false) : Calls Try.prog 12 #[v, va, vb] w (Truly w) := by
  have HB0 := Lib.hid (Below.refl w.heap.size w)
  have HR0 := Lib.hid hr
  have HA0 := Lib.hid ha
  have HC0 := Lib.hid hb
  obtain ⟨A, c, rfl, _⟩ := hr
  clear ha hb
  have H1 := Lib.hid h1
  have H2 := Lib.hid h2
  clear h1 h2
  go_enter Try.func12, Try.ntmps12
  go_wp2_with fail
  refine (rfixed_any _).mono ?_
  rintro e w1 ⟨rfl, hb2⟩
  have adj_3 := Lib.hid (HR0.out.up hb2)
  clear HR0
  have a_4 := Lib.hid (HA0.out.up hb2)
  clear HA0
  have b_5 := Lib.hid (HC0.out.up hb2)
  clear HC0
  have HB6 := Lib.hid (below_next HB0.out (Nat.le_refl _) hb2)
  clear hb2 HB0
  go_wp2_with fail
  refine (r7may_is _ adj true H1.out _ adj_3.out).mono ?_
  rintro e w7 ⟨rfl, hb8⟩
  have adj_9 := Lib.hid (adj_3.out.up hb8)
  clear adj_3
  have a_10 := Lib.hid (a_4.out.up hb8)
  clear a_4
  have b_11 := Lib.hid (b_5.out.up hb8)
  clear b_5
  have HB12 := Lib.hid (below_next HB6.out (Nat.le_refl _) hb8)
  clear hb8 HB6
  go_wp2_with fail
  refine (refall_any adj.length _).mono ?_
  rintro e w15 ⟨v13, rfl, r14, hb16⟩
  have adj_17 := Lib.hid (adj_9.out.up hb16)
  clear adj_9
  have a_18 := Lib.hid (a_10.out.up hb16)
  clear a_10
  have b_19 := Lib.hid (b_11.out.up hb16)
  clear b_11
  have HB20 := Lib.hid (below_next HB12.out (Nat.le_refl _) hb16)
  clear hb16 HB12
  have all_21 := Lib.hid (r14)
  clear r14
  go_wp2_with fail
  refine (rsub_is _ _ a (allL adj.length) false H2.out _ a_18.out all_21.out (all_len _)).mono ?_
  rintro e w22 ⟨rfl, hb23⟩
  have adj_24 := Lib.hid (adj_17.out.up hb23)
  clear adj_17
  have a_25 := Lib.hid (a_18.out.up hb23)
  clear a_18
  have b_26 := Lib.hid (b_19.out.up hb23)
  clear b_19
  have all_27 := Lib.hid (all_21.out.up hb23)
  clear all_21
  have HB28 := Lib.hid (below_next HB20.out (Nat.le_refl _) hb23)
  clear hb23 HB20
  clear all_27
  clear adj_24
  clear a_25
  clear b_26
  go_wp2_with fail
  refine (rfixed_any _).mono ?_
  rintro e w29 ⟨rfl, hb30⟩
  have HB31 := Lib.hid (below_next HB28.out (Nat.le_refl _) hb30)
  clear hb30 HB28
  go_wp2
  go_ret
  exact ⟨rfl, HB31.out⟩

set_option maxHeartbeats 8000000 in
set_option maxRecDepth 100000 in
theorem joins_4 (v va vb : Value) (adj : List (List Int)) (a b : List Int) (w : World) (hr : Rows2 w w.heap.size v adj) (ha : Row w w.heap.size va a) (hb : Row w w.heap.size vb b) (b1 : ¬ 40 < (adj.length : Int)) (h1 : digB adj = true) (h2 : subB a (allL adj.length) = true) (h3 : subB b (allL adj.length) = false) : Calls Try.prog 12 #[v, va, vb] w (Truly w) := by
  have HB0 := Lib.hid (Below.refl w.heap.size w)
  have HR0 := Lib.hid hr
  have HA0 := Lib.hid ha
  have HC0 := Lib.hid hb
  obtain ⟨A, c, rfl, _⟩ := hr
  clear ha hb
  have H1 := Lib.hid h1
  have H2 := Lib.hid h2
  have H3 := Lib.hid h3
  clear h1 h2 h3
  go_enter Try.func12, Try.ntmps12
  go_wp2_with fail
  refine (rfixed_any _).mono ?_
  rintro e w1 ⟨rfl, hb2⟩
  have adj_3 := Lib.hid (HR0.out.up hb2)
  clear HR0
  have a_4 := Lib.hid (HA0.out.up hb2)
  clear HA0
  have b_5 := Lib.hid (HC0.out.up hb2)
  clear HC0
  have HB6 := Lib.hid (below_next HB0.out (Nat.le_refl _) hb2)
  clear hb2 HB0
  go_wp2_with fail
  refine (r7may_is _ adj true H1.out _ adj_3.out).mono ?_
  rintro e w7 ⟨rfl, hb8⟩
  have adj_9 := Lib.hid (adj_3.out.up hb8)
  clear adj_3
  have a_10 := Lib.hid (a_4.out.up hb8)
  clear a_4
  have b_11 := Lib.hid (b_5.out.up hb8)
  clear b_5
  have HB12 := Lib.hid (below_next HB6.out (Nat.le_refl _) hb8)
  clear hb8 HB6
  go_wp2_with fail
  refine (refall_any adj.length _).mono ?_
  rintro e w15 ⟨v13, rfl, r14, hb16⟩
  have adj_17 := Lib.hid (adj_9.out.up hb16)
  clear adj_9
  have a_18 := Lib.hid (a_10.out.up hb16)
  clear a_10
  have b_19 := Lib.hid (b_11.out.up hb16)
  clear b_11
  have HB20 := Lib.hid (below_next HB12.out (Nat.le_refl _) hb16)
  clear hb16 HB12
  have all_21 := Lib.hid (r14)
  clear r14
  go_wp2_with fail
  refine (rsub_is _ _ a (allL adj.length) true H2.out _ a_18.out all_21.out (all_len _)).mono ?_
  rintro e w22 ⟨rfl, hb23⟩
  have adj_24 := Lib.hid (adj_17.out.up hb23)
  clear adj_17
  have a_25 := Lib.hid (a_18.out.up hb23)
  clear a_18
  have b_26 := Lib.hid (b_19.out.up hb23)
  clear b_19
  have all_27 := Lib.hid (all_21.out.up hb23)
  clear all_21
  have HB28 := Lib.hid (below_next HB20.out (Nat.le_refl _) hb23)
  clear hb23 HB20
  clear all_27
  go_wp2_with fail
  refine (refall_any adj.length _).mono ?_
  rintro e w31 ⟨v29, rfl, r30, hb32⟩
  have adj_33 := Lib.hid (adj_24.out.up hb32)
  clear adj_24
  have a_34 := Lib.hid (a_25.out.up hb32)
  clear a_25
  have b_35 := Lib.hid (b_26.out.up hb32)
  clear b_26
  have HB36 := Lib.hid (below_next HB28.out (Nat.le_refl _) hb32)
  clear hb32 HB28
  have all_37 := Lib.hid (r30)
  clear r30
  go_wp2_with fail
  refine (rsub_is _ _ b (allL adj.length) false H3.out _ b_35.out all_37.out (all_len _)).mono ?_
  rintro e w38 ⟨rfl, hb39⟩
  have adj_40 := Lib.hid (adj_33.out.up hb39)
  clear adj_33
  have a_41 := Lib.hid (a_34.out.up hb39)
  clear a_34
  have b_42 := Lib.hid (b_35.out.up hb39)
  clear b_35
  have all_43 := Lib.hid (all_37.out.up hb39)
  clear all_37
  have HB44 := Lib.hid (below_next HB36.out (Nat.le_refl _) hb39)
  clear hb39 HB36
  clear all_43
  clear adj_40
  clear a_41
  clear b_42
  go_wp2_with fail
  refine (rfixed_any _).mono ?_
  rintro e w45 ⟨rfl, hb46⟩
  have HB47 := Lib.hid (below_next HB44.out (Nat.le_refl _) hb46)
  clear hb46 HB44
  go_wp2
  go_ret
  exact ⟨rfl, HB47.out⟩

set_option maxHeartbeats 8000000 in
set_option maxRecDepth 100000 in
theorem joins_5 (v va vb : Value) (adj : List (List Int)) (a b : List Int) (w : World) (hr : Rows2 w w.heap.size v adj) (ha : Row w w.heap.size va a) (hb : Row w w.heap.size vb b) (b1 : ¬ 40 < (adj.length : Int)) (h1 : digB adj = true) (h2 : subB a (allL adj.length) = true) (h3 : subB b (allL adj.length) = true) : Calls Try.prog 12 #[v, va, vb] w (Truly w) := by
  have HB0 := Lib.hid (Below.refl w.heap.size w)
  have HR0 := Lib.hid hr
  have HA0 := Lib.hid ha
  have HC0 := Lib.hid hb
  obtain ⟨A, c, rfl, _⟩ := hr
  clear ha hb
  have H1 := Lib.hid h1
  have H2 := Lib.hid h2
  have H3 := Lib.hid h3
  have ha := sub_all (by omega) h2
  have hb := sub_all (by omega) h3
  have HJ := Lib.hid (from_join h1 ha hb)
  have HI := Lib.hid (from_idem h1 ha)
  have hla := pts_len (ok_pts ha)
  have hlb := pts_len (ok_pts hb)
  have hlx := pts_len (ok_pts (from_pts h1 ha))
  have hly := pts_len (ok_pts (from_pts h1 hb))
  have hlu := union_length (fromL adj a) (fromL adj b)
  have hlz : (fromL adj (unionL a b)).length ≤ 80 := by rw [HJ.out]; omega
  have hlt : (fromL adj (fromL adj a)).length ≤ 80 := by rw [HI.out]; omega
  clear h1 h2 h3 ha hb
  go_enter Try.func12, Try.ntmps12
  go_wp2_with fail
  refine (rfixed_any _).mono ?_
  rintro e w1 ⟨rfl, hb2⟩
  have adj_3 := Lib.hid (HR0.out.up hb2)
  clear HR0
  have a_4 := Lib.hid (HA0.out.up hb2)
  clear HA0
  have b_5 := Lib.hid (HC0.out.up hb2)
  clear HC0
  have HB6 := Lib.hid (below_next HB0.out (Nat.le_refl _) hb2)
  clear hb2 HB0
  go_wp2_with fail
  refine (r7may_is _ adj true H1.out _ adj_3.out).mono ?_
  rintro e w7 ⟨rfl, hb8⟩
  have adj_9 := Lib.hid (adj_3.out.up hb8)
  clear adj_3
  have a_10 := Lib.hid (a_4.out.up hb8)
  clear a_4
  have b_11 := Lib.hid (b_5.out.up hb8)
  clear b_5
  have HB12 := Lib.hid (below_next HB6.out (Nat.le_refl _) hb8)
  clear hb8 HB6
  go_wp2_with fail
  refine (refall_any adj.length _).mono ?_
  rintro e w15 ⟨v13, rfl, r14, hb16⟩
  have adj_17 := Lib.hid (adj_9.out.up hb16)
  clear adj_9
  have a_18 := Lib.hid (a_10.out.up hb16)
  clear a_10
  have b_19 := Lib.hid (b_11.out.up hb16)
  clear b_11
  have HB20 := Lib.hid (below_next HB12.out (Nat.le_refl _) hb16)
  clear hb16 HB12
  have all_21 := Lib.hid (r14)
  clear r14
  go_wp2_with fail
  refine (rsub_is _ _ a (allL adj.length) true H2.out _ a_18.out all_21.out (all_len _)).mono ?_
  rintro e w22 ⟨rfl, hb23⟩
  have adj_24 := Lib.hid (adj_17.out.up hb23)
  clear adj_17
  have a_25 := Lib.hid (a_18.out.up hb23)
  clear a_18
  have b_26 := Lib.hid (b_19.out.up hb23)
  clear b_19
  have all_27 := Lib.hid (all_21.out.up hb23)
  clear all_21
  have HB28 := Lib.hid (below_next HB20.out (Nat.le_refl _) hb23)
  clear hb23 HB20
  clear all_27
  go_wp2_with fail
  refine (refall_any adj.length _).mono ?_
  rintro e w31 ⟨v29, rfl, r30, hb32⟩
  have adj_33 := Lib.hid (adj_24.out.up hb32)
  clear adj_24
  have a_34 := Lib.hid (a_25.out.up hb32)
  clear a_25
  have b_35 := Lib.hid (b_26.out.up hb32)
  clear b_26
  have HB36 := Lib.hid (below_next HB28.out (Nat.le_refl _) hb32)
  clear hb32 HB28
  have all_37 := Lib.hid (r30)
  clear r30
  go_wp2_with fail
  refine (rsub_is _ _ b (allL adj.length) true H3.out _ b_35.out all_37.out (all_len _)).mono ?_
  rintro e w38 ⟨rfl, hb39⟩
  have adj_40 := Lib.hid (adj_33.out.up hb39)
  clear adj_33
  have a_41 := Lib.hid (a_34.out.up hb39)
  clear a_34
  have b_42 := Lib.hid (b_35.out.up hb39)
  clear b_35
  have all_43 := Lib.hid (all_37.out.up hb39)
  clear all_37
  have HB44 := Lib.hid (below_next HB36.out (Nat.le_refl _) hb39)
  clear hb39 HB36
  clear all_43
  go_wp2_with fail
  refine (from_is adj a (fromL adj a) rfl _ _ _ adj_40.out a_41.out).mono ?_
  rintro e w47 ⟨v45, rfl, r46, hb48⟩
  have adj_49 := Lib.hid (adj_40.out.up hb48)
  clear adj_40
  have a_50 := Lib.hid (a_41.out.up hb48)
  clear a_41
  have b_51 := Lib.hid (b_42.out.up hb48)
  clear b_42
  have HB52 := Lib.hid (below_next HB44.out (Nat.le_refl _) hb48)
  clear hb48 HB44
  have x_53 := Lib.hid (r46)
  clear r46
  go_wp2_with fail
  refine (from_is adj b (fromL adj b) rfl _ _ _ adj_49.out b_51.out).mono ?_
  rintro e w56 ⟨v54, rfl, r55, hb57⟩
  have adj_58 := Lib.hid (adj_49.out.up hb57)
  clear adj_49
  have a_59 := Lib.hid (a_50.out.up hb57)
  clear a_50
  have b_60 := Lib.hid (b_51.out.up hb57)
  clear b_51
  have x_61 := Lib.hid (x_53.out.up hb57)
  clear x_53
  have HB62 := Lib.hid (below_next HB52.out (Nat.le_refl _) hb57)
  clear hb57 HB52
  have y_63 := Lib.hid (r55)
  clear r55
  go_wp2_with fail
  refine (refunion_any _ _ a b _ a_59.out b_60.out (by omega) (by omega)).mono ?_
  rintro e w66 ⟨v64, rfl, r65, hb67⟩
  have adj_68 := Lib.hid (adj_58.out.up hb67)
  clear adj_58
  have a_69 := Lib.hid (a_59.out.up hb67)
  clear a_59
  have b_70 := Lib.hid (b_60.out.up hb67)
  clear b_60
  have x_71 := Lib.hid (x_61.out.up hb67)
  clear x_61
  have y_72 := Lib.hid (y_63.out.up hb67)
  clear y_63
  have HB73 := Lib.hid (below_next HB62.out (Nat.le_refl _) hb67)
  clear hb67 HB62
  have u_74 := Lib.hid (r65)
  clear r65
  go_wp2_with fail
  refine (from_is adj (unionL a b) (fromL adj (unionL a b)) rfl _ _ _ adj_68.out u_74.out).mono ?_
  rintro e w77 ⟨v75, rfl, r76, hb78⟩
  have adj_79 := Lib.hid (adj_68.out.up hb78)
  clear adj_68
  have a_80 := Lib.hid (a_69.out.up hb78)
  clear a_69
  have b_81 := Lib.hid (b_70.out.up hb78)
  clear b_70
  have x_82 := Lib.hid (x_71.out.up hb78)
  clear x_71
  have y_83 := Lib.hid (y_72.out.up hb78)
  clear y_72
  have u_84 := Lib.hid (u_74.out.up hb78)
  clear u_74
  have HB85 := Lib.hid (below_next HB73.out (Nat.le_refl _) hb78)
  clear hb78 HB73
  have z_86 := Lib.hid (r76)
  clear r76
  clear u_84
  clear a_80
  clear b_81
  go_wp2_with fail
  refine (refunion_any _ _ (fromL adj a) (fromL adj b) _ x_82.out y_83.out (by omega) (by omega)).mono ?_
  rintro e w89 ⟨v87, rfl, r88, hb90⟩
  have adj_91 := Lib.hid (adj_79.out.up hb90)
  clear adj_79
  have x_92 := Lib.hid (x_82.out.up hb90)
  clear x_82
  have y_93 := Lib.hid (y_83.out.up hb90)
  clear y_83
  have z_94 := Lib.hid (z_86.out.up hb90)
  clear z_86
  have HB95 := Lib.hid (below_next HB85.out (Nat.le_refl _) hb90)
  clear hb90 HB85
  have q_96 := Lib.hid (r88)
  clear r88
  clear y_93
  go_wp2_with fail
  refine (same_is _ _ (fromL adj (unionL a b)) (unionL (fromL adj a) (fromL adj b)) _ z_94.out q_96.out (by omega) (by omega) (same_true HJ.out)).mono ?_
  rintro e w97 ⟨rfl, hb98⟩
  have adj_99 := Lib.hid (adj_91.out.up hb98)
  clear adj_91
  have x_100 := Lib.hid (x_92.out.up hb98)
  clear x_92
  have z_101 := Lib.hid (z_94.out.up hb98)
  clear z_94
  have q_102 := Lib.hid (q_96.out.up hb98)
  clear q_96
  have HB103 := Lib.hid (below_next HB95.out (Nat.le_refl _) hb98)
  clear hb98 HB95
  clear z_101
  clear q_102
  go_wp2_with fail
  refine (from_is adj (fromL adj a) (fromL adj (fromL adj a)) rfl _ _ _ adj_99.out x_100.out).mono ?_
  rintro e w106 ⟨v104, rfl, r105, hb107⟩
  have adj_108 := Lib.hid (adj_99.out.up hb107)
  clear adj_99
  have x_109 := Lib.hid (x_100.out.up hb107)
  clear x_100
  have HB110 := Lib.hid (below_next HB103.out (Nat.le_refl _) hb107)
  clear hb107 HB103
  have t_111 := Lib.hid (r105)
  clear r105
  go_wp2_with fail
  refine (same_is _ _ (fromL adj (fromL adj a)) (fromL adj a) _ t_111.out x_109.out (by omega) (by omega) (same_true HI.out)).mono ?_
  rintro e w112 ⟨rfl, hb113⟩
  have adj_114 := Lib.hid (adj_108.out.up hb113)
  clear adj_108
  have x_115 := Lib.hid (x_109.out.up hb113)
  clear x_109
  have t_116 := Lib.hid (t_111.out.up hb113)
  clear t_111
  have HB117 := Lib.hid (below_next HB110.out (Nat.le_refl _) hb113)
  clear hb113 HB110
  clear t_116
  clear x_115
  clear adj_114
  go_wp2
  go_ret
  exact ⟨rfl, HB117.out⟩

theorem joins_any (v va vb : Value) (adj : List (List Int)) (a b : List Int) (w : World) (hr : Rows2 w w.heap.size v adj) (ha : Row w w.heap.size va a) (hb : Row w w.heap.size vb b) : Calls Try.prog 12 #[v, va, vb] w (Truly w) := by
  by_cases b1 : 40 < (adj.length : Int)
  · exact joins_1 v va vb adj a b w hr ha hb b1
  · rcases h1 : digB adj with _ | _
    · exact joins_2 v va vb adj a b w hr ha hb b1 h1
    · rcases h2 : subB a (allL adj.length) with _ | _
      · exact joins_3 v va vb adj a b w hr ha hb b1 h1 h2
      · rcases h3 : subB b (allL adj.length) with _ | _
        · exact joins_4 v va vb adj a b w hr ha hb b1 h1 h2 h3
        · exact joins_5 v va vb adj a b w hr ha hb b1 h1 h2 h3

end Wp
end Go.Proofs.Ytjhkmilfhecdfaa
