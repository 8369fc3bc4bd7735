/- The law of what is put in between, walked: it answers true. -/
import Derived.Test.YtcdfjhmlpdhelaaOSeen
import Derived.Test.YtcdfjhmlpdhelaaOLeast
namespace Go.Proofs.Ytcdfjhmlpdhelaa
open Go Go.RowKit
namespace Wp

/-- More that is put in, with ids from base on. -/
def keyedB (f : Nat → Int) (base n : Nat) : List (Int × Int) := (keyed f n).map fun p => (p.1, (base : Int) + p.2)
theorem keyedB_length (f : Nat → Int) (base n : Nat) : (keyedB f base n).length = n := by unfold keyedB; rw [List.length_map, keyed_length]
theorem mem_keyedB {f : Nat → Int} {base n : Nat} {p : Int × Int} (h : p ∈ keyedB f base n) : (base : Int) ≤ p.2 ∧ p.2 < (base : Int) + (n : Int) := by
  unfold keyedB at h
  obtain ⟨q, hq, rfl⟩ := List.mem_map.1 h
  have := mem_keyed.1 hq
  simp only
  omega
theorem keyedB_once (f : Nat → Int) (base n : Nat) : ((keyedB f base n).map Prod.snd).Nodup := by
  unfold keyedB
  rw [List.map_map]
  have h1 : ((keyed f n).map Prod.snd).Nodup := by
    refine ((keyed_perm f n).map Prod.snd).nodup_iff.2 ?_
    rw [List.map_map, show (Prod.snd ∘ fun j : Int => (f j.toNat, j)) = id from rfl, List.map_id]
    exact idxs_nodup n
  rw [show (Prod.snd ∘ fun p : Int × Int => (p.1, (base : Int) + p.2)) = (fun x : Int => (base : Int) + x) ∘ Prod.snd from rfl, ← List.map_map]
  exact List.Pairwise.map _ (fun x y (hxy : x ≠ y) e => hxy (by omega)) h1
theorem outs_between (f g : Nat → Int) (na nb mm : Nat) : Outs (seenA (fun _ => false) (sortP (keyed f na)) mm) (na + nb) (sortP (keyedB g na nb ++ (sortP (keyed f na)).drop mm)) := by
  have ha := outs_keyed f na
  generalize hs : sortP (keyed f na) = s at *
  have hsub : ∀ p ∈ s.drop mm, p ∈ s := fun p hp => List.mem_of_mem_drop hp
  have hp := sortP_perm (keyedB g na nb ++ s.drop mm)
  have hmem : ∀ p, p ∈ sortP (keyedB g na nb ++ s.drop mm) → p ∈ keyedB g na nb ∨ p ∈ s.drop mm := fun p h => List.mem_append.1 (hp.mem_iff.1 h)
  have hn : ((s.take mm).map Prod.snd ++ (s.drop mm).map Prod.snd).Nodup := by
    rw [← List.map_append, List.take_append_drop]
    exact ha.once
  rw [List.nodup_append] at hn
  refine ⟨fun p h => ?_, fun p h => ?_, ?_, sortP_rise _⟩
  · rcases hmem p h with h | h
    · have := mem_keyedB h
      omega
    · have := ha.pt p (hsub p h)
      omega
  · unfold seenA
    rw [Bool.false_or, List.any_eq_false]
    intro p' hp' hc
    have hc : p'.2 = (p.2.toNat : Int) := by simpa using hc
    have h2 := ha.pt p' (List.mem_of_mem_take hp')
    rcases hmem p h with h | h
    · have := mem_keyedB h
      omega
    · have h1 := ha.pt p (hsub p h)
      exact hn.2.2 _ (List.mem_map_of_mem hp') _ (List.mem_map_of_mem h) (by omega)
  · refine (hp.map Prod.snd).nodup_iff.2 ?_
    rw [List.map_append, List.nodup_append]
    refine ⟨keyedB_once g na nb, hn.2.1, fun x hx y hy e => ?_⟩
    obtain ⟨p, hp1, rfl⟩ := List.mem_map.1 hx
    obtain ⟨p', hp2, rfl⟩ := List.mem_map.1 hy
    have h1 := mem_keyedB hp1
    have h2 := ha.pt p' (hsub p' hp2)
    omega

set_option maxHeartbeats 8000000 in
set_option maxRecDepth 1000000 in
theorem between_off (va vb : Value) (a b : List Int) (many : Int) (w : World) (ha : Row w w.heap.size va a) (hb : Row w w.heap.size vb b) (h : 50 < (a.length : Int) ∨ (¬ 50 < (a.length : Int) ∧ 50 < (b.length : Int)) ∨ (¬ 50 < (a.length : Int) ∧ ¬ 50 < (b.length : Int) ∧ many < 0) ∨ (¬ 50 < (a.length : Int) ∧ ¬ 50 < (b.length : Int) ∧ ¬ many < 0 ∧ 50 < many)) : Calls Try.prog 10 #[va, vb, .int .i64 many] w (Truly w) := by
  have HB0 := Lib.hid (Below.refl w.heap.size w)
  obtain ⟨A, c, rfl, _⟩ := ha
  obtain ⟨A', c', rfl, _⟩ := hb
  rcases h with h1 | ⟨h1, h2⟩ | ⟨h1, h2, h3⟩ | ⟨h1, h2, h3, h4⟩
  · go_enter Try.func10, Try.ntmps10
    go_wp2_with fail
    refine (ofixed_any _).mono ?_
    rintro e w1 ⟨rfl, hb1⟩
    have HB1 := Lib.hid (HB0.out.trans hb1)
    clear HB0 hb1
    go_wp2_with fail
    refine (ofixed_any _).mono ?_
    rintro e w2 ⟨rfl, hb2⟩
    have HB2 := Lib.hid (below_next HB1.out (Nat.le_refl _) hb2)
    clear HB1 hb2
    go_wp2
    go_ret
    exact ⟨rfl, HB2.out⟩
  · go_enter Try.func10, Try.ntmps10
    go_wp2_with fail
    refine (ofixed_any _).mono ?_
    rintro e w1 ⟨rfl, hb1⟩
    have HB1 := Lib.hid (HB0.out.trans hb1)
    clear HB0 hb1
    go_wp2_with fail
    refine (ofixed_any _).mono ?_
    rintro e w2 ⟨rfl, hb2⟩
    have HB2 := Lib.hid (below_next HB1.out (Nat.le_refl _) hb2)
    clear HB1 hb2
    go_wp2
    go_ret
    exact ⟨rfl, HB2.out⟩
  · go_enter Try.func10, Try.ntmps10
    go_wp2_with fail
    refine (ofixed_any _).mono ?_
    rintro e w1 ⟨rfl, hb1⟩
    have HB1 := Lib.hid (HB0.out.trans hb1)
    clear HB0 hb1
    go_wp2_with fail
    refine (ofixed_any _).mono ?_
    rintro e w2 ⟨rfl, hb2⟩
    have HB2 := Lib.hid (below_next HB1.out (Nat.le_refl _) hb2)
    clear HB1 hb2
    go_wp2
    go_ret
    exact ⟨rfl, HB2.out⟩
  · go_enter Try.func10, Try.ntmps10
    go_wp2_with fail
    refine (ofixed_any _).mono ?_
    rintro e w1 ⟨rfl, hb1⟩
    have HB1 := Lib.hid (HB0.out.trans hb1)
    clear HB0 hb1
    go_wp2_with fail
    refine (ofixed_any _).mono ?_
    rintro e w2 ⟨rfl, hb2⟩
    have HB2 := Lib.hid (below_next HB1.out (Nat.le_refl _) hb2)
    clear HB1 hb2
    go_wp2
    go_ret
    exact ⟨rfl, HB2.out⟩

theorem min_is (many : Int) (n : Nat) (M : Nat) (h : many = (M : Int)) : min many (n : Int) = ((min M n : Nat) : Int) := by omega

set_option maxHeartbeats 8000000 in
set_option maxRecDepth 1000000 in
theorem between_on (va vb : Value) (a b : List Int) (M : Nat) (w : World) (ha : Row w w.heap.size va a) (hb : Row w w.heap.size vb b) (h1 : ¬ 50 < (a.length : Int)) (h2 : ¬ 50 < (b.length : Int)) (h3 : ¬ 50 < (M : Int)) : Calls Try.prog 10 #[va, vb, .int .i64 (M : Int)] w (Truly w) := by
  have HB0 := Lib.hid (Below.refl w.heap.size w)
  have HA0 := Lib.hid ha
  have HC0 := Lib.hid hb
  obtain ⟨A, c, rfl, _⟩ := ha
  obtain ⟨A', c', rfl, _⟩ := hb
  obtain ⟨i0, hi, hz0, hz1, hz2⟩ := info_parts infoB
  have hMb : M ≤ 50 := by omega
  have hab : a.length ≤ 50 := by omega
  have hbb : b.length ≤ 50 := by omega
  go_enter Try.func10, Try.ntmps10
  go_wp2_with fail
  refine (ofixed_any _).mono ?_
  rintro e w1 ⟨rfl, hb1⟩
  have HB1 := Lib.hid (HB0.out.trans hb1)
  have HA1 := Lib.hid (HA0.out.up hb1)
  have HC1 := Lib.hid (HC0.out.up hb1)
  clear HB0 HA0 HC0 hb1
  go_wp2_with fail
  refine (qnew_any _).mono ?_
  rintro e w2 ⟨rfl, hq, hb2, hz⟩
  unfold qV
  have HQ2 := Lib.hid hq
  have HW := Lib.hid hb2
  clear hb2 hq hz
  go_wp2
  go_loopw [8] (fun vi wr => ∃ i : Nat, vi = .int .i64 (i : Int) ∧ i ≤ a.length ∧ Hid (HQ wr (fun k => k < w1.heap.size) w1.heap.size (keyed (fun j => a.getD j 0) i) ∧ Below w1.heap.size w1 wr)) (fun vi _ => a.length - (intOf vi).toNat)
  case atStart => exact ⟨0, rfl, Nat.zero_le _, HQ2.out, HW.out⟩
  case round =>
    obtain ⟨i, rfl, hi', HS⟩ := hrel
    have hsz2 := HS.out.2.size
    by_cases hlt : i < a.length
    · have hiI : (i : Int) < (a.length : Int) := by omega
      obtain ⟨ad, hA, had, hc⟩ := (HA1.out.below HS.out.2).read i hlt
      subst hA
      obtain ⟨x, hx⟩ : ∃ x, a.getD i 0 = x := ⟨_, rfl⟩
      rw [hx] at hc
      have HX := Lib.hid hx
      clear hx HQ2 HW
      go_wp2_with fail
      refine (qpush_any (fun k => k < w1.heap.size) w1.heap.size _ x (i : Int) (by rw [keyed_length]; omega) _ HS.out.1).mono ?_
      rintro e w3 ⟨rfl, hq3, hk3⟩
      have H3 := Lib.hid (HS.out.2.trans (hk3.below hsz2 fun i hi => hi))
      have HQ3 := Lib.hid hq3
      clear hq3 hk3
      go_wp2
      go_roundw
      case rel => exact ⟨i + 1, by go_num, by omega, by unfold keyed; rw [HX.out]; exact HQ3.out, H3.out⟩
      case measure => simp [intOf]; omega
    · have hie : i = a.length := by omega
      clear hlt hi'
      subst hie
      have HOU := Lib.hid (outs_keyed (fun j => a.getD j 0) a.length)
      have HPE := Lib.hid (sortP_perm (keyed (fun j => a.getD j 0) a.length))
      have HLE := Lib.hid (show (sortP (keyed (fun j => a.getD j 0) a.length)).length = a.length by rw [HPE.out.length_eq, keyed_length])
      have HBW := Lib.hid (fun mm => outs_between (fun j => a.getD j 0) (fun j => b.getD j 0) a.length b.length mm)
      clear HQ2 HW
      go_wp2_with (at_make; refine wpList_make_full _ rfl _ _ 50 rfl 0 4 i0 (.bool false) 1 (by kernel_rfl) hi hz0 hz1 .i64 .i64 _ _ (a.length + b.length) rfl rfl (by first | rfl | (push_cast; rfl)) (by first | rfl | (push_cast; rfl)) (by rw [hz2]; omega) (by unfold maxLen; omega) (Nat.zero_le _) ?_)
      intro w4 hown4 hg4
      have hseen := seen_made w4 0 wr.heap.size (a.length + b.length) (by first | exact hown4 | (rw [Nat.mul_one]; exact hown4))
      have hb4 : Below wr.heap.size wr w4 := (Below.refl _ wr).grown hg4 (Nat.le_refl _) (fun i hi => by cases hi)
      obtain ⟨F2, hF2⟩ : ∃ F2 : Nat → Prop, F2 = fun k => k < w1.heap.size ∨ (wr.heap.size ≤ k ∧ k < w4.heap.size) := ⟨_, rfl⟩
      have HQ4 := Lib.hid (show HQ w4 F2 w1.heap.size (sortP (keyed (fun j => a.getD j 0) a.length)) by rw [hF2]; exact (HS.out.1.more hb4).perm HPE.out.symm)
      have HFo := Lib.hid (show F2 wr.heap.size by rw [hF2]; exact .inr ⟨Nat.le_refl _, hseen.lt⟩)
      have HFb := Lib.hid (show ∀ k, k < w1.heap.size → F2 k by intro k hk; rw [hF2]; exact .inl hk)
      have HN4 := Lib.hid hseen
      have HW4 := Lib.hid (HS.out.2.trans (hb4.mono hsz2))
      have hs4 := HB1.out.size
      have hsl : (Value.slice (some ⟨wr.heap.size, 0, none⟩) (a.length + b.length) (a.length + b.length)) = Value.slice (some ⟨wr.heap.size, 0, none⟩) (a.length + b.length) (a.length + b.length) := rfl
      clear hown4 hg4 hseen hb4 hF2 HS HPE hsl
      generalize sortP (keyed (fun j => a.getD j 0) a.length) = s at *
      generalize wr.heap.size = G at *
      go_wp2
      go_loopw [10] (fun vi wx => ∃ t : Nat, vi = .int .i64 (t : Int) ∧ t ≤ M ∧ t ≤ a.length ∧ Hid (HQ wx F2 w1.heap.size (s.drop t) ∧ Seen wx G (a.length + b.length) (seenA (fun _ => false) s t) ∧ Below w1.heap.size w4 wx)) (fun vi _ => M - (intOf vi).toNat)
      case atStart => exact ⟨0, rfl, Nat.zero_le _, Nat.zero_le _, HQ4.out, by rw [seenA_zero]; exact HN4.out, Below.refl _ _⟩
      case round =>
        obtain ⟨t, rfl, htM, ht, HS⟩ := hrel
        by_cases hlt : t < M ∧ t < a.length
        · obtain ⟨hltM, hlt⟩ := hlt
          have htI : (t : Int) < (a.length : Int) := by omega
          have htM' : (t : Int) < (M : Int) := by omega
          have hts : t < s.length := by rw [HLE.out]; exact hlt
          obtain ⟨he, hmin⟩ := HOU.out.rise.drop t hts
          obtain ⟨j, hj, hid, hnew⟩ := HOU.out.fresh hts
          have hp := qpop_any F2 w1.heap.size (s.drop t) (s.drop (t + 1)) (atP s t) (by rw [he]) hmin (by rw [List.length_drop, HLE.out]; omega) wr HS.out.1
          have HI := Lib.hid hid
          rw [hid] at hp
          generalize (atP s t).1 = k at hp
          have HP := Lib.hid hp
          have HNW := Lib.hid hnew
          have HT := Lib.hid hts
          have hjI : (j : Int) < (a.length : Int) := by omega
          have hjn : j < a.length + b.length := by omega
          have hjN : (j : Int) < (a.length : Int) + (b.length : Int) := by omega
          have hsx : w1.heap.size ≤ wr.heap.size := Nat.le_trans HW4.out.size HS.out.2.2.size
          clear hp hid hnew he hmin hts
          go_wp2_with fail
          refine HP.out.mono ?_
          rintro e w5 ⟨rfl, hq5, hk5⟩
          have hb5 := HS.out.2.2.trans (hk5.below hsx HFb.out)
          have hsn := HS.out.2.1.fk hk5 HFo.out
          have hc1 := hsn.cell hjn
          rw [HNW.out] at hc1
          have hfz := hsn.frozen j
          have H5 := Lib.hid hq5
          have H6 := Lib.hid hsn
          have H7 := Lib.hid hb5
          clear hq5 hk5 hsn hb5
          go_wp2
          go_roundw
          case rel =>
            refine ⟨t + 1, by go_num, by omega, by omega, H5.out.setOther HFo.out j _, ?_, H7.out.setCell (by show w1.heap.size ≤ G; omega) _⟩
            rw [seenA_succ HT.out HI.out]; exact H6.out.set_ j
          case measure => simp [intOf]; omega
        · have HMM : Hid (t = min M a.length) := Lib.hid (by omega)
          have hexit : (M : Int) ≤ (t : Int) ∨ ((t : Int) < (M : Int) ∧ (a.length : Int) ≤ (t : Int)) := by omega
          have HSx := Lib.hid (HBW.out t)
          clear hlt HQ4 HN4 HBW htM
          rcases hexit with e1 | ⟨e1, e2⟩
          · go_wp2
            go_loopw [14] (fun vi wy => ∃ i : Nat, vi = .int .i64 (i : Int) ∧ i ≤ b.length ∧ Hid (HQ wy F2 w1.heap.size (keyedB (fun j => b.getD j 0) a.length i ++ s.drop t) ∧ Seen wy G (a.length + b.length) (seenA (fun _ => false) s t) ∧ Below w1.heap.size w4 wy)) (fun vi _ => b.length - (intOf vi).toNat)
            case atStart => exact ⟨0, rfl, Nat.zero_le _, HS.out.1, HS.out.2.1, HS.out.2.2⟩
            case round =>
              obtain ⟨i, rfl, hi', HR⟩ := hrel
              have hsx : w1.heap.size ≤ wr.heap.size := Nat.le_trans HW4.out.size HR.out.2.2.size
              by_cases hlt : i < b.length
              · have hiI : (i : Int) < (b.length : Int) := by omega
                obtain ⟨ad, hA, had, hc⟩ := (HC1.out.below (HW4.out.trans HR.out.2.2)).read i hlt
                subst hA
                obtain ⟨x, hx⟩ : ∃ x, b.getD i 0 = x := ⟨_, rfl⟩
                rw [hx] at hc
                have HX := Lib.hid hx
                have HL3 := Lib.hid (show (keyedB (fun j => b.getD j 0) a.length i ++ s.drop t).length ≤ 1048576 by rw [List.length_append, keyedB_length, List.length_drop, HLE.out]; omega)
                clear hx
                go_wp2_with fail
                refine (qpush_any F2 w1.heap.size _ x ((a.length : Int) + (i : Int)) HL3.out _ HR.out.1).mono ?_
                rintro e w3 ⟨rfl, hq3, hk3⟩
                have H3 := Lib.hid (HR.out.2.2.trans (hk3.below hsx HFb.out))
                have H4 := Lib.hid (HR.out.2.1.fk hk3 HFo.out)
                have HQ3 := Lib.hid hq3
                clear hq3 hk3
                go_wp2
                go_roundw
                case rel => exact ⟨i + 1, by go_num, by omega, by
                  have := HQ3.out
                  rw [← HX.out] at this
                  exact this, H4.out, H3.out⟩
                case measure => simp [intOf]; omega
              · have hie : i = b.length := by omega
                clear hlt hi'
                subst hie
                have HPE := Lib.hid (sortP_perm (keyedB (fun j => b.getD j 0) a.length b.length ++ s.drop t))
                have HLB : Hid ((sortP (keyedB (fun j => b.getD j 0) a.length b.length ++ s.drop t)).length = b.length + (a.length - t)) := Lib.hid (by rw [HPE.out.length_eq, List.length_append, keyedB_length, List.length_drop, HLE.out])
                have HQ5 := Lib.hid (HR.out.1.perm HPE.out.symm)
                generalize sortP (keyedB (fun j => b.getD j 0) a.length b.length ++ s.drop t) = sb at *
                have hleft : (a.length : Int) + (b.length : Int) - min (M : Int) (a.length : Int) = ((b.length + (a.length - t) : Nat) : Int) := by
                  have := HMM.out
                  omega
                obtain ⟨N, hN⟩ : ∃ N : Nat, b.length + (a.length - t) = N := ⟨_, rfl⟩
                rw [hN] at hleft HLB
                have hNb : N ≤ 100 := by omega
                clear hN HPE
                go_wp2
                go_loopw [16, 17] (fun vl vi wy => ∃ (u : Nat) (L : Int), vl = .int .i64 L ∧ vi = .int .i64 (u : Int) ∧ u ≤ N ∧ Hid ((∀ z, u = z + 1 → (atP sb z).1 = L) ∧ HQ wy F2 w1.heap.size (sb.drop u) ∧ Seen wy G (a.length + b.length) (seenA (seenA (fun _ => false) s t) sb u) ∧ Below w1.heap.size w4 wy)) (fun _ vi _ => N - (intOf vi).toNat)
                case atStart => exact ⟨0, 0, rfl, rfl, Nat.zero_le _, fun z hz => by omega, HQ5.out, by rw [seenA_zero]; exact HR.out.2.1, HR.out.2.2⟩
                case round =>
                  obtain ⟨u, L, rfl, rfl, hu, HU⟩ := hrel
                  have hsy : w1.heap.size ≤ wr.heap.size := Nat.le_trans HW4.out.size HU.out.2.2.2.size
                  by_cases hlt : u < N
                  · have huI : (u : Int) < (N : Int) := by omega
                    have hts : u < sb.length := by rw [HLB.out]; exact hlt
                    obtain ⟨he, hmin⟩ := HSx.out.rise.drop u hts
                    obtain ⟨j, hj, hid, hnew⟩ := HSx.out.fresh hts
                    have hp := qpop_any F2 w1.heap.size (sb.drop u) (sb.drop (u + 1)) (atP sb u) (by rw [he]) hmin (by rw [List.length_drop, HLB.out]; omega) wr HU.out.2.1
                    have hlast : ¬ 0 < u ∨ (0 < u ∧ ¬ (atP sb u).1 < L) := by
                      rcases Nat.eq_zero_or_pos u with h0 | h0
                      · exact .inl (by omega)
                      · have h1 := HU.out.1 (u - 1) (by omega)
                        have h2 := HSx.out.after (t := u - 1) (by omega)
                        rw [show u - 1 + 1 = u by omega] at h2
                        unfold ltP at h2
                        rw [h1] at h2
                        exact .inr ⟨h0, by omega⟩
                    have HI := Lib.hid hid
                    rw [hid] at hp
                    obtain ⟨k, hk⟩ : ∃ k, (atP sb u).1 = k := ⟨_, rfl⟩
                    rw [hk] at hp hlast
                    have HK := Lib.hid hk
                    have HP := Lib.hid hp
                    have HNW := Lib.hid hnew
                    have HT := Lib.hid hts
                    have hjN : (j : Int) < (a.length : Int) + (b.length : Int) := by omega
                    clear hp hid hnew he hmin hts hk
                    go_wp2_with fail
                    refine HP.out.mono ?_
                    rintro e w5 ⟨rfl, hq5, hk5⟩
                    have hb5 := HU.out.2.2.2.trans (hk5.below hsy HFb.out)
                    have hsn := HU.out.2.2.1.fk hk5 HFo.out
                    have hc1 := hsn.cell hj
                    rw [HNW.out] at hc1
                    have hfz := hsn.frozen j
                    have H5 := Lib.hid hq5
                    have H6 := Lib.hid hsn
                    have H7 := Lib.hid hb5
                    clear hq5 hk5 hsn hb5
                    rcases hlast with g1 | ⟨g0, g1⟩
                    · go_wp2
                      go_roundw
                      case rel =>
                        refine ⟨u + 1, k, rfl, by go_num, by omega, fun z hz => by rw [show z = u by omega]; exact HK.out, H5.out.setOther HFo.out j _, ?_, H7.out.setCell (by show w1.heap.size ≤ G; omega) _⟩
                        rw [seenA_succ HT.out HI.out]; exact H6.out.set_ j
                      case measure => simp [intOf]; omega
                    · go_wp2
                      go_roundw
                      case rel =>
                        refine ⟨u + 1, k, rfl, by go_num, by omega, fun z hz => by rw [show z = u by omega]; exact HK.out, H5.out.setOther HFo.out j _, ?_, H7.out.setCell (by show w1.heap.size ≤ G; omega) _⟩
                        rw [seenA_succ HT.out HI.out]; exact H6.out.set_ j
                      case measure => simp [intOf]; omega
                  · have hue : u = N := by omega
                    clear hlt hu
                    subst hue
                    have hd : sb.drop u = [] := List.drop_of_length_le (by rw [HLB.out]; exact Nat.le_refl _)
                    have h0 := HU.out.2.1
                    rw [hd] at h0
                    have H0 := Lib.hid h0
                    have H9 := Lib.hid (HB1.out.trans ((HW4.out.trans HU.out.2.2.2).mono hs4))
                    clear h0 hd
                    go_wp2_with fail
                    refine (qlen_any F2 w1.heap.size [] _ H0.out).mono ?_
                    rintro e w5 ⟨rfl, hw5⟩
                    replace hw5 := hw5.symm
                    subst hw5
                    go_wp2
                    go_ret
                    exact ⟨rfl, H9.out⟩
          · have d1 : decide (t < a.length) = false := decide_eq_false (by omega)
            have d2 : decide ((t : Int) < (a.length : Int)) = false := decide_eq_false (by omega)
            have d3 : decide (a.length ≤ t) = true := decide_eq_true (by omega)
            go_wp2
            go_loopw [14] (fun vi wy => ∃ i : Nat, vi = .int .i64 (i : Int) ∧ i ≤ b.length ∧ Hid (HQ wy F2 w1.heap.size (keyedB (fun j => b.getD j 0) a.length i ++ s.drop t) ∧ Seen wy G (a.length + b.length) (seenA (fun _ => false) s t) ∧ Below w1.heap.size w4 wy)) (fun vi _ => b.length - (intOf vi).toNat)
            case atStart => exact ⟨0, rfl, Nat.zero_le _, HS.out.1, HS.out.2.1, HS.out.2.2⟩
            case round =>
              obtain ⟨i, rfl, hi', HR⟩ := hrel
              have hsx : w1.heap.size ≤ wr.heap.size := Nat.le_trans HW4.out.size HR.out.2.2.size
              by_cases hlt : i < b.length
              · have hiI : (i : Int) < (b.length : Int) := by omega
                obtain ⟨ad, hA, had, hc⟩ := (HC1.out.below (HW4.out.trans HR.out.2.2)).read i hlt
                subst hA
                obtain ⟨x, hx⟩ : ∃ x, b.getD i 0 = x := ⟨_, rfl⟩
                rw [hx] at hc
                have HX := Lib.hid hx
                have HL3 := Lib.hid (show (keyedB (fun j => b.getD j 0) a.length i ++ s.drop t).length ≤ 1048576 by rw [List.length_append, keyedB_length, List.length_drop, HLE.out]; omega)
                clear hx
                go_wp2_with fail
                refine (qpush_any F2 w1.heap.size _ x ((a.length : Int) + (i : Int)) HL3.out _ HR.out.1).mono ?_
                rintro e w3 ⟨rfl, hq3, hk3⟩
                have H3 := Lib.hid (HR.out.2.2.trans (hk3.below hsx HFb.out))
                have H4 := Lib.hid (HR.out.2.1.fk hk3 HFo.out)
                have HQ3 := Lib.hid hq3
                clear hq3 hk3
                go_wp2
                go_roundw
                case rel => exact ⟨i + 1, by go_num, by omega, by
                  have := HQ3.out
                  rw [← HX.out] at this
                  exact this, H4.out, H3.out⟩
                case measure => simp [intOf]; omega
              · have hie : i = b.length := by omega
                clear hlt hi'
                subst hie
                have HPE := Lib.hid (sortP_perm (keyedB (fun j => b.getD j 0) a.length b.length ++ s.drop t))
                have HLB : Hid ((sortP (keyedB (fun j => b.getD j 0) a.length b.length ++ s.drop t)).length = b.length + (a.length - t)) := Lib.hid (by rw [HPE.out.length_eq, List.length_append, keyedB_length, List.length_drop, HLE.out])
                have HQ5 := Lib.hid (HR.out.1.perm HPE.out.symm)
                generalize sortP (keyedB (fun j => b.getD j 0) a.length b.length ++ s.drop t) = sb at *
                have hleft : (a.length : Int) + (b.length : Int) - min (M : Int) (a.length : Int) = ((b.length + (a.length - t) : Nat) : Int) := by
                  have := HMM.out
                  omega
                obtain ⟨N, hN⟩ : ∃ N : Nat, b.length + (a.length - t) = N := ⟨_, rfl⟩
                rw [hN] at hleft HLB
                have hNb : N ≤ 100 := by omega
                clear hN HPE
                go_wp2
                go_loopw [16, 17] (fun vl vi wy => ∃ (u : Nat) (L : Int), vl = .int .i64 L ∧ vi = .int .i64 (u : Int) ∧ u ≤ N ∧ Hid ((∀ z, u = z + 1 → (atP sb z).1 = L) ∧ HQ wy F2 w1.heap.size (sb.drop u) ∧ Seen wy G (a.length + b.length) (seenA (seenA (fun _ => false) s t) sb u) ∧ Below w1.heap.size w4 wy)) (fun _ vi _ => N - (intOf vi).toNat)
                case atStart => exact ⟨0, 0, rfl, rfl, Nat.zero_le _, fun z hz => by omega, HQ5.out, by rw [seenA_zero]; exact HR.out.2.1, HR.out.2.2⟩
                case round =>
                  obtain ⟨u, L, rfl, rfl, hu, HU⟩ := hrel
                  have hsy : w1.heap.size ≤ wr.heap.size := Nat.le_trans HW4.out.size HU.out.2.2.2.size
                  by_cases hlt : u < N
                  · have huI : (u : Int) < (N : Int) := by omega
                    have hts : u < sb.length := by rw [HLB.out]; exact hlt
                    obtain ⟨he, hmin⟩ := HSx.out.rise.drop u hts
                    obtain ⟨j, hj, hid, hnew⟩ := HSx.out.fresh hts
                    have hp := qpop_any F2 w1.heap.size (sb.drop u) (sb.drop (u + 1)) (atP sb u) (by rw [he]) hmin (by rw [List.length_drop, HLB.out]; omega) wr HU.out.2.1
                    have hlast : ¬ 0 < u ∨ (0 < u ∧ ¬ (atP sb u).1 < L) := by
                      rcases Nat.eq_zero_or_pos u with h0 | h0
                      · exact .inl (by omega)
                      · have h1 := HU.out.1 (u - 1) (by omega)
                        have h2 := HSx.out.after (t := u - 1) (by omega)
                        rw [show u - 1 + 1 = u by omega] at h2
                        unfold ltP at h2
                        rw [h1] at h2
                        exact .inr ⟨h0, by omega⟩
                    have HI := Lib.hid hid
                    rw [hid] at hp
                    obtain ⟨k, hk⟩ : ∃ k, (atP sb u).1 = k := ⟨_, rfl⟩
                    rw [hk] at hp hlast
                    have HK := Lib.hid hk
                    have HP := Lib.hid hp
                    have HNW := Lib.hid hnew
                    have HT := Lib.hid hts
                    have hjN : (j : Int) < (a.length : Int) + (b.length : Int) := by omega
                    clear hp hid hnew he hmin hts hk
                    go_wp2_with fail
                    refine HP.out.mono ?_
                    rintro e w5 ⟨rfl, hq5, hk5⟩
                    have hb5 := HU.out.2.2.2.trans (hk5.below hsy HFb.out)
                    have hsn := HU.out.2.2.1.fk hk5 HFo.out
                    have hc1 := hsn.cell hj
                    rw [HNW.out] at hc1
                    have hfz := hsn.frozen j
                    have H5 := Lib.hid hq5
                    have H6 := Lib.hid hsn
                    have H7 := Lib.hid hb5
                    clear hq5 hk5 hsn hb5
                    rcases hlast with g1 | ⟨g0, g1⟩
                    · go_wp2
                      go_roundw
                      case rel =>
                        refine ⟨u + 1, k, rfl, by go_num, by omega, fun z hz => by rw [show z = u by omega]; exact HK.out, H5.out.setOther HFo.out j _, ?_, H7.out.setCell (by show w1.heap.size ≤ G; omega) _⟩
                        rw [seenA_succ HT.out HI.out]; exact H6.out.set_ j
                      case measure => simp [intOf]; omega
                    · go_wp2
                      go_roundw
                      case rel =>
                        refine ⟨u + 1, k, rfl, by go_num, by omega, fun z hz => by rw [show z = u by omega]; exact HK.out, H5.out.setOther HFo.out j _, ?_, H7.out.setCell (by show w1.heap.size ≤ G; omega) _⟩
                        rw [seenA_succ HT.out HI.out]; exact H6.out.set_ j
                      case measure => simp [intOf]; omega
                  · have hue : u = N := by omega
                    clear hlt hu
                    subst hue
                    have hd : sb.drop u = [] := List.drop_of_length_le (by rw [HLB.out]; exact Nat.le_refl _)
                    have h0 := HU.out.2.1
                    rw [hd] at h0
                    have H0 := Lib.hid h0
                    have H9 := Lib.hid (HB1.out.trans ((HW4.out.trans HU.out.2.2.2).mono hs4))
                    clear h0 hd
                    go_wp2_with fail
                    refine (qlen_any F2 w1.heap.size [] _ H0.out).mono ?_
                    rintro e w5 ⟨rfl, hw5⟩
                    replace hw5 := hw5.symm
                    subst hw5
                    go_wp2
                    go_ret
                    exact ⟨rfl, H9.out⟩

theorem between_any (va vb : Value) (a b : List Int) (many : Int) (w : World) (ha : Row w w.heap.size va a) (hb : Row w w.heap.size vb b) : Calls Try.prog 10 #[va, vb, .int .i64 many] w (Truly w) := by
  by_cases h1 : 50 < (a.length : Int)
  · exact between_off va vb a b many w ha hb (.inl h1)
  · by_cases h2 : 50 < (b.length : Int)
    · exact between_off va vb a b many w ha hb (.inr (.inl ⟨h1, h2⟩))
    · by_cases h3 : many < 0
      · exact between_off va vb a b many w ha hb (.inr (.inr (.inl ⟨h1, h2, h3⟩)))
      · by_cases h4 : 50 < many
        · exact between_off va vb a b many w ha hb (.inr (.inr (.inr ⟨h1, h2, h3, h4⟩)))
        · obtain ⟨M, rfl⟩ : ∃ M : Nat, many = (M : Int) := ⟨many.toNat, by omega⟩
          exact between_on va vb a b M w ha hb h1 h2 h4

end Wp
end Go.Proofs.Ytcdfjhmlpdhelaa
