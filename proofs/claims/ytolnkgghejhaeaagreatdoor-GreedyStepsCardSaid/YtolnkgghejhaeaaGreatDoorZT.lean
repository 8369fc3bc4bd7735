/- The document's Set, and the law's own 'in', walked. The document's sums and may, walked. The document's All, Minus and Check, walked. -/
import Derived.Test.YtolnkgghejhaeaaGreatDoorZA
import Derived.Test.YtolnkgghejhaeaaGreatDoorQTB
import Derived.Test.YtolnkgghejhaeaaGreatDoorQPartsP
namespace Go.Proofs.YtolnkgghejhaeaaGreatDoor
open Go.RowKit
namespace Wp

set_option maxHeartbeats 2000000 in
set_option maxRecDepth 100000 in
theorem set9_any (v : Value) (l : List Int) (n : Int) (w : World) (hr : Row w w.heap.size v l) : Calls Tryz.prog 8 #[v, .int .i64 n] w (Says w (okA n l)) := by
  have Hr := Lib.hid hr
  obtain ⟨A, c, rfl, hcap, hcell⟩ := hr
  have hLm : (l.length : Int) ≤ 9223372036854775807 := by
    have h1 := hcap.1
    have h2 := hcap.2.1
    unfold maxLen at h2
    omega
  have hlm : l.length ≤ 9223372036854775807 := by omega
  have Hcell := Lib.hid hcell
  clear hcap hcell
  rcases hm : mayB l with _ | _
  · rw [okA_no hm]
    have Hm := Lib.hid hm
    clear hm
    go_enter Tryz.func8, Tryz.ntmps8
    go_wp2_with fail
    refine (refmay_is _ l w Hr.out hlm Hm.out).mono ?_
    rintro e w1 ⟨rfl, hb1⟩
    have Hb1 := Lib.hid hb1
    clear hb1
    go_wp2
    go_ret
    exact ⟨rfl, Hb1.out⟩
  · have Hm := Lib.hid hm
    clear hm
    by_cases h0 : l.length = 0
    · rw [okA_nil Hm.out h0]
      have h0' : ((l.length : Int) == 0) = true := by simpa using h0
      clear h0
      go_enter Tryz.func8, Tryz.ntmps8
      go_wp2_with fail
      refine (refmay_is _ l w Hr.out hlm Hm.out).mono ?_
      rintro e w1 ⟨rfl, hb1⟩
      have Hb1 := Lib.hid hb1
      clear hb1
      go_wp2
      go_ret
      exact ⟨rfl, Hb1.out⟩
    · obtain ⟨x, hx⟩ : ∃ x, l.getD (l.length - 1) 0 = x := ⟨_, rfl⟩
      obtain ⟨al, hAl, halb, hcx⟩ := Hcell.out (l.length - 1) (by omega)
      rw [okA_last Hm.out (by omega) hx]
      rw [hx] at hcx
      subst hAl
      obtain ⟨L, hL⟩ : ∃ L, l.length = L := ⟨_, rfl⟩
      have HL := Lib.hid hL
      rw [hL] at hcx Hr hLm h0
      rw [hL]
      have h0' : ((L : Int) == 0) = false := by simpa using h0
      have hL0 : (0 : Int) < (L : Int) := by omega
      have hw1 : IntKind.i64.wrap ((L : Int) - 1) = (L : Int) - 1 := by rw [IntKind.wrap_i64]; omega
      have hw2 : (0 : Int) ≤ (L : Int) - 1 := by omega
      have hw3 : (L : Int) - 1 < (L : Int) := by omega
      have hw4 : ((L : Int) - 1).toNat = L - 1 := by omega
      clear hx h0 hL
      go_enter Tryz.func8, Tryz.ntmps8
      go_wp2_with fail
      refine (refmay_is _ l w Hr.out hlm Hm.out).mono ?_
      rintro e w1 ⟨rfl, hb1⟩
      have Hb1 := Lib.hid hb1
      have g2 := (hb1.cell (p := al.add (L - 1)) (by rw [add_block]; exact halb)).trans hcx
      clear hb1 hcx
      go_wp2
      go_ret
      exact ⟨rfl, Hb1.out⟩

end Wp
end Go.Proofs.YtolnkgghejhaeaaGreatDoor

namespace Go.Proofs.YtolnkgghejhaeaaGreatDoor.Wp
open Go Go.RowKit

theorem okA_sub {n : Int} {l : List Int} (h0 : 0 ≤ n) (h1 : n ≤ 64) : okA n l = subB l (allL n) := by
  rw [Bool.eq_iff_iff]
  constructor
  · intro h
    obtain ⟨h2, h3⟩ := okA_set h
    exact sub_all h0 h1 h2 h3
  · intro h
    obtain ⟨h2, _, h3⟩ := subB_iff.1 h
    have hm : mayB l = true := mayB_iff.2 h2
    by_cases hl : l.length = 0
    · exact okA_nil hm hl
    · rw [okA_last hm (by omega) rfl, decide_eq_true_iff]
      have h4 := h3 (l.getD (l.length - 1) 0) (by rw [show l.getD (l.length - 1) 0 = l[l.length - 1]'(by omega) by simp [List.getD, show l.length - 1 < l.length by omega]]; exact List.getElem_mem _)
      exact ((mem_all h0 (by omega) _).1 h4).2

theorem ok_n {k : Nat} {m : Mat} (h : ok k m = true) : 0 ≤ m.n ∧ m.n ≤ 64 := by
  cases k with
  | zero => cases h
  | succ k => have := (bad_zero (ok_bad h)).2.1; omega
theorem tog_ok {k : Nat} {i : List Mat} (h : i.all (ok k) = true) (hl : i.length ≤ 8) : 0 ≤ tog i ∧ tog i ≤ 512 := by
  have := tog_le (l := i) (fun x hx => ok_n (List.all_eq_true.1 h x hx)) (by omega)
  omega
theorem tog_is {x : Mat} (h : 0 ≤ x.n ∧ x.n ≤ 64) : tog [x] = x.n := by
  show IntKind.i64.wrap (0 + x.n) = x.n
  rw [wrap_small (by omega) (by omega)]
  omega

def headB (m : Mat) : Bool := decide (m.b = 0) && (decide (m.a = 0) || decide (m.t = 7)) && decide (1 ≤ m.i.length) && decide (m.i.length ≤ 8) && (decide (m.i.length ≤ 1) || decide (m.t = 9))
def tailB (S : Int) (m : Mat) : Bool :=
  if 7 ≤ m.t then decide (m.l.length = 0) && decide (m.n = S)
  else decide (m.l.length = 1) && okA S (row m 0) && (if m.t = 5 then decide (m.n = (row m 0).length) else decide (m.n = IntKind.i64.wrap (S - (row m 0).length)))

theorem bad_iff {m : Mat} (h2 : 0 ≤ m.n ∧ m.n ≤ 64 ∧ 0 ≤ m.a ∧ m.a ≤ 64) (hn : nest m.t) : (bad m = 0) ↔ takesB (form m.t) m = true ∧ fitsB m = true := by
  unfold nest at hn
  exact ⟨fun h => ⟨(bad_zero h).2.2.1, (bad_zero h).2.2.2⟩, fun h => bad_of (by omega) h2 h.1 h.2⟩

theorem ok_nest {k : Nat} {m : Mat} (h2 : 0 ≤ m.n ∧ m.n ≤ 64 ∧ 0 ≤ m.a ∧ m.a ≤ 64) (hn : nest m.t) : ok (k + 1) m = (headB m && m.i.all (ok k) && tailB (tog m.i) m) := by
  rw [ok]
  rcases hall : m.i.all (ok k) with _ | _
  · simp
  rw [Bool.and_true, Bool.and_true, Bool.eq_iff_iff, decide_eq_true_iff, bad_iff h2 hn, takes_iff, Bool.and_eq_true]
  obtain ⟨t, n, a, b, l, i⟩ := m
  unfold nest at hn
  unfold headB tailB
  change 5 ≤ t ∧ t ≤ 9 at hn
  change 0 ≤ n ∧ n ≤ 64 ∧ 0 ≤ a ∧ a ≤ 64 at h2
  change i.all (ok k) = true at hall
  obtain ⟨S, hS⟩ : ∃ S, tog (Mat.mk t n a b l i).i = S := ⟨_, rfl⟩
  rw [hS]
  change tog i = S at hS
  have hrow : row (.mk t n a b l i) 0 = l.getD 0 [] := rfl
  have h56 : t = 5 ∨ t = 6 → i.length = 1 → ∃ x, i = [x] ∧ tog i = x.n ∧ partB (.mk t n a b l i) = okA x.n (l.getD 0 []) ∧ 0 ≤ x.n ∧ x.n ≤ 64 := fun _ hi => by
    obtain ⟨x, rfl⟩ := List.length_eq_one_iff.1 hi
    have hx := ok_n (List.all_eq_true.1 hall x (by simp))
    refine ⟨x, rfl, tog_is hx, ?_, hx⟩
    rw [okA_sub hx.1 hx.2]
    rfl
  have h7 : 7 ≤ t → fitsB (.mk t n a b l i) = decide (n = S) := fun h => by rw [← hS]; exact fits_seven (by show t = 7 ∨ t = 8 ∨ t = 9; omega)
  rcases (by omega : t = 5 ∨ t = 6 ∨ t = 7 ∨ t = 8 ∨ t = 9) with rfl | rfl | rfl | rfl | rfl
  · have hf : fitsB (.mk 5 n a b l i) = (partB (.mk 5 n a b l i) && decide (n = (l.getD 0 []).length)) := rfl
    rw [hf, hrow]
    by_cases hi : i.length = 1
    · obtain ⟨x, hx, ht, hp, _⟩ := h56 (.inl rfl) hi
      rw [hp, ← hS, ht]
      simp [form, hi, Mat.t, Mat.n, Mat.a, Mat.b, Mat.l, Mat.i]
      grind
    · simp [form, Mat.t, Mat.n, Mat.a, Mat.b, Mat.l, Mat.i]
      grind
  · have hf : fitsB (.mk 6 n a b l i) = (partB (.mk 6 n a b l i) && decide (IntKind.i64.wrap (n + (l.getD 0 []).length) = (inn (.mk 6 n a b l i)).n)) := rfl
    rw [hf, hrow]
    by_cases hi : i.length = 1
    · obtain ⟨x, hx, ht, hp, hx0, hx1⟩ := h56 (.inr rfl) hi
      have hin : (inn (.mk 6 n a b l i)).n = x.n := by rw [hx]; rfl
      rw [hp, hin, ← hS, ht]
      rcases ho : okA x.n (l.getD 0 []) with _ | _
      · simp [Mat.t, Mat.n, Mat.a, Mat.b, Mat.l, Mat.i]
      · obtain ⟨o1, o2⟩ := okA_set ho
        have hlen := len_all hx0 hx1 o1 o2
        rw [wrap_small (by omega) (by omega), wrap_small (by omega) (by omega)]
        simp [form, hi, Mat.t, Mat.n, Mat.a, Mat.b, Mat.l, Mat.i]
        grind
    · simp [form, Mat.t, Mat.n, Mat.a, Mat.b, Mat.l, Mat.i]
      grind
  · rw [h7 (by omega)]
    simp [form, Mat.t, Mat.n, Mat.a, Mat.b, Mat.l, Mat.i]
    grind
  · rw [h7 (by omega)]
    simp [form, Mat.t, Mat.n, Mat.a, Mat.b, Mat.l, Mat.i]
    grind
  · rw [h7 (by omega)]
    simp [form, Mat.t, Mat.n, Mat.a, Mat.b, Mat.l, Mat.i]
    grind

/-- All have one. -/
theorem all_miss {p : Mat → Bool} {i : List Mat} {k : Nat} (hk : k < i.length) (h : p (i.getD k default) = false) : i.all p = false := by
  rw [List.all_eq_false]
  refine ⟨i[k], List.getElem_mem hk, ?_⟩
  rw [show i.getD k default = i[k] by simp [List.getD, hk]] at h
  simp [h]
theorem all_hits {p : Mat → Bool} {i : List Mat} (h : ∀ k, k < i.length → p (i.getD k default) = true) : i.all p = true := by
  rw [List.all_eq_true]
  intro x hx
  obtain ⟨k, hk, rfl⟩ := List.mem_iff_getElem.1 hx
  have := h k hk
  rwa [show i.getD k default = i[k] by simp [List.getD, hk]] at this
/-- What sums tells. -/
def sumsI (k : Nat) (m : Mat) : Int := if m.i.all (ok k) = true then tog m.i else -1

end Go.Proofs.YtolnkgghejhaeaaGreatDoor.Wp

namespace Go.Proofs.YtolnkgghejhaeaaGreatDoor
open Go.RowKit
namespace Wp

/-- What may answers, as far as k. -/
def MayAt (k : Nat) : Prop := ∀ (m : Mat) (v : Value) (w : World), MatV w w.heap.size v m → Sml m → dp k m ≤ k → Calls Tryz.prog 32 #[v] w (Says w (ok k m))

set_option maxHeartbeats 8000000 in
set_option maxRecDepth 100000 in
theorem sums_any (k : Nat) (ih : MayAt k) (m : Mat) (v : Value) (w : World) (hv : MatV w w.heap.size v m) (hs : Sml m) (hd : ∀ x ∈ m.i, dp k x ≤ k) : Calls Tryz.prog 43 #[v] w (Tells w (sumsI k m)) := by
  obtain ⟨lv, iv, rfl, _, ⟨Ai, ci, rfl, _, hki⟩⟩ := hv.open
  have Hk := Lib.hid hki
  have Hs := Lib.hid hs
  have Hd := Lib.hid hd
  have hlen := sml_il hs
  have hlen' : (m.i.length : Int) ≤ 1000 := by omega
  have Hb0 := Lib.hid (boxed_below w m lv (.slice Ai m.i.length ci))
  have Hblk := Lib.hid (boxed_blk w m lv (.slice Ai m.i.length ci))
  obtain ⟨R, hR⟩ : ∃ R, sumsI k m = R := ⟨_, rfl⟩
  have HR := Lib.hid hR
  rw [hR]
  unfold boxed at *
  clear hv hs hd hki hR
  go_enter Tryz.func43, Tryz.ntmps43
  go_wp2
  go_loopw [3, 4] (fun vn vi wr => ∃ i : Nat, vn = .int .i64 (tog (m.i.take i)) ∧ vi = .int .i64 i ∧ i ≤ m.i.length ∧ (∀ j, j < i → ok k (m.i.getD j default) = true) ∧ Blk wr w.heap.size 25 #[.int .i64 m.t, .int .i64 m.n, .int .i64 m.a, .int .i64 m.b, lv, .slice Ai m.i.length ci] ∧ Below w.heap.size w wr) (fun _ vi _ => m.i.length - (intOf vi).toNat)
  case atStart => exact ⟨0, rfl, rfl, Nat.zero_le _, fun j hj => absurd hj (Nat.not_lt_zero _), Hblk.out, Hb0.out⟩
  case round =>
    obtain ⟨i, rfl, rfl, hi, hok, hblk, hbr⟩ := hrel
    have Hok := Lib.hid hok
    have Hbr := Lib.hid hbr
    have Hblkr := Lib.hid hblk
    have g5 := hblk.cell 5
    obtain ⟨T0, hT0⟩ : ∃ T0, tog (m.i.take i) = T0 := ⟨_, rfl⟩
    have HT0 := Lib.hid hT0
    rw [hT0]
    clear hok hblk hbr Hblk Hb0
    by_cases hlt : i < m.i.length
    · have hltI : (i : Int) < (m.i.length : Int) := by omega
      obtain ⟨ad, u, hA, hab, hsix, hmv⟩ := Hk.out i hlt
      subst hA
      have hsix1 := hsix.below Hbr.out (by rw [add_block]; exact hab)
      have hmv1 := (hmv.bel Hbr.out).mono Hbr.out.size
      have hmem := getD_mem m.i i default hlt
      have Hcall := Lib.hid (ih _ u wr hmv1 (sml_i Hs.out hmem) (Hd.out _ hmem))
      have htm := tog_more (l := m.i) hlt
      rw [hT0] at htm
      have Htm := Lib.hid htm
      have Hmiss := Lib.hid (all_miss (p := ok k) hlt)
      have Hok1 : Hid (ok k (m.i.getD i default) = true → ∀ j, j < i + 1 → ok k (m.i.getD j default) = true) := Lib.hid fun hb j hj => by
        by_cases e : j = i
        · rw [e]; exact hb
        · exact Hok.out j (by omega)
      obtain ⟨lvx, ivx, hux, _, _⟩ := hmv1.open
      obtain ⟨x0, x1, x2, x3, x4, x5, hu6, s0, s1, s2, s3, s4, s5⟩ := hsix1
      rw [hux] at hu6
      injection hu6 with hu6
      injection hu6 with hu6
      injection hu6 with h0 hu6
      injection hu6 with h1 hu6
      injection hu6 with h2 hu6
      injection hu6 with h3 hu6
      injection hu6 with h4 hu6
      injection hu6 with h5 _
      subst h0 h1 h2 h3 h4 h5 hux
      have Hs1 := Lib.hid s1
      have Hab := Lib.hid (show ((ad.add (i * 6)).block) < wr.heap.size from by rw [add_block]; exact Nat.lt_of_lt_of_le hab Hbr.out.size)
      clear hT0 htm hmem hsix hmv hmv1 hab Hok
      generalize m.i.getD i default = x at *
      rcases hb : ok k x with _ | _
      · have HR1 : Hid (R = -1) := Lib.hid (by rw [← HR.out]; unfold sumsI; rw [Hmiss.out hb]; rfl)
        rw [hb] at Hcall
        obtain rfl := HR1.out
        clear hb
        go_wp2_with fail
        refine (Hcall.out).mono ?_
        rintro e w1 ⟨rfl, hb1⟩
        have Hb1 := Lib.hid (below_next Hbr.out (Nat.le_refl _) hb1)
        clear hb1
        go_wp2
        go_ret
        exact ⟨rfl, Hb1.out⟩
      · have Hb := Lib.hid hb
        rw [hb] at Hcall
        clear hb
        go_wp2_with fail
        refine (Hcall.out).mono ?_
        rintro e w1 ⟨rfl, hb1⟩
        have Hb1 := Lib.hid (below_next Hbr.out (Nat.le_refl _) hb1)
        have Hblk1 := Lib.hid (Hblkr.out.below hb1 Hblkr.out.lt)
        have g5' := Hblk1.out.cell 5
        have s1' := (hb1.cell (p := ⟨(ad.add (i * 6)).block, (ad.add (i * 6)).off + 1, none⟩) Hab.out).trans Hs1.out
        clear hb1 s0 s1 s2 s3 s4 s5 g5
        go_wp2
        go_roundw
        case rel => exact ⟨i + 1, by rw [Htm.out, wrap_w], by go_num, by omega, Hok1.out Hb.out, Hblk1.out, Hb1.out⟩
        case measure => simp [intOf]; omega
    · have hie : i = m.i.length := by omega
      have Hie := Lib.hid hie
      have HR1 : Hid (R = T0) := Lib.hid (by rw [← HR.out, ← HT0.out]; unfold sumsI; rw [if_pos (all_hits (by rw [← Hie.out]; exact Hok.out)), Hie.out, List.take_length])
      obtain rfl := HR1.out
      obtain rfl := hie
      clear hT0
      go_wp2
      go_ret
      exact ⟨rfl, Hbr.out⟩

set_option maxHeartbeats 8000000 in
set_option maxRecDepth 100000 in
theorem rmay_out (m : Mat) (v : Value) (w : World) (hv : MatV w w.heap.size v m) (h : m.n < 0 ∨ 64 < m.n ∨ m.a < 0 ∨ 64 < m.a) : Calls Tryz.prog 32 #[v] w (Says w false) := by
  obtain ⟨lv, iv, rfl, _, _⟩ := hv.open
  have Hb0 := Lib.hid (boxed_below w m lv iv)
  have gb := (boxed_blk w m lv iv).cell
  have g1 := gb 1
  have g2 := gb 2
  unfold boxed at *
  clear hv gb
  by_cases a3 : m.n < 0
  · go_enter Tryz.func32, Tryz.ntmps32
    go_wp2
    go_ret
    exact ⟨rfl, Hb0.out⟩
  by_cases a4 : 64 < m.n
  · go_enter Tryz.func32, Tryz.ntmps32
    go_wp2
    go_ret
    exact ⟨rfl, Hb0.out⟩
  by_cases a5 : m.a < 0
  · go_enter Tryz.func32, Tryz.ntmps32
    go_wp2
    go_ret
    exact ⟨rfl, Hb0.out⟩
  have a6 : 64 < m.a := by omega
  clear h
  go_enter Tryz.func32, Tryz.ntmps32
  go_wp2
  go_ret
  exact ⟨rfl, Hb0.out⟩

set_option maxHeartbeats 8000000 in
set_option maxRecDepth 100000 in
theorem rmay_plain (m : Mat) (v : Value) (w : World) (hv : MatV w w.heap.size v m) (hs : Sml m) (h2 : 0 ≤ m.n ∧ m.n ≤ 64 ∧ 0 ≤ m.a ∧ m.a ≤ 64) (hn : ¬ nest m.t) : Calls Tryz.prog 32 #[v] w (Says w (decide (bad m = 0))) := by
  obtain ⟨lv, iv, rfl, hl, ⟨Ai, ci, rfl, hci, hki⟩⟩ := hv.open
  have Hv := Lib.hid (hv.up (boxed_below w m lv (.slice Ai m.i.length ci)))
  have Hb0 := Lib.hid (boxed_below w m lv (.slice Ai m.i.length ci))
  have Hblk := Lib.hid (boxed_blk w m lv (.slice Ai m.i.length ci))
  have Hl := Lib.hid (hl.up Hb0.out)
  have gb := Hblk.out.cell
  have g0 := gb 0
  have g1 := gb 1
  have g2 := gb 2
  have g3 := gb 3
  have g4 := gb 4
  have g5 := gb 5
  have a3 : ¬ m.n < 0 := by omega
  have a4 : ¬ 64 < m.n := by omega
  have a5 : ¬ m.a < 0 := by omega
  have a6 : ¬ 64 < m.a := by omega
  unfold boxed at *
  have Hn := Lib.hid hn
  have Hp := Lib.hid (fun (v : Value) (W : World) (hv : MatV W W.heap.size v m) => rplain_any m v W hv hs h2 hn)
  generalize decide (bad m = 0) = D at *
  clear hv hn hl hci hki gb hs h2
  go_enter Tryz.func32, Tryz.ntmps32
  go_wp2_with fail
  refine (nests_any m.t _).mono ?_
  rintro e w1 ⟨rfl, hb1⟩
  rw [decide_eq_false Hn.out]
  have Hb1 := Lib.hid (below_next Hb0.out (Nat.le_refl _) hb1)
  have Hv1 := Lib.hid (Hv.out.up hb1)
  have Hl1 := Lib.hid (Hl.out.up hb1)
  have Hblk1 := Lib.hid (Hblk.out.below hb1 Hblk.out.lt)
  have k1 := Hblk1.out.cell
  have d0 := k1 0
  have d1 := k1 1
  have d2 := k1 2
  have d3 := k1 3
  have d4 := k1 4
  have d5 := k1 5
  clear k1 hb1 g0 g1 g2 g3 g4 g5 a3 a4 a5 a6 Hb0 Hv Hl Hblk
  go_wp2_with fail
  refine (Hp.out _ _ Hv1.out).mono ?_
  rintro e w2 ⟨rfl, hb2⟩
  have Hb2 := Lib.hid (below_next Hb1.out (Nat.le_refl _) hb2)
  clear hb2 d0 d1 d2 d3 d4 d5
  go_wp2
  go_ret
  exact ⟨rfl, Hb2.out⟩

set_option maxHeartbeats 8000000 in
set_option maxRecDepth 100000 in
theorem rmay_h1 (m : Mat) (v : Value) (w : World) (hv : MatV w w.heap.size v m) (_hs : Sml m) (h2 : 0 ≤ m.n ∧ m.n ≤ 64 ∧ 0 ≤ m.a ∧ m.a ≤ 64) (hn : nest m.t) (q1 : m.b ≠ 0) : Calls Tryz.prog 32 #[v] w (Says w false) := by
  obtain ⟨lv, iv, rfl, hl, ⟨Ai, ci, rfl, hci, hki⟩⟩ := hv.open
  have Hv := Lib.hid (hv.up (boxed_below w m lv (.slice Ai m.i.length ci)))
  have Hb0 := Lib.hid (boxed_below w m lv (.slice Ai m.i.length ci))
  have Hblk := Lib.hid (boxed_blk w m lv (.slice Ai m.i.length ci))
  have Hl := Lib.hid (hl.up Hb0.out)
  have gb := Hblk.out.cell
  have g0 := gb 0
  have g1 := gb 1
  have g2 := gb 2
  have g3 := gb 3
  have g4 := gb 4
  have g5 := gb 5
  have a3 : ¬ m.n < 0 := by omega
  have a4 : ¬ 64 < m.n := by omega
  have a5 : ¬ m.a < 0 := by omega
  have a6 : ¬ 64 < m.a := by omega
  unfold boxed at *
  have Hn := Lib.hid hn
  clear hv hn hl hci hki gb h2
  have e1 : (m.b != 0) = true := by simpa using q1
  clear q1
  go_enter Tryz.func32, Tryz.ntmps32
  go_wp2_with fail
  refine (nests_any m.t _).mono ?_
  rintro e w1 ⟨rfl, hb1⟩
  rw [decide_eq_true Hn.out]
  have Hb1 := Lib.hid (below_next Hb0.out (Nat.le_refl _) hb1)
  have Hv1 := Lib.hid (Hv.out.up hb1)
  have Hl1 := Lib.hid (Hl.out.up hb1)
  have Hblk1 := Lib.hid (Hblk.out.below hb1 Hblk.out.lt)
  have k1 := Hblk1.out.cell
  have d0 := k1 0
  have d1 := k1 1
  have d2 := k1 2
  have d3 := k1 3
  have d4 := k1 4
  have d5 := k1 5
  clear k1 hb1 g0 g1 g2 g3 g4 g5 a3 a4 a5 a6 Hb0 Hv Hl Hblk
  go_wp2
  go_ret
  exact ⟨rfl, Hb1.out⟩

set_option maxHeartbeats 8000000 in
set_option maxRecDepth 100000 in
theorem rmay_h2 (m : Mat) (v : Value) (w : World) (hv : MatV w w.heap.size v m) (_hs : Sml m) (h2 : 0 ≤ m.n ∧ m.n ≤ 64 ∧ 0 ≤ m.a ∧ m.a ≤ 64) (hn : nest m.t) (q1 : m.b = 0) (q2 : m.a ≠ 0) (q3 : m.t ≠ 7) : Calls Tryz.prog 32 #[v] w (Says w false) := by
  obtain ⟨lv, iv, rfl, hl, ⟨Ai, ci, rfl, hci, hki⟩⟩ := hv.open
  have Hv := Lib.hid (hv.up (boxed_below w m lv (.slice Ai m.i.length ci)))
  have Hb0 := Lib.hid (boxed_below w m lv (.slice Ai m.i.length ci))
  have Hblk := Lib.hid (boxed_blk w m lv (.slice Ai m.i.length ci))
  have Hl := Lib.hid (hl.up Hb0.out)
  have gb := Hblk.out.cell
  have g0 := gb 0
  have g1 := gb 1
  have g2 := gb 2
  have g3 := gb 3
  have g4 := gb 4
  have g5 := gb 5
  have a3 : ¬ m.n < 0 := by omega
  have a4 : ¬ 64 < m.n := by omega
  have a5 : ¬ m.a < 0 := by omega
  have a6 : ¬ 64 < m.a := by omega
  unfold boxed at *
  have Hn := Lib.hid hn
  clear hv hn hl hci hki gb h2
  have e1 : (m.b != 0) = false := by simpa using q1
  clear q1
  have e2 : (m.a != 0) = true := by simpa using q2
  have e3 : (m.t != 7) = true := by simpa using q3
  clear q2 q3
  go_enter Tryz.func32, Tryz.ntmps32
  go_wp2_with fail
  refine (nests_any m.t _).mono ?_
  rintro e w1 ⟨rfl, hb1⟩
  rw [decide_eq_true Hn.out]
  have Hb1 := Lib.hid (below_next Hb0.out (Nat.le_refl _) hb1)
  have Hv1 := Lib.hid (Hv.out.up hb1)
  have Hl1 := Lib.hid (Hl.out.up hb1)
  have Hblk1 := Lib.hid (Hblk.out.below hb1 Hblk.out.lt)
  have k1 := Hblk1.out.cell
  have d0 := k1 0
  have d1 := k1 1
  have d2 := k1 2
  have d3 := k1 3
  have d4 := k1 4
  have d5 := k1 5
  clear k1 hb1 g0 g1 g2 g3 g4 g5 a3 a4 a5 a6 Hb0 Hv Hl Hblk
  go_wp2
  go_ret
  exact ⟨rfl, Hb1.out⟩

set_option maxHeartbeats 8000000 in
set_option maxRecDepth 100000 in
theorem rmay_h3a (m : Mat) (v : Value) (w : World) (hv : MatV w w.heap.size v m) (_hs : Sml m) (h2 : 0 ≤ m.n ∧ m.n ≤ 64 ∧ 0 ≤ m.a ∧ m.a ≤ 64) (hn : nest m.t) (q1 : m.b = 0) (q2 : m.a = 0) (q4 : m.i.length < 1) : Calls Tryz.prog 32 #[v] w (Says w false) := by
  obtain ⟨lv, iv, rfl, hl, ⟨Ai, ci, rfl, hci, hki⟩⟩ := hv.open
  have Hv := Lib.hid (hv.up (boxed_below w m lv (.slice Ai m.i.length ci)))
  have Hb0 := Lib.hid (boxed_below w m lv (.slice Ai m.i.length ci))
  have Hblk := Lib.hid (boxed_blk w m lv (.slice Ai m.i.length ci))
  have Hl := Lib.hid (hl.up Hb0.out)
  have gb := Hblk.out.cell
  have g0 := gb 0
  have g1 := gb 1
  have g2 := gb 2
  have g3 := gb 3
  have g4 := gb 4
  have g5 := gb 5
  have a3 : ¬ m.n < 0 := by omega
  have a4 : ¬ 64 < m.n := by omega
  have a5 : ¬ m.a < 0 := by omega
  have a6 : ¬ 64 < m.a := by omega
  unfold boxed at *
  have Hn := Lib.hid hn
  clear hv hn hl hci hki gb h2
  have e1 : (m.b != 0) = false := by simpa using q1
  clear q1
  have e2 : (m.a != 0) = false := by simpa using q2
  clear q2
  have e4 : (m.i.length : Int) < 1 := by omega
  clear q4
  go_enter Tryz.func32, Tryz.ntmps32
  go_wp2_with fail
  refine (nests_any m.t _).mono ?_
  rintro e w1 ⟨rfl, hb1⟩
  rw [decide_eq_true Hn.out]
  have Hb1 := Lib.hid (below_next Hb0.out (Nat.le_refl _) hb1)
  have Hv1 := Lib.hid (Hv.out.up hb1)
  have Hl1 := Lib.hid (Hl.out.up hb1)
  have Hblk1 := Lib.hid (Hblk.out.below hb1 Hblk.out.lt)
  have k1 := Hblk1.out.cell
  have d0 := k1 0
  have d1 := k1 1
  have d2 := k1 2
  have d3 := k1 3
  have d4 := k1 4
  have d5 := k1 5
  clear k1 hb1 g0 g1 g2 g3 g4 g5 a3 a4 a5 a6 Hb0 Hv Hl Hblk
  go_wp2
  go_ret
  exact ⟨rfl, Hb1.out⟩

set_option maxHeartbeats 8000000 in
set_option maxRecDepth 100000 in
theorem rmay_h3b (m : Mat) (v : Value) (w : World) (hv : MatV w w.heap.size v m) (_hs : Sml m) (h2 : 0 ≤ m.n ∧ m.n ≤ 64 ∧ 0 ≤ m.a ∧ m.a ≤ 64) (hn : nest m.t) (q1 : m.b = 0) (q2 : m.a ≠ 0) (q3 : m.t = 7) (q4 : m.i.length < 1) : Calls Tryz.prog 32 #[v] w (Says w false) := by
  obtain ⟨lv, iv, rfl, hl, ⟨Ai, ci, rfl, hci, hki⟩⟩ := hv.open
  have Hv := Lib.hid (hv.up (boxed_below w m lv (.slice Ai m.i.length ci)))
  have Hb0 := Lib.hid (boxed_below w m lv (.slice Ai m.i.length ci))
  have Hblk := Lib.hid (boxed_blk w m lv (.slice Ai m.i.length ci))
  have Hl := Lib.hid (hl.up Hb0.out)
  have gb := Hblk.out.cell
  have g0 := gb 0
  have g1 := gb 1
  have g2 := gb 2
  have g3 := gb 3
  have g4 := gb 4
  have g5 := gb 5
  have a3 : ¬ m.n < 0 := by omega
  have a4 : ¬ 64 < m.n := by omega
  have a5 : ¬ m.a < 0 := by omega
  have a6 : ¬ 64 < m.a := by omega
  unfold boxed at *
  have Hn := Lib.hid hn
  clear hv hn hl hci hki gb h2
  have e1 : (m.b != 0) = false := by simpa using q1
  clear q1
  have e2 : (m.a != 0) = true := by simpa using q2
  have e3 : (m.t != 7) = false := by simpa using q3
  clear q2 q3
  have e4 : (m.i.length : Int) < 1 := by omega
  clear q4
  go_enter Tryz.func32, Tryz.ntmps32
  go_wp2_with fail
  refine (nests_any m.t _).mono ?_
  rintro e w1 ⟨rfl, hb1⟩
  rw [decide_eq_true Hn.out]
  have Hb1 := Lib.hid (below_next Hb0.out (Nat.le_refl _) hb1)
  have Hv1 := Lib.hid (Hv.out.up hb1)
  have Hl1 := Lib.hid (Hl.out.up hb1)
  have Hblk1 := Lib.hid (Hblk.out.below hb1 Hblk.out.lt)
  have k1 := Hblk1.out.cell
  have d0 := k1 0
  have d1 := k1 1
  have d2 := k1 2
  have d3 := k1 3
  have d4 := k1 4
  have d5 := k1 5
  clear k1 hb1 g0 g1 g2 g3 g4 g5 a3 a4 a5 a6 Hb0 Hv Hl Hblk
  go_wp2
  go_ret
  exact ⟨rfl, Hb1.out⟩

set_option maxHeartbeats 8000000 in
set_option maxRecDepth 100000 in
theorem rmay_h4a (m : Mat) (v : Value) (w : World) (hv : MatV w w.heap.size v m) (_hs : Sml m) (h2 : 0 ≤ m.n ∧ m.n ≤ 64 ∧ 0 ≤ m.a ∧ m.a ≤ 64) (hn : nest m.t) (q1 : m.b = 0) (q2 : m.a = 0) (q4 : 8 < m.i.length) : Calls Tryz.prog 32 #[v] w (Says w false) := by
  obtain ⟨lv, iv, rfl, hl, ⟨Ai, ci, rfl, hci, hki⟩⟩ := hv.open
  have Hv := Lib.hid (hv.up (boxed_below w m lv (.slice Ai m.i.length ci)))
  have Hb0 := Lib.hid (boxed_below w m lv (.slice Ai m.i.length ci))
  have Hblk := Lib.hid (boxed_blk w m lv (.slice Ai m.i.length ci))
  have Hl := Lib.hid (hl.up Hb0.out)
  have gb := Hblk.out.cell
  have g0 := gb 0
  have g1 := gb 1
  have g2 := gb 2
  have g3 := gb 3
  have g4 := gb 4
  have g5 := gb 5
  have a3 : ¬ m.n < 0 := by omega
  have a4 : ¬ 64 < m.n := by omega
  have a5 : ¬ m.a < 0 := by omega
  have a6 : ¬ 64 < m.a := by omega
  unfold boxed at *
  have Hn := Lib.hid hn
  clear hv hn hl hci hki gb h2
  have e1 : (m.b != 0) = false := by simpa using q1
  clear q1
  have e2 : (m.a != 0) = false := by simpa using q2
  clear q2
  have e4 : ¬ (m.i.length : Int) < 1 := by omega
  have e5 : (8 : Int) < (m.i.length : Int) := by omega
  clear q4
  go_enter Tryz.func32, Tryz.ntmps32
  go_wp2_with fail
  refine (nests_any m.t _).mono ?_
  rintro e w1 ⟨rfl, hb1⟩
  rw [decide_eq_true Hn.out]
  have Hb1 := Lib.hid (below_next Hb0.out (Nat.le_refl _) hb1)
  have Hv1 := Lib.hid (Hv.out.up hb1)
  have Hl1 := Lib.hid (Hl.out.up hb1)
  have Hblk1 := Lib.hid (Hblk.out.below hb1 Hblk.out.lt)
  have k1 := Hblk1.out.cell
  have d0 := k1 0
  have d1 := k1 1
  have d2 := k1 2
  have d3 := k1 3
  have d4 := k1 4
  have d5 := k1 5
  clear k1 hb1 g0 g1 g2 g3 g4 g5 a3 a4 a5 a6 Hb0 Hv Hl Hblk
  go_wp2
  go_ret
  exact ⟨rfl, Hb1.out⟩

set_option maxHeartbeats 8000000 in
set_option maxRecDepth 100000 in
theorem rmay_h4b (m : Mat) (v : Value) (w : World) (hv : MatV w w.heap.size v m) (_hs : Sml m) (h2 : 0 ≤ m.n ∧ m.n ≤ 64 ∧ 0 ≤ m.a ∧ m.a ≤ 64) (hn : nest m.t) (q1 : m.b = 0) (q2 : m.a ≠ 0) (q3 : m.t = 7) (q4 : 8 < m.i.length) : Calls Tryz.prog 32 #[v] w (Says w false) := by
  obtain ⟨lv, iv, rfl, hl, ⟨Ai, ci, rfl, hci, hki⟩⟩ := hv.open
  have Hv := Lib.hid (hv.up (boxed_below w m lv (.slice Ai m.i.length ci)))
  have Hb0 := Lib.hid (boxed_below w m lv (.slice Ai m.i.length ci))
  have Hblk := Lib.hid (boxed_blk w m lv (.slice Ai m.i.length ci))
  have Hl := Lib.hid (hl.up Hb0.out)
  have gb := Hblk.out.cell
  have g0 := gb 0
  have g1 := gb 1
  have g2 := gb 2
  have g3 := gb 3
  have g4 := gb 4
  have g5 := gb 5
  have a3 : ¬ m.n < 0 := by omega
  have a4 : ¬ 64 < m.n := by omega
  have a5 : ¬ m.a < 0 := by omega
  have a6 : ¬ 64 < m.a := by omega
  unfold boxed at *
  have Hn := Lib.hid hn
  clear hv hn hl hci hki gb h2
  have e1 : (m.b != 0) = false := by simpa using q1
  clear q1
  have e2 : (m.a != 0) = true := by simpa using q2
  have e3 : (m.t != 7) = false := by simpa using q3
  clear q2 q3
  have e4 : ¬ (m.i.length : Int) < 1 := by omega
  have e5 : (8 : Int) < (m.i.length : Int) := by omega
  clear q4
  go_enter Tryz.func32, Tryz.ntmps32
  go_wp2_with fail
  refine (nests_any m.t _).mono ?_
  rintro e w1 ⟨rfl, hb1⟩
  rw [decide_eq_true Hn.out]
  have Hb1 := Lib.hid (below_next Hb0.out (Nat.le_refl _) hb1)
  have Hv1 := Lib.hid (Hv.out.up hb1)
  have Hl1 := Lib.hid (Hl.out.up hb1)
  have Hblk1 := Lib.hid (Hblk.out.below hb1 Hblk.out.lt)
  have k1 := Hblk1.out.cell
  have d0 := k1 0
  have d1 := k1 1
  have d2 := k1 2
  have d3 := k1 3
  have d4 := k1 4
  have d5 := k1 5
  clear k1 hb1 g0 g1 g2 g3 g4 g5 a3 a4 a5 a6 Hb0 Hv Hl Hblk
  go_wp2
  go_ret
  exact ⟨rfl, Hb1.out⟩

set_option maxHeartbeats 8000000 in
set_option maxRecDepth 100000 in
theorem rmay_h5a (m : Mat) (v : Value) (w : World) (hv : MatV w w.heap.size v m) (_hs : Sml m) (h2 : 0 ≤ m.n ∧ m.n ≤ 64 ∧ 0 ≤ m.a ∧ m.a ≤ 64) (hn : nest m.t) (q1 : m.b = 0) (q2 : m.a = 0) (q4 : 1 < m.i.length) (q5 : m.i.length ≤ 8) (q6 : m.t ≠ 9) : Calls Tryz.prog 32 #[v] w (Says w false) := by
  obtain ⟨lv, iv, rfl, hl, ⟨Ai, ci, rfl, hci, hki⟩⟩ := hv.open
  have Hv := Lib.hid (hv.up (boxed_below w m lv (.slice Ai m.i.length ci)))
  have Hb0 := Lib.hid (boxed_below w m lv (.slice Ai m.i.length ci))
  have Hblk := Lib.hid (boxed_blk w m lv (.slice Ai m.i.length ci))
  have Hl := Lib.hid (hl.up Hb0.out)
  have gb := Hblk.out.cell
  have g0 := gb 0
  have g1 := gb 1
  have g2 := gb 2
  have g3 := gb 3
  have g4 := gb 4
  have g5 := gb 5
  have a3 : ¬ m.n < 0 := by omega
  have a4 : ¬ 64 < m.n := by omega
  have a5 : ¬ m.a < 0 := by omega
  have a6 : ¬ 64 < m.a := by omega
  unfold boxed at *
  have Hn := Lib.hid hn
  clear hv hn hl hci hki gb h2
  have e1 : (m.b != 0) = false := by simpa using q1
  clear q1
  have e2 : (m.a != 0) = false := by simpa using q2
  clear q2
  have e4 : ¬ (m.i.length : Int) < 1 := by omega
  have e5 : ¬ (8 : Int) < (m.i.length : Int) := by omega
  have e6 : (1 : Int) < (m.i.length : Int) := by omega
  have e7 : (m.t != 9) = true := by simpa using q6
  clear q4 q5 q6
  go_enter Tryz.func32, Tryz.ntmps32
  go_wp2_with fail
  refine (nests_any m.t _).mono ?_
  rintro e w1 ⟨rfl, hb1⟩
  rw [decide_eq_true Hn.out]
  have Hb1 := Lib.hid (below_next Hb0.out (Nat.le_refl _) hb1)
  have Hv1 := Lib.hid (Hv.out.up hb1)
  have Hl1 := Lib.hid (Hl.out.up hb1)
  have Hblk1 := Lib.hid (Hblk.out.below hb1 Hblk.out.lt)
  have k1 := Hblk1.out.cell
  have d0 := k1 0
  have d1 := k1 1
  have d2 := k1 2
  have d3 := k1 3
  have d4 := k1 4
  have d5 := k1 5
  clear k1 hb1 g0 g1 g2 g3 g4 g5 a3 a4 a5 a6 Hb0 Hv Hl Hblk
  go_wp2
  go_ret
  exact ⟨rfl, Hb1.out⟩

set_option maxHeartbeats 8000000 in
set_option maxRecDepth 100000 in
theorem rmay_h5b (m : Mat) (v : Value) (w : World) (hv : MatV w w.heap.size v m) (_hs : Sml m) (h2 : 0 ≤ m.n ∧ m.n ≤ 64 ∧ 0 ≤ m.a ∧ m.a ≤ 64) (hn : nest m.t) (q1 : m.b = 0) (q2 : m.a ≠ 0) (q3 : m.t = 7) (q4 : 1 < m.i.length) (q5 : m.i.length ≤ 8) (q6 : m.t ≠ 9) : Calls Tryz.prog 32 #[v] w (Says w false) := by
  obtain ⟨lv, iv, rfl, hl, ⟨Ai, ci, rfl, hci, hki⟩⟩ := hv.open
  have Hv := Lib.hid (hv.up (boxed_below w m lv (.slice Ai m.i.length ci)))
  have Hb0 := Lib.hid (boxed_below w m lv (.slice Ai m.i.length ci))
  have Hblk := Lib.hid (boxed_blk w m lv (.slice Ai m.i.length ci))
  have Hl := Lib.hid (hl.up Hb0.out)
  have gb := Hblk.out.cell
  have g0 := gb 0
  have g1 := gb 1
  have g2 := gb 2
  have g3 := gb 3
  have g4 := gb 4
  have g5 := gb 5
  have a3 : ¬ m.n < 0 := by omega
  have a4 : ¬ 64 < m.n := by omega
  have a5 : ¬ m.a < 0 := by omega
  have a6 : ¬ 64 < m.a := by omega
  unfold boxed at *
  have Hn := Lib.hid hn
  clear hv hn hl hci hki gb h2
  have e1 : (m.b != 0) = false := by simpa using q1
  clear q1
  have e2 : (m.a != 0) = true := by simpa using q2
  have e3 : (m.t != 7) = false := by simpa using q3
  clear q2 q3
  have e4 : ¬ (m.i.length : Int) < 1 := by omega
  have e5 : ¬ (8 : Int) < (m.i.length : Int) := by omega
  have e6 : (1 : Int) < (m.i.length : Int) := by omega
  have e7 : (m.t != 9) = true := by simpa using q6
  clear q4 q5 q6
  go_enter Tryz.func32, Tryz.ntmps32
  go_wp2_with fail
  refine (nests_any m.t _).mono ?_
  rintro e w1 ⟨rfl, hb1⟩
  rw [decide_eq_true Hn.out]
  have Hb1 := Lib.hid (below_next Hb0.out (Nat.le_refl _) hb1)
  have Hv1 := Lib.hid (Hv.out.up hb1)
  have Hl1 := Lib.hid (Hl.out.up hb1)
  have Hblk1 := Lib.hid (Hblk.out.below hb1 Hblk.out.lt)
  have k1 := Hblk1.out.cell
  have d0 := k1 0
  have d1 := k1 1
  have d2 := k1 2
  have d3 := k1 3
  have d4 := k1 4
  have d5 := k1 5
  clear k1 hb1 g0 g1 g2 g3 g4 g5 a3 a4 a5 a6 Hb0 Hv Hl Hblk
  go_wp2
  go_ret
  exact ⟨rfl, Hb1.out⟩

theorem rmay_head (m : Mat) (v : Value) (w : World) (hv : MatV w w.heap.size v m) (hs : Sml m) (h2 : 0 ≤ m.n ∧ m.n ≤ 64 ∧ 0 ≤ m.a ∧ m.a ≤ 64) (hn : nest m.t) (h : headB m = false) : Calls Tryz.prog 32 #[v] w (Says w false) := by
  unfold headB at h
  by_cases q1 : m.b = 0
  · by_cases q2 : m.a = 0
    · by_cases q4 : m.i.length < 1
      · exact rmay_h3a m v w hv hs h2 hn q1 q2 q4
      by_cases q5 : 8 < m.i.length
      · exact rmay_h4a m v w hv hs h2 hn q1 q2 q5
      exact rmay_h5a m v w hv hs h2 hn q1 q2 (by simp [q1, q2] at h; omega) (by omega) (by simp [q1, q2] at h; omega)
    · by_cases q3 : m.t = 7
      · by_cases q4 : m.i.length < 1
        · exact rmay_h3b m v w hv hs h2 hn q1 q2 q3 q4
        by_cases q5 : 8 < m.i.length
        · exact rmay_h4b m v w hv hs h2 hn q1 q2 q3 q5
        exact rmay_h5b m v w hv hs h2 hn q1 q2 q3 (by simp [q1, q3] at h; omega) (by omega) (by omega)
      · exact rmay_h2 m v w hv hs h2 hn q1 q2 q3
  · exact rmay_h1 m v w hv hs h2 hn q1

set_option maxHeartbeats 8000000 in
set_option maxRecDepth 100000 in
theorem rmay_nega (m : Mat) (v : Value) (w : World) (hv : MatV w w.heap.size v m) (_hs : Sml m) (h2 : 0 ≤ m.n ∧ m.n ≤ 64 ∧ 0 ≤ m.a ∧ m.a ≤ 64) (hn : nest m.t) (S : Int) (Hsum : ∀ (v : Value) (W : World), MatV W W.heap.size v m → Calls Tryz.prog 43 #[v] W (Tells W S)) (q1 : m.b = 0) (q2 : m.a = 0) (q4 : m.i.length = 1) (q7 : S < 0) : Calls Tryz.prog 32 #[v] w (Says w false) := by
  have Hsum := Lib.hid Hsum
  obtain ⟨lv, iv, rfl, hl, ⟨Ai, ci, rfl, hci, hki⟩⟩ := hv.open
  obtain ⟨Al, cl, rfl, hcl, hkl⟩ := id hl
  have Hv := Lib.hid (hv.up (boxed_below w m (.slice Al m.l.length cl) (.slice Ai m.i.length ci)))
  have Hb0 := Lib.hid (boxed_below w m (.slice Al m.l.length cl) (.slice Ai m.i.length ci))
  have Hblk := Lib.hid (boxed_blk w m (.slice Al m.l.length cl) (.slice Ai m.i.length ci))
  have Hl := Lib.hid (hl.up Hb0.out)
  have gb := Hblk.out.cell
  have g0 := gb 0
  have g1 := gb 1
  have g2 := gb 2
  have g3 := gb 3
  have g4 := gb 4
  have g5 := gb 5
  have a3 : ¬ m.n < 0 := by omega
  have a4 : ¬ 64 < m.n := by omega
  have a5 : ¬ m.a < 0 := by omega
  have a6 : ¬ 64 < m.a := by omega
  unfold boxed at *
  have Hn := Lib.hid hn
  clear hv hn hci hki gb h2
  have e1 : (m.b != 0) = false := by simpa using q1
  clear q1
  have e2 : (m.a != 0) = false := by simpa using q2
  have e4 : ¬ (m.i.length : Int) < 1 := by omega
  have e5 : ¬ (8 : Int) < (m.i.length : Int) := by omega
  have e6 : ¬ (1 : Int) < (m.i.length : Int) := by omega
  clear q2 q4
  go_enter Tryz.func32, Tryz.ntmps32
  go_wp2_with fail
  refine (nests_any m.t _).mono ?_
  rintro e w1 ⟨rfl, hb1⟩
  rw [decide_eq_true Hn.out]
  have Hb1 := Lib.hid (below_next Hb0.out (Nat.le_refl _) hb1)
  have Hv1 := Lib.hid (Hv.out.up hb1)
  have Hl1 := Lib.hid (Hl.out.up hb1)
  have Hblk1 := Lib.hid (Hblk.out.below hb1 Hblk.out.lt)
  have k1 := Hblk1.out.cell
  have d0 := k1 0
  have d1 := k1 1
  have d2 := k1 2
  have d3 := k1 3
  have d4 := k1 4
  have d5 := k1 5
  clear k1 hb1 g0 g1 g2 g3 g4 g5 a3 a4 a5 a6 Hb0 Hv Hl Hblk
  go_wp2_with fail
  refine (Hsum.out _ _ Hv1.out).mono ?_
  rintro e w2 ⟨rfl, hb2⟩
  have Hb2 := Lib.hid (below_next Hb1.out (Nat.le_refl _) hb2)
  have Hl2 := Lib.hid (Hl1.out.up hb2)
  have Hblk2 := Lib.hid (Hblk1.out.below hb2 Hblk1.out.lt)
  clear hb2 d0 d1 d2 d3 d4 d5 e1 e2 e4 e5 e6
  have k2 := Hblk2.out.cell
  have d0 := k2 0
  have d1 := k2 1
  have d4 := k2 4
  clear k2
  go_wp2
  go_ret
  exact ⟨rfl, Hb2.out⟩

set_option maxHeartbeats 8000000 in
set_option maxRecDepth 100000 in
theorem rmay_svna (m : Mat) (v : Value) (w : World) (hv : MatV w w.heap.size v m) (_hs : Sml m) (h2 : 0 ≤ m.n ∧ m.n ≤ 64 ∧ 0 ≤ m.a ∧ m.a ≤ 64) (hn : nest m.t) (S : Int) (Hsum : ∀ (v : Value) (W : World), MatV W W.heap.size v m → Calls Tryz.prog 43 #[v] W (Tells W S)) (q1 : m.b = 0) (q2 : m.a = 0) (q4 : m.i.length = 1) (q7 : ¬ S < 0) (q8 : 7 ≤ m.t) : Calls Tryz.prog 32 #[v] w (Says w (decide (m.l.length = 0) && decide (m.n = S))) := by
  have Hsum := Lib.hid Hsum
  obtain ⟨lv, iv, rfl, hl, ⟨Ai, ci, rfl, hci, hki⟩⟩ := hv.open
  obtain ⟨Al, cl, rfl, hcl, hkl⟩ := id hl
  have Hv := Lib.hid (hv.up (boxed_below w m (.slice Al m.l.length cl) (.slice Ai m.i.length ci)))
  have Hb0 := Lib.hid (boxed_below w m (.slice Al m.l.length cl) (.slice Ai m.i.length ci))
  have Hblk := Lib.hid (boxed_blk w m (.slice Al m.l.length cl) (.slice Ai m.i.length ci))
  have Hl := Lib.hid (hl.up Hb0.out)
  have gb := Hblk.out.cell
  have g0 := gb 0
  have g1 := gb 1
  have g2 := gb 2
  have g3 := gb 3
  have g4 := gb 4
  have g5 := gb 5
  have a3 : ¬ m.n < 0 := by omega
  have a4 : ¬ 64 < m.n := by omega
  have a5 : ¬ m.a < 0 := by omega
  have a6 : ¬ 64 < m.a := by omega
  unfold boxed at *
  have Hn := Lib.hid hn
  obtain ⟨L0, hL0⟩ : ∃ L0, decide (m.l.length = 0) = L0 := ⟨_, rfl⟩
  obtain ⟨N0, hN0⟩ : ∃ N0, decide (m.n = S) = N0 := ⟨_, rfl⟩
  rw [hL0, hN0]
  have f0 : ((m.l.length : Int) == 0) = L0 := by rw [← hL0, Bool.eq_iff_iff, beq_iff_eq, decide_eq_true_iff]; omega
  have f1 : (m.n == S) = N0 := by rw [← hN0, Bool.eq_iff_iff, beq_iff_eq, decide_eq_true_iff]
  clear hL0 hN0
  clear hv hn hci hki gb h2
  have e1 : (m.b != 0) = false := by simpa using q1
  clear q1
  have e2 : (m.a != 0) = false := by simpa using q2
  have e4 : ¬ (m.i.length : Int) < 1 := by omega
  have e5 : ¬ (8 : Int) < (m.i.length : Int) := by omega
  have e6 : ¬ (1 : Int) < (m.i.length : Int) := by omega
  clear q2 q4
  go_enter Tryz.func32, Tryz.ntmps32
  go_wp2_with fail
  refine (nests_any m.t _).mono ?_
  rintro e w1 ⟨rfl, hb1⟩
  rw [decide_eq_true Hn.out]
  have Hb1 := Lib.hid (below_next Hb0.out (Nat.le_refl _) hb1)
  have Hv1 := Lib.hid (Hv.out.up hb1)
  have Hl1 := Lib.hid (Hl.out.up hb1)
  have Hblk1 := Lib.hid (Hblk.out.below hb1 Hblk.out.lt)
  have k1 := Hblk1.out.cell
  have d0 := k1 0
  have d1 := k1 1
  have d2 := k1 2
  have d3 := k1 3
  have d4 := k1 4
  have d5 := k1 5
  clear k1 hb1 g0 g1 g2 g3 g4 g5 a3 a4 a5 a6 Hb0 Hv Hl Hblk
  go_wp2_with fail
  refine (Hsum.out _ _ Hv1.out).mono ?_
  rintro e w2 ⟨rfl, hb2⟩
  have Hb2 := Lib.hid (below_next Hb1.out (Nat.le_refl _) hb2)
  have Hl2 := Lib.hid (Hl1.out.up hb2)
  have Hblk2 := Lib.hid (Hblk1.out.below hb2 Hblk1.out.lt)
  clear hb2 d0 d1 d2 d3 d4 d5 e1 e2 e4 e5 e6
  have k2 := Hblk2.out.cell
  have d0 := k2 0
  have d1 := k2 1
  have d4 := k2 4
  clear k2
  cases L0
  · go_wp2
    go_ret
    exact ⟨rfl, Hb2.out⟩
  · go_wp2
    go_ret
    exact ⟨by rw [Bool.true_and, ← f1]; rfl, Hb2.out⟩

set_option maxHeartbeats 8000000 in
set_option maxRecDepth 100000 in
theorem rmay_negb (m : Mat) (v : Value) (w : World) (hv : MatV w w.heap.size v m) (_hs : Sml m) (h2 : 0 ≤ m.n ∧ m.n ≤ 64 ∧ 0 ≤ m.a ∧ m.a ≤ 64) (hn : nest m.t) (S : Int) (Hsum : ∀ (v : Value) (W : World), MatV W W.heap.size v m → Calls Tryz.prog 43 #[v] W (Tells W S)) (q1 : m.b = 0) (q2 : m.a ≠ 0) (q3 : m.t = 7) (q4 : m.i.length = 1) (q7 : S < 0) : Calls Tryz.prog 32 #[v] w (Says w false) := by
  have Hsum := Lib.hid Hsum
  obtain ⟨lv, iv, rfl, hl, ⟨Ai, ci, rfl, hci, hki⟩⟩ := hv.open
  obtain ⟨Al, cl, rfl, hcl, hkl⟩ := id hl
  have Hv := Lib.hid (hv.up (boxed_below w m (.slice Al m.l.length cl) (.slice Ai m.i.length ci)))
  have Hb0 := Lib.hid (boxed_below w m (.slice Al m.l.length cl) (.slice Ai m.i.length ci))
  have Hblk := Lib.hid (boxed_blk w m (.slice Al m.l.length cl) (.slice Ai m.i.length ci))
  have Hl := Lib.hid (hl.up Hb0.out)
  have gb := Hblk.out.cell
  have g0 := gb 0
  have g1 := gb 1
  have g2 := gb 2
  have g3 := gb 3
  have g4 := gb 4
  have g5 := gb 5
  have a3 : ¬ m.n < 0 := by omega
  have a4 : ¬ 64 < m.n := by omega
  have a5 : ¬ m.a < 0 := by omega
  have a6 : ¬ 64 < m.a := by omega
  unfold boxed at *
  have Hn := Lib.hid hn
  clear hv hn hci hki gb h2
  have e1 : (m.b != 0) = false := by simpa using q1
  clear q1
  have e2 : (m.a != 0) = true := by simpa using q2
  have e3 : (m.t != 7) = false := by simpa using q3
  have e4 : ¬ (m.i.length : Int) < 1 := by omega
  have e5 : ¬ (8 : Int) < (m.i.length : Int) := by omega
  have e6 : ¬ (1 : Int) < (m.i.length : Int) := by omega
  clear q2 q3 q4
  go_enter Tryz.func32, Tryz.ntmps32
  go_wp2_with fail
  refine (nests_any m.t _).mono ?_
  rintro e w1 ⟨rfl, hb1⟩
  rw [decide_eq_true Hn.out]
  have Hb1 := Lib.hid (below_next Hb0.out (Nat.le_refl _) hb1)
  have Hv1 := Lib.hid (Hv.out.up hb1)
  have Hl1 := Lib.hid (Hl.out.up hb1)
  have Hblk1 := Lib.hid (Hblk.out.below hb1 Hblk.out.lt)
  have k1 := Hblk1.out.cell
  have d0 := k1 0
  have d1 := k1 1
  have d2 := k1 2
  have d3 := k1 3
  have d4 := k1 4
  have d5 := k1 5
  clear k1 hb1 g0 g1 g2 g3 g4 g5 a3 a4 a5 a6 Hb0 Hv Hl Hblk
  go_wp2_with fail
  refine (Hsum.out _ _ Hv1.out).mono ?_
  rintro e w2 ⟨rfl, hb2⟩
  have Hb2 := Lib.hid (below_next Hb1.out (Nat.le_refl _) hb2)
  have Hl2 := Lib.hid (Hl1.out.up hb2)
  have Hblk2 := Lib.hid (Hblk1.out.below hb2 Hblk1.out.lt)
  clear hb2 d0 d1 d2 d3 d4 d5 e1 e2 e4 e5 e6
  have k2 := Hblk2.out.cell
  have d0 := k2 0
  have d1 := k2 1
  have d4 := k2 4
  clear k2
  go_wp2
  go_ret
  exact ⟨rfl, Hb2.out⟩

set_option maxHeartbeats 8000000 in
set_option maxRecDepth 100000 in
theorem rmay_svnb (m : Mat) (v : Value) (w : World) (hv : MatV w w.heap.size v m) (_hs : Sml m) (h2 : 0 ≤ m.n ∧ m.n ≤ 64 ∧ 0 ≤ m.a ∧ m.a ≤ 64) (hn : nest m.t) (S : Int) (Hsum : ∀ (v : Value) (W : World), MatV W W.heap.size v m → Calls Tryz.prog 43 #[v] W (Tells W S)) (q1 : m.b = 0) (q2 : m.a ≠ 0) (q3 : m.t = 7) (q4 : m.i.length = 1) (q7 : ¬ S < 0) (q8 : 7 ≤ m.t) : Calls Tryz.prog 32 #[v] w (Says w (decide (m.l.length = 0) && decide (m.n = S))) := by
  have Hsum := Lib.hid Hsum
  obtain ⟨lv, iv, rfl, hl, ⟨Ai, ci, rfl, hci, hki⟩⟩ := hv.open
  obtain ⟨Al, cl, rfl, hcl, hkl⟩ := id hl
  have Hv := Lib.hid (hv.up (boxed_below w m (.slice Al m.l.length cl) (.slice Ai m.i.length ci)))
  have Hb0 := Lib.hid (boxed_below w m (.slice Al m.l.length cl) (.slice Ai m.i.length ci))
  have Hblk := Lib.hid (boxed_blk w m (.slice Al m.l.length cl) (.slice Ai m.i.length ci))
  have Hl := Lib.hid (hl.up Hb0.out)
  have gb := Hblk.out.cell
  have g0 := gb 0
  have g1 := gb 1
  have g2 := gb 2
  have g3 := gb 3
  have g4 := gb 4
  have g5 := gb 5
  have a3 : ¬ m.n < 0 := by omega
  have a4 : ¬ 64 < m.n := by omega
  have a5 : ¬ m.a < 0 := by omega
  have a6 : ¬ 64 < m.a := by omega
  unfold boxed at *
  have Hn := Lib.hid hn
  obtain ⟨L0, hL0⟩ : ∃ L0, decide (m.l.length = 0) = L0 := ⟨_, rfl⟩
  obtain ⟨N0, hN0⟩ : ∃ N0, decide (m.n = S) = N0 := ⟨_, rfl⟩
  rw [hL0, hN0]
  have f0 : ((m.l.length : Int) == 0) = L0 := by rw [← hL0, Bool.eq_iff_iff, beq_iff_eq, decide_eq_true_iff]; omega
  have f1 : (m.n == S) = N0 := by rw [← hN0, Bool.eq_iff_iff, beq_iff_eq, decide_eq_true_iff]
  clear hL0 hN0
  clear hv hn hci hki gb h2
  have e1 : (m.b != 0) = false := by simpa using q1
  clear q1
  have e2 : (m.a != 0) = true := by simpa using q2
  have e3 : (m.t != 7) = false := by simpa using q3
  have e4 : ¬ (m.i.length : Int) < 1 := by omega
  have e5 : ¬ (8 : Int) < (m.i.length : Int) := by omega
  have e6 : ¬ (1 : Int) < (m.i.length : Int) := by omega
  clear q2 q3 q4
  go_enter Tryz.func32, Tryz.ntmps32
  go_wp2_with fail
  refine (nests_any m.t _).mono ?_
  rintro e w1 ⟨rfl, hb1⟩
  rw [decide_eq_true Hn.out]
  have Hb1 := Lib.hid (below_next Hb0.out (Nat.le_refl _) hb1)
  have Hv1 := Lib.hid (Hv.out.up hb1)
  have Hl1 := Lib.hid (Hl.out.up hb1)
  have Hblk1 := Lib.hid (Hblk.out.below hb1 Hblk.out.lt)
  have k1 := Hblk1.out.cell
  have d0 := k1 0
  have d1 := k1 1
  have d2 := k1 2
  have d3 := k1 3
  have d4 := k1 4
  have d5 := k1 5
  clear k1 hb1 g0 g1 g2 g3 g4 g5 a3 a4 a5 a6 Hb0 Hv Hl Hblk
  go_wp2_with fail
  refine (Hsum.out _ _ Hv1.out).mono ?_
  rintro e w2 ⟨rfl, hb2⟩
  have Hb2 := Lib.hid (below_next Hb1.out (Nat.le_refl _) hb2)
  have Hl2 := Lib.hid (Hl1.out.up hb2)
  have Hblk2 := Lib.hid (Hblk1.out.below hb2 Hblk1.out.lt)
  clear hb2 d0 d1 d2 d3 d4 d5 e1 e2 e4 e5 e6
  have k2 := Hblk2.out.cell
  have d0 := k2 0
  have d1 := k2 1
  have d4 := k2 4
  clear k2
  cases L0
  · go_wp2
    go_ret
    exact ⟨rfl, Hb2.out⟩
  · go_wp2
    go_ret
    exact ⟨by rw [Bool.true_and, ← f1]; rfl, Hb2.out⟩

set_option maxHeartbeats 8000000 in
set_option maxRecDepth 100000 in
theorem rmay_negc (m : Mat) (v : Value) (w : World) (hv : MatV w w.heap.size v m) (_hs : Sml m) (h2 : 0 ≤ m.n ∧ m.n ≤ 64 ∧ 0 ≤ m.a ∧ m.a ≤ 64) (hn : nest m.t) (S : Int) (Hsum : ∀ (v : Value) (W : World), MatV W W.heap.size v m → Calls Tryz.prog 43 #[v] W (Tells W S)) (q1 : m.b = 0) (q2 : m.a = 0) (q4 : 1 < m.i.length) (q5 : m.i.length ≤ 8) (q6 : m.t = 9) (q7 : S < 0) : Calls Tryz.prog 32 #[v] w (Says w false) := by
  have Hsum := Lib.hid Hsum
  obtain ⟨lv, iv, rfl, hl, ⟨Ai, ci, rfl, hci, hki⟩⟩ := hv.open
  obtain ⟨Al, cl, rfl, hcl, hkl⟩ := id hl
  have Hv := Lib.hid (hv.up (boxed_below w m (.slice Al m.l.length cl) (.slice Ai m.i.length ci)))
  have Hb0 := Lib.hid (boxed_below w m (.slice Al m.l.length cl) (.slice Ai m.i.length ci))
  have Hblk := Lib.hid (boxed_blk w m (.slice Al m.l.length cl) (.slice Ai m.i.length ci))
  have Hl := Lib.hid (hl.up Hb0.out)
  have gb := Hblk.out.cell
  have g0 := gb 0
  have g1 := gb 1
  have g2 := gb 2
  have g3 := gb 3
  have g4 := gb 4
  have g5 := gb 5
  have a3 : ¬ m.n < 0 := by omega
  have a4 : ¬ 64 < m.n := by omega
  have a5 : ¬ m.a < 0 := by omega
  have a6 : ¬ 64 < m.a := by omega
  unfold boxed at *
  have Hn := Lib.hid hn
  clear hv hn hci hki gb h2
  have e1 : (m.b != 0) = false := by simpa using q1
  clear q1
  have e2 : (m.a != 0) = false := by simpa using q2
  have e4 : ¬ (m.i.length : Int) < 1 := by omega
  have e5 : ¬ (8 : Int) < (m.i.length : Int) := by omega
  have e6 : (1 : Int) < (m.i.length : Int) := by omega
  have e7 : (m.t != 9) = false := by simpa using q6
  clear q2 q4 q5 q6
  go_enter Tryz.func32, Tryz.ntmps32
  go_wp2_with fail
  refine (nests_any m.t _).mono ?_
  rintro e w1 ⟨rfl, hb1⟩
  rw [decide_eq_true Hn.out]
  have Hb1 := Lib.hid (below_next Hb0.out (Nat.le_refl _) hb1)
  have Hv1 := Lib.hid (Hv.out.up hb1)
  have Hl1 := Lib.hid (Hl.out.up hb1)
  have Hblk1 := Lib.hid (Hblk.out.below hb1 Hblk.out.lt)
  have k1 := Hblk1.out.cell
  have d0 := k1 0
  have d1 := k1 1
  have d2 := k1 2
  have d3 := k1 3
  have d4 := k1 4
  have d5 := k1 5
  clear k1 hb1 g0 g1 g2 g3 g4 g5 a3 a4 a5 a6 Hb0 Hv Hl Hblk
  go_wp2_with fail
  refine (Hsum.out _ _ Hv1.out).mono ?_
  rintro e w2 ⟨rfl, hb2⟩
  have Hb2 := Lib.hid (below_next Hb1.out (Nat.le_refl _) hb2)
  have Hl2 := Lib.hid (Hl1.out.up hb2)
  have Hblk2 := Lib.hid (Hblk1.out.below hb2 Hblk1.out.lt)
  clear hb2 d0 d1 d2 d3 d4 d5 e1 e2 e4 e5 e6
  have k2 := Hblk2.out.cell
  have d0 := k2 0
  have d1 := k2 1
  have d4 := k2 4
  clear k2
  go_wp2
  go_ret
  exact ⟨rfl, Hb2.out⟩

set_option maxHeartbeats 8000000 in
set_option maxRecDepth 100000 in
theorem rmay_svnc (m : Mat) (v : Value) (w : World) (hv : MatV w w.heap.size v m) (_hs : Sml m) (h2 : 0 ≤ m.n ∧ m.n ≤ 64 ∧ 0 ≤ m.a ∧ m.a ≤ 64) (hn : nest m.t) (S : Int) (Hsum : ∀ (v : Value) (W : World), MatV W W.heap.size v m → Calls Tryz.prog 43 #[v] W (Tells W S)) (q1 : m.b = 0) (q2 : m.a = 0) (q4 : 1 < m.i.length) (q5 : m.i.length ≤ 8) (q6 : m.t = 9) (q7 : ¬ S < 0) (q8 : 7 ≤ m.t) : Calls Tryz.prog 32 #[v] w (Says w (decide (m.l.length = 0) && decide (m.n = S))) := by
  have Hsum := Lib.hid Hsum
  obtain ⟨lv, iv, rfl, hl, ⟨Ai, ci, rfl, hci, hki⟩⟩ := hv.open
  obtain ⟨Al, cl, rfl, hcl, hkl⟩ := id hl
  have Hv := Lib.hid (hv.up (boxed_below w m (.slice Al m.l.length cl) (.slice Ai m.i.length ci)))
  have Hb0 := Lib.hid (boxed_below w m (.slice Al m.l.length cl) (.slice Ai m.i.length ci))
  have Hblk := Lib.hid (boxed_blk w m (.slice Al m.l.length cl) (.slice Ai m.i.length ci))
  have Hl := Lib.hid (hl.up Hb0.out)
  have gb := Hblk.out.cell
  have g0 := gb 0
  have g1 := gb 1
  have g2 := gb 2
  have g3 := gb 3
  have g4 := gb 4
  have g5 := gb 5
  have a3 : ¬ m.n < 0 := by omega
  have a4 : ¬ 64 < m.n := by omega
  have a5 : ¬ m.a < 0 := by omega
  have a6 : ¬ 64 < m.a := by omega
  unfold boxed at *
  have Hn := Lib.hid hn
  obtain ⟨L0, hL0⟩ : ∃ L0, decide (m.l.length = 0) = L0 := ⟨_, rfl⟩
  obtain ⟨N0, hN0⟩ : ∃ N0, decide (m.n = S) = N0 := ⟨_, rfl⟩
  rw [hL0, hN0]
  have f0 : ((m.l.length : Int) == 0) = L0 := by rw [← hL0, Bool.eq_iff_iff, beq_iff_eq, decide_eq_true_iff]; omega
  have f1 : (m.n == S) = N0 := by rw [← hN0, Bool.eq_iff_iff, beq_iff_eq, decide_eq_true_iff]
  clear hL0 hN0
  clear hv hn hci hki gb h2
  have e1 : (m.b != 0) = false := by simpa using q1
  clear q1
  have e2 : (m.a != 0) = false := by simpa using q2
  have e4 : ¬ (m.i.length : Int) < 1 := by omega
  have e5 : ¬ (8 : Int) < (m.i.length : Int) := by omega
  have e6 : (1 : Int) < (m.i.length : Int) := by omega
  have e7 : (m.t != 9) = false := by simpa using q6
  clear q2 q4 q5 q6
  go_enter Tryz.func32, Tryz.ntmps32
  go_wp2_with fail
  refine (nests_any m.t _).mono ?_
  rintro e w1 ⟨rfl, hb1⟩
  rw [decide_eq_true Hn.out]
  have Hb1 := Lib.hid (below_next Hb0.out (Nat.le_refl _) hb1)
  have Hv1 := Lib.hid (Hv.out.up hb1)
  have Hl1 := Lib.hid (Hl.out.up hb1)
  have Hblk1 := Lib.hid (Hblk.out.below hb1 Hblk.out.lt)
  have k1 := Hblk1.out.cell
  have d0 := k1 0
  have d1 := k1 1
  have d2 := k1 2
  have d3 := k1 3
  have d4 := k1 4
  have d5 := k1 5
  clear k1 hb1 g0 g1 g2 g3 g4 g5 a3 a4 a5 a6 Hb0 Hv Hl Hblk
  go_wp2_with fail
  refine (Hsum.out _ _ Hv1.out).mono ?_
  rintro e w2 ⟨rfl, hb2⟩
  have Hb2 := Lib.hid (below_next Hb1.out (Nat.le_refl _) hb2)
  have Hl2 := Lib.hid (Hl1.out.up hb2)
  have Hblk2 := Lib.hid (Hblk1.out.below hb2 Hblk1.out.lt)
  clear hb2 d0 d1 d2 d3 d4 d5 e1 e2 e4 e5 e6
  have k2 := Hblk2.out.cell
  have d0 := k2 0
  have d1 := k2 1
  have d4 := k2 4
  clear k2
  cases L0
  · go_wp2
    go_ret
    exact ⟨rfl, Hb2.out⟩
  · go_wp2
    go_ret
    exact ⟨by rw [Bool.true_and, ← f1]; rfl, Hb2.out⟩

set_option maxHeartbeats 8000000 in
set_option maxRecDepth 100000 in
theorem rmay_nola (m : Mat) (v : Value) (w : World) (hv : MatV w w.heap.size v m) (_hs : Sml m) (h2 : 0 ≤ m.n ∧ m.n ≤ 64 ∧ 0 ≤ m.a ∧ m.a ≤ 64) (hn : nest m.t) (S : Int) (Hsum : ∀ (v : Value) (W : World), MatV W W.heap.size v m → Calls Tryz.prog 43 #[v] W (Tells W S)) (q1 : m.b = 0) (q2 : m.a = 0) (q4 : m.i.length = 1) (q7 : ¬ S < 0) (q8 : ¬ 7 ≤ m.t) (q9 : m.l.length ≠ 1) : Calls Tryz.prog 32 #[v] w (Says w false) := by
  have Hsum := Lib.hid Hsum
  obtain ⟨lv, iv, rfl, hl, ⟨Ai, ci, rfl, hci, hki⟩⟩ := hv.open
  obtain ⟨Al, cl, rfl, hcl, hkl⟩ := id hl
  have Hv := Lib.hid (hv.up (boxed_below w m (.slice Al m.l.length cl) (.slice Ai m.i.length ci)))
  have Hb0 := Lib.hid (boxed_below w m (.slice Al m.l.length cl) (.slice Ai m.i.length ci))
  have Hblk := Lib.hid (boxed_blk w m (.slice Al m.l.length cl) (.slice Ai m.i.length ci))
  have Hl := Lib.hid (hl.up Hb0.out)
  have gb := Hblk.out.cell
  have g0 := gb 0
  have g1 := gb 1
  have g2 := gb 2
  have g3 := gb 3
  have g4 := gb 4
  have g5 := gb 5
  have a3 : ¬ m.n < 0 := by omega
  have a4 : ¬ 64 < m.n := by omega
  have a5 : ¬ m.a < 0 := by omega
  have a6 : ¬ 64 < m.a := by omega
  unfold boxed at *
  have Hn := Lib.hid hn
  have f0 : ((m.l.length : Int) != 1) = true := by simp; omega
  clear q9
  clear hv hn hci hki gb h2
  have e1 : (m.b != 0) = false := by simpa using q1
  clear q1
  have e2 : (m.a != 0) = false := by simpa using q2
  have e4 : ¬ (m.i.length : Int) < 1 := by omega
  have e5 : ¬ (8 : Int) < (m.i.length : Int) := by omega
  have e6 : ¬ (1 : Int) < (m.i.length : Int) := by omega
  clear q2 q4
  go_enter Tryz.func32, Tryz.ntmps32
  go_wp2_with fail
  refine (nests_any m.t _).mono ?_
  rintro e w1 ⟨rfl, hb1⟩
  rw [decide_eq_true Hn.out]
  have Hb1 := Lib.hid (below_next Hb0.out (Nat.le_refl _) hb1)
  have Hv1 := Lib.hid (Hv.out.up hb1)
  have Hl1 := Lib.hid (Hl.out.up hb1)
  have Hblk1 := Lib.hid (Hblk.out.below hb1 Hblk.out.lt)
  have k1 := Hblk1.out.cell
  have d0 := k1 0
  have d1 := k1 1
  have d2 := k1 2
  have d3 := k1 3
  have d4 := k1 4
  have d5 := k1 5
  clear k1 hb1 g0 g1 g2 g3 g4 g5 a3 a4 a5 a6 Hb0 Hv Hl Hblk
  go_wp2_with fail
  refine (Hsum.out _ _ Hv1.out).mono ?_
  rintro e w2 ⟨rfl, hb2⟩
  have Hb2 := Lib.hid (below_next Hb1.out (Nat.le_refl _) hb2)
  have Hl2 := Lib.hid (Hl1.out.up hb2)
  have Hblk2 := Lib.hid (Hblk1.out.below hb2 Hblk1.out.lt)
  clear hb2 d0 d1 d2 d3 d4 d5 e1 e2 e4 e5 e6
  have k2 := Hblk2.out.cell
  have d0 := k2 0
  have d1 := k2 1
  have d4 := k2 4
  clear k2
  go_wp2
  go_ret
  exact ⟨rfl, Hb2.out⟩

set_option maxHeartbeats 8000000 in
set_option maxRecDepth 100000 in
theorem rmay_seta (m : Mat) (v : Value) (w : World) (hv : MatV w w.heap.size v m) (_hs : Sml m) (h2 : 0 ≤ m.n ∧ m.n ≤ 64 ∧ 0 ≤ m.a ∧ m.a ≤ 64) (hn : nest m.t) (S : Int) (Hsum : ∀ (v : Value) (W : World), MatV W W.heap.size v m → Calls Tryz.prog 43 #[v] W (Tells W S)) (q1 : m.b = 0) (q2 : m.a = 0) (q4 : m.i.length = 1) (q7 : ¬ S < 0) (q8 : ¬ 7 ≤ m.t) (q9 : m.l.length = 1) (q0 : okA S (row m 0) = false) : Calls Tryz.prog 32 #[v] w (Says w false) := by
  have Hsum := Lib.hid Hsum
  obtain ⟨lv, iv, rfl, hl, ⟨Ai, ci, rfl, hci, hki⟩⟩ := hv.open
  obtain ⟨Al, cl, rfl, hcl, hkl⟩ := id hl
  have Hv := Lib.hid (hv.up (boxed_below w m (.slice Al m.l.length cl) (.slice Ai m.i.length ci)))
  have Hb0 := Lib.hid (boxed_below w m (.slice Al m.l.length cl) (.slice Ai m.i.length ci))
  have Hblk := Lib.hid (boxed_blk w m (.slice Al m.l.length cl) (.slice Ai m.i.length ci))
  have Hl := Lib.hid (hl.up Hb0.out)
  have gb := Hblk.out.cell
  have g0 := gb 0
  have g1 := gb 1
  have g2 := gb 2
  have g3 := gb 3
  have g4 := gb 4
  have g5 := gb 5
  have a3 : ¬ m.n < 0 := by omega
  have a4 : ¬ 64 < m.n := by omega
  have a5 : ¬ m.a < 0 := by omega
  have a6 : ¬ 64 < m.a := by omega
  unfold boxed at *
  have Hn := Lib.hid hn
  obtain ⟨ad, u0, hA, hab, hc0, hr0⟩ := hkl 0 (by omega)
  subst hA
  rw [add_zero] at hc0
  have hrow : row m 0 = m.l.getD 0 [] := rfl
  rw [hrow] at q0
  have f0 : ((m.l.length : Int) != 1) = false := by simp; omega
  have f1 : (0 : Int) < (m.l.length : Int) := by omega
  have f2 : 0 < m.l.length := by omega
  generalize m.l.getD 0 [] = r at *
  have Hc0 := Lib.hid hc0
  have Hab := Lib.hid hab
  have Hr0 := Lib.hid hr0
  have Q0 := Lib.hid q0
  clear q9 hc0 hr0 q0 hcl hkl hl hab hrow
  clear hv hn hci hki gb h2
  have e1 : (m.b != 0) = false := by simpa using q1
  clear q1
  have e2 : (m.a != 0) = false := by simpa using q2
  have e4 : ¬ (m.i.length : Int) < 1 := by omega
  have e5 : ¬ (8 : Int) < (m.i.length : Int) := by omega
  have e6 : ¬ (1 : Int) < (m.i.length : Int) := by omega
  clear q2 q4
  go_enter Tryz.func32, Tryz.ntmps32
  go_wp2_with fail
  refine (nests_any m.t _).mono ?_
  rintro e w1 ⟨rfl, hb1⟩
  rw [decide_eq_true Hn.out]
  have Hb1 := Lib.hid (below_next Hb0.out (Nat.le_refl _) hb1)
  have Hv1 := Lib.hid (Hv.out.up hb1)
  have Hl1 := Lib.hid (Hl.out.up hb1)
  have Hblk1 := Lib.hid (Hblk.out.below hb1 Hblk.out.lt)
  have k1 := Hblk1.out.cell
  have d0 := k1 0
  have d1 := k1 1
  have d2 := k1 2
  have d3 := k1 3
  have d4 := k1 4
  have d5 := k1 5
  clear k1 hb1 g0 g1 g2 g3 g4 g5 a3 a4 a5 a6 Hb0 Hv Hl Hblk
  go_wp2_with fail
  refine (Hsum.out _ _ Hv1.out).mono ?_
  rintro e w2 ⟨rfl, hb2⟩
  have Hb2 := Lib.hid (below_next Hb1.out (Nat.le_refl _) hb2)
  have Hl2 := Lib.hid (Hl1.out.up hb2)
  have Hblk2 := Lib.hid (Hblk1.out.below hb2 Hblk1.out.lt)
  clear hb2 d0 d1 d2 d3 d4 d5 e1 e2 e4 e5 e6
  have k2 := Hblk2.out.cell
  have d0 := k2 0
  have d1 := k2 1
  have d4 := k2 4
  clear k2
  have c0 := (Hb2.out.cell (p := ad) Hab.out).trans Hc0.out
  have Hr2 := Lib.hid ((Hr0.out.below Hb2.out).mono Hb2.out.size)
  go_wp2_with fail
  refine (set9_any u0 r S _ Hr2.out).mono ?_
  rintro e w3 ⟨rfl, hb3⟩
  rw [Q0.out]
  have Hb3 := Lib.hid (below_next Hb2.out (Nat.le_refl _) hb3)
  have Hblk3 := Lib.hid (Hblk2.out.below hb3 Hblk2.out.lt)
  clear hb3 d0 d1 d4 c0
  go_wp2
  go_ret
  exact ⟨rfl, Hb3.out⟩

set_option maxHeartbeats 8000000 in
set_option maxRecDepth 100000 in
theorem rmay_fivea (m : Mat) (v : Value) (w : World) (hv : MatV w w.heap.size v m) (_hs : Sml m) (h2 : 0 ≤ m.n ∧ m.n ≤ 64 ∧ 0 ≤ m.a ∧ m.a ≤ 64) (hn : nest m.t) (S : Int) (Hsum : ∀ (v : Value) (W : World), MatV W W.heap.size v m → Calls Tryz.prog 43 #[v] W (Tells W S)) (q1 : m.b = 0) (q2 : m.a = 0) (q4 : m.i.length = 1) (q7 : ¬ S < 0) (q8 : ¬ 7 ≤ m.t) (q9 : m.l.length = 1) (q0 : okA S (row m 0) = true) (q5 : m.t = 5) : Calls Tryz.prog 32 #[v] w (Says w (decide (m.n = (row m 0).length))) := by
  have Hsum := Lib.hid Hsum
  obtain ⟨lv, iv, rfl, hl, ⟨Ai, ci, rfl, hci, hki⟩⟩ := hv.open
  obtain ⟨Al, cl, rfl, hcl, hkl⟩ := id hl
  have Hv := Lib.hid (hv.up (boxed_below w m (.slice Al m.l.length cl) (.slice Ai m.i.length ci)))
  have Hb0 := Lib.hid (boxed_below w m (.slice Al m.l.length cl) (.slice Ai m.i.length ci))
  have Hblk := Lib.hid (boxed_blk w m (.slice Al m.l.length cl) (.slice Ai m.i.length ci))
  have Hl := Lib.hid (hl.up Hb0.out)
  have gb := Hblk.out.cell
  have g0 := gb 0
  have g1 := gb 1
  have g2 := gb 2
  have g3 := gb 3
  have g4 := gb 4
  have g5 := gb 5
  have a3 : ¬ m.n < 0 := by omega
  have a4 : ¬ 64 < m.n := by omega
  have a5 : ¬ m.a < 0 := by omega
  have a6 : ¬ 64 < m.a := by omega
  unfold boxed at *
  have Hn := Lib.hid hn
  obtain ⟨ad, u0, hA, hab, hc0, hr0⟩ := hkl 0 (by omega)
  subst hA
  rw [add_zero] at hc0
  have hrow : row m 0 = m.l.getD 0 [] := rfl
  rw [hrow] at q0 ⊢
  have f0 : ((m.l.length : Int) != 1) = false := by simp; omega
  have f1 : (0 : Int) < (m.l.length : Int) := by omega
  have f2 : 0 < m.l.length := by omega
  generalize m.l.getD 0 [] = r at *
  have Hc0 := Lib.hid hc0
  have Hab := Lib.hid hab
  have Hr0 := Lib.hid hr0
  have Q0 := Lib.hid q0
  clear q9 hc0 hr0 q0 hcl hkl hl hab hrow
  have f5 : (m.t == 5) = true := by simpa using q5
  clear q5
  clear hv hn hci hki gb h2
  have e1 : (m.b != 0) = false := by simpa using q1
  clear q1
  have e2 : (m.a != 0) = false := by simpa using q2
  have e4 : ¬ (m.i.length : Int) < 1 := by omega
  have e5 : ¬ (8 : Int) < (m.i.length : Int) := by omega
  have e6 : ¬ (1 : Int) < (m.i.length : Int) := by omega
  clear q2 q4
  go_enter Tryz.func32, Tryz.ntmps32
  go_wp2_with fail
  refine (nests_any m.t _).mono ?_
  rintro e w1 ⟨rfl, hb1⟩
  rw [decide_eq_true Hn.out]
  have Hb1 := Lib.hid (below_next Hb0.out (Nat.le_refl _) hb1)
  have Hv1 := Lib.hid (Hv.out.up hb1)
  have Hl1 := Lib.hid (Hl.out.up hb1)
  have Hblk1 := Lib.hid (Hblk.out.below hb1 Hblk.out.lt)
  have k1 := Hblk1.out.cell
  have d0 := k1 0
  have d1 := k1 1
  have d2 := k1 2
  have d3 := k1 3
  have d4 := k1 4
  have d5 := k1 5
  clear k1 hb1 g0 g1 g2 g3 g4 g5 a3 a4 a5 a6 Hb0 Hv Hl Hblk
  go_wp2_with fail
  refine (Hsum.out _ _ Hv1.out).mono ?_
  rintro e w2 ⟨rfl, hb2⟩
  have Hb2 := Lib.hid (below_next Hb1.out (Nat.le_refl _) hb2)
  have Hl2 := Lib.hid (Hl1.out.up hb2)
  have Hblk2 := Lib.hid (Hblk1.out.below hb2 Hblk1.out.lt)
  clear hb2 d0 d1 d2 d3 d4 d5 e1 e2 e4 e5 e6
  have k2 := Hblk2.out.cell
  have d0 := k2 0
  have d1 := k2 1
  have d4 := k2 4
  clear k2
  have c0 := (Hb2.out.cell (p := ad) Hab.out).trans Hc0.out
  have Hr2 := Lib.hid ((Hr0.out.below Hb2.out).mono Hb2.out.size)
  go_wp2_with fail
  refine (set9_any u0 r S _ Hr2.out).mono ?_
  rintro e w3 ⟨rfl, hb3⟩
  rw [Q0.out]
  have Hb3 := Lib.hid (below_next Hb2.out (Nat.le_refl _) hb3)
  have Hblk3 := Lib.hid (Hblk2.out.below hb3 Hblk2.out.lt)
  clear hb3 d0 d1 d4 c0
  have Hbox : Hid (∀ W, Below w3.heap.size w3 W → ∀ i, W.cell? ⟨w.heap.size, i, none⟩ = #[.int .i64 m.t, .int .i64 m.n, .int .i64 m.a, .int .i64 m.b, .slice (some ad) m.l.length cl, .slice Ai m.i.length ci][i]?) := fun W hW i => (Hblk3.out.below hW Hblk3.out.lt).cell i
  have Hrow := Lib.hid (cell_in ((Hb3.out.cell (p := ad) Hab.out).trans Hc0.out) (Nat.lt_of_lt_of_le Hab.out Hb3.out.size))
  obtain ⟨Ar, cr, hu0, _⟩ := id Hr2.out
  subst hu0
  have d0 := Hblk3.out.cell 0
  clear Hr2
  go_wp2
  clear d0
  refine wp_region_below w3.heap.size w3 (by kernel_rfl) (by kernel_rfl) (Below.refl _ _) ?_
  iterate 9 (go_big_quiet_want; apply Exists.intro; refine ⟨fun W hW => ?_, ?_⟩; (· have q := Hbox.out W hW; have q1 := q 1; have q4 := q 4; clear q; have r0 := Hrow.out W hW; go_simp; first | exact rfl | exact ⟨rfl, rfl⟩); go_simp; go_big_quiet_on)
  refine wpQuiet_nil ?_
  intro w5 hB5
  have Hb5 := Lib.hid (below_next Hb3.out (Nat.le_refl _) hB5)
  clear hB5
  go_wp2
  go_ret
  exact ⟨rfl, Hb5.out⟩

set_option maxHeartbeats 8000000 in
set_option maxRecDepth 100000 in
theorem rmay_sixa (m : Mat) (v : Value) (w : World) (hv : MatV w w.heap.size v m) (_hs : Sml m) (h2 : 0 ≤ m.n ∧ m.n ≤ 64 ∧ 0 ≤ m.a ∧ m.a ≤ 64) (hn : nest m.t) (S : Int) (Hsum : ∀ (v : Value) (W : World), MatV W W.heap.size v m → Calls Tryz.prog 43 #[v] W (Tells W S)) (q1 : m.b = 0) (q2 : m.a = 0) (q4 : m.i.length = 1) (q7 : ¬ S < 0) (q8 : ¬ 7 ≤ m.t) (q9 : m.l.length = 1) (q0 : okA S (row m 0) = true) (q5 : m.t ≠ 5) : Calls Tryz.prog 32 #[v] w (Says w (decide (m.n = IntKind.i64.wrap (S - (row m 0).length)))) := by
  have Hsum := Lib.hid Hsum
  obtain ⟨lv, iv, rfl, hl, ⟨Ai, ci, rfl, hci, hki⟩⟩ := hv.open
  obtain ⟨Al, cl, rfl, hcl, hkl⟩ := id hl
  have Hv := Lib.hid (hv.up (boxed_below w m (.slice Al m.l.length cl) (.slice Ai m.i.length ci)))
  have Hb0 := Lib.hid (boxed_below w m (.slice Al m.l.length cl) (.slice Ai m.i.length ci))
  have Hblk := Lib.hid (boxed_blk w m (.slice Al m.l.length cl) (.slice Ai m.i.length ci))
  have Hl := Lib.hid (hl.up Hb0.out)
  have gb := Hblk.out.cell
  have g0 := gb 0
  have g1 := gb 1
  have g2 := gb 2
  have g3 := gb 3
  have g4 := gb 4
  have g5 := gb 5
  have a3 : ¬ m.n < 0 := by omega
  have a4 : ¬ 64 < m.n := by omega
  have a5 : ¬ m.a < 0 := by omega
  have a6 : ¬ 64 < m.a := by omega
  unfold boxed at *
  have Hn := Lib.hid hn
  obtain ⟨ad, u0, hA, hab, hc0, hr0⟩ := hkl 0 (by omega)
  subst hA
  rw [add_zero] at hc0
  have hrow : row m 0 = m.l.getD 0 [] := rfl
  rw [hrow] at q0 ⊢
  have f0 : ((m.l.length : Int) != 1) = false := by simp; omega
  have f1 : (0 : Int) < (m.l.length : Int) := by omega
  have f2 : 0 < m.l.length := by omega
  generalize m.l.getD 0 [] = r at *
  have Hc0 := Lib.hid hc0
  have Hab := Lib.hid hab
  have Hr0 := Lib.hid hr0
  have Q0 := Lib.hid q0
  clear q9 hc0 hr0 q0 hcl hkl hl hab hrow
  have f5 : (m.t == 5) = false := by simpa using q5
  clear q5
  clear hv hn hci hki gb h2
  have e1 : (m.b != 0) = false := by simpa using q1
  clear q1
  have e2 : (m.a != 0) = false := by simpa using q2
  have e4 : ¬ (m.i.length : Int) < 1 := by omega
  have e5 : ¬ (8 : Int) < (m.i.length : Int) := by omega
  have e6 : ¬ (1 : Int) < (m.i.length : Int) := by omega
  clear q2 q4
  go_enter Tryz.func32, Tryz.ntmps32
  go_wp2_with fail
  refine (nests_any m.t _).mono ?_
  rintro e w1 ⟨rfl, hb1⟩
  rw [decide_eq_true Hn.out]
  have Hb1 := Lib.hid (below_next Hb0.out (Nat.le_refl _) hb1)
  have Hv1 := Lib.hid (Hv.out.up hb1)
  have Hl1 := Lib.hid (Hl.out.up hb1)
  have Hblk1 := Lib.hid (Hblk.out.below hb1 Hblk.out.lt)
  have k1 := Hblk1.out.cell
  have d0 := k1 0
  have d1 := k1 1
  have d2 := k1 2
  have d3 := k1 3
  have d4 := k1 4
  have d5 := k1 5
  clear k1 hb1 g0 g1 g2 g3 g4 g5 a3 a4 a5 a6 Hb0 Hv Hl Hblk
  go_wp2_with fail
  refine (Hsum.out _ _ Hv1.out).mono ?_
  rintro e w2 ⟨rfl, hb2⟩
  have Hb2 := Lib.hid (below_next Hb1.out (Nat.le_refl _) hb2)
  have Hl2 := Lib.hid (Hl1.out.up hb2)
  have Hblk2 := Lib.hid (Hblk1.out.below hb2 Hblk1.out.lt)
  clear hb2 d0 d1 d2 d3 d4 d5 e1 e2 e4 e5 e6
  have k2 := Hblk2.out.cell
  have d0 := k2 0
  have d1 := k2 1
  have d4 := k2 4
  clear k2
  have c0 := (Hb2.out.cell (p := ad) Hab.out).trans Hc0.out
  have Hr2 := Lib.hid ((Hr0.out.below Hb2.out).mono Hb2.out.size)
  go_wp2_with fail
  refine (set9_any u0 r S _ Hr2.out).mono ?_
  rintro e w3 ⟨rfl, hb3⟩
  rw [Q0.out]
  have Hb3 := Lib.hid (below_next Hb2.out (Nat.le_refl _) hb3)
  have Hblk3 := Lib.hid (Hblk2.out.below hb3 Hblk2.out.lt)
  clear hb3 d0 d1 d4 c0
  have Hbox : Hid (∀ W, Below w3.heap.size w3 W → ∀ i, W.cell? ⟨w.heap.size, i, none⟩ = #[.int .i64 m.t, .int .i64 m.n, .int .i64 m.a, .int .i64 m.b, .slice (some ad) m.l.length cl, .slice Ai m.i.length ci][i]?) := fun W hW i => (Hblk3.out.below hW Hblk3.out.lt).cell i
  have Hrow := Lib.hid (cell_in ((Hb3.out.cell (p := ad) Hab.out).trans Hc0.out) (Nat.lt_of_lt_of_le Hab.out Hb3.out.size))
  obtain ⟨Ar, cr, hu0, _⟩ := id Hr2.out
  subst hu0
  have d0 := Hblk3.out.cell 0
  clear Hr2
  go_wp2
  clear d0
  refine wp_region_below w3.heap.size w3 (by kernel_rfl) (by kernel_rfl) (Below.refl _ _) ?_
  iterate 11 (go_big_quiet_want; apply Exists.intro; refine ⟨fun W hW => ?_, ?_⟩; (· have q := Hbox.out W hW; have q1 := q 1; have q4 := q 4; clear q; have r0 := Hrow.out W hW; go_simp; first | exact rfl | exact ⟨rfl, rfl⟩); go_simp; go_big_quiet_on)
  refine wpQuiet_nil ?_
  intro w5 hB5
  have Hb5 := Lib.hid (below_next Hb3.out (Nat.le_refl _) hB5)
  clear hB5
  go_wp2
  go_ret
  exact ⟨rfl, Hb5.out⟩

theorem rmay_all : ∀ (k : Nat), MayAt k := by
  intro k
  induction k with
  | zero => intro m v w _ _ hd; have := dp_pos 0 m; omega
  | succ k ih =>
    intro m v w hv hs hd
    by_cases h2 : 0 ≤ m.n ∧ m.n ≤ 64 ∧ 0 ≤ m.a ∧ m.a ≤ 64
    · by_cases hn : nest m.t
      · have hin : ∀ x ∈ m.i, dp k x ≤ k := fun x hx => by have := dp_inner (k := k) hn hx; omega
        have Hsum : ∀ (v : Value) (W : World), MatV W W.heap.size v m → Calls Tryz.prog 43 #[v] W (Tells W (sumsI k m)) := fun v W hv => sums_any k ih m v W hv hs hin
        rw [ok_nest h2 hn]
        rcases hh : headB m with _ | _
        · simpa using rmay_head m v w hv hs h2 hn hh
        rw [Bool.true_and]
        have hh' := hh
        unfold headB at hh'
        simp only [Bool.and_eq_true, Bool.or_eq_true, decide_eq_true_iff] at hh'
        obtain ⟨⟨⟨⟨q1, q2⟩, q4⟩, q5⟩, q6⟩ := hh'
        have hvar : (m.a = 0 ∧ m.i.length = 1) ∨ (m.a ≠ 0 ∧ m.t = 7 ∧ m.i.length = 1) ∨ (m.a = 0 ∧ 1 < m.i.length ∧ m.i.length ≤ 8 ∧ m.t = 9) := by omega
        unfold sumsI at Hsum
        rcases hall : m.i.all (ok k) with _ | _
        · rw [hall, if_neg (by decide)] at Hsum
          rw [Bool.false_and]
          rcases hvar with ⟨a, b⟩ | ⟨a, b, c⟩ | ⟨a, b, c, d⟩
          · exact rmay_nega m v w hv hs h2 hn (-1) Hsum q1 a b (by decide)
          · exact rmay_negb m v w hv hs h2 hn (-1) Hsum q1 a b c (by decide)
          · exact rmay_negc m v w hv hs h2 hn (-1) Hsum q1 a b c d (by decide)
        · rw [hall, if_pos rfl] at Hsum
          rw [Bool.true_and]
          have htg := tog_ok hall q5
          unfold tailB
          by_cases h7 : 7 ≤ m.t
          · rw [if_pos h7]
            rcases hvar with ⟨a, b⟩ | ⟨a, b, c⟩ | ⟨a, b, c, d⟩
            · exact rmay_svna m v w hv hs h2 hn _ Hsum q1 a b (by omega) h7
            · exact rmay_svnb m v w hv hs h2 hn _ Hsum q1 a b c (by omega) h7
            · exact rmay_svnc m v w hv hs h2 hn _ Hsum q1 a b c d (by omega) h7
          · rw [if_neg h7]
            have ha : m.a = 0 := by omega
            have hi : m.i.length = 1 := by omega
            by_cases hl : m.l.length = 1
            · rw [decide_eq_true hl, Bool.true_and]
              rcases hk : okA (tog m.i) (row m 0) with _ | _
              · exact rmay_seta m v w hv hs h2 hn _ Hsum q1 ha hi (by omega) h7 hl hk
              · rw [Bool.true_and]
                by_cases h5 : m.t = 5
                · rw [if_pos h5]
                  exact rmay_fivea m v w hv hs h2 hn _ Hsum q1 ha hi (by omega) h7 hl hk h5
                · rw [if_neg h5]
                  exact rmay_sixa m v w hv hs h2 hn _ Hsum q1 ha hi (by omega) h7 hl hk h5
            · rw [decide_eq_false hl, Bool.false_and, Bool.false_and]
              exact rmay_nola m v w hv hs h2 hn _ Hsum q1 ha hi (by omega) h7 hl
      · rw [show ok (k + 1) m = decide (bad m = 0) from by
          rw [ok]
          by_cases hb : bad m = 0
          · rw [bad_plain hb hn]; simp
          · rw [decide_eq_false hb]; rfl]
        exact rmay_plain m v w hv hs h2 hn
    · rw [show ok (k + 1) m = false from by
        rw [ok, decide_eq_false (fun hb => h2 (bad_zero hb).2.1)]; rfl]
      exact rmay_out m v w hv (by omega)

end Wp
end Go.Proofs.YtolnkgghejhaeaaGreatDoor

namespace Go.Proofs.YtolnkgghejhaeaaGreatDoor
open Go.RowKit
namespace Wp

end Wp
end Go.Proofs.YtolnkgghejhaeaaGreatDoor

namespace Go.Proofs.YtolnkgghejhaeaaGreatDoor
open Go.RowKit
namespace Wp

theorem own_block {w : World} {base B : Nat} {e : TypeId} {size k : Nat} {v : Value} {vs : List Value} (h : w.ownsRow base e size v k vs) (hB : B ≤ base) : ∀ (A : Addr) (n c : Nat), v = .slice (some A) n c → B ≤ A.block := fun A n c hv => by
  subst hv
  exact Nat.le_trans hB (World.ownsRow.lt h A.block rfl).1

set_option maxHeartbeats 8000000 in
set_option maxRecDepth 100000 in
theorem rcheck_any (m : Mat) (v : Value) (w : World) (hv : MatV w w.heap.size v m) (hs : Sml m) : Calls Tryz.prog 19 #[v] w (Tells w (chk m)) := by
  have Hs := Lib.hid hs
  obtain ⟨lv, iv, hve, _, _⟩ := hv.open
  have Hb0 := Lib.hid (boxed_below w m lv iv)
  have Hv0 := Lib.hid (hv.up Hb0.out)
  have Hblk0 := Lib.hid (boxed_blk w m lv iv)
  have g0 := Hblk0.out.cell 0
  have g1 := Hblk0.out.cell 1
  have g2 := Hblk0.out.cell 2
  have g3 := Hblk0.out.cell 3
  have g4 := Hblk0.out.cell 4
  have g5 := Hblk0.out.cell 5
  subst hve
  unfold boxed at *
  have h5 := dp_le 4 m
  obtain ⟨D, hD⟩ : ∃ D : Nat, dp 4 m = D := ⟨_, rfl⟩
  have HD : Hid (deepI m = (D : Int)) := Lib.hid (by unfold deepI; rw [hD])
  have HD0 := Lib.hid hD
  rw [hD] at h5
  clear hv hs hD
  by_cases h : D = 5
  · have e : chk m = 91 := if_pos (HD0.out.trans h)
    rw [e]
    have h5' : ((D : Int) == 5) = true := by simp; omega
    clear e h h5
    go_enter Tryz.func19, Tryz.ntmps19
    go_wp2_with fail
    refine (rDeep_any m _ _ Hv0.out Hs.out).mono ?_
    rintro e w1 ⟨rfl, hb1⟩
    rw [HD.out]
    have Hb1 := Lib.hid (below_next Hb0.out (Nat.le_refl _) hb1)
    clear hb1 g0 g1 g2 g3 g4 g5
    go_wp2
    go_ret
    exact ⟨rfl, Hb1.out⟩
  · have h5' : ((D : Int) == 5) = false := by simp; omega
    obtain ⟨b0, hb0⟩ : ∃ b0, ok 4 m = b0 := ⟨_, rfl⟩
    have e : chk m = if b0 = true then 0 else 90 := by rw [← hb0]; exact if_neg (by rw [HD0.out]; exact h)
    obtain ⟨R, hR⟩ : ∃ R : Int, R = if b0 = true then 0 else 90 := ⟨_, rfl⟩
    rw [e, ← hR]
    have HR := Lib.hid hR
    have Hmay := Lib.hid (fun (v : Value) (W : World) (hv : MatV W W.heap.size v m) => rmay_all 4 m v W hv Hs.out (by rw [HD0.out]; omega))
    rw [hb0] at Hmay
    clear e h h5 hb0 hR
    go_enter Tryz.func19, Tryz.ntmps19
    go_wp2_with fail
    refine (rDeep_any m _ _ Hv0.out Hs.out).mono ?_
    rintro e w1 ⟨rfl, hb1⟩
    rw [HD.out]
    have Hb1 := Lib.hid (below_next Hb0.out (Nat.le_refl _) hb1)
    have Hv1 := Lib.hid (Hv0.out.up hb1)
    have Hblk1 := Lib.hid (Hblk0.out.below hb1 Hblk0.out.lt)
    clear hb1 g0 g1 g2 g3 g4 g5
    have g0 := Hblk1.out.cell 0
    have g1 := Hblk1.out.cell 1
    have g2 := Hblk1.out.cell 2
    have g3 := Hblk1.out.cell 3
    have g4 := Hblk1.out.cell 4
    have g5 := Hblk1.out.cell 5
    go_wp2_with fail
    refine (Hmay.out _ _ Hv1.out).mono ?_
    rintro e w2 ⟨rfl, hb2⟩
    have Hb2 := Lib.hid (below_next Hb1.out (Nat.le_refl _) hb2)
    clear hb2 g0 g1 g2 g3 g4 g5
    cases b0
    · have e90 : R = 90 := HR.out
      subst e90
      go_wp2
      go_ret
      exact ⟨rfl, Hb2.out⟩
    · have e0 : R = 0 := HR.out
      subst e0
      go_wp2
      go_ret
      exact ⟨rfl, Hb2.out⟩

end Wp
end Go.Proofs.YtolnkgghejhaeaaGreatDoor
