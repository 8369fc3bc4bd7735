/- The document's Set, and the law's own 'in', walked. The document's sums and may, walked. The document's All, Minus and Check, walked. -/
import Derived.Test.YtgadbnbhgpehjaaGreatDoorZA
import Derived.Test.YtgadbnbhgpehjaaGreatDoorQTB
import Derived.Test.YtgadbnbhgpehjaaGreatDoorZU
set_option maxHeartbeats 8000000
set_option maxRecDepth 100000
open Go.Lib (hid)
open Nat (le_refl)
namespace Go.Proofs.YtgadbnbhgpehjaaGreatDoor
open Go.RowKit
namespace Wp
theorem F4_ (v : Value) (l : List Int) (n : Int) (w : World) (hr : Row w w.heap.size v l) : Calls Tryz.prog 63 #[v, .int .i64 n] w (Says w (okA n l)) := by
 have Hr := hid hr
 obtain ⟨A, c, rfl, hcap, hcell⟩ := hr
 have hLm : (l.length : Int) ≤ 9223372036854775807 := by
  have h1 := hcap.1
  have h2 := hcap.2.1
  unfold maxLen at h2
  omega
 have hlm : l.length ≤ 9223372036854775807 := by omega
 have Hcell := hid hcell
 clear hcap hcell
 rcases hm : mayB l with _ | _
 ·rw [Yk4 hm]
  have Hm := hid hm
  clear hm
  go_enter Tryz.func63, Tryz.ntmps63
  go_wp2_with fail
  refine (X9_ _ l w Hr.out hlm Hm.out).mono ?_
  rintro e w1 ⟨rfl, hb1⟩
  have Hb1 := hid hb1
  clear hb1
  go_wp2
  go_ret
  exact ⟨rfl, Hb1.out⟩
 ·have Hm := hid hm
  clear hm
  by_cases h0 : l.length = 0
  ·rw [Zd7 Hm.out h0]
   have h0' : ((l.length : Int) == 0) = true := by simpa using h0
   clear h0
   go_enter Tryz.func63, Tryz.ntmps63
   go_wp2_with fail
   refine (X9_ _ l w Hr.out hlm Hm.out).mono ?_
   rintro e w1 ⟨rfl, hb1⟩
   have Hb1 := hid hb1
   clear hb1
   go_wp2
   go_ret
   exact ⟨rfl, Hb1.out⟩
  ·obtain ⟨x, hx⟩ : ∃ x, l.getD (l.length - 1) 0 = x := ⟨_, rfl⟩
   obtain ⟨al, hAl, halb, hcx⟩ := Hcell.out (l.length - 1) (by omega)
   rw [U8_ Hm.out (by omega) hx]
   rw [hx] at hcx
   subst hAl
   obtain ⟨L, hL⟩ : ∃ L, l.length = L := ⟨_, rfl⟩
   have HL := hid hL
   rw [hL] at hcx Hr hLm h0
   rw [hL]
   have h0' : ((L : Int) == 0) = false := by simpa using h0
   have hL0 : (0 : Int) < (L : Int) := by omega
   have hw1 : IntKind.i64.wrap ((L : Int) - 1) = (L : Int) - 1 := by rw [IntKind.wrap_i64]; omega
   have hw2 : (0 : Int) ≤ (L : Int) - 1 := by omega
   have hw3 : (L : Int) - 1 < (L : Int) := by omega
   have hw4 : ((L : Int) - 1).toNat = L - 1 := by omega
   clear hx h0 hL
   go_enter Tryz.func63, Tryz.ntmps63
   go_wp2_with fail
   refine (X9_ _ l w Hr.out hlm Hm.out).mono ?_
   rintro e w1 ⟨rfl, hb1⟩
   have Hb1 := hid hb1
   have g2 := (hb1.cell (p := al.add (L - 1)) (by rw [Z2_]; exact halb)).trans hcx
   clear hb1 hcx
   go_wp2
   go_ret
   exact ⟨rfl, Hb1.out⟩
end Wp
end Go.Proofs.YtgadbnbhgpehjaaGreatDoor
namespace Go.Proofs.YtgadbnbhgpehjaaGreatDoor.Wp
open Go Go.RowKit
theorem S2_ {n : Int} {l : List Int} (h0 : 0 ≤ n) (h1 : n ≤ 64) : okA n l = subB l (allL n) := by
 rw [Bool.eq_iff_iff]
 constructor
 ·intro h
  obtain ⟨h2, h3⟩ := Zf2 h
  exact Zt4 h0 h1 h2 h3
 ·intro h
  obtain ⟨h2, _, h3⟩ := subB_iff.1 h
  have hm : mayB l = true := mayB_iff.2 h2
  by_cases hl : l.length = 0
  ·exact Zd7 hm hl
  ·rw [U8_ hm (by omega) rfl, decide_eq_true_iff]
   have h4 := h3 (l.getD (l.length - 1) 0) (by rw [show l.getD (l.length - 1) 0 = l[l.length - 1]'(by omega) by simp [List.getD, show l.length - 1 < l.length by omega]]; exact List.getElem_mem _)
   exact ((G8_ h0 (by omega) _).1 h4).2
theorem ok_n {k : Nat} {m : Mat} (h : ok k m = true) : 0 ≤ m.n ∧ m.n ≤ 64 := by
 cases k with
 | zero => cases h
 | succ k => have := (X0_ (Yo1 h)).2.1; omega
theorem Vj8 {k : Nat} {i : List Mat} (h : i.all (ok k) = true) (hl : i.length ≤ 8) : 0 ≤ tog i ∧ tog i ≤ 512 := by
 have := Xi5 (l := i) (fun x hx => ok_n (List.all_eq_true.1 h x hx)) (by omega)
 omega
theorem Vj9 {x : Mat} (h : 0 ≤ x.n ∧ x.n ≤ 64) : tog [x] = x.n := by
 show IntKind.i64.wrap (0 + x.n) = x.n
 rw [D8_ (by omega) (by omega)]
 omega
def headB (m : Mat) : Bool := decide (m.b = 0) && (decide (m.a = 0) || decide (m.t = 7)) && decide (1 ≤ m.i.length) && decide (m.i.length ≤ 8) && (decide (m.i.length ≤ 1) || decide (m.t = 9))
def tailB (S : Int) (m : Mat) : Bool :=
 if 7 ≤ m.t then decide (m.l.length = 0) && decide (m.n = S)
 else decide (m.l.length = 1) && okA S (row m 0) && (if m.t = 5 then decide (m.n = (row m 0).length) else decide (m.n = IntKind.i64.wrap (S - (row m 0).length)))
theorem Xs8 {m : Mat} (h2 : 0 ≤ m.n ∧ m.n ≤ 64 ∧ 0 ≤ m.a ∧ m.a ≤ 64) (hn : nest m.t) : (bad m = 0) ↔ Z5_ (form m.t) m = true ∧ fitsB m = true := by
 unfold nest at hn
 exact ⟨fun h => ⟨(X0_ h).2.2.1, (X0_ h).2.2.2⟩, fun h => Xh5 (by omega) h2 h.1 h.2⟩
theorem Xs9 {k : Nat} {m : Mat} (h2 : 0 ≤ m.n ∧ m.n ≤ 64 ∧ 0 ≤ m.a ∧ m.a ≤ 64) (hn : nest m.t) : ok (k + 1) m = (headB m && m.i.all (ok k) && tailB (tog m.i) m) := by
 rw [ok]
 rcases hall : m.i.all (ok k) with _ | _
 ·simp
 rw [Bool.and_true, Bool.and_true, Bool.eq_iff_iff, decide_eq_true_iff, Xs8 h2 hn, takes_iff, Bool.and_eq_true]
 obtain ⟨t, n, a, b, l, i⟩ := m
 unfold nest at hn
 unfold headB tailB
 change 5 ≤ t ∧ t ≤ 9 at hn
 change 0 ≤ n ∧ n ≤ 64 ∧ 0 ≤ a ∧ a ≤ 64 at h2
 change i.all (ok k) = true at hall
 obtain ⟨S, hS⟩ : ∃ S, tog (Mat.mk t n a b l i).i = S := ⟨_, rfl⟩
 rw [hS]
 change tog i = S at hS
 have hrow : row (.mk t n a b l i) 0 = l.getD 0 [] := rfl
 have h56 : t = 5 ∨ t = 6 → i.length = 1 → ∃ x, i = [x] ∧ tog i = x.n ∧ partB (.mk t n a b l i) = okA x.n (l.getD 0 []) ∧ 0 ≤ x.n ∧ x.n ≤ 64 := fun _ hi => by
  obtain ⟨x, rfl⟩ := List.length_eq_one_iff.1 hi
  have hx := ok_n (List.all_eq_true.1 hall x (by simp))
  refine ⟨x, rfl, Vj9 hx, ?_, hx⟩
  rw [S2_ hx.1 hx.2]
  rfl
 have h7 : 7 ≤ t → fitsB (.mk t n a b l i) = decide (n = S) := fun h => by rw [← hS]; exact R9_ (by show t = 7 ∨ t = 8 ∨ t = 9; omega)
 rcases (by omega : t = 5 ∨ t = 6 ∨ t = 7 ∨ t = 8 ∨ t = 9) with rfl | rfl | rfl | rfl | rfl
 ·have hf : fitsB (.mk 5 n a b l i) = (partB (.mk 5 n a b l i) && decide (n = (l.getD 0 []).length)) := rfl
  rw [hf, hrow]
  by_cases hi : i.length = 1
  ·obtain ⟨x, hx, ht, hp, _⟩ := h56 (.inl rfl) hi
   rw [hp, ← hS, ht]
   simp [form, hi, Mat.t, Mat.n, Mat.a, Mat.b, Mat.l, Mat.i]
   grind
  ·simp [form, Mat.t, Mat.n, Mat.a, Mat.b, Mat.l, Mat.i]
   grind
 ·have hf : fitsB (.mk 6 n a b l i) = (partB (.mk 6 n a b l i) && decide (IntKind.i64.wrap (n + (l.getD 0 []).length) = (inn (.mk 6 n a b l i)).n)) := rfl
  rw [hf, hrow]
  by_cases hi : i.length = 1
  ·obtain ⟨x, hx, ht, hp, hx0, hx1⟩ := h56 (.inr rfl) hi
   have hin : (inn (.mk 6 n a b l i)).n = x.n := by rw [hx]; rfl
   rw [hp, hin, ← hS, ht]
   rcases ho : okA x.n (l.getD 0 []) with _ | _
   ·simp [Mat.t, Mat.n, Mat.a, Mat.b, Mat.l, Mat.i]
   ·obtain ⟨o1, o2⟩ := Zf2 ho
    have hlen := Xp7 hx0 hx1 o1 o2
    rw [D8_ (by omega) (by omega), D8_ (by omega) (by omega)]
    simp [form, hi, Mat.t, Mat.n, Mat.a, Mat.b, Mat.l, Mat.i]
    grind
  ·simp [form, Mat.t, Mat.n, Mat.a, Mat.b, Mat.l, Mat.i]
   grind
 ·rw [h7 (by omega)]
  simp [form, Mat.t, Mat.n, Mat.a, Mat.b, Mat.l, Mat.i]
  grind
 ·rw [h7 (by omega)]
  simp [form, Mat.t, Mat.n, Mat.a, Mat.b, Mat.l, Mat.i]
  grind
 ·rw [h7 (by omega)]
  simp [form, Mat.t, Mat.n, Mat.a, Mat.b, Mat.l, Mat.i]
  grind
theorem Yq4 {p : Mat → Bool} {i : List Mat} {k : Nat} (hk : k < i.length) (h : p (i.getD k default) = false) : i.all p = false := by
 rw [List.all_eq_false]
 refine ⟨i[k], List.getElem_mem hk, ?_⟩
 rw [show i.getD k default = i[k] by simp [List.getD, hk]] at h
 simp [h]
theorem Yq5 {p : Mat → Bool} {i : List Mat} (h : ∀ k, k < i.length → p (i.getD k default) = true) : i.all p = true := by
 rw [List.all_eq_true]
 intro x hx
 obtain ⟨k, hk, rfl⟩ := List.mem_iff_getElem.1 hx
 have := h k hk
 rwa [show i.getD k default = i[k] by simp [List.getD, hk]] at this
def sumsI (k : Nat) (m : Mat) : Int := if m.i.all (ok k) = true then tog m.i else -1
end Go.Proofs.YtgadbnbhgpehjaaGreatDoor.Wp
namespace Go.Proofs.YtgadbnbhgpehjaaGreatDoor
open Go.RowKit
namespace Wp
def MayAt (k : Nat) : Prop := ∀ (m : Mat) (v : Value) (w : World), MatV w w.heap.size v m → Sml m → dp k m ≤ k → Calls Tryz.prog 74 #[v] w (Says w (ok k m))
theorem Xd9 (k : Nat) (ih : MayAt k) (m : Mat) (v : Value) (w : World) (hv : MatV w w.heap.size v m) (hs : Sml m) (hd : ∀ x ∈ m.i, dp k x ≤ k) : Calls Tryz.prog 102 #[v] w (Tells w (sumsI k m)) := by
 obtain ⟨lv, iv, rfl, _, ⟨Ai, ci, rfl, _, hki⟩⟩ := hv.open
 have Hk := hid hki
 have Hs := hid hs
 have Hd := hid hd
 have hlen := U1_ hs
 have hlen' : (m.i.length : Int) ≤ 1000 := by omega
 have Hb0 := hid (Z1_ w m lv (.slice Ai m.i.length ci))
 have Hblk := hid (Z3_ w m lv (.slice Ai m.i.length ci))
 obtain ⟨R, hR⟩ : ∃ R, sumsI k m = R := ⟨_, rfl⟩
 have HR := hid hR
 rw [hR]
 unfold boxed at *
 clear hv hs hd hki hR
 go_enter Tryz.func102, Tryz.ntmps102
 go_wp2
 go_loopw [3, 4] (fun vn vi wr => ∃ i : Nat, vn = .int .i64 (tog (m.i.take i)) ∧ vi = .int .i64 i ∧ i ≤ m.i.length ∧ (∀ j, j < i → ok k (m.i.getD j default) = true) ∧ Blk wr w.heap.size 25 #[.int .i64 m.t, .int .i64 m.n, .int .i64 m.a, .int .i64 m.b, lv, .slice Ai m.i.length ci] ∧ Below w.heap.size w wr) (fun _ vi _ => m.i.length - (intOf vi).toNat)
 case atStart => exact ⟨0, rfl, rfl, Nat.zero_le _, fun j hj => absurd hj (Nat.not_lt_zero _), Hblk.out, Hb0.out⟩
 case round =>
  obtain ⟨i, rfl, rfl, hi, hok, hblk, hbr⟩ := hrel
  have Hok := hid hok
  have Hbr := hid hbr
  have Hblkr := hid hblk
  have g5 := hblk.cell 5
  obtain ⟨T0, hT0⟩ : ∃ T0, tog (m.i.take i) = T0 := ⟨_, rfl⟩
  have HT0 := hid hT0
  rw [hT0]
  clear hok hblk hbr Hblk Hb0
  by_cases hlt : i < m.i.length
  ·have hltI : (i : Int) < (m.i.length : Int) := by omega
   obtain ⟨ad, u, hA, hab, hsix, hmv⟩ := Hk.out i hlt
   subst hA
   have hsix1 := hsix.below Hbr.out (by rw [Z2_]; exact hab)
   have hmv1 := (hmv.bel Hbr.out).mono Hbr.out.size
   have hmem := Y1_ m.i i default hlt
   have Hcall := hid (ih _ u wr hmv1 (sml_i Hs.out hmem) (Hd.out _ hmem))
   have htm := Yq0 (l := m.i) hlt
   rw [hT0] at htm
   have Htm := hid htm
   have Hmiss := hid (Yq4 (p := ok k) hlt)
   have Hok1 : Hid (ok k (m.i.getD i default) = true → ∀ j, j < i + 1 → ok k (m.i.getD j default) = true) := hid fun hb j hj => by
    by_cases e : j = i
    ·rw [e]; exact hb
    ·exact Hok.out j (by omega)
   obtain ⟨lvx, ivx, hux, _, _⟩ := hmv1.open
   obtain ⟨x0, x1, x2, x3, x4, x5, hu6, s0, s1, s2, s3, s4, s5⟩ := hsix1
   rw [hux] at hu6
   injection hu6 with hu6
   injection hu6 with hu6
   injection hu6 with h0 hu6
   injection hu6 with h1 hu6
   injection hu6 with h2 hu6
   injection hu6 with h3 hu6
   injection hu6 with h4 hu6
   injection hu6 with h5 _
   subst h0 h1 h2 h3 h4 h5 hux
   have Hs1 := hid s1
   have Hab := hid (show ((ad.add (i * 6)).block) < wr.heap.size from by rw [Z2_]; exact Nat.lt_of_lt_of_le hab Hbr.out.size)
   clear hT0 htm hmem hsix hmv hmv1 hab Hok
   generalize m.i.getD i default = x at *
   rcases hb : ok k x with _ | _
   ·have HR1 : Hid (R = -1) := hid (by rw [← HR.out]; unfold sumsI; rw [Hmiss.out hb]; rfl)
    rw [hb] at Hcall
    obtain rfl := HR1.out
    clear hb
    go_wp2_with fail
    refine (Hcall.out).mono ?_
    rintro e w1 ⟨rfl, hb1⟩
    have Hb1 := hid (Z0_ Hbr.out (le_refl _) hb1)
    clear hb1
    go_wp2
    go_ret
    exact ⟨rfl, Hb1.out⟩
   ·have Hb := hid hb
    rw [hb] at Hcall
    clear hb
    go_wp2_with fail
    refine (Hcall.out).mono ?_
    rintro e w1 ⟨rfl, hb1⟩
    have Hb1 := hid (Z0_ Hbr.out (le_refl _) hb1)
    have Hblk1 := hid (Hblkr.out.below hb1 Hblkr.out.lt)
    have g5' := Hblk1.out.cell 5
    have s1' := (hb1.cell (p := ⟨(ad.add (i * 6)).block, (ad.add (i * 6)).off + 1, none⟩) Hab.out).trans Hs1.out
    clear hb1 s0 s1 s2 s3 s4 s5 g5
    go_wp2
    go_roundw
    case rel => exact ⟨i + 1, by rw [Htm.out, Yp5], by go_num, by omega, Hok1.out Hb.out, Hblk1.out, Hb1.out⟩
    case measure => simp [intOf]; omega
  ·have hie : i = m.i.length := by omega
   have Hie := hid hie
   have HR1 : Hid (R = T0) := hid (by rw [← HR.out, ← HT0.out]; unfold sumsI; rw [if_pos (Yq5 (by rw [← Hie.out]; exact Hok.out)), Hie.out, List.take_length])
   obtain rfl := HR1.out
   obtain rfl := hie
   clear hT0
   go_wp2
   go_ret
   exact ⟨rfl, Hbr.out⟩
theorem Xe0 (m : Mat) (v : Value) (w : World) (hv : MatV w w.heap.size v m) (h : m.n < 0 ∨ 64 < m.n ∨ m.a < 0 ∨ 64 < m.a) : Calls Tryz.prog 74 #[v] w (Says w false) := by
 obtain ⟨lv, iv, rfl, _, _⟩ := hv.open
 have Hb0 := hid (Z1_ w m lv iv)
 have gb := (Z3_ w m lv iv).cell
 have g1 := gb 1
 have g2 := gb 2
 unfold boxed at *
 clear hv gb
 by_cases a3 : m.n < 0
 ·go_enter Tryz.func74, Tryz.ntmps74
  go_wp2
  go_ret
  exact ⟨rfl, Hb0.out⟩
 by_cases a4 : 64 < m.n
 ·go_enter Tryz.func74, Tryz.ntmps74
  go_wp2
  go_ret
  exact ⟨rfl, Hb0.out⟩
 by_cases a5 : m.a < 0
 ·go_enter Tryz.func74, Tryz.ntmps74
  go_wp2
  go_ret
  exact ⟨rfl, Hb0.out⟩
 have a6 : 64 < m.a := by omega
 clear h
 go_enter Tryz.func74, Tryz.ntmps74
 go_wp2
 go_ret
 exact ⟨rfl, Hb0.out⟩
theorem Yg6 (m : Mat) (v : Value) (w : World) (hv : MatV w w.heap.size v m) (hs : Sml m) (h2 : 0 ≤ m.n ∧ m.n ≤ 64 ∧ 0 ≤ m.a ∧ m.a ≤ 64) (hn : ¬ nest m.t) : Calls Tryz.prog 74 #[v] w (Says w (decide (bad m = 0))) := by
 obtain ⟨lv, iv, rfl, hl, ⟨Ai, ci, rfl, hci, hki⟩⟩ := hv.open
 have Hv := hid (hv.up (Z1_ w m lv (.slice Ai m.i.length ci)))
 have Hb0 := hid (Z1_ w m lv (.slice Ai m.i.length ci))
 have Hblk := hid (Z3_ w m lv (.slice Ai m.i.length ci))
 have Hl := hid (hl.up Hb0.out)
 have gb := Hblk.out.cell
 have g0 := gb 0
 have g1 := gb 1
 have g2 := gb 2
 have g3 := gb 3
 have g4 := gb 4
 have g5 := gb 5
 have a3 : ¬ m.n < 0 := by omega
 have a4 : ¬ 64 < m.n := by omega
 have a5 : ¬ m.a < 0 := by omega
 have a6 : ¬ 64 < m.a := by omega
 unfold boxed at *
 have Hn := hid hn
 have Hp := hid (fun (v : Value) (W : World) (hv : MatV W W.heap.size v m) => Yg5 m v W hv hs h2 hn)
 generalize decide (bad m = 0) = D at *
 clear hv hn hl hci hki gb hs h2
 go_enter Tryz.func74, Tryz.ntmps74
 go_wp2_with fail
 refine (Y5_ m.t _).mono ?_
 rintro e w1 ⟨rfl, hb1⟩
 rw [decide_eq_false Hn.out]
 have Hb1 := hid (Z0_ Hb0.out (le_refl _) hb1)
 have Hv1 := hid (Hv.out.up hb1)
 have Hl1 := hid (Hl.out.up hb1)
 have Hblk1 := hid (Hblk.out.below hb1 Hblk.out.lt)
 have k1 := Hblk1.out.cell
 have d0 := k1 0
 have d1 := k1 1
 have d2 := k1 2
 have d3 := k1 3
 have d4 := k1 4
 have d5 := k1 5
 clear k1 hb1 g0 g1 g2 g3 g4 g5 a3 a4 a5 a6 Hb0 Hv Hl Hblk
 go_wp2_with fail
 refine (Hp.out _ _ Hv1.out).mono ?_
 rintro e w2 ⟨rfl, hb2⟩
 have Hb2 := hid (Z0_ Hb1.out (le_refl _) hb2)
 clear hb2 d0 d1 d2 d3 d4 d5
 go_wp2
 go_ret
 exact ⟨rfl, Hb2.out⟩
theorem Xt0 (m : Mat) (v : Value) (w : World) (hv : MatV w w.heap.size v m) (_hs : Sml m) (h2 : 0 ≤ m.n ∧ m.n ≤ 64 ∧ 0 ≤ m.a ∧ m.a ≤ 64) (hn : nest m.t) (q1 : m.b ≠ 0) : Calls Tryz.prog 74 #[v] w (Says w false) := by
 obtain ⟨lv, iv, rfl, hl, ⟨Ai, ci, rfl, hci, hki⟩⟩ := hv.open
 have Hv := hid (hv.up (Z1_ w m lv (.slice Ai m.i.length ci)))
 have Hb0 := hid (Z1_ w m lv (.slice Ai m.i.length ci))
 have Hblk := hid (Z3_ w m lv (.slice Ai m.i.length ci))
 have Hl := hid (hl.up Hb0.out)
 have gb := Hblk.out.cell
 have g0 := gb 0
 have g1 := gb 1
 have g2 := gb 2
 have g3 := gb 3
 have g4 := gb 4
 have g5 := gb 5
 have a3 : ¬ m.n < 0 := by omega
 have a4 : ¬ 64 < m.n := by omega
 have a5 : ¬ m.a < 0 := by omega
 have a6 : ¬ 64 < m.a := by omega
 unfold boxed at *
 have Hn := hid hn
 clear hv hn hl hci hki gb h2
 have e1 : (m.b != 0) = true := by simpa using q1
 clear q1
 go_enter Tryz.func74, Tryz.ntmps74
 go_wp2_with fail
 refine (Y5_ m.t _).mono ?_
 rintro e w1 ⟨rfl, hb1⟩
 rw [decide_eq_true Hn.out]
 have Hb1 := hid (Z0_ Hb0.out (le_refl _) hb1)
 have Hv1 := hid (Hv.out.up hb1)
 have Hl1 := hid (Hl.out.up hb1)
 have Hblk1 := hid (Hblk.out.below hb1 Hblk.out.lt)
 have k1 := Hblk1.out.cell
 have d0 := k1 0
 have d1 := k1 1
 have d2 := k1 2
 have d3 := k1 3
 have d4 := k1 4
 have d5 := k1 5
 clear k1 hb1 g0 g1 g2 g3 g4 g5 a3 a4 a5 a6 Hb0 Hv Hl Hblk
 go_wp2
 go_ret
 exact ⟨rfl, Hb1.out⟩
theorem Xt1 (m : Mat) (v : Value) (w : World) (hv : MatV w w.heap.size v m) (_hs : Sml m) (h2 : 0 ≤ m.n ∧ m.n ≤ 64 ∧ 0 ≤ m.a ∧ m.a ≤ 64) (hn : nest m.t) (q1 : m.b = 0) (q2 : m.a ≠ 0) (q3 : m.t ≠ 7) : Calls Tryz.prog 74 #[v] w (Says w false) := by
 obtain ⟨lv, iv, rfl, hl, ⟨Ai, ci, rfl, hci, hki⟩⟩ := hv.open
 have Hv := hid (hv.up (Z1_ w m lv (.slice Ai m.i.length ci)))
 have Hb0 := hid (Z1_ w m lv (.slice Ai m.i.length ci))
 have Hblk := hid (Z3_ w m lv (.slice Ai m.i.length ci))
 have Hl := hid (hl.up Hb0.out)
 have gb := Hblk.out.cell
 have g0 := gb 0
 have g1 := gb 1
 have g2 := gb 2
 have g3 := gb 3
 have g4 := gb 4
 have g5 := gb 5
 have a3 : ¬ m.n < 0 := by omega
 have a4 : ¬ 64 < m.n := by omega
 have a5 : ¬ m.a < 0 := by omega
 have a6 : ¬ 64 < m.a := by omega
 unfold boxed at *
 have Hn := hid hn
 clear hv hn hl hci hki gb h2
 have e1 : (m.b != 0) = false := by simpa using q1
 clear q1
 have e2 : (m.a != 0) = true := by simpa using q2
 have e3 : (m.t != 7) = true := by simpa using q3
 clear q2 q3
 go_enter Tryz.func74, Tryz.ntmps74
 go_wp2_with fail
 refine (Y5_ m.t _).mono ?_
 rintro e w1 ⟨rfl, hb1⟩
 rw [decide_eq_true Hn.out]
 have Hb1 := hid (Z0_ Hb0.out (le_refl _) hb1)
 have Hv1 := hid (Hv.out.up hb1)
 have Hl1 := hid (Hl.out.up hb1)
 have Hblk1 := hid (Hblk.out.below hb1 Hblk.out.lt)
 have k1 := Hblk1.out.cell
 have d0 := k1 0
 have d1 := k1 1
 have d2 := k1 2
 have d3 := k1 3
 have d4 := k1 4
 have d5 := k1 5
 clear k1 hb1 g0 g1 g2 g3 g4 g5 a3 a4 a5 a6 Hb0 Hv Hl Hblk
 go_wp2
 go_ret
 exact ⟨rfl, Hb1.out⟩
theorem Xe1 (m : Mat) (v : Value) (w : World) (hv : MatV w w.heap.size v m) (_hs : Sml m) (h2 : 0 ≤ m.n ∧ m.n ≤ 64 ∧ 0 ≤ m.a ∧ m.a ≤ 64) (hn : nest m.t) (q1 : m.b = 0) (q2 : m.a = 0) (q4 : m.i.length < 1) : Calls Tryz.prog 74 #[v] w (Says w false) := by
 obtain ⟨lv, iv, rfl, hl, ⟨Ai, ci, rfl, hci, hki⟩⟩ := hv.open
 have Hv := hid (hv.up (Z1_ w m lv (.slice Ai m.i.length ci)))
 have Hb0 := hid (Z1_ w m lv (.slice Ai m.i.length ci))
 have Hblk := hid (Z3_ w m lv (.slice Ai m.i.length ci))
 have Hl := hid (hl.up Hb0.out)
 have gb := Hblk.out.cell
 have g0 := gb 0
 have g1 := gb 1
 have g2 := gb 2
 have g3 := gb 3
 have g4 := gb 4
 have g5 := gb 5
 have a3 : ¬ m.n < 0 := by omega
 have a4 : ¬ 64 < m.n := by omega
 have a5 : ¬ m.a < 0 := by omega
 have a6 : ¬ 64 < m.a := by omega
 unfold boxed at *
 have Hn := hid hn
 clear hv hn hl hci hki gb h2
 have e1 : (m.b != 0) = false := by simpa using q1
 clear q1
 have e2 : (m.a != 0) = false := by simpa using q2
 clear q2
 have e4 : (m.i.length : Int) < 1 := by omega
 clear q4
 go_enter Tryz.func74, Tryz.ntmps74
 go_wp2_with fail
 refine (Y5_ m.t _).mono ?_
 rintro e w1 ⟨rfl, hb1⟩
 rw [decide_eq_true Hn.out]
 have Hb1 := hid (Z0_ Hb0.out (le_refl _) hb1)
 have Hv1 := hid (Hv.out.up hb1)
 have Hl1 := hid (Hl.out.up hb1)
 have Hblk1 := hid (Hblk.out.below hb1 Hblk.out.lt)
 have k1 := Hblk1.out.cell
 have d0 := k1 0
 have d1 := k1 1
 have d2 := k1 2
 have d3 := k1 3
 have d4 := k1 4
 have d5 := k1 5
 clear k1 hb1 g0 g1 g2 g3 g4 g5 a3 a4 a5 a6 Hb0 Hv Hl Hblk
 go_wp2
 go_ret
 exact ⟨rfl, Hb1.out⟩
theorem Xe2 (m : Mat) (v : Value) (w : World) (hv : MatV w w.heap.size v m) (_hs : Sml m) (h2 : 0 ≤ m.n ∧ m.n ≤ 64 ∧ 0 ≤ m.a ∧ m.a ≤ 64) (hn : nest m.t) (q1 : m.b = 0) (q2 : m.a ≠ 0) (q3 : m.t = 7) (q4 : m.i.length < 1) : Calls Tryz.prog 74 #[v] w (Says w false) := by
 obtain ⟨lv, iv, rfl, hl, ⟨Ai, ci, rfl, hci, hki⟩⟩ := hv.open
 have Hv := hid (hv.up (Z1_ w m lv (.slice Ai m.i.length ci)))
 have Hb0 := hid (Z1_ w m lv (.slice Ai m.i.length ci))
 have Hblk := hid (Z3_ w m lv (.slice Ai m.i.length ci))
 have Hl := hid (hl.up Hb0.out)
 have gb := Hblk.out.cell
 have g0 := gb 0
 have g1 := gb 1
 have g2 := gb 2
 have g3 := gb 3
 have g4 := gb 4
 have g5 := gb 5
 have a3 : ¬ m.n < 0 := by omega
 have a4 : ¬ 64 < m.n := by omega
 have a5 : ¬ m.a < 0 := by omega
 have a6 : ¬ 64 < m.a := by omega
 unfold boxed at *
 have Hn := hid hn
 clear hv hn hl hci hki gb h2
 have e1 : (m.b != 0) = false := by simpa using q1
 clear q1
 have e2 : (m.a != 0) = true := by simpa using q2
 have e3 : (m.t != 7) = false := by simpa using q3
 clear q2 q3
 have e4 : (m.i.length : Int) < 1 := by omega
 clear q4
 go_enter Tryz.func74, Tryz.ntmps74
 go_wp2_with fail
 refine (Y5_ m.t _).mono ?_
 rintro e w1 ⟨rfl, hb1⟩
 rw [decide_eq_true Hn.out]
 have Hb1 := hid (Z0_ Hb0.out (le_refl _) hb1)
 have Hv1 := hid (Hv.out.up hb1)
 have Hl1 := hid (Hl.out.up hb1)
 have Hblk1 := hid (Hblk.out.below hb1 Hblk.out.lt)
 have k1 := Hblk1.out.cell
 have d0 := k1 0
 have d1 := k1 1
 have d2 := k1 2
 have d3 := k1 3
 have d4 := k1 4
 have d5 := k1 5
 clear k1 hb1 g0 g1 g2 g3 g4 g5 a3 a4 a5 a6 Hb0 Hv Hl Hblk
 go_wp2
 go_ret
 exact ⟨rfl, Hb1.out⟩
theorem Xe3 (m : Mat) (v : Value) (w : World) (hv : MatV w w.heap.size v m) (_hs : Sml m) (h2 : 0 ≤ m.n ∧ m.n ≤ 64 ∧ 0 ≤ m.a ∧ m.a ≤ 64) (hn : nest m.t) (q1 : m.b = 0) (q2 : m.a = 0) (q4 : 8 < m.i.length) : Calls Tryz.prog 74 #[v] w (Says w false) := by
 obtain ⟨lv, iv, rfl, hl, ⟨Ai, ci, rfl, hci, hki⟩⟩ := hv.open
 have Hv := hid (hv.up (Z1_ w m lv (.slice Ai m.i.length ci)))
 have Hb0 := hid (Z1_ w m lv (.slice Ai m.i.length ci))
 have Hblk := hid (Z3_ w m lv (.slice Ai m.i.length ci))
 have Hl := hid (hl.up Hb0.out)
 have gb := Hblk.out.cell
 have g0 := gb 0
 have g1 := gb 1
 have g2 := gb 2
 have g3 := gb 3
 have g4 := gb 4
 have g5 := gb 5
 have a3 : ¬ m.n < 0 := by omega
 have a4 : ¬ 64 < m.n := by omega
 have a5 : ¬ m.a < 0 := by omega
 have a6 : ¬ 64 < m.a := by omega
 unfold boxed at *
 have Hn := hid hn
 clear hv hn hl hci hki gb h2
 have e1 : (m.b != 0) = false := by simpa using q1
 clear q1
 have e2 : (m.a != 0) = false := by simpa using q2
 clear q2
 have e4 : ¬ (m.i.length : Int) < 1 := by omega
 have e5 : (8 : Int) < (m.i.length : Int) := by omega
 clear q4
 go_enter Tryz.func74, Tryz.ntmps74
 go_wp2_with fail
 refine (Y5_ m.t _).mono ?_
 rintro e w1 ⟨rfl, hb1⟩
 rw [decide_eq_true Hn.out]
 have Hb1 := hid (Z0_ Hb0.out (le_refl _) hb1)
 have Hv1 := hid (Hv.out.up hb1)
 have Hl1 := hid (Hl.out.up hb1)
 have Hblk1 := hid (Hblk.out.below hb1 Hblk.out.lt)
 have k1 := Hblk1.out.cell
 have d0 := k1 0
 have d1 := k1 1
 have d2 := k1 2
 have d3 := k1 3
 have d4 := k1 4
 have d5 := k1 5
 clear k1 hb1 g0 g1 g2 g3 g4 g5 a3 a4 a5 a6 Hb0 Hv Hl Hblk
 go_wp2
 go_ret
 exact ⟨rfl, Hb1.out⟩
theorem Xe4 (m : Mat) (v : Value) (w : World) (hv : MatV w w.heap.size v m) (_hs : Sml m) (h2 : 0 ≤ m.n ∧ m.n ≤ 64 ∧ 0 ≤ m.a ∧ m.a ≤ 64) (hn : nest m.t) (q1 : m.b = 0) (q2 : m.a ≠ 0) (q3 : m.t = 7) (q4 : 8 < m.i.length) : Calls Tryz.prog 74 #[v] w (Says w false) := by
 obtain ⟨lv, iv, rfl, hl, ⟨Ai, ci, rfl, hci, hki⟩⟩ := hv.open
 have Hv := hid (hv.up (Z1_ w m lv (.slice Ai m.i.length ci)))
 have Hb0 := hid (Z1_ w m lv (.slice Ai m.i.length ci))
 have Hblk := hid (Z3_ w m lv (.slice Ai m.i.length ci))
 have Hl := hid (hl.up Hb0.out)
 have gb := Hblk.out.cell
 have g0 := gb 0
 have g1 := gb 1
 have g2 := gb 2
 have g3 := gb 3
 have g4 := gb 4
 have g5 := gb 5
 have a3 : ¬ m.n < 0 := by omega
 have a4 : ¬ 64 < m.n := by omega
 have a5 : ¬ m.a < 0 := by omega
 have a6 : ¬ 64 < m.a := by omega
 unfold boxed at *
 have Hn := hid hn
 clear hv hn hl hci hki gb h2
 have e1 : (m.b != 0) = false := by simpa using q1
 clear q1
 have e2 : (m.a != 0) = true := by simpa using q2
 have e3 : (m.t != 7) = false := by simpa using q3
 clear q2 q3
 have e4 : ¬ (m.i.length : Int) < 1 := by omega
 have e5 : (8 : Int) < (m.i.length : Int) := by omega
 clear q4
 go_enter Tryz.func74, Tryz.ntmps74
 go_wp2_with fail
 refine (Y5_ m.t _).mono ?_
 rintro e w1 ⟨rfl, hb1⟩
 rw [decide_eq_true Hn.out]
 have Hb1 := hid (Z0_ Hb0.out (le_refl _) hb1)
 have Hv1 := hid (Hv.out.up hb1)
 have Hl1 := hid (Hl.out.up hb1)
 have Hblk1 := hid (Hblk.out.below hb1 Hblk.out.lt)
 have k1 := Hblk1.out.cell
 have d0 := k1 0
 have d1 := k1 1
 have d2 := k1 2
 have d3 := k1 3
 have d4 := k1 4
 have d5 := k1 5
 clear k1 hb1 g0 g1 g2 g3 g4 g5 a3 a4 a5 a6 Hb0 Hv Hl Hblk
 go_wp2
 go_ret
 exact ⟨rfl, Hb1.out⟩
theorem Xe5 (m : Mat) (v : Value) (w : World) (hv : MatV w w.heap.size v m) (_hs : Sml m) (h2 : 0 ≤ m.n ∧ m.n ≤ 64 ∧ 0 ≤ m.a ∧ m.a ≤ 64) (hn : nest m.t) (q1 : m.b = 0) (q2 : m.a = 0) (q4 : 1 < m.i.length) (q5 : m.i.length ≤ 8) (q6 : m.t ≠ 9) : Calls Tryz.prog 74 #[v] w (Says w false) := by
 obtain ⟨lv, iv, rfl, hl, ⟨Ai, ci, rfl, hci, hki⟩⟩ := hv.open
 have Hv := hid (hv.up (Z1_ w m lv (.slice Ai m.i.length ci)))
 have Hb0 := hid (Z1_ w m lv (.slice Ai m.i.length ci))
 have Hblk := hid (Z3_ w m lv (.slice Ai m.i.length ci))
 have Hl := hid (hl.up Hb0.out)
 have gb := Hblk.out.cell
 have g0 := gb 0
 have g1 := gb 1
 have g2 := gb 2
 have g3 := gb 3
 have g4 := gb 4
 have g5 := gb 5
 have a3 : ¬ m.n < 0 := by omega
 have a4 : ¬ 64 < m.n := by omega
 have a5 : ¬ m.a < 0 := by omega
 have a6 : ¬ 64 < m.a := by omega
 unfold boxed at *
 have Hn := hid hn
 clear hv hn hl hci hki gb h2
 have e1 : (m.b != 0) = false := by simpa using q1
 clear q1
 have e2 : (m.a != 0) = false := by simpa using q2
 clear q2
 have e4 : ¬ (m.i.length : Int) < 1 := by omega
 have e5 : ¬ (8 : Int) < (m.i.length : Int) := by omega
 have e6 : (1 : Int) < (m.i.length : Int) := by omega
 have e7 : (m.t != 9) = true := by simpa using q6
 clear q4 q5 q6
 go_enter Tryz.func74, Tryz.ntmps74
 go_wp2_with fail
 refine (Y5_ m.t _).mono ?_
 rintro e w1 ⟨rfl, hb1⟩
 rw [decide_eq_true Hn.out]
 have Hb1 := hid (Z0_ Hb0.out (le_refl _) hb1)
 have Hv1 := hid (Hv.out.up hb1)
 have Hl1 := hid (Hl.out.up hb1)
 have Hblk1 := hid (Hblk.out.below hb1 Hblk.out.lt)
 have k1 := Hblk1.out.cell
 have d0 := k1 0
 have d1 := k1 1
 have d2 := k1 2
 have d3 := k1 3
 have d4 := k1 4
 have d5 := k1 5
 clear k1 hb1 g0 g1 g2 g3 g4 g5 a3 a4 a5 a6 Hb0 Hv Hl Hblk
 go_wp2
 go_ret
 exact ⟨rfl, Hb1.out⟩
theorem Xe6 (m : Mat) (v : Value) (w : World) (hv : MatV w w.heap.size v m) (_hs : Sml m) (h2 : 0 ≤ m.n ∧ m.n ≤ 64 ∧ 0 ≤ m.a ∧ m.a ≤ 64) (hn : nest m.t) (q1 : m.b = 0) (q2 : m.a ≠ 0) (q3 : m.t = 7) (q4 : 1 < m.i.length) (q5 : m.i.length ≤ 8) (q6 : m.t ≠ 9) : Calls Tryz.prog 74 #[v] w (Says w false) := by
 obtain ⟨lv, iv, rfl, hl, ⟨Ai, ci, rfl, hci, hki⟩⟩ := hv.open
 have Hv := hid (hv.up (Z1_ w m lv (.slice Ai m.i.length ci)))
 have Hb0 := hid (Z1_ w m lv (.slice Ai m.i.length ci))
 have Hblk := hid (Z3_ w m lv (.slice Ai m.i.length ci))
 have Hl := hid (hl.up Hb0.out)
 have gb := Hblk.out.cell
 have g0 := gb 0
 have g1 := gb 1
 have g2 := gb 2
 have g3 := gb 3
 have g4 := gb 4
 have g5 := gb 5
 have a3 : ¬ m.n < 0 := by omega
 have a4 : ¬ 64 < m.n := by omega
 have a5 : ¬ m.a < 0 := by omega
 have a6 : ¬ 64 < m.a := by omega
 unfold boxed at *
 have Hn := hid hn
 clear hv hn hl hci hki gb h2
 have e1 : (m.b != 0) = false := by simpa using q1
 clear q1
 have e2 : (m.a != 0) = true := by simpa using q2
 have e3 : (m.t != 7) = false := by simpa using q3
 clear q2 q3
 have e4 : ¬ (m.i.length : Int) < 1 := by omega
 have e5 : ¬ (8 : Int) < (m.i.length : Int) := by omega
 have e6 : (1 : Int) < (m.i.length : Int) := by omega
 have e7 : (m.t != 9) = true := by simpa using q6
 clear q4 q5 q6
 go_enter Tryz.func74, Tryz.ntmps74
 go_wp2_with fail
 refine (Y5_ m.t _).mono ?_
 rintro e w1 ⟨rfl, hb1⟩
 rw [decide_eq_true Hn.out]
 have Hb1 := hid (Z0_ Hb0.out (le_refl _) hb1)
 have Hv1 := hid (Hv.out.up hb1)
 have Hl1 := hid (Hl.out.up hb1)
 have Hblk1 := hid (Hblk.out.below hb1 Hblk.out.lt)
 have k1 := Hblk1.out.cell
 have d0 := k1 0
 have d1 := k1 1
 have d2 := k1 2
 have d3 := k1 3
 have d4 := k1 4
 have d5 := k1 5
 clear k1 hb1 g0 g1 g2 g3 g4 g5 a3 a4 a5 a6 Hb0 Hv Hl Hblk
 go_wp2
 go_ret
 exact ⟨rfl, Hb1.out⟩
theorem Ys7 (m : Mat) (v : Value) (w : World) (hv : MatV w w.heap.size v m) (hs : Sml m) (h2 : 0 ≤ m.n ∧ m.n ≤ 64 ∧ 0 ≤ m.a ∧ m.a ≤ 64) (hn : nest m.t) (h : headB m = false) : Calls Tryz.prog 74 #[v] w (Says w false) := by
 unfold headB at h
 by_cases q1 : m.b = 0
 ·by_cases q2 : m.a = 0
  ·by_cases q4 : m.i.length < 1
   ·exact Xe1 m v w hv hs h2 hn q1 q2 q4
   by_cases q5 : 8 < m.i.length
   ·exact Xe3 m v w hv hs h2 hn q1 q2 q5
   exact Xe5 m v w hv hs h2 hn q1 q2 (by simp [q1, q2] at h; omega) (by omega) (by simp [q1, q2] at h; omega)
  ·by_cases q3 : m.t = 7
   ·by_cases q4 : m.i.length < 1
    ·exact Xe2 m v w hv hs h2 hn q1 q2 q3 q4
    by_cases q5 : 8 < m.i.length
    ·exact Xe4 m v w hv hs h2 hn q1 q2 q3 q5
    exact Xe6 m v w hv hs h2 hn q1 q2 q3 (by simp [q1, q3] at h; omega) (by omega) (by omega)
   ·exact Xt1 m v w hv hs h2 hn q1 q2 q3
 ·exact Xt0 m v w hv hs h2 hn q1
theorem Ys8 (m : Mat) (v : Value) (w : World) (hv : MatV w w.heap.size v m) (_hs : Sml m) (h2 : 0 ≤ m.n ∧ m.n ≤ 64 ∧ 0 ≤ m.a ∧ m.a ≤ 64) (hn : nest m.t) (S : Int) (Hsum : ∀ (v : Value) (W : World), MatV W W.heap.size v m → Calls Tryz.prog 102 #[v] W (Tells W S)) (q1 : m.b = 0) (q2 : m.a = 0) (q4 : m.i.length = 1) (q7 : S < 0) : Calls Tryz.prog 74 #[v] w (Says w false) := by
 have Hsum := hid Hsum
 obtain ⟨lv, iv, rfl, hl, ⟨Ai, ci, rfl, hci, hki⟩⟩ := hv.open
 obtain ⟨Al, cl, rfl, hcl, hkl⟩ := id hl
 have Hv := hid (hv.up (Z1_ w m (.slice Al m.l.length cl) (.slice Ai m.i.length ci)))
 have Hb0 := hid (Z1_ w m (.slice Al m.l.length cl) (.slice Ai m.i.length ci))
 have Hblk := hid (Z3_ w m (.slice Al m.l.length cl) (.slice Ai m.i.length ci))
 have Hl := hid (hl.up Hb0.out)
 have gb := Hblk.out.cell
 have g0 := gb 0
 have g1 := gb 1
 have g2 := gb 2
 have g3 := gb 3
 have g4 := gb 4
 have g5 := gb 5
 have a3 : ¬ m.n < 0 := by omega
 have a4 : ¬ 64 < m.n := by omega
 have a5 : ¬ m.a < 0 := by omega
 have a6 : ¬ 64 < m.a := by omega
 unfold boxed at *
 have Hn := hid hn
 clear hv hn hci hki gb h2
 have e1 : (m.b != 0) = false := by simpa using q1
 clear q1
 have e2 : (m.a != 0) = false := by simpa using q2
 have e4 : ¬ (m.i.length : Int) < 1 := by omega
 have e5 : ¬ (8 : Int) < (m.i.length : Int) := by omega
 have e6 : ¬ (1 : Int) < (m.i.length : Int) := by omega
 clear q2 q4
 go_enter Tryz.func74, Tryz.ntmps74
 go_wp2_with fail
 refine (Y5_ m.t _).mono ?_
 rintro e w1 ⟨rfl, hb1⟩
 rw [decide_eq_true Hn.out]
 have Hb1 := hid (Z0_ Hb0.out (le_refl _) hb1)
 have Hv1 := hid (Hv.out.up hb1)
 have Hl1 := hid (Hl.out.up hb1)
 have Hblk1 := hid (Hblk.out.below hb1 Hblk.out.lt)
 have k1 := Hblk1.out.cell
 have d0 := k1 0
 have d1 := k1 1
 have d2 := k1 2
 have d3 := k1 3
 have d4 := k1 4
 have d5 := k1 5
 clear k1 hb1 g0 g1 g2 g3 g4 g5 a3 a4 a5 a6 Hb0 Hv Hl Hblk
 go_wp2_with fail
 refine (Hsum.out _ _ Hv1.out).mono ?_
 rintro e w2 ⟨rfl, hb2⟩
 have Hb2 := hid (Z0_ Hb1.out (le_refl _) hb2)
 have Hl2 := hid (Hl1.out.up hb2)
 have Hblk2 := hid (Hblk1.out.below hb2 Hblk1.out.lt)
 clear hb2 d0 d1 d2 d3 d4 d5 e1 e2 e4 e5 e6
 have k2 := Hblk2.out.cell
 have d0 := k2 0
 have d1 := k2 1
 have d4 := k2 4
 clear k2
 go_wp2
 go_ret
 exact ⟨rfl, Hb2.out⟩
theorem Ys9 (m : Mat) (v : Value) (w : World) (hv : MatV w w.heap.size v m) (_hs : Sml m) (h2 : 0 ≤ m.n ∧ m.n ≤ 64 ∧ 0 ≤ m.a ∧ m.a ≤ 64) (hn : nest m.t) (S : Int) (Hsum : ∀ (v : Value) (W : World), MatV W W.heap.size v m → Calls Tryz.prog 102 #[v] W (Tells W S)) (q1 : m.b = 0) (q2 : m.a = 0) (q4 : m.i.length = 1) (q7 : ¬ S < 0) (q8 : 7 ≤ m.t) : Calls Tryz.prog 74 #[v] w (Says w (decide (m.l.length = 0) && decide (m.n = S))) := by
 have Hsum := hid Hsum
 obtain ⟨lv, iv, rfl, hl, ⟨Ai, ci, rfl, hci, hki⟩⟩ := hv.open
 obtain ⟨Al, cl, rfl, hcl, hkl⟩ := id hl
 have Hv := hid (hv.up (Z1_ w m (.slice Al m.l.length cl) (.slice Ai m.i.length ci)))
 have Hb0 := hid (Z1_ w m (.slice Al m.l.length cl) (.slice Ai m.i.length ci))
 have Hblk := hid (Z3_ w m (.slice Al m.l.length cl) (.slice Ai m.i.length ci))
 have Hl := hid (hl.up Hb0.out)
 have gb := Hblk.out.cell
 have g0 := gb 0
 have g1 := gb 1
 have g2 := gb 2
 have g3 := gb 3
 have g4 := gb 4
 have g5 := gb 5
 have a3 : ¬ m.n < 0 := by omega
 have a4 : ¬ 64 < m.n := by omega
 have a5 : ¬ m.a < 0 := by omega
 have a6 : ¬ 64 < m.a := by omega
 unfold boxed at *
 have Hn := hid hn
 obtain ⟨L0, hL0⟩ : ∃ L0, decide (m.l.length = 0) = L0 := ⟨_, rfl⟩
 obtain ⟨N0, hN0⟩ : ∃ N0, decide (m.n = S) = N0 := ⟨_, rfl⟩
 rw [hL0, hN0]
 have f0 : ((m.l.length : Int) == 0) = L0 := by rw [← hL0, Bool.eq_iff_iff, beq_iff_eq, decide_eq_true_iff]; omega
 have f1 : (m.n == S) = N0 := by rw [← hN0, Bool.eq_iff_iff, beq_iff_eq, decide_eq_true_iff]
 clear hL0 hN0
 clear hv hn hci hki gb h2
 have e1 : (m.b != 0) = false := by simpa using q1
 clear q1
 have e2 : (m.a != 0) = false := by simpa using q2
 have e4 : ¬ (m.i.length : Int) < 1 := by omega
 have e5 : ¬ (8 : Int) < (m.i.length : Int) := by omega
 have e6 : ¬ (1 : Int) < (m.i.length : Int) := by omega
 clear q2 q4
 go_enter Tryz.func74, Tryz.ntmps74
 go_wp2_with fail
 refine (Y5_ m.t _).mono ?_
 rintro e w1 ⟨rfl, hb1⟩
 rw [decide_eq_true Hn.out]
 have Hb1 := hid (Z0_ Hb0.out (le_refl _) hb1)
 have Hv1 := hid (Hv.out.up hb1)
 have Hl1 := hid (Hl.out.up hb1)
 have Hblk1 := hid (Hblk.out.below hb1 Hblk.out.lt)
 have k1 := Hblk1.out.cell
 have d0 := k1 0
 have d1 := k1 1
 have d2 := k1 2
 have d3 := k1 3
 have d4 := k1 4
 have d5 := k1 5
 clear k1 hb1 g0 g1 g2 g3 g4 g5 a3 a4 a5 a6 Hb0 Hv Hl Hblk
 go_wp2_with fail
 refine (Hsum.out _ _ Hv1.out).mono ?_
 rintro e w2 ⟨rfl, hb2⟩
 have Hb2 := hid (Z0_ Hb1.out (le_refl _) hb2)
 have Hl2 := hid (Hl1.out.up hb2)
 have Hblk2 := hid (Hblk1.out.below hb2 Hblk1.out.lt)
 clear hb2 d0 d1 d2 d3 d4 d5 e1 e2 e4 e5 e6
 have k2 := Hblk2.out.cell
 have d0 := k2 0
 have d1 := k2 1
 have d4 := k2 4
 clear k2
 cases L0
 ·go_wp2
  go_ret
  exact ⟨rfl, Hb2.out⟩
 ·go_wp2
  go_ret
  exact ⟨by rw [Bool.true_and, ← f1]; rfl, Hb2.out⟩
theorem Yt0 (m : Mat) (v : Value) (w : World) (hv : MatV w w.heap.size v m) (_hs : Sml m) (h2 : 0 ≤ m.n ∧ m.n ≤ 64 ∧ 0 ≤ m.a ∧ m.a ≤ 64) (hn : nest m.t) (S : Int) (Hsum : ∀ (v : Value) (W : World), MatV W W.heap.size v m → Calls Tryz.prog 102 #[v] W (Tells W S)) (q1 : m.b = 0) (q2 : m.a ≠ 0) (q3 : m.t = 7) (q4 : m.i.length = 1) (q7 : S < 0) : Calls Tryz.prog 74 #[v] w (Says w false) := by
 have Hsum := hid Hsum
 obtain ⟨lv, iv, rfl, hl, ⟨Ai, ci, rfl, hci, hki⟩⟩ := hv.open
 obtain ⟨Al, cl, rfl, hcl, hkl⟩ := id hl
 have Hv := hid (hv.up (Z1_ w m (.slice Al m.l.length cl) (.slice Ai m.i.length ci)))
 have Hb0 := hid (Z1_ w m (.slice Al m.l.length cl) (.slice Ai m.i.length ci))
 have Hblk := hid (Z3_ w m (.slice Al m.l.length cl) (.slice Ai m.i.length ci))
 have Hl := hid (hl.up Hb0.out)
 have gb := Hblk.out.cell
 have g0 := gb 0
 have g1 := gb 1
 have g2 := gb 2
 have g3 := gb 3
 have g4 := gb 4
 have g5 := gb 5
 have a3 : ¬ m.n < 0 := by omega
 have a4 : ¬ 64 < m.n := by omega
 have a5 : ¬ m.a < 0 := by omega
 have a6 : ¬ 64 < m.a := by omega
 unfold boxed at *
 have Hn := hid hn
 clear hv hn hci hki gb h2
 have e1 : (m.b != 0) = false := by simpa using q1
 clear q1
 have e2 : (m.a != 0) = true := by simpa using q2
 have e3 : (m.t != 7) = false := by simpa using q3
 have e4 : ¬ (m.i.length : Int) < 1 := by omega
 have e5 : ¬ (8 : Int) < (m.i.length : Int) := by omega
 have e6 : ¬ (1 : Int) < (m.i.length : Int) := by omega
 clear q2 q3 q4
 go_enter Tryz.func74, Tryz.ntmps74
 go_wp2_with fail
 refine (Y5_ m.t _).mono ?_
 rintro e w1 ⟨rfl, hb1⟩
 rw [decide_eq_true Hn.out]
 have Hb1 := hid (Z0_ Hb0.out (le_refl _) hb1)
 have Hv1 := hid (Hv.out.up hb1)
 have Hl1 := hid (Hl.out.up hb1)
 have Hblk1 := hid (Hblk.out.below hb1 Hblk.out.lt)
 have k1 := Hblk1.out.cell
 have d0 := k1 0
 have d1 := k1 1
 have d2 := k1 2
 have d3 := k1 3
 have d4 := k1 4
 have d5 := k1 5
 clear k1 hb1 g0 g1 g2 g3 g4 g5 a3 a4 a5 a6 Hb0 Hv Hl Hblk
 go_wp2_with fail
 refine (Hsum.out _ _ Hv1.out).mono ?_
 rintro e w2 ⟨rfl, hb2⟩
 have Hb2 := hid (Z0_ Hb1.out (le_refl _) hb2)
 have Hl2 := hid (Hl1.out.up hb2)
 have Hblk2 := hid (Hblk1.out.below hb2 Hblk1.out.lt)
 clear hb2 d0 d1 d2 d3 d4 d5 e1 e2 e4 e5 e6
 have k2 := Hblk2.out.cell
 have d0 := k2 0
 have d1 := k2 1
 have d4 := k2 4
 clear k2
 go_wp2
 go_ret
 exact ⟨rfl, Hb2.out⟩
theorem Yt1 (m : Mat) (v : Value) (w : World) (hv : MatV w w.heap.size v m) (_hs : Sml m) (h2 : 0 ≤ m.n ∧ m.n ≤ 64 ∧ 0 ≤ m.a ∧ m.a ≤ 64) (hn : nest m.t) (S : Int) (Hsum : ∀ (v : Value) (W : World), MatV W W.heap.size v m → Calls Tryz.prog 102 #[v] W (Tells W S)) (q1 : m.b = 0) (q2 : m.a ≠ 0) (q3 : m.t = 7) (q4 : m.i.length = 1) (q7 : ¬ S < 0) (q8 : 7 ≤ m.t) : Calls Tryz.prog 74 #[v] w (Says w (decide (m.l.length = 0) && decide (m.n = S))) := by
 have Hsum := hid Hsum
 obtain ⟨lv, iv, rfl, hl, ⟨Ai, ci, rfl, hci, hki⟩⟩ := hv.open
 obtain ⟨Al, cl, rfl, hcl, hkl⟩ := id hl
 have Hv := hid (hv.up (Z1_ w m (.slice Al m.l.length cl) (.slice Ai m.i.length ci)))
 have Hb0 := hid (Z1_ w m (.slice Al m.l.length cl) (.slice Ai m.i.length ci))
 have Hblk := hid (Z3_ w m (.slice Al m.l.length cl) (.slice Ai m.i.length ci))
 have Hl := hid (hl.up Hb0.out)
 have gb := Hblk.out.cell
 have g0 := gb 0
 have g1 := gb 1
 have g2 := gb 2
 have g3 := gb 3
 have g4 := gb 4
 have g5 := gb 5
 have a3 : ¬ m.n < 0 := by omega
 have a4 : ¬ 64 < m.n := by omega
 have a5 : ¬ m.a < 0 := by omega
 have a6 : ¬ 64 < m.a := by omega
 unfold boxed at *
 have Hn := hid hn
 obtain ⟨L0, hL0⟩ : ∃ L0, decide (m.l.length = 0) = L0 := ⟨_, rfl⟩
 obtain ⟨N0, hN0⟩ : ∃ N0, decide (m.n = S) = N0 := ⟨_, rfl⟩
 rw [hL0, hN0]
 have f0 : ((m.l.length : Int) == 0) = L0 := by rw [← hL0, Bool.eq_iff_iff, beq_iff_eq, decide_eq_true_iff]; omega
 have f1 : (m.n == S) = N0 := by rw [← hN0, Bool.eq_iff_iff, beq_iff_eq, decide_eq_true_iff]
 clear hL0 hN0
 clear hv hn hci hki gb h2
 have e1 : (m.b != 0) = false := by simpa using q1
 clear q1
 have e2 : (m.a != 0) = true := by simpa using q2
 have e3 : (m.t != 7) = false := by simpa using q3
 have e4 : ¬ (m.i.length : Int) < 1 := by omega
 have e5 : ¬ (8 : Int) < (m.i.length : Int) := by omega
 have e6 : ¬ (1 : Int) < (m.i.length : Int) := by omega
 clear q2 q3 q4
 go_enter Tryz.func74, Tryz.ntmps74
 go_wp2_with fail
 refine (Y5_ m.t _).mono ?_
 rintro e w1 ⟨rfl, hb1⟩
 rw [decide_eq_true Hn.out]
 have Hb1 := hid (Z0_ Hb0.out (le_refl _) hb1)
 have Hv1 := hid (Hv.out.up hb1)
 have Hl1 := hid (Hl.out.up hb1)
 have Hblk1 := hid (Hblk.out.below hb1 Hblk.out.lt)
 have k1 := Hblk1.out.cell
 have d0 := k1 0
 have d1 := k1 1
 have d2 := k1 2
 have d3 := k1 3
 have d4 := k1 4
 have d5 := k1 5
 clear k1 hb1 g0 g1 g2 g3 g4 g5 a3 a4 a5 a6 Hb0 Hv Hl Hblk
 go_wp2_with fail
 refine (Hsum.out _ _ Hv1.out).mono ?_
 rintro e w2 ⟨rfl, hb2⟩
 have Hb2 := hid (Z0_ Hb1.out (le_refl _) hb2)
 have Hl2 := hid (Hl1.out.up hb2)
 have Hblk2 := hid (Hblk1.out.below hb2 Hblk1.out.lt)
 clear hb2 d0 d1 d2 d3 d4 d5 e1 e2 e4 e5 e6
 have k2 := Hblk2.out.cell
 have d0 := k2 0
 have d1 := k2 1
 have d4 := k2 4
 clear k2
 cases L0
 ·go_wp2
  go_ret
  exact ⟨rfl, Hb2.out⟩
 ·go_wp2
  go_ret
  exact ⟨by rw [Bool.true_and, ← f1]; rfl, Hb2.out⟩
theorem Yt2 (m : Mat) (v : Value) (w : World) (hv : MatV w w.heap.size v m) (_hs : Sml m) (h2 : 0 ≤ m.n ∧ m.n ≤ 64 ∧ 0 ≤ m.a ∧ m.a ≤ 64) (hn : nest m.t) (S : Int) (Hsum : ∀ (v : Value) (W : World), MatV W W.heap.size v m → Calls Tryz.prog 102 #[v] W (Tells W S)) (q1 : m.b = 0) (q2 : m.a = 0) (q4 : 1 < m.i.length) (q5 : m.i.length ≤ 8) (q6 : m.t = 9) (q7 : S < 0) : Calls Tryz.prog 74 #[v] w (Says w false) := by
 have Hsum := hid Hsum
 obtain ⟨lv, iv, rfl, hl, ⟨Ai, ci, rfl, hci, hki⟩⟩ := hv.open
 obtain ⟨Al, cl, rfl, hcl, hkl⟩ := id hl
 have Hv := hid (hv.up (Z1_ w m (.slice Al m.l.length cl) (.slice Ai m.i.length ci)))
 have Hb0 := hid (Z1_ w m (.slice Al m.l.length cl) (.slice Ai m.i.length ci))
 have Hblk := hid (Z3_ w m (.slice Al m.l.length cl) (.slice Ai m.i.length ci))
 have Hl := hid (hl.up Hb0.out)
 have gb := Hblk.out.cell
 have g0 := gb 0
 have g1 := gb 1
 have g2 := gb 2
 have g3 := gb 3
 have g4 := gb 4
 have g5 := gb 5
 have a3 : ¬ m.n < 0 := by omega
 have a4 : ¬ 64 < m.n := by omega
 have a5 : ¬ m.a < 0 := by omega
 have a6 : ¬ 64 < m.a := by omega
 unfold boxed at *
 have Hn := hid hn
 clear hv hn hci hki gb h2
 have e1 : (m.b != 0) = false := by simpa using q1
 clear q1
 have e2 : (m.a != 0) = false := by simpa using q2
 have e4 : ¬ (m.i.length : Int) < 1 := by omega
 have e5 : ¬ (8 : Int) < (m.i.length : Int) := by omega
 have e6 : (1 : Int) < (m.i.length : Int) := by omega
 have e7 : (m.t != 9) = false := by simpa using q6
 clear q2 q4 q5 q6
 go_enter Tryz.func74, Tryz.ntmps74
 go_wp2_with fail
 refine (Y5_ m.t _).mono ?_
 rintro e w1 ⟨rfl, hb1⟩
 rw [decide_eq_true Hn.out]
 have Hb1 := hid (Z0_ Hb0.out (le_refl _) hb1)
 have Hv1 := hid (Hv.out.up hb1)
 have Hl1 := hid (Hl.out.up hb1)
 have Hblk1 := hid (Hblk.out.below hb1 Hblk.out.lt)
 have k1 := Hblk1.out.cell
 have d0 := k1 0
 have d1 := k1 1
 have d2 := k1 2
 have d3 := k1 3
 have d4 := k1 4
 have d5 := k1 5
 clear k1 hb1 g0 g1 g2 g3 g4 g5 a3 a4 a5 a6 Hb0 Hv Hl Hblk
 go_wp2_with fail
 refine (Hsum.out _ _ Hv1.out).mono ?_
 rintro e w2 ⟨rfl, hb2⟩
 have Hb2 := hid (Z0_ Hb1.out (le_refl _) hb2)
 have Hl2 := hid (Hl1.out.up hb2)
 have Hblk2 := hid (Hblk1.out.below hb2 Hblk1.out.lt)
 clear hb2 d0 d1 d2 d3 d4 d5 e1 e2 e4 e5 e6
 have k2 := Hblk2.out.cell
 have d0 := k2 0
 have d1 := k2 1
 have d4 := k2 4
 clear k2
 go_wp2
 go_ret
 exact ⟨rfl, Hb2.out⟩
theorem Yt3 (m : Mat) (v : Value) (w : World) (hv : MatV w w.heap.size v m) (_hs : Sml m) (h2 : 0 ≤ m.n ∧ m.n ≤ 64 ∧ 0 ≤ m.a ∧ m.a ≤ 64) (hn : nest m.t) (S : Int) (Hsum : ∀ (v : Value) (W : World), MatV W W.heap.size v m → Calls Tryz.prog 102 #[v] W (Tells W S)) (q1 : m.b = 0) (q2 : m.a = 0) (q4 : 1 < m.i.length) (q5 : m.i.length ≤ 8) (q6 : m.t = 9) (q7 : ¬ S < 0) (q8 : 7 ≤ m.t) : Calls Tryz.prog 74 #[v] w (Says w (decide (m.l.length = 0) && decide (m.n = S))) := by
 have Hsum := hid Hsum
 obtain ⟨lv, iv, rfl, hl, ⟨Ai, ci, rfl, hci, hki⟩⟩ := hv.open
 obtain ⟨Al, cl, rfl, hcl, hkl⟩ := id hl
 have Hv := hid (hv.up (Z1_ w m (.slice Al m.l.length cl) (.slice Ai m.i.length ci)))
 have Hb0 := hid (Z1_ w m (.slice Al m.l.length cl) (.slice Ai m.i.length ci))
 have Hblk := hid (Z3_ w m (.slice Al m.l.length cl) (.slice Ai m.i.length ci))
 have Hl := hid (hl.up Hb0.out)
 have gb := Hblk.out.cell
 have g0 := gb 0
 have g1 := gb 1
 have g2 := gb 2
 have g3 := gb 3
 have g4 := gb 4
 have g5 := gb 5
 have a3 : ¬ m.n < 0 := by omega
 have a4 : ¬ 64 < m.n := by omega
 have a5 : ¬ m.a < 0 := by omega
 have a6 : ¬ 64 < m.a := by omega
 unfold boxed at *
 have Hn := hid hn
 obtain ⟨L0, hL0⟩ : ∃ L0, decide (m.l.length = 0) = L0 := ⟨_, rfl⟩
 obtain ⟨N0, hN0⟩ : ∃ N0, decide (m.n = S) = N0 := ⟨_, rfl⟩
 rw [hL0, hN0]
 have f0 : ((m.l.length : Int) == 0) = L0 := by rw [← hL0, Bool.eq_iff_iff, beq_iff_eq, decide_eq_true_iff]; omega
 have f1 : (m.n == S) = N0 := by rw [← hN0, Bool.eq_iff_iff, beq_iff_eq, decide_eq_true_iff]
 clear hL0 hN0
 clear hv hn hci hki gb h2
 have e1 : (m.b != 0) = false := by simpa using q1
 clear q1
 have e2 : (m.a != 0) = false := by simpa using q2
 have e4 : ¬ (m.i.length : Int) < 1 := by omega
 have e5 : ¬ (8 : Int) < (m.i.length : Int) := by omega
 have e6 : (1 : Int) < (m.i.length : Int) := by omega
 have e7 : (m.t != 9) = false := by simpa using q6
 clear q2 q4 q5 q6
 go_enter Tryz.func74, Tryz.ntmps74
 go_wp2_with fail
 refine (Y5_ m.t _).mono ?_
 rintro e w1 ⟨rfl, hb1⟩
 rw [decide_eq_true Hn.out]
 have Hb1 := hid (Z0_ Hb0.out (le_refl _) hb1)
 have Hv1 := hid (Hv.out.up hb1)
 have Hl1 := hid (Hl.out.up hb1)
 have Hblk1 := hid (Hblk.out.below hb1 Hblk.out.lt)
 have k1 := Hblk1.out.cell
 have d0 := k1 0
 have d1 := k1 1
 have d2 := k1 2
 have d3 := k1 3
 have d4 := k1 4
 have d5 := k1 5
 clear k1 hb1 g0 g1 g2 g3 g4 g5 a3 a4 a5 a6 Hb0 Hv Hl Hblk
 go_wp2_with fail
 refine (Hsum.out _ _ Hv1.out).mono ?_
 rintro e w2 ⟨rfl, hb2⟩
 have Hb2 := hid (Z0_ Hb1.out (le_refl _) hb2)
 have Hl2 := hid (Hl1.out.up hb2)
 have Hblk2 := hid (Hblk1.out.below hb2 Hblk1.out.lt)
 clear hb2 d0 d1 d2 d3 d4 d5 e1 e2 e4 e5 e6
 have k2 := Hblk2.out.cell
 have d0 := k2 0
 have d1 := k2 1
 have d4 := k2 4
 clear k2
 cases L0
 ·go_wp2
  go_ret
  exact ⟨rfl, Hb2.out⟩
 ·go_wp2
  go_ret
  exact ⟨by rw [Bool.true_and, ← f1]; rfl, Hb2.out⟩
theorem Yt4 (m : Mat) (v : Value) (w : World) (hv : MatV w w.heap.size v m) (_hs : Sml m) (h2 : 0 ≤ m.n ∧ m.n ≤ 64 ∧ 0 ≤ m.a ∧ m.a ≤ 64) (hn : nest m.t) (S : Int) (Hsum : ∀ (v : Value) (W : World), MatV W W.heap.size v m → Calls Tryz.prog 102 #[v] W (Tells W S)) (q1 : m.b = 0) (q2 : m.a = 0) (q4 : m.i.length = 1) (q7 : ¬ S < 0) (q8 : ¬ 7 ≤ m.t) (q9 : m.l.length ≠ 1) : Calls Tryz.prog 74 #[v] w (Says w false) := by
 have Hsum := hid Hsum
 obtain ⟨lv, iv, rfl, hl, ⟨Ai, ci, rfl, hci, hki⟩⟩ := hv.open
 obtain ⟨Al, cl, rfl, hcl, hkl⟩ := id hl
 have Hv := hid (hv.up (Z1_ w m (.slice Al m.l.length cl) (.slice Ai m.i.length ci)))
 have Hb0 := hid (Z1_ w m (.slice Al m.l.length cl) (.slice Ai m.i.length ci))
 have Hblk := hid (Z3_ w m (.slice Al m.l.length cl) (.slice Ai m.i.length ci))
 have Hl := hid (hl.up Hb0.out)
 have gb := Hblk.out.cell
 have g0 := gb 0
 have g1 := gb 1
 have g2 := gb 2
 have g3 := gb 3
 have g4 := gb 4
 have g5 := gb 5
 have a3 : ¬ m.n < 0 := by omega
 have a4 : ¬ 64 < m.n := by omega
 have a5 : ¬ m.a < 0 := by omega
 have a6 : ¬ 64 < m.a := by omega
 unfold boxed at *
 have Hn := hid hn
 have f0 : ((m.l.length : Int) != 1) = true := by simp; omega
 clear q9
 clear hv hn hci hki gb h2
 have e1 : (m.b != 0) = false := by simpa using q1
 clear q1
 have e2 : (m.a != 0) = false := by simpa using q2
 have e4 : ¬ (m.i.length : Int) < 1 := by omega
 have e5 : ¬ (8 : Int) < (m.i.length : Int) := by omega
 have e6 : ¬ (1 : Int) < (m.i.length : Int) := by omega
 clear q2 q4
 go_enter Tryz.func74, Tryz.ntmps74
 go_wp2_with fail
 refine (Y5_ m.t _).mono ?_
 rintro e w1 ⟨rfl, hb1⟩
 rw [decide_eq_true Hn.out]
 have Hb1 := hid (Z0_ Hb0.out (le_refl _) hb1)
 have Hv1 := hid (Hv.out.up hb1)
 have Hl1 := hid (Hl.out.up hb1)
 have Hblk1 := hid (Hblk.out.below hb1 Hblk.out.lt)
 have k1 := Hblk1.out.cell
 have d0 := k1 0
 have d1 := k1 1
 have d2 := k1 2
 have d3 := k1 3
 have d4 := k1 4
 have d5 := k1 5
 clear k1 hb1 g0 g1 g2 g3 g4 g5 a3 a4 a5 a6 Hb0 Hv Hl Hblk
 go_wp2_with fail
 refine (Hsum.out _ _ Hv1.out).mono ?_
 rintro e w2 ⟨rfl, hb2⟩
 have Hb2 := hid (Z0_ Hb1.out (le_refl _) hb2)
 have Hl2 := hid (Hl1.out.up hb2)
 have Hblk2 := hid (Hblk1.out.below hb2 Hblk1.out.lt)
 clear hb2 d0 d1 d2 d3 d4 d5 e1 e2 e4 e5 e6
 have k2 := Hblk2.out.cell
 have d0 := k2 0
 have d1 := k2 1
 have d4 := k2 4
 clear k2
 go_wp2
 go_ret
 exact ⟨rfl, Hb2.out⟩
theorem Yt5 (m : Mat) (v : Value) (w : World) (hv : MatV w w.heap.size v m) (_hs : Sml m) (h2 : 0 ≤ m.n ∧ m.n ≤ 64 ∧ 0 ≤ m.a ∧ m.a ≤ 64) (hn : nest m.t) (S : Int) (Hsum : ∀ (v : Value) (W : World), MatV W W.heap.size v m → Calls Tryz.prog 102 #[v] W (Tells W S)) (q1 : m.b = 0) (q2 : m.a = 0) (q4 : m.i.length = 1) (q7 : ¬ S < 0) (q8 : ¬ 7 ≤ m.t) (q9 : m.l.length = 1) (q0 : okA S (row m 0) = false) : Calls Tryz.prog 74 #[v] w (Says w false) := by
 have Hsum := hid Hsum
 obtain ⟨lv, iv, rfl, hl, ⟨Ai, ci, rfl, hci, hki⟩⟩ := hv.open
 obtain ⟨Al, cl, rfl, hcl, hkl⟩ := id hl
 have Hv := hid (hv.up (Z1_ w m (.slice Al m.l.length cl) (.slice Ai m.i.length ci)))
 have Hb0 := hid (Z1_ w m (.slice Al m.l.length cl) (.slice Ai m.i.length ci))
 have Hblk := hid (Z3_ w m (.slice Al m.l.length cl) (.slice Ai m.i.length ci))
 have Hl := hid (hl.up Hb0.out)
 have gb := Hblk.out.cell
 have g0 := gb 0
 have g1 := gb 1
 have g2 := gb 2
 have g3 := gb 3
 have g4 := gb 4
 have g5 := gb 5
 have a3 : ¬ m.n < 0 := by omega
 have a4 : ¬ 64 < m.n := by omega
 have a5 : ¬ m.a < 0 := by omega
 have a6 : ¬ 64 < m.a := by omega
 unfold boxed at *
 have Hn := hid hn
 obtain ⟨ad, u0, hA, hab, hc0, hr0⟩ := hkl 0 (by omega)
 subst hA
 rw [add_zero] at hc0
 have hrow : row m 0 = m.l.getD 0 [] := rfl
 rw [hrow] at q0
 have f0 : ((m.l.length : Int) != 1) = false := by simp; omega
 have f1 : (0 : Int) < (m.l.length : Int) := by omega
 have f2 : 0 < m.l.length := by omega
 generalize m.l.getD 0 [] = r at *
 have Hc0 := hid hc0
 have Hab := hid hab
 have Hr0 := hid hr0
 have Q0 := hid q0
 clear q9 hc0 hr0 q0 hcl hkl hl hab hrow
 clear hv hn hci hki gb h2
 have e1 : (m.b != 0) = false := by simpa using q1
 clear q1
 have e2 : (m.a != 0) = false := by simpa using q2
 have e4 : ¬ (m.i.length : Int) < 1 := by omega
 have e5 : ¬ (8 : Int) < (m.i.length : Int) := by omega
 have e6 : ¬ (1 : Int) < (m.i.length : Int) := by omega
 clear q2 q4
 go_enter Tryz.func74, Tryz.ntmps74
 go_wp2_with fail
 refine (Y5_ m.t _).mono ?_
 rintro e w1 ⟨rfl, hb1⟩
 rw [decide_eq_true Hn.out]
 have Hb1 := hid (Z0_ Hb0.out (le_refl _) hb1)
 have Hv1 := hid (Hv.out.up hb1)
 have Hl1 := hid (Hl.out.up hb1)
 have Hblk1 := hid (Hblk.out.below hb1 Hblk.out.lt)
 have k1 := Hblk1.out.cell
 have d0 := k1 0
 have d1 := k1 1
 have d2 := k1 2
 have d3 := k1 3
 have d4 := k1 4
 have d5 := k1 5
 clear k1 hb1 g0 g1 g2 g3 g4 g5 a3 a4 a5 a6 Hb0 Hv Hl Hblk
 go_wp2_with fail
 refine (Hsum.out _ _ Hv1.out).mono ?_
 rintro e w2 ⟨rfl, hb2⟩
 have Hb2 := hid (Z0_ Hb1.out (le_refl _) hb2)
 have Hl2 := hid (Hl1.out.up hb2)
 have Hblk2 := hid (Hblk1.out.below hb2 Hblk1.out.lt)
 clear hb2 d0 d1 d2 d3 d4 d5 e1 e2 e4 e5 e6
 have k2 := Hblk2.out.cell
 have d0 := k2 0
 have d1 := k2 1
 have d4 := k2 4
 clear k2
 have c0 := (Hb2.out.cell (p := ad) Hab.out).trans Hc0.out
 have Hr2 := hid ((Hr0.out.below Hb2.out).mono Hb2.out.size)
 go_wp2_with fail
 refine (F4_ u0 r S _ Hr2.out).mono ?_
 rintro e w3 ⟨rfl, hb3⟩
 rw [Q0.out]
 have Hb3 := hid (Z0_ Hb2.out (le_refl _) hb3)
 have Hblk3 := hid (Hblk2.out.below hb3 Hblk2.out.lt)
 clear hb3 d0 d1 d4 c0
 go_wp2
 go_ret
 exact ⟨rfl, Hb3.out⟩
theorem Yg7 (m : Mat) (v : Value) (w : World) (hv : MatV w w.heap.size v m) (_hs : Sml m) (h2 : 0 ≤ m.n ∧ m.n ≤ 64 ∧ 0 ≤ m.a ∧ m.a ≤ 64) (hn : nest m.t) (S : Int) (Hsum : ∀ (v : Value) (W : World), MatV W W.heap.size v m → Calls Tryz.prog 102 #[v] W (Tells W S)) (q1 : m.b = 0) (q2 : m.a = 0) (q4 : m.i.length = 1) (q7 : ¬ S < 0) (q8 : ¬ 7 ≤ m.t) (q9 : m.l.length = 1) (q0 : okA S (row m 0) = true) (q5 : m.t = 5) : Calls Tryz.prog 74 #[v] w (Says w (decide (m.n = (row m 0).length))) := by
 have Hsum := hid Hsum
 obtain ⟨lv, iv, rfl, hl, ⟨Ai, ci, rfl, hci, hki⟩⟩ := hv.open
 obtain ⟨Al, cl, rfl, hcl, hkl⟩ := id hl
 have Hv := hid (hv.up (Z1_ w m (.slice Al m.l.length cl) (.slice Ai m.i.length ci)))
 have Hb0 := hid (Z1_ w m (.slice Al m.l.length cl) (.slice Ai m.i.length ci))
 have Hblk := hid (Z3_ w m (.slice Al m.l.length cl) (.slice Ai m.i.length ci))
 have Hl := hid (hl.up Hb0.out)
 have gb := Hblk.out.cell
 have g0 := gb 0
 have g1 := gb 1
 have g2 := gb 2
 have g3 := gb 3
 have g4 := gb 4
 have g5 := gb 5
 have a3 : ¬ m.n < 0 := by omega
 have a4 : ¬ 64 < m.n := by omega
 have a5 : ¬ m.a < 0 := by omega
 have a6 : ¬ 64 < m.a := by omega
 unfold boxed at *
 have Hn := hid hn
 obtain ⟨ad, u0, hA, hab, hc0, hr0⟩ := hkl 0 (by omega)
 subst hA
 rw [add_zero] at hc0
 have hrow : row m 0 = m.l.getD 0 [] := rfl
 rw [hrow] at q0 ⊢
 have f0 : ((m.l.length : Int) != 1) = false := by simp; omega
 have f1 : (0 : Int) < (m.l.length : Int) := by omega
 have f2 : 0 < m.l.length := by omega
 generalize m.l.getD 0 [] = r at *
 have Hc0 := hid hc0
 have Hab := hid hab
 have Hr0 := hid hr0
 have Q0 := hid q0
 clear q9 hc0 hr0 q0 hcl hkl hl hab hrow
 have f5 : (m.t == 5) = true := by simpa using q5
 clear q5
 clear hv hn hci hki gb h2
 have e1 : (m.b != 0) = false := by simpa using q1
 clear q1
 have e2 : (m.a != 0) = false := by simpa using q2
 have e4 : ¬ (m.i.length : Int) < 1 := by omega
 have e5 : ¬ (8 : Int) < (m.i.length : Int) := by omega
 have e6 : ¬ (1 : Int) < (m.i.length : Int) := by omega
 clear q2 q4
 go_enter Tryz.func74, Tryz.ntmps74
 go_wp2_with fail
 refine (Y5_ m.t _).mono ?_
 rintro e w1 ⟨rfl, hb1⟩
 rw [decide_eq_true Hn.out]
 have Hb1 := hid (Z0_ Hb0.out (le_refl _) hb1)
 have Hv1 := hid (Hv.out.up hb1)
 have Hl1 := hid (Hl.out.up hb1)
 have Hblk1 := hid (Hblk.out.below hb1 Hblk.out.lt)
 have k1 := Hblk1.out.cell
 have d0 := k1 0
 have d1 := k1 1
 have d2 := k1 2
 have d3 := k1 3
 have d4 := k1 4
 have d5 := k1 5
 clear k1 hb1 g0 g1 g2 g3 g4 g5 a3 a4 a5 a6 Hb0 Hv Hl Hblk
 go_wp2_with fail
 refine (Hsum.out _ _ Hv1.out).mono ?_
 rintro e w2 ⟨rfl, hb2⟩
 have Hb2 := hid (Z0_ Hb1.out (le_refl _) hb2)
 have Hl2 := hid (Hl1.out.up hb2)
 have Hblk2 := hid (Hblk1.out.below hb2 Hblk1.out.lt)
 clear hb2 d0 d1 d2 d3 d4 d5 e1 e2 e4 e5 e6
 have k2 := Hblk2.out.cell
 have d0 := k2 0
 have d1 := k2 1
 have d4 := k2 4
 clear k2
 have c0 := (Hb2.out.cell (p := ad) Hab.out).trans Hc0.out
 have Hr2 := hid ((Hr0.out.below Hb2.out).mono Hb2.out.size)
 go_wp2_with fail
 refine (F4_ u0 r S _ Hr2.out).mono ?_
 rintro e w3 ⟨rfl, hb3⟩
 rw [Q0.out]
 have Hb3 := hid (Z0_ Hb2.out (le_refl _) hb3)
 have Hblk3 := hid (Hblk2.out.below hb3 Hblk2.out.lt)
 clear hb3 d0 d1 d4 c0
 have Hbox : Hid (∀ W, Below w3.heap.size w3 W → ∀ i, W.cell? ⟨w.heap.size, i, none⟩ = #[.int .i64 m.t, .int .i64 m.n, .int .i64 m.a, .int .i64 m.b, .slice (some ad) m.l.length cl, .slice Ai m.i.length ci][i]?) := fun W hW i => (Hblk3.out.below hW Hblk3.out.lt).cell i
 have Hrow := hid (X7_ ((Hb3.out.cell (p := ad) Hab.out).trans Hc0.out) (Nat.lt_of_lt_of_le Hab.out Hb3.out.size))
 obtain ⟨Ar, cr, hu0, _⟩ := id Hr2.out
 subst hu0
 have d0 := Hblk3.out.cell 0
 clear Hr2
 go_wp2
 clear d0
 refine Z6_ w3.heap.size w3 (by kernel_rfl) (by kernel_rfl) (Below.refl _ _) ?_
 iterate 9 (go_big_quiet_want; apply Exists.intro; refine ⟨fun W hW => ?_, ?_⟩; (· have q := Hbox.out W hW; have q1 := q 1; have q4 := q 4; clear q; have r0 := Hrow.out W hW; go_simp; first | exact rfl | exact ⟨rfl, rfl⟩); go_simp; go_big_quiet_on)
 refine wpQuiet_nil ?_
 intro w5 hB5
 have Hb5 := hid (Z0_ Hb3.out (le_refl _) hB5)
 clear hB5
 go_wp2
 go_ret
 exact ⟨rfl, Hb5.out⟩
theorem Yt6 (m : Mat) (v : Value) (w : World) (hv : MatV w w.heap.size v m) (_hs : Sml m) (h2 : 0 ≤ m.n ∧ m.n ≤ 64 ∧ 0 ≤ m.a ∧ m.a ≤ 64) (hn : nest m.t) (S : Int) (Hsum : ∀ (v : Value) (W : World), MatV W W.heap.size v m → Calls Tryz.prog 102 #[v] W (Tells W S)) (q1 : m.b = 0) (q2 : m.a = 0) (q4 : m.i.length = 1) (q7 : ¬ S < 0) (q8 : ¬ 7 ≤ m.t) (q9 : m.l.length = 1) (q0 : okA S (row m 0) = true) (q5 : m.t ≠ 5) : Calls Tryz.prog 74 #[v] w (Says w (decide (m.n = IntKind.i64.wrap (S - (row m 0).length)))) := by
 have Hsum := hid Hsum
 obtain ⟨lv, iv, rfl, hl, ⟨Ai, ci, rfl, hci, hki⟩⟩ := hv.open
 obtain ⟨Al, cl, rfl, hcl, hkl⟩ := id hl
 have Hv := hid (hv.up (Z1_ w m (.slice Al m.l.length cl) (.slice Ai m.i.length ci)))
 have Hb0 := hid (Z1_ w m (.slice Al m.l.length cl) (.slice Ai m.i.length ci))
 have Hblk := hid (Z3_ w m (.slice Al m.l.length cl) (.slice Ai m.i.length ci))
 have Hl := hid (hl.up Hb0.out)
 have gb := Hblk.out.cell
 have g0 := gb 0
 have g1 := gb 1
 have g2 := gb 2
 have g3 := gb 3
 have g4 := gb 4
 have g5 := gb 5
 have a3 : ¬ m.n < 0 := by omega
 have a4 : ¬ 64 < m.n := by omega
 have a5 : ¬ m.a < 0 := by omega
 have a6 : ¬ 64 < m.a := by omega
 unfold boxed at *
 have Hn := hid hn
 obtain ⟨ad, u0, hA, hab, hc0, hr0⟩ := hkl 0 (by omega)
 subst hA
 rw [add_zero] at hc0
 have hrow : row m 0 = m.l.getD 0 [] := rfl
 rw [hrow] at q0 ⊢
 have f0 : ((m.l.length : Int) != 1) = false := by simp; omega
 have f1 : (0 : Int) < (m.l.length : Int) := by omega
 have f2 : 0 < m.l.length := by omega
 generalize m.l.getD 0 [] = r at *
 have Hc0 := hid hc0
 have Hab := hid hab
 have Hr0 := hid hr0
 have Q0 := hid q0
 clear q9 hc0 hr0 q0 hcl hkl hl hab hrow
 have f5 : (m.t == 5) = false := by simpa using q5
 clear q5
 clear hv hn hci hki gb h2
 have e1 : (m.b != 0) = false := by simpa using q1
 clear q1
 have e2 : (m.a != 0) = false := by simpa using q2
 have e4 : ¬ (m.i.length : Int) < 1 := by omega
 have e5 : ¬ (8 : Int) < (m.i.length : Int) := by omega
 have e6 : ¬ (1 : Int) < (m.i.length : Int) := by omega
 clear q2 q4
 go_enter Tryz.func74, Tryz.ntmps74
 go_wp2_with fail
 refine (Y5_ m.t _).mono ?_
 rintro e w1 ⟨rfl, hb1⟩
 rw [decide_eq_true Hn.out]
 have Hb1 := hid (Z0_ Hb0.out (le_refl _) hb1)
 have Hv1 := hid (Hv.out.up hb1)
 have Hl1 := hid (Hl.out.up hb1)
 have Hblk1 := hid (Hblk.out.below hb1 Hblk.out.lt)
 have k1 := Hblk1.out.cell
 have d0 := k1 0
 have d1 := k1 1
 have d2 := k1 2
 have d3 := k1 3
 have d4 := k1 4
 have d5 := k1 5
 clear k1 hb1 g0 g1 g2 g3 g4 g5 a3 a4 a5 a6 Hb0 Hv Hl Hblk
 go_wp2_with fail
 refine (Hsum.out _ _ Hv1.out).mono ?_
 rintro e w2 ⟨rfl, hb2⟩
 have Hb2 := hid (Z0_ Hb1.out (le_refl _) hb2)
 have Hl2 := hid (Hl1.out.up hb2)
 have Hblk2 := hid (Hblk1.out.below hb2 Hblk1.out.lt)
 clear hb2 d0 d1 d2 d3 d4 d5 e1 e2 e4 e5 e6
 have k2 := Hblk2.out.cell
 have d0 := k2 0
 have d1 := k2 1
 have d4 := k2 4
 clear k2
 have c0 := (Hb2.out.cell (p := ad) Hab.out).trans Hc0.out
 have Hr2 := hid ((Hr0.out.below Hb2.out).mono Hb2.out.size)
 go_wp2_with fail
 refine (F4_ u0 r S _ Hr2.out).mono ?_
 rintro e w3 ⟨rfl, hb3⟩
 rw [Q0.out]
 have Hb3 := hid (Z0_ Hb2.out (le_refl _) hb3)
 have Hblk3 := hid (Hblk2.out.below hb3 Hblk2.out.lt)
 clear hb3 d0 d1 d4 c0
 have Hbox : Hid (∀ W, Below w3.heap.size w3 W → ∀ i, W.cell? ⟨w.heap.size, i, none⟩ = #[.int .i64 m.t, .int .i64 m.n, .int .i64 m.a, .int .i64 m.b, .slice (some ad) m.l.length cl, .slice Ai m.i.length ci][i]?) := fun W hW i => (Hblk3.out.below hW Hblk3.out.lt).cell i
 have Hrow := hid (X7_ ((Hb3.out.cell (p := ad) Hab.out).trans Hc0.out) (Nat.lt_of_lt_of_le Hab.out Hb3.out.size))
 obtain ⟨Ar, cr, hu0, _⟩ := id Hr2.out
 subst hu0
 have d0 := Hblk3.out.cell 0
 clear Hr2
 go_wp2
 clear d0
 refine Z6_ w3.heap.size w3 (by kernel_rfl) (by kernel_rfl) (Below.refl _ _) ?_
 iterate 11 (go_big_quiet_want; apply Exists.intro; refine ⟨fun W hW => ?_, ?_⟩; (· have q := Hbox.out W hW; have q1 := q 1; have q4 := q 4; clear q; have r0 := Hrow.out W hW; go_simp; first | exact rfl | exact ⟨rfl, rfl⟩); go_simp; go_big_quiet_on)
 refine wpQuiet_nil ?_
 intro w5 hB5
 have Hb5 := hid (Z0_ Hb3.out (le_refl _) hB5)
 clear hB5
 go_wp2
 go_ret
 exact ⟨rfl, Hb5.out⟩
theorem Xe7 : ∀ (k : Nat), MayAt k := by
 intro k
 induction k with
 | zero => intro m v w _ _ hd; have := Zz8 0 m; omega
 | succ k ih =>
  intro m v w hv hs hd
  by_cases h2 : 0 ≤ m.n ∧ m.n ≤ 64 ∧ 0 ≤ m.a ∧ m.a ≤ 64
  ·by_cases hn : nest m.t
   ·have hin : ∀ x ∈ m.i, dp k x ≤ k := fun x hx => by have := W0_ (k := k) hn hx; omega
    have Hsum : ∀ (v : Value) (W : World), MatV W W.heap.size v m → Calls Tryz.prog 102 #[v] W (Tells W (sumsI k m)) := fun v W hv => Xd9 k ih m v W hv hs hin
    rw [Xs9 h2 hn]
    rcases hh : headB m with _ | _
    ·simpa using Ys7 m v w hv hs h2 hn hh
    rw [Bool.true_and]
    have hh' := hh
    unfold headB at hh'
    simp only [Bool.and_eq_true, Bool.or_eq_true, decide_eq_true_iff] at hh'
    obtain ⟨⟨⟨⟨q1, q2⟩, q4⟩, q5⟩, q6⟩ := hh'
    have hvar : (m.a = 0 ∧ m.i.length = 1) ∨ (m.a ≠ 0 ∧ m.t = 7 ∧ m.i.length = 1) ∨ (m.a = 0 ∧ 1 < m.i.length ∧ m.i.length ≤ 8 ∧ m.t = 9) := by omega
    unfold sumsI at Hsum
    rcases hall : m.i.all (ok k) with _ | _
    ·rw [hall, if_neg (by decide)] at Hsum
     rw [Bool.false_and]
     rcases hvar with ⟨a, b⟩ | ⟨a, b, c⟩ | ⟨a, b, c, d⟩
     ·exact Ys8 m v w hv hs h2 hn (-1) Hsum q1 a b (by decide)
     ·exact Yt0 m v w hv hs h2 hn (-1) Hsum q1 a b c (by decide)
     ·exact Yt2 m v w hv hs h2 hn (-1) Hsum q1 a b c d (by decide)
    ·rw [hall, if_pos rfl] at Hsum
     rw [Bool.true_and]
     have htg := Vj8 hall q5
     unfold tailB
     by_cases h7 : 7 ≤ m.t
     ·rw [if_pos h7]
      rcases hvar with ⟨a, b⟩ | ⟨a, b, c⟩ | ⟨a, b, c, d⟩
      ·exact Ys9 m v w hv hs h2 hn _ Hsum q1 a b (by omega) h7
      ·exact Yt1 m v w hv hs h2 hn _ Hsum q1 a b c (by omega) h7
      ·exact Yt3 m v w hv hs h2 hn _ Hsum q1 a b c d (by omega) h7
     ·rw [if_neg h7]
      have ha : m.a = 0 := by omega
      have hi : m.i.length = 1 := by omega
      by_cases hl : m.l.length = 1
      ·rw [decide_eq_true hl, Bool.true_and]
       rcases hk : okA (tog m.i) (row m 0) with _ | _
       ·exact Yt5 m v w hv hs h2 hn _ Hsum q1 ha hi (by omega) h7 hl hk
       ·rw [Bool.true_and]
        by_cases h5 : m.t = 5
        ·rw [if_pos h5]
         exact Yg7 m v w hv hs h2 hn _ Hsum q1 ha hi (by omega) h7 hl hk h5
        ·rw [if_neg h5]
         exact Yt6 m v w hv hs h2 hn _ Hsum q1 ha hi (by omega) h7 hl hk h5
      ·rw [decide_eq_false hl, Bool.false_and, Bool.false_and]
       exact Yt4 m v w hv hs h2 hn _ Hsum q1 ha hi (by omega) h7 hl
   ·rw [show ok (k + 1) m = decide (bad m = 0) from by
     rw [ok]
     by_cases hb : bad m = 0
     ·rw [N9_ hb hn]; simp
     ·rw [decide_eq_false hb]; rfl]
    exact Yg6 m v w hv hs h2 hn
  ·rw [show ok (k + 1) m = false from by
    rw [ok, decide_eq_false (fun hb => h2 (X0_ hb).2.1)]; rfl]
   exact Xe0 m v w hv (by omega)
open Go.RowKit
theorem Yt7 (n : Nat) (w : World) (h1 : 1 ≤ n) (h2 : n ≤ 100000) :
  Calls Tryz.prog 25 #[.int .i64 n] w (Gives w (allL n)) := by
 have Hall := hid (Zp4 h1 h2)
 have h2' : (n : Int) ≤ 100000 := by omega
 go_enter Tryz.func25, Tryz.ntmps25
 have hown0 : (w.alloc (.cells #[] 3)).ownsRow w.heap.size 3 1 (.slice (some ⟨w.heap.size, 0, none⟩) 0 0) 0 [] :=
  World.ownsRow_made w #[] 0 (le_refl _) (by unfold maxLen; omega) rfl
 have hB0 : Below w.heap.size w (w.alloc (.cells #[] 3)) := (Below.refl _ w).alloc (le_refl _) _
 go_wp2
 go_loopw [3, 4] (fun vl vk wr => ∃ k : Nat, vk = .int .i64 k ∧ k ≤ n ∧ wr.ownsRow w.heap.size 3 1 vl (upTo k).length (ints (upTo k)) ∧ Below w.heap.size w wr) (fun _ vk _ => n - (intOf vk).toNat)
 case atStart => exact ⟨0, rfl, Nat.zero_le _, hown0, hB0⟩
 case round =>
  obtain ⟨k, rfl, hk, hown, hbr⟩ := hrel
  by_cases hlt : k < n
  ·have hul := J8_ k
   have Hs := hid (Zi0 k)
   go_wp2_with (at_builtin; refine Z4_ rfl _ _ rfl w.heap.size _ _ _ (upTo k) [(k : Int)] rfl rfl (hown.alloc _) (Row.lit1 _ (k : Int)) (by omega) (by simp) (by have := hbr.size; simp; omega) ?_)
   intro v' w4 hown' hgrow
   have hb4 : Below w.heap.size wr w4 := ((Below.refl _ wr).alloc hbr.size _).grown hgrow (by have := hbr.size; simp; omega) (fun i hi => (hown.lt i hi).1)
   go_wp2
   go_roundw
   case rel => exact ⟨k + 1, by go_num, by omega, by rw [Hs.out, List.length_append, J8_]; exact hown', hbr.trans hb4⟩
   case measure => simp [intOf]; omega
  ·have hke : k = n := by omega
   subst hke
   go_wp2
   go_ret
   exact ⟨_, rfl, by rw [Hall.out]; exact Row.of_own hown rfl, hbr⟩
theorem L4_ (n : Int) (w : World) : Calls Tryz.prog 25 #[.int .i64 n] w (Gives w (allL n)) := by
 by_cases h : n < 1 ∨ 100000 < n
 ·have Hf := hid (Yk6 h)
  have hout : ∀ w' : World, Below w.heap.size w w' → Gives w (allL n) (.returned (.slice (some ⟨w.heap.size, 0, none⟩) 0 0)) w' := fun w' hb => ⟨_, rfl, by rw [Hf.out]; exact ⟨_, 0, rfl, ⟨le_refl _, by decide, fun e => by cases e⟩, fun k hk => absurd hk (by simp)⟩, hb⟩
  have Hout := hid hout
  clear hout
  have hB0 : Below w.heap.size w (w.alloc (.cells #[] 3)) := (Below.refl _ w).alloc (le_refl _) _
  by_cases h1 : n < 1
  ·have h1' : ¬ (0 < n) := by omega
   clear h h1
   go_enter Tryz.func25, Tryz.ntmps25
   go_wp2
   refine wp_loop_rounds 1 ?_
   rw [rounds_succ]
   go_wp2
   go_ret
   exact Hout.out _ hB0
  ·have h2 : ¬ (n ≤ 100000) := by omega
   have h0 : 0 < n := by omega
   clear h h1
   go_enter Tryz.func25, Tryz.ntmps25
   go_wp2
   refine wp_loop_rounds 1 ?_
   rw [rounds_succ]
   go_wp2
   go_ret
   exact Hout.out _ hB0
 ·obtain ⟨m, rfl⟩ : ∃ m : Nat, n = (m : Int) := ⟨n.toNat, by omega⟩
  exact Yt7 m w (by omega) (by omega)
theorem Zu6 (va vb : Value) (a b : List Int) (w : World) (ha : Row w w.heap.size va a) (hb : Row w w.heap.size vb b) (hla : a.length ≤ 1048576) (hlb : b.length ≤ 1048576) (hma : mayB a = true) (hmb : mayB b = true) :
  Calls Tryz.prog 24 #[va, vb] w (Gives w (Z7_ a b)) := by
 have Ha := hid ha
 have Hb := hid hb
 obtain ⟨A1, c1, rfl, _, hcell⟩ := ha
 obtain ⟨A2, c2, rfl, _⟩ := hb
 have Hcell := hid hcell
 clear hcell
 have Hall := hid (Za3 a b false hma hmb)
 change Hid (_ = Z7_ a b) at Hall
 have Hma := hid hma
 have Hmb := hid hmb
 clear hma hmb
 have hown0 : (w.alloc (.cells #[] 3)).ownsRow w.heap.size 3 1 (.slice (some ⟨w.heap.size, 0, none⟩) 0 0) 0 [] :=
  World.ownsRow_made w #[] 0 (le_refl _) (by unfold maxLen; omega) rfl
 have hB0 : Below w.heap.size w (w.alloc (.cells #[] 3)) := (Below.refl _ w).alloc (le_refl _) _
 go_enter Tryz.func24, Tryz.ntmps24
 go_wp2
 go_loopw [5, 6] (fun vl vk wr => ∃ k : Nat, vk = .int .i64 k ∧ k ≤ a.length ∧ wr.ownsRow w.heap.size 3 1 vl (B5_ a b false k).length (ints (B5_ a b false k)) ∧ Below w.heap.size w wr) (fun _ vk _ => a.length - (intOf vk).toNat)
 case atStart => exact ⟨0, rfl, Nat.zero_le _, hown0, hB0⟩
 case round =>
  obtain ⟨k, rfl, hk, hown, hbr⟩ := hrel
  by_cases hlt : k < a.length
  ·obtain ⟨ad, hA, hab, hg⟩ := Hcell.out k hlt
   subst hA
   have hkl : (k : Int) < (a.length : Int) := by omega
   have hpl := N6_ a b false k
   have Hyes := hid (Za2 a b false k hlt)
   have Hno := hid (Zh8 a b false k hlt)
   clear hown0 hB0
   generalize a.getD k 0 = x at hg Hyes Hno
   have Hg := hid hg
   clear hg
   rcases hc : b.contains x with _ | _
   ·have Hc := hid hc
    clear hc
    go_wp2_with fail
    refine (X9_ _ a wr (Ha.out.below hbr |>.mono hbr.size) (by omega) Hma.out).mono ?_
    rintro e w2 ⟨rfl, hb2⟩
    have hB2 := hbr.trans (hb2.mono hbr.size)
    have hown2 := hown.kept (row := none) (Z9_ hb2 _) (by cases hv : Value.ownBlock _ <;> simp)
    clear hb2
    go_wp2_with fail
    refine (X9_ _ b w2 (Hb.out.below hB2 |>.mono hB2.size) (by omega) Hmb.out).mono ?_
    rintro e w3 ⟨rfl, hb3⟩
    have hB3 := hB2.trans (hb3.mono hB2.size)
    have hown3 := hown2.kept (row := none) (Z9_ hb3 _) (by cases hv : Value.ownBlock _ <;> simp)
    clear hb3 hB2 hown2 hown hbr
    have g1 : w3.cell? (ad.add k) = some (.int .i64 x) := (hB3.cell (by rw [Z2_]; exact hab)).trans Hg.out
    go_wp2_with fail
    refine (N7_ _ b x _ w3 (Hb.out.below hB3) (by omega) Hc.out).mono ?_
    rintro e w5 ⟨rfl, rfl⟩
    have Hx := hid (Hyes.out (by rw [Hc.out]))
    clear Hyes Hno
    go_wp2_with (at_builtin; refine Z4_ rfl _ _ rfl w.heap.size _ _ _ (B5_ a b false k) [x] rfl rfl (hown3.alloc _) (Row.lit1 _ x) (by omega) (by simp) (by have := hB3.size; simp; omega) ?_)
    intro v' w4 hown' hgrow
    have hb4 : Below w.heap.size w5 w4 := ((Below.refl _ w5).alloc hB3.size _).grown hgrow (by have := hB3.size; simp; omega) (fun i hi => (hown3.lt i hi).1)
    go_wp2
    go_roundw
    case rel => exact ⟨k + 1, by go_num, by omega, by rw [Hx.out, List.length_append]; exact hown', hB3.trans hb4⟩
    case measure => simp [intOf]; omega
   ·have Hc := hid hc
    clear hc
    go_wp2_with fail
    refine (X9_ _ a wr (Ha.out.below hbr |>.mono hbr.size) (by omega) Hma.out).mono ?_
    rintro e w2 ⟨rfl, hb2⟩
    have hB2 := hbr.trans (hb2.mono hbr.size)
    have hown2 := hown.kept (row := none) (Z9_ hb2 _) (by cases hv : Value.ownBlock _ <;> simp)
    clear hb2
    go_wp2_with fail
    refine (X9_ _ b w2 (Hb.out.below hB2 |>.mono hB2.size) (by omega) Hmb.out).mono ?_
    rintro e w3 ⟨rfl, hb3⟩
    have hB3 := hB2.trans (hb3.mono hB2.size)
    have hown3 := hown2.kept (row := none) (Z9_ hb3 _) (by cases hv : Value.ownBlock _ <;> simp)
    clear hb3 hB2 hown2 hown hbr
    have g1 : w3.cell? (ad.add k) = some (.int .i64 x) := (hB3.cell (by rw [Z2_]; exact hab)).trans Hg.out
    go_wp2_with fail
    refine (N7_ _ b x _ w3 (Hb.out.below hB3) (by omega) Hc.out).mono ?_
    rintro e w5 ⟨rfl, rfl⟩
    have Hx := hid (Hno.out (by rw [Hc.out]; decide))
    clear Hyes Hno
    go_wp2
    go_roundw
    case rel => exact ⟨k + 1, by go_num, by omega, by rw [Hx.out]; exact hown3, hB3⟩
    case measure => simp [intOf]; omega
  ·have hke : k = a.length := by omega
   subst hke
   rw [Hall.out] at hown
   go_wp2
   go_ret
   exact ⟨_, rfl, Row.of_own hown rfl, hbr⟩
theorem U3_ (va vb : Value) (a b : List Int) (w : World) (ha : Row w w.heap.size va a) (hb : Row w w.heap.size vb b) (hla : a.length ≤ 1048576) (hlb : b.length ≤ 1048576) (h : mayB a = false ∨ (mayB a = true ∧ mayB b = false)) :
  Calls Tryz.prog 24 #[va, vb] w (Gives w (Z7_ a b)) := by
 have Ha := hid ha
 have Hb := hid hb
 obtain ⟨A1, c1, rfl, _, hcell⟩ := ha
 obtain ⟨A2, c2, rfl, _⟩ := hb
 have Hcell := hid hcell
 clear hcell
 have hr : Z7_ a b = [] := by
  rcases h with h | h
  ·exact Yy7 h
  ·exact Yy8 h.2
 have hout : ∀ w' : World, Below w.heap.size w w' → Gives w (Z7_ a b) (.returned (.slice (some ⟨w.heap.size, 0, none⟩) 0 0)) w' := fun w' hb => ⟨_, rfl, by rw [hr]; exact ⟨_, 0, rfl, ⟨le_refl _, by decide, fun e => by cases e⟩, fun k hk => absurd hk (by simp)⟩, hb⟩
 have Hout := hid hout
 clear hout hr
 have hB0 : Below w.heap.size w (w.alloc (.cells #[] 3)) := (Below.refl _ w).alloc (le_refl _) _
 by_cases h0 : 0 < a.length
 ·have h0' : (0 : Int) < (a.length : Int) := by omega
  rcases h with hma | ⟨hma, hmb⟩
  ·have Hma := hid hma
   clear hma h0
   go_enter Tryz.func24, Tryz.ntmps24
   go_wp2
   refine wp_loop_rounds 1 ?_
   rw [rounds_succ]
   go_wp2_with fail
   refine (X9_ _ a _ ((Ha.out.below hB0).mono hB0.size) (by omega) Hma.out).mono ?_
   rintro e w1 ⟨rfl, hb1⟩
   have hB1 := hB0.trans (hb1.mono hB0.size)
   go_wp2
   go_ret
   exact Hout.out _ hB1
  ·have Hma := hid hma
   have Hmb := hid hmb
   clear hma hmb h0
   go_enter Tryz.func24, Tryz.ntmps24
   go_wp2
   refine wp_loop_rounds 1 ?_
   rw [rounds_succ]
   go_wp2_with fail
   refine (X9_ _ a _ ((Ha.out.below hB0).mono hB0.size) (by omega) Hma.out).mono ?_
   rintro e w1 ⟨rfl, hb1⟩
   have hB1 := hB0.trans (hb1.mono hB0.size)
   clear hb1
   go_wp2_with fail
   refine (X9_ _ b _ ((Hb.out.below hB1).mono hB1.size) (by omega) Hmb.out).mono ?_
   rintro e w2 ⟨rfl, hb2⟩
   have hB2 := hB1.trans (hb2.mono hB1.size)
   go_wp2
   go_ret
   exact Hout.out _ hB2
 ·have h0' : (a.length : Int) = 0 := by omega
  clear h h0
  go_enter Tryz.func24, Tryz.ntmps24
  go_wp2
  refine wp_loop_rounds 1 ?_
  rw [rounds_succ]
  go_wp2
  go_ret
  exact Hout.out _ hB0
theorem K7_ (va vb : Value) (a b : List Int) (w : World) (ha : Row w w.heap.size va a) (hb : Row w w.heap.size vb b) (hla : a.length ≤ 1048576) (hlb : b.length ≤ 1048576) :
  Calls Tryz.prog 24 #[va, vb] w (Gives w (Z7_ a b)) := by
 rcases hma : mayB a with _ | _
 ·exact U3_ va vb a b w ha hb hla hlb (.inl hma)
 ·rcases hmb : mayB b with _ | _
  ·exact U3_ va vb a b w ha hb hla hlb (.inr ⟨hma, hmb⟩)
  ·exact Zu6 va vb a b w ha hb hla hlb hma hmb
open Go.RowKit
theorem Zn4 {w : World} {base B : Nat} {e : TypeId} {size k : Nat} {v : Value} {vs : List Value} (h : w.ownsRow base e size v k vs) (hB : B ≤ base) : ∀ (A : Addr) (n c : Nat), v = .slice (some A) n c → B ≤ A.block := fun A n c hv => by
 subst hv
 exact Nat.le_trans hB (World.ownsRow.lt h A.block rfl).1
theorem A5_ (m : Mat) (v : Value) (w : World) (hv : MatV w w.heap.size v m) (hs : Sml m) : Calls Tryz.prog 62 #[v] w (Tells w (chk m)) := by
 have Hs := hid hs
 obtain ⟨lv, iv, hve, _, _⟩ := hv.open
 have Hb0 := hid (Z1_ w m lv iv)
 have Hv0 := hid (hv.up Hb0.out)
 have Hblk0 := hid (Z3_ w m lv iv)
 have g0 := Hblk0.out.cell 0
 have g1 := Hblk0.out.cell 1
 have g2 := Hblk0.out.cell 2
 have g3 := Hblk0.out.cell 3
 have g4 := Hblk0.out.cell 4
 have g5 := Hblk0.out.cell 5
 subst hve
 unfold boxed at *
 have h5 := dp_le 4 m
 obtain ⟨D, hD⟩ : ∃ D : Nat, dp 4 m = D := ⟨_, rfl⟩
 have HD : Hid (deepI m = (D : Int)) := hid (by unfold deepI; rw [hD])
 have HD0 := hid hD
 rw [hD] at h5
 clear hv hs hD
 by_cases h : D = 5
 ·have e : chk m = 91 := if_pos (HD0.out.trans h)
  rw [e]
  have h5' : ((D : Int) == 5) = true := by simp; omega
  clear e h h5
  go_enter Tryz.func62, Tryz.ntmps62
  go_wp2_with fail
  refine (Zn1 m _ _ Hv0.out Hs.out).mono ?_
  rintro e w1 ⟨rfl, hb1⟩
  rw [HD.out]
  have Hb1 := hid (Z0_ Hb0.out (le_refl _) hb1)
  clear hb1 g0 g1 g2 g3 g4 g5
  go_wp2
  go_ret
  exact ⟨rfl, Hb1.out⟩
 ·have h5' : ((D : Int) == 5) = false := by simp; omega
  obtain ⟨b0, hb0⟩ : ∃ b0, ok 4 m = b0 := ⟨_, rfl⟩
  have e : chk m = if b0 = true then 0 else 90 := by rw [← hb0]; exact if_neg (by rw [HD0.out]; exact h)
  obtain ⟨R, hR⟩ : ∃ R : Int, R = if b0 = true then 0 else 90 := ⟨_, rfl⟩
  rw [e, ← hR]
  have HR := hid hR
  have Hmay := hid (fun (v : Value) (W : World) (hv : MatV W W.heap.size v m) => Xe7 4 m v W hv Hs.out (by rw [HD0.out]; omega))
  rw [hb0] at Hmay
  clear e h h5 hb0 hR
  go_enter Tryz.func62, Tryz.ntmps62
  go_wp2_with fail
  refine (Zn1 m _ _ Hv0.out Hs.out).mono ?_
  rintro e w1 ⟨rfl, hb1⟩
  rw [HD.out]
  have Hb1 := hid (Z0_ Hb0.out (le_refl _) hb1)
  have Hv1 := hid (Hv0.out.up hb1)
  have Hblk1 := hid (Hblk0.out.below hb1 Hblk0.out.lt)
  clear hb1 g0 g1 g2 g3 g4 g5
  have g0 := Hblk1.out.cell 0
  have g1 := Hblk1.out.cell 1
  have g2 := Hblk1.out.cell 2
  have g3 := Hblk1.out.cell 3
  have g4 := Hblk1.out.cell 4
  have g5 := Hblk1.out.cell 5
  go_wp2_with fail
  refine (Hmay.out _ _ Hv1.out).mono ?_
  rintro e w2 ⟨rfl, hb2⟩
  have Hb2 := hid (Z0_ Hb1.out (le_refl _) hb2)
  clear hb2 g0 g1 g2 g3 g4 g5
  cases b0
  ·have e90 : R = 90 := HR.out
   subst e90
   go_wp2
   go_ret
   exact ⟨rfl, Hb2.out⟩
  ·have e0 : R = 0 := HR.out
   subst e0
   go_wp2
   go_ret
   exact ⟨rfl, Hb2.out⟩
end Wp
end Go.Proofs.YtgadbnbhgpehjaaGreatDoor
