/- SwapBack, walked: it answers true (written by gen_vback.py). -/
import Derived.Test.YteiejkhdonmcdaaGreatDoorVBackR
import Derived.Test.YteiejkhdonmcdaaGreatDoorVFix
import Derived.Test.YteiejkhdonmcdaaGreatDoorZH
import Derived.Test.YteiejkhdonmcdaaGreatDoorZS
import Derived.Test.YteiejkhdonmcdaaGreatDoorVLaw
import Derived.Test.YteiejkhdonmcdaaGreatDoorZI
import Derived.Deep.RegionHeld3
namespace Go.Proofs.YteiejkhdonmcdaaGreatDoor
open Go Go.RowKit
namespace Wp
theorem adjb_row {a b : Mat} {s : List Int} (i : Nat) : ∃ p : Int, (adjG a b s).getD i [] = arcsG a b s p ∨ (adjG a b s).getD i [] = [] := by
  rcases Nat.lt_or_ge i (nN a) with h | h
  · exact ⟨(i : Int), .inl (by simp [adjG, upTo, List.getD, h])⟩
  · exact ⟨0, .inr (by simp [adjG, upTo, List.getD, h])⟩
theorem adjb_set {a b : Mat} {s : List Int} (hn : nN a ≤ 64) (i : Nat) : IsSet ((adjG a b s).getD i []) := by
  obtain ⟨p, h | h⟩ := adjb_row (a := a) (b := b) (s := s) i
  · rw [h]; exact (W3_ hn).filter _
  · rw [h]; exact X3_
theorem adjb_row_len {a b : Mat} {s : List Int} (hn : nN a ≤ 64) (i : Nat) : ((adjG a b s).getD i []).length ≤ 64 := by
  obtain ⟨p, h | h⟩ := adjb_row (a := a) (b := b) (s := s) i
  · rw [h]
    refine Nat.le_trans (List.length_filter_le _ _) ?_
    simp [upTo]; omega
  · rw [h]; simp

set_option maxHeartbeats 16000000 in
set_option maxRecDepth 100000 in
theorem vb_off (E : Nat → Addr) (a : Mat) (va : Value) (b : Mat) (vb : Value) (sw pw : Value) (s P : List Int) (w : World) (hva : MatV w w.heap.size va a) (hla : Lim a) (hvb : MatV w w.heap.size vb b) (hlb : Lim b) (hrw : Row w w.heap.size sw s) (hpw : Row w w.heap.size pw P) (hE : Env E w) (A B M G D : Bool) (hA : fewB 9 a 8 = A) (hB : fewB 9 b 8 = B) (hM : mayS a b s = M) (hG : decide ((20 : Int) < (P.length : Int)) = G) (hD : (((sortL P).length : Int) != (P.length : Int)) = D) (hR : ((((((!true) || (!A)) || (!B)) || (!M)) || G) || D) = true) : Calls Tryz.prog 6 #[va, vb, .agg #[sw, pw]] w (Truly w) := by
  have HA := Lib.hid hA
  have HB := Lib.hid hB
  have HM := Lib.hid hM
  have HG := Lib.hid hG
  have HD := Lib.hid hD
  have HR := Lib.hid hR
  clear hA hB hM hG hD hR
  have Hla := Lib.hid hla
  have Hlb := Lib.hid hlb
  obtain ⟨l1, i1, hve, hl1, hi1⟩ := hva.open
  obtain ⟨l2, i2, hve2, hl2, hi2⟩ := hvb.open
  obtain ⟨Al, cl, rfl, _⟩ := hl1
  obtain ⟨Ai, ci, rfl, _⟩ := hi1
  obtain ⟨Bl, dl, rfl, _⟩ := hl2
  obtain ⟨Bi, di, rfl, _⟩ := hi2
  obtain ⟨Aw, cw, hsw, hcapw, _⟩ := id hrw
  obtain ⟨Ap, cp, hsp, hcapp, _⟩ := id hpw
  subst hve hve2 hsw hsp
  obtain ⟨W3, hW3⟩ : ∃ W3, W3 = ((w.alloc (.cells #[.int .i64 a.t, .int .i64 a.n, .int .i64 a.a, .int .i64 a.b, .slice Al a.l.length cl, .slice Ai a.i.length ci] 25)).alloc (.cells #[.int .i64 b.t, .int .i64 b.n, .int .i64 b.a, .int .i64 b.b, .slice Bl b.l.length dl, .slice Bi b.i.length di] 25)).alloc (.cells #[.slice Aw s.length cw, .slice Ap P.length cp] 28) := ⟨_, rfl⟩
  have HW3 := Lib.hid hW3
  have hb3 : Below w.heap.size w W3 := by rw [hW3]; exact (((Below.refl _ w).alloc (Nat.le_refl _) _).alloc (by simp) _).alloc (by simp; omega) _
  have Hka : Hid (Blk W3 w.heap.size 25 #[.int .i64 a.t, .int .i64 a.n, .int .i64 a.a, .int .i64 a.b, .slice Al a.l.length cl, .slice Ai a.i.length ci]) := Lib.hid (by rw [hW3]; exact ((Blk.new w _ _).alloc _).alloc _)
  have Hkb : Hid (Blk W3 (w.heap.size + 1) 25 #[.int .i64 b.t, .int .i64 b.n, .int .i64 b.a, .int .i64 b.b, .slice Bl b.l.length dl, .slice Bi b.i.length di]) := Lib.hid (by
    rw [hW3]
    have := (Blk.new (w.alloc (.cells #[.int .i64 a.t, .int .i64 a.n, .int .i64 a.a, .int .i64 a.b, .slice Al a.l.length cl, .slice Ai a.i.length ci] 25)) 25 #[.int .i64 b.t, .int .i64 b.n, .int .i64 b.a, .int .i64 b.b, .slice Bl b.l.length dl, .slice Bi b.i.length di]).alloc (.cells #[.slice Aw s.length cw, .slice Ap P.length cp] 28)
    simpa using this)
  have Hkq : Hid (Blk W3 (w.heap.size + 2) 28 #[.slice Aw s.length cw, .slice Ap P.length cp]) := Lib.hid (by
    rw [hW3]
    have := Blk.new ((w.alloc (.cells #[.int .i64 a.t, .int .i64 a.n, .int .i64 a.a, .int .i64 a.b, .slice Al a.l.length cl, .slice Ai a.i.length ci] 25)).alloc (.cells #[.int .i64 b.t, .int .i64 b.n, .int .i64 b.a, .int .i64 b.b, .slice Bl b.l.length dl, .slice Bi b.i.length di] 25)) 28 #[.slice Aw s.length cw, .slice Ap P.length cp]
    simpa using this)
  have Hb0 := Lib.hid hb3
  have HVa := Lib.hid (hva.up hb3)
  have HVb := Lib.hid (hvb.up hb3)
  have HW := Lib.hid (hrw.up hb3)
  have HP := Lib.hid (hpw.up hb3)
  have HE := Lib.hid (hE.up hb3)
  have HK : Hid (∀ W, Below W3.drew.heap.size W3.drew W → Below W3.heap.size W3 W) := Lib.hid fun W hW => Z0_ (Below.refl _ W3).drew (Nat.le_refl _) hW
  clear hva hvb hla hlb hE hrw hpw hcapw hcapp hW3 hb3
  go_enter Tryz.func6, Tryz.ntmps6
  go_wp2
  rw [← HW3.out]
  refine wp_region_ways (ops := vbO) (vbK ⟨w.heap.size, w.heap.size + 1, w.heap.size + 2, .int .i64 a.t, .int .i64 a.n, .int .i64 a.a, .int .i64 a.b, .slice Al a.l.length cl, .slice Ai a.i.length ci, .int .i64 b.t, .int .i64 b.n, .int .i64 b.a, .int .i64 b.b, .slice Bl b.l.length dl, .slice Bi b.i.length di, .slice Aw s.length cw, .slice Ap P.length cp, P, A, B, M, G, D⟩) (by kernel_rfl) (by kernel_rfl) (vb_all (x := ⟨w.heap.size, w.heap.size + 1, w.heap.size + 2, .int .i64 a.t, .int .i64 a.n, .int .i64 a.a, .int .i64 a.b, .slice Al a.l.length cl, .slice Ai a.i.length ci, .int .i64 b.t, .int .i64 b.n, .int .i64 b.a, .int .i64 b.b, .slice Bl b.l.length dl, .slice Bi b.i.length di, .slice Aw s.length cw, .slice Ap P.length cp, P, A, B, M, G, D⟩) ⟨rfl, rfl, rfl, ?hK1, ?hK2, ?hK30, ?hK31, ?hF, ?hA, ?hB, ?hM, ?hS, HG.out, HD.out, ⟨_, _, rfl⟩⟩) ?_
  case hK1 => exact fun W hW => by have h := Hka.out.below (HK.out W hW) Hka.out.lt; exact ⟨h.cell 0, h.cell 1, h.cell 2, h.cell 3, h.cell 4, h.cell 5⟩
  case hK2 => exact fun W hW => by have h := Hkb.out.below (HK.out W hW) Hkb.out.lt; exact ⟨h.cell 0, h.cell 1, h.cell 2, h.cell 3, h.cell 4, h.cell 5⟩
  case hK30 => exact fun W hW => (Hkq.out.below (HK.out W hW) Hkq.out.lt).cell 0
  case hK31 => exact fun W hW => (Hkq.out.below (HK.out W hW) Hkq.out.lt).cell 1
  case hF => exact fun W hW => Y0_ E W (HE.out.up (HK.out W hW))
  case hA => exact fun W hW => by have h := X6_ a _ 8 W (HVa.out.up (HK.out W hW)) Hla.out; rw [HA.out] at h; exact h
  case hB => exact fun W hW => by have h := X6_ b _ 8 W (HVb.out.up (HK.out W hW)) Hlb.out; rw [HB.out] at h; exact h
  case hM => exact fun W hW hA hB => by have h := C5_ a b _ _ _ s W (HVa.out.up (HK.out W hW)) (HVb.out.up (HK.out W hW)) (V0_ (HA.out.trans hA)) (V0_ (HB.out.trans hB)) (HW.out.up (HK.out W hW)); rw [HM.out] at h; exact h
  case hS => exact fun W hW hg => L5_ _ P W (HP.out.up (HK.out W hW)) (by have := of_decide_eq_false (HG.out.trans hg); omega)
  intro a' W hW hsz hdf hout hall
  have hb4 := HK.out W hW
  clear HK
  obtain ⟨v17, h17⟩ : ∃ v, a'.tmps.getD 17 undef = v := ⟨_, rfl⟩
  obtain ⟨v18, h18⟩ : ∃ v, a'.tmps.getD 18 undef = v := ⟨_, rfl⟩
  obtain ⟨v19, h19⟩ : ∃ v, a'.tmps.getD 19 undef = v := ⟨_, rfl⟩
  obtain ⟨v20, h20⟩ : ∃ v, a'.tmps.getD 20 undef = v := ⟨_, rfl⟩
  obtain ⟨v21, h21⟩ : ∃ v, a'.tmps.getD 21 undef = v := ⟨_, rfl⟩
  obtain ⟨v22, h22⟩ : ∃ v, a'.tmps.getD 22 undef = v := ⟨_, rfl⟩
  obtain ⟨v23, h23⟩ : ∃ v, a'.tmps.getD 23 undef = v := ⟨_, rfl⟩
  obtain ⟨v24, h24⟩ : ∃ v, a'.tmps.getD 24 undef = v := ⟨_, rfl⟩
  obtain ⟨v25, h25⟩ : ∃ v, a'.tmps.getD 25 undef = v := ⟨_, rfl⟩
  obtain ⟨v26, h26⟩ : ∃ v, a'.tmps.getD 26 undef = v := ⟨_, rfl⟩
  obtain ⟨v27, h27⟩ : ∃ v, a'.tmps.getD 27 undef = v := ⟨_, rfl⟩
  obtain ⟨v28, h28⟩ : ∃ v, a'.tmps.getD 28 undef = v := ⟨_, rfl⟩
  obtain ⟨v29, h29⟩ : ∃ v, a'.tmps.getD 29 undef = v := ⟨_, rfl⟩
  obtain ⟨v30, h30⟩ : ∃ v, a'.tmps.getD 30 undef = v := ⟨_, rfl⟩
  obtain ⟨v31, h31⟩ : ∃ v, a'.tmps.getD 31 undef = v := ⟨_, rfl⟩
  obtain ⟨v32, h32⟩ : ∃ v, a'.tmps.getD 32 undef = v := ⟨_, rfl⟩
  obtain ⟨v33, h33⟩ : ∃ v, a'.tmps.getD 33 undef = v := ⟨_, rfl⟩
  obtain ⟨v34, h34⟩ : ∃ v, a'.tmps.getD 34 undef = v := ⟨_, rfl⟩
  obtain ⟨v35, h35⟩ : ∃ v, a'.tmps.getD 35 undef = v := ⟨_, rfl⟩
  obtain ⟨v36, h36⟩ : ∃ v, a'.tmps.getD 36 undef = v := ⟨_, rfl⟩
  obtain ⟨v37, h37⟩ : ∃ v, a'.tmps.getD 37 undef = v := ⟨_, rfl⟩
  obtain ⟨v38, h38⟩ : ∃ v, a'.tmps.getD 38 undef = v := ⟨_, rfl⟩
  obtain ⟨v39, h39⟩ : ∃ v, a'.tmps.getD 39 undef = v := ⟨_, rfl⟩
  obtain ⟨v40, h40⟩ : ∃ v, a'.tmps.getD 40 undef = v := ⟨_, rfl⟩
  obtain ⟨v41, h41⟩ : ∃ v, a'.tmps.getD 41 undef = v := ⟨_, rfl⟩
  obtain ⟨v42, h42⟩ : ∃ v, a'.tmps.getD 42 undef = v := ⟨_, rfl⟩
  obtain ⟨v43, h43⟩ : ∃ v, a'.tmps.getD 43 undef = v := ⟨_, rfl⟩
  obtain ⟨v44, h44⟩ : ∃ v, a'.tmps.getD 44 undef = v := ⟨_, rfl⟩
  obtain ⟨v45, h45⟩ : ∃ v, a'.tmps.getD 45 undef = v := ⟨_, rfl⟩
  obtain ⟨v46, h46⟩ : ∃ v, a'.tmps.getD 46 undef = v := ⟨_, rfl⟩
  obtain ⟨v47, h47⟩ : ∃ v, a'.tmps.getD 47 undef = v := ⟨_, rfl⟩
  obtain ⟨v48, h48⟩ : ∃ v, a'.tmps.getD 48 undef = v := ⟨_, rfl⟩
  obtain ⟨v49, h49⟩ : ∃ v, a'.tmps.getD 49 undef = v := ⟨_, rfl⟩
  obtain ⟨v50, h50⟩ : ∃ v, a'.tmps.getD 50 undef = v := ⟨_, rfl⟩
  obtain ⟨v51, h51⟩ : ∃ v, a'.tmps.getD 51 undef = v := ⟨_, rfl⟩
  have h52 := hall 35 52 (by rw [show vbO.size = 36 by kernel_rfl]; decide) (by kernel_rfl)
  rw [show ek vbO (vbK ⟨w.heap.size, w.heap.size + 1, w.heap.size + 2, .int .i64 a.t, .int .i64 a.n, .int .i64 a.a, .int .i64 a.b, .slice Al a.l.length cl, .slice Ai a.i.length ci, .int .i64 b.t, .int .i64 b.n, .int .i64 b.a, .int .i64 b.b, .slice Bl b.l.length dl, .slice Bi b.i.length di, .slice Aw s.length cw, .slice Ap P.length cp, P, A, B, M, G, D⟩) 35 = .eq (.bool (((((((!true) || (!A)) || (!B)) || (!M)) || G) || D))) from by kernel_rfl] at h52
  have h52 : a'.tmps.getD 52 undef = .bool (((((((!true) || (!A)) || (!B)) || (!M)) || G) || D)) := h52
  rw [HR.out] at h52
  have hfr := Ym4 (ops := vbO) (n := 36) (N := 135) [(17, v17), (18, v18), (19, v19), (20, v20), (21, v21), (22, v22), (23, v23), (24, v24), (25, v25), (26, v26), (27, v27), (28, v28), (29, v29), (30, v30), (31, v31), (32, v32), (33, v33), (34, v34), (35, v35), (36, v36), (37, v37), (38, v38), (39, v39), (40, v40), (41, v41), (42, v42), (43, v43), (44, v44), (45, v45), (46, v46), (47, v47), (48, v48), (49, v49), (50, v50), (51, v51), (52, .bool true)] rfl hsz hdf (fun t ht => hout t (by unfold Ym1; rw [show vbO.size = 36 by kernel_rfl]; exact ht)) (by kernel_rfl) (by
    intro p hp
    simp only [List.mem_cons, List.not_mem_nil, or_false] at hp
    rcases hp with rfl | rfl | rfl | rfl | rfl | rfl | rfl | rfl | rfl | rfl | rfl | rfl | rfl | rfl | rfl | rfl | rfl | rfl | rfl | rfl | rfl | rfl | rfl | rfl | rfl | rfl | rfl | rfl | rfl | rfl | rfl | rfl | rfl | rfl | rfl | rfl <;> assumption)
  clear hout hall hsz hdf h17 h18 h19 h20 h21 h22 h23 h24 h25 h26 h27 h28 h29 h30 h31 h32 h33 h34 h35 h36 h37 h38 h39 h40 h41 h42 h43 h44 h45 h46 h47 h48 h49 h50 h51 h52
  rw [hfr]
  clear hfr
  simp only [show List.range 135 = [0, 1, 2, 3, 4, 5, 6, 7, 8, 9, 10, 11, 12, 13, 14, 15, 16, 17, 18, 19, 20, 21, 22, 23, 24, 25, 26, 27, 28, 29, 30, 31, 32, 33, 34, 35, 36, 37, 38, 39, 40, 41, 42, 43, 44, 45, 46, 47, 48, 49, 50, 51, 52, 53, 54, 55, 56, 57, 58, 59, 60, 61, 62, 63, 64, 65, 66, 67, 68, 69, 70, 71, 72, 73, 74, 75, 76, 77, 78, 79, 80, 81, 82, 83, 84, 85, 86, 87, 88, 89, 90, 91, 92, 93, 94, 95, 96, 97, 98, 99, 100, 101, 102, 103, 104, 105, 106, 107, 108, 109, 110, 111, 112, 113, 114, 115, 116, 117, 118, 119, 120, 121, 122, 123, 124, 125, 126, 127, 128, 129, 130, 131, 132, 133, 134] from by decide, List.map_cons, List.map_nil, List.lookup_cons, List.lookup_nil]
  go_simp
  replace HE := Lib.hid (HE.out.up hb4)
  replace HVa := Lib.hid (HVa.out.up hb4)
  replace HVb := Lib.hid (HVb.out.up hb4)
  replace HW := Lib.hid (HW.out.up hb4)
  replace HP := Lib.hid (HP.out.up hb4)
  replace Hka := Lib.hid (Hka.out.below hb4 Hka.out.lt)
  replace Hkb := Lib.hid (Hkb.out.below hb4 Hkb.out.lt)
  replace Hkq := Lib.hid (Hkq.out.below hb4 Hkq.out.lt)
  replace Hb0 := Lib.hid (Z0_ Hb0.out (Nat.le_refl _) hb4)
  clear hb4
  go_wp2_with fail
  refine (Y0_ E _ HE.out).mono ?_
  rintro e w5 ⟨rfl, hb5⟩
  replace Hb0 := Lib.hid (Z0_ Hb0.out (Nat.le_refl _) hb5)
  clear hb5
  go_wp2
  go_ret
  exact ⟨rfl, Hb0.out⟩

set_option maxHeartbeats 16000000 in
set_option maxRecDepth 100000 in
theorem vb_main (E : Nat → Addr) (a : Mat) (va : Value) (b : Mat) (vb : Value) (sw pw : Value) (s P : List Int) (w : World) (hva : MatV w w.heap.size va a) (hla : Lim a) (hvb : MatV w w.heap.size vb b) (hlb : Lim b) (hrw : Row w w.heap.size sw s) (hpw : Row w w.heap.size pw P) (hE : Env E w) (hfa : fewB 9 a 8 = true) (hfb : fewB 9 b 8 = true) (hC : Common a b s) (hG : decide ((20 : Int) < (P.length : Int)) = false) (hD : (((sortL P).length : Int) != (P.length : Int)) = false) : Calls Tryz.prog 6 #[va, vb, .agg #[sw, pw]] w (Truly w) := by
  have hn64 := hC.n64
  have hS := hC.set
  have hbn := hC.nn
  have hP20 : (P.length : Int) ≤ 20 := by have := of_decide_eq_false hG; omega
  have hPl : (sortL P).length = P.length := by
    have h : ((sortL P).length : Int) = (P.length : Int) := by simpa using hD
    omega
  have hsl : s.length ≤ 64 := Nat.le_trans (Y4_ hS) hn64
  obtain ⟨L, hL⟩ : ∃ L, adjG a b s = L := ⟨_, rfl⟩
  obtain ⟨L2, hL2⟩ : ∃ L, adjG b a s = L := ⟨_, rfl⟩
  obtain ⟨FA, hFA⟩ : ∃ F, addG a s = F := ⟨_, rfl⟩
  obtain ⟨FB, hFB⟩ : ∃ F, addG b s = F := ⟨_, rfl⟩
  have hLl : L.length = nN a := by rw [← hL]; exact A6_
  have hL2l : L2.length = nN a := by rw [← hL2, ← hbn]; exact A6_
  have hLI : (L.length : Int) ≤ 64 := by omega
  have hL2I : (L2.length : Int) = (L.length : Int) := by omega
  have hLe : ((L.length : Int) != (L2.length : Int)) = false := by rw [hL2I]; simp
  have hFAl : FA.length ≤ 64 := by rw [← hFA]; exact Nat.le_trans (Y4_ (A9_ hn64)) hn64
  have hFBl : FB.length ≤ 64 := by rw [← hFB]; exact Nat.le_trans (Y4_ (A9_ (by rw [hbn]; exact hn64))) (by rw [hbn]; exact hn64)
  have HX : Hid (∀ i k, i < L.length → k < L.length → hasB (L2.getD k []) (i : Int) = hasB (L.getD i []) (k : Int)) := Lib.hid fun i k hi hk => by
    rw [hLl] at hi hk
    rw [Bool.eq_iff_iff, ← hL, ← hL2, B7_ (adjb_set hn64 i), B7_ (adjb_set (by rw [hbn]; exact hn64) k)]
    exact (Yv5 hbn hi hk).symm
  have HrowL : Hid (∀ i, (L.getD i []).length ≤ 64) := Lib.hid fun i => by rw [← hL]; exact adjb_row_len hn64 i
  have HrowL2 : Hid (∀ i, (L2.getD i []).length ≤ 64) := Lib.hid fun i => by rw [← hL2]; exact adjb_row_len (by rw [hbn]; exact hn64) i
  have HT2 : Hid (turnL (turnL s P) P = s) := Lib.hid (Xg8 hS.1 hPl)
  have HTl : Hid ((turnL s P).length ≤ 1000) := Lib.hid (by
    rw [Vg9 hS.1 hPl]
    have h1 := Zx0 (Z5_ s (sortL P)) (Z5_ (sortL P) s)
    have h2 := O9_ s (sortL P)
    have h3 := O9_ (sortL P) s
    omega)
  have Hsa := Lib.hid (V0_ hfa)
  have Hsb := Lib.hid (V0_ hfb)
  have HG1 : Hid (∀ (va vb sv : Value) (W : World), MatV W W.heap.size va a → MatV W W.heap.size vb b → Row W W.heap.size sv s → Env E W → Calls Tryz.prog 16 #[va, vb, sv] W (D5_ W L FA FB 0)) := Lib.hid fun va vb sv W h1 h2 h3 h4 => by
    rw [← hL, ← hFA, ← hFB]
    exact H2_ E a b va vb sv s W h1 h2 Hsa.out Hsb.out h3 h4 hC
  have HG2 : Hid (∀ (va vb sv : Value) (W : World), MatV W W.heap.size vb b → MatV W W.heap.size va a → Row W W.heap.size sv s → Env E W → Calls Tryz.prog 16 #[vb, va, sv] W (D5_ W L2 FB FA 0)) := Lib.hid fun va vb sv W h1 h2 h3 h4 => by
    rw [← hL2, ← hFA, ← hFB]
    exact H2_ E b a vb va sv s W h1 h2 Hsb.out Hsa.out h3 h4 ⟨hC.n.symm, hC.ib, hC.ia⟩
  have Hm : Hid (mayS a b s = true) := Lib.hid (mayS_iff.2 hC)
  have Hfa := Lib.hid hfa
  have Hfb := Lib.hid hfb
  have HG := Lib.hid hG
  have HD := Lib.hid hD
  clear hfa hfb hC hL hL2 hFA hFB hG hD hPl hLl hL2l hbn hS hn64
  have Hla := Lib.hid hla
  have Hlb := Lib.hid hlb
  obtain ⟨l1, i1, hve, hl1, hi1⟩ := hva.open
  obtain ⟨l2, i2, hve2, hl2, hi2⟩ := hvb.open
  obtain ⟨Al, cl, rfl, _⟩ := hl1
  obtain ⟨Ai, ci, rfl, _⟩ := hi1
  obtain ⟨Bl, dl, rfl, _⟩ := hl2
  obtain ⟨Bi, di, rfl, _⟩ := hi2
  obtain ⟨Aw, cw, hsw, hcapw, _⟩ := id hrw
  obtain ⟨Ap, cp, hsp, hcapp, _⟩ := id hpw
  subst hve hve2 hsw hsp
  obtain ⟨W3, hW3⟩ : ∃ W3, W3 = ((w.alloc (.cells #[.int .i64 a.t, .int .i64 a.n, .int .i64 a.a, .int .i64 a.b, .slice Al a.l.length cl, .slice Ai a.i.length ci] 25)).alloc (.cells #[.int .i64 b.t, .int .i64 b.n, .int .i64 b.a, .int .i64 b.b, .slice Bl b.l.length dl, .slice Bi b.i.length di] 25)).alloc (.cells #[.slice Aw s.length cw, .slice Ap P.length cp] 28) := ⟨_, rfl⟩
  have HW3 := Lib.hid hW3
  have hb3 : Below w.heap.size w W3 := by rw [hW3]; exact (((Below.refl _ w).alloc (Nat.le_refl _) _).alloc (by simp) _).alloc (by simp; omega) _
  have Hka : Hid (Blk W3 w.heap.size 25 #[.int .i64 a.t, .int .i64 a.n, .int .i64 a.a, .int .i64 a.b, .slice Al a.l.length cl, .slice Ai a.i.length ci]) := Lib.hid (by rw [hW3]; exact ((Blk.new w _ _).alloc _).alloc _)
  have Hkb : Hid (Blk W3 (w.heap.size + 1) 25 #[.int .i64 b.t, .int .i64 b.n, .int .i64 b.a, .int .i64 b.b, .slice Bl b.l.length dl, .slice Bi b.i.length di]) := Lib.hid (by
    rw [hW3]
    have := (Blk.new (w.alloc (.cells #[.int .i64 a.t, .int .i64 a.n, .int .i64 a.a, .int .i64 a.b, .slice Al a.l.length cl, .slice Ai a.i.length ci] 25)) 25 #[.int .i64 b.t, .int .i64 b.n, .int .i64 b.a, .int .i64 b.b, .slice Bl b.l.length dl, .slice Bi b.i.length di]).alloc (.cells #[.slice Aw s.length cw, .slice Ap P.length cp] 28)
    simpa using this)
  have Hkq : Hid (Blk W3 (w.heap.size + 2) 28 #[.slice Aw s.length cw, .slice Ap P.length cp]) := Lib.hid (by
    rw [hW3]
    have := Blk.new ((w.alloc (.cells #[.int .i64 a.t, .int .i64 a.n, .int .i64 a.a, .int .i64 a.b, .slice Al a.l.length cl, .slice Ai a.i.length ci] 25)).alloc (.cells #[.int .i64 b.t, .int .i64 b.n, .int .i64 b.a, .int .i64 b.b, .slice Bl b.l.length dl, .slice Bi b.i.length di] 25)) 28 #[.slice Aw s.length cw, .slice Ap P.length cp]
    simpa using this)
  have Hb0 := Lib.hid hb3
  have HVa := Lib.hid (hva.up hb3)
  have HVb := Lib.hid (hvb.up hb3)
  have HW := Lib.hid (hrw.up hb3)
  have HP := Lib.hid (hpw.up hb3)
  have HE := Lib.hid (hE.up hb3)
  have HK : Hid (∀ W, Below W3.drew.heap.size W3.drew W → Below W3.heap.size W3 W) := Lib.hid fun W hW => Z0_ (Below.refl _ W3).drew (Nat.le_refl _) hW
  clear hva hvb hla hlb hE hrw hpw hcapw hcapp hW3 hb3
  go_enter Tryz.func6, Tryz.ntmps6
  go_wp2
  rw [← HW3.out]
  refine wp_region_ways (ops := vbO) (vbK ⟨w.heap.size, w.heap.size + 1, w.heap.size + 2, .int .i64 a.t, .int .i64 a.n, .int .i64 a.a, .int .i64 a.b, .slice Al a.l.length cl, .slice Ai a.i.length ci, .int .i64 b.t, .int .i64 b.n, .int .i64 b.a, .int .i64 b.b, .slice Bl b.l.length dl, .slice Bi b.i.length di, .slice Aw s.length cw, .slice Ap P.length cp, P, true, true, true, false, false⟩) (by kernel_rfl) (by kernel_rfl) (vb_all (x := ⟨w.heap.size, w.heap.size + 1, w.heap.size + 2, .int .i64 a.t, .int .i64 a.n, .int .i64 a.a, .int .i64 a.b, .slice Al a.l.length cl, .slice Ai a.i.length ci, .int .i64 b.t, .int .i64 b.n, .int .i64 b.a, .int .i64 b.b, .slice Bl b.l.length dl, .slice Bi b.i.length di, .slice Aw s.length cw, .slice Ap P.length cp, P, true, true, true, false, false⟩) ⟨rfl, rfl, rfl, ?hK1, ?hK2, ?hK30, ?hK31, ?hF, ?hA, ?hB, ?hM, ?hS, HG.out, HD.out, ⟨_, _, rfl⟩⟩) ?_
  case hK1 => exact fun W hW => by have h := Hka.out.below (HK.out W hW) Hka.out.lt; exact ⟨h.cell 0, h.cell 1, h.cell 2, h.cell 3, h.cell 4, h.cell 5⟩
  case hK2 => exact fun W hW => by have h := Hkb.out.below (HK.out W hW) Hkb.out.lt; exact ⟨h.cell 0, h.cell 1, h.cell 2, h.cell 3, h.cell 4, h.cell 5⟩
  case hK30 => exact fun W hW => (Hkq.out.below (HK.out W hW) Hkq.out.lt).cell 0
  case hK31 => exact fun W hW => (Hkq.out.below (HK.out W hW) Hkq.out.lt).cell 1
  case hF => exact fun W hW => Y0_ E W (HE.out.up (HK.out W hW))
  case hA => exact fun W hW => by have h := X6_ a _ 8 W (HVa.out.up (HK.out W hW)) Hla.out; rw [Hfa.out] at h; exact h
  case hB => exact fun W hW => by have h := X6_ b _ 8 W (HVb.out.up (HK.out W hW)) Hlb.out; rw [Hfb.out] at h; exact h
  case hM => exact fun W hW hA hB => by have h := C5_ a b _ _ _ s W (HVa.out.up (HK.out W hW)) (HVb.out.up (HK.out W hW)) (V0_ (Hfa.out.trans hA)) (V0_ (Hfb.out.trans hB)) (HW.out.up (HK.out W hW)); rw [Hm.out] at h; exact h
  case hS => exact fun W hW hg => L5_ _ P W (HP.out.up (HK.out W hW)) (by have := of_decide_eq_false (HG.out.trans hg); omega)
  intro a' W hW hsz hdf hout hall
  have hb4 := HK.out W hW
  clear HK
  obtain ⟨v17, h17⟩ : ∃ v, a'.tmps.getD 17 undef = v := ⟨_, rfl⟩
  obtain ⟨v18, h18⟩ : ∃ v, a'.tmps.getD 18 undef = v := ⟨_, rfl⟩
  obtain ⟨v19, h19⟩ : ∃ v, a'.tmps.getD 19 undef = v := ⟨_, rfl⟩
  obtain ⟨v20, h20⟩ : ∃ v, a'.tmps.getD 20 undef = v := ⟨_, rfl⟩
  obtain ⟨v21, h21⟩ : ∃ v, a'.tmps.getD 21 undef = v := ⟨_, rfl⟩
  obtain ⟨v22, h22⟩ : ∃ v, a'.tmps.getD 22 undef = v := ⟨_, rfl⟩
  obtain ⟨v23, h23⟩ : ∃ v, a'.tmps.getD 23 undef = v := ⟨_, rfl⟩
  obtain ⟨v24, h24⟩ : ∃ v, a'.tmps.getD 24 undef = v := ⟨_, rfl⟩
  obtain ⟨v25, h25⟩ : ∃ v, a'.tmps.getD 25 undef = v := ⟨_, rfl⟩
  obtain ⟨v26, h26⟩ : ∃ v, a'.tmps.getD 26 undef = v := ⟨_, rfl⟩
  obtain ⟨v27, h27⟩ : ∃ v, a'.tmps.getD 27 undef = v := ⟨_, rfl⟩
  obtain ⟨v28, h28⟩ : ∃ v, a'.tmps.getD 28 undef = v := ⟨_, rfl⟩
  obtain ⟨v29, h29⟩ : ∃ v, a'.tmps.getD 29 undef = v := ⟨_, rfl⟩
  obtain ⟨v30, h30⟩ : ∃ v, a'.tmps.getD 30 undef = v := ⟨_, rfl⟩
  obtain ⟨v31, h31⟩ : ∃ v, a'.tmps.getD 31 undef = v := ⟨_, rfl⟩
  obtain ⟨v32, h32⟩ : ∃ v, a'.tmps.getD 32 undef = v := ⟨_, rfl⟩
  obtain ⟨v33, h33⟩ : ∃ v, a'.tmps.getD 33 undef = v := ⟨_, rfl⟩
  obtain ⟨v34, h34⟩ : ∃ v, a'.tmps.getD 34 undef = v := ⟨_, rfl⟩
  obtain ⟨v35, h35⟩ : ∃ v, a'.tmps.getD 35 undef = v := ⟨_, rfl⟩
  obtain ⟨v36, h36⟩ : ∃ v, a'.tmps.getD 36 undef = v := ⟨_, rfl⟩
  obtain ⟨v37, h37⟩ : ∃ v, a'.tmps.getD 37 undef = v := ⟨_, rfl⟩
  obtain ⟨v38, h38⟩ : ∃ v, a'.tmps.getD 38 undef = v := ⟨_, rfl⟩
  obtain ⟨v39, h39⟩ : ∃ v, a'.tmps.getD 39 undef = v := ⟨_, rfl⟩
  obtain ⟨v40, h40⟩ : ∃ v, a'.tmps.getD 40 undef = v := ⟨_, rfl⟩
  obtain ⟨v41, h41⟩ : ∃ v, a'.tmps.getD 41 undef = v := ⟨_, rfl⟩
  obtain ⟨v42, h42⟩ : ∃ v, a'.tmps.getD 42 undef = v := ⟨_, rfl⟩
  obtain ⟨v43, h43⟩ : ∃ v, a'.tmps.getD 43 undef = v := ⟨_, rfl⟩
  obtain ⟨v44, h44⟩ : ∃ v, a'.tmps.getD 44 undef = v := ⟨_, rfl⟩
  obtain ⟨v45, h45⟩ : ∃ v, a'.tmps.getD 45 undef = v := ⟨_, rfl⟩
  obtain ⟨v46, h46⟩ : ∃ v, a'.tmps.getD 46 undef = v := ⟨_, rfl⟩
  obtain ⟨v47, h47⟩ : ∃ v, a'.tmps.getD 47 undef = v := ⟨_, rfl⟩
  obtain ⟨v48, h48⟩ : ∃ v, a'.tmps.getD 48 undef = v := ⟨_, rfl⟩
  obtain ⟨v49, h49⟩ : ∃ v, a'.tmps.getD 49 undef = v := ⟨_, rfl⟩
  obtain ⟨v50, h50⟩ : ∃ v, a'.tmps.getD 50 undef = v := ⟨_, rfl⟩
  obtain ⟨v51, h51⟩ : ∃ v, a'.tmps.getD 51 undef = v := ⟨_, rfl⟩
  have h52 := hall 35 52 (by rw [show vbO.size = 36 by kernel_rfl]; decide) (by kernel_rfl)
  rw [show ek vbO (vbK ⟨w.heap.size, w.heap.size + 1, w.heap.size + 2, .int .i64 a.t, .int .i64 a.n, .int .i64 a.a, .int .i64 a.b, .slice Al a.l.length cl, .slice Ai a.i.length ci, .int .i64 b.t, .int .i64 b.n, .int .i64 b.a, .int .i64 b.b, .slice Bl b.l.length dl, .slice Bi b.i.length di, .slice Aw s.length cw, .slice Ap P.length cp, P, true, true, true, false, false⟩) 35 = .eq (.bool false) from by kernel_rfl] at h52
  have h52 : a'.tmps.getD 52 undef = .bool false := h52
  have hfr := Ym4 (ops := vbO) (n := 36) (N := 135) [(17, v17), (18, v18), (19, v19), (20, v20), (21, v21), (22, v22), (23, v23), (24, v24), (25, v25), (26, v26), (27, v27), (28, v28), (29, v29), (30, v30), (31, v31), (32, v32), (33, v33), (34, v34), (35, v35), (36, v36), (37, v37), (38, v38), (39, v39), (40, v40), (41, v41), (42, v42), (43, v43), (44, v44), (45, v45), (46, v46), (47, v47), (48, v48), (49, v49), (50, v50), (51, v51), (52, .bool false)] rfl hsz hdf (fun t ht => hout t (by unfold Ym1; rw [show vbO.size = 36 by kernel_rfl]; exact ht)) (by kernel_rfl) (by
    intro p hp
    simp only [List.mem_cons, List.not_mem_nil, or_false] at hp
    rcases hp with rfl | rfl | rfl | rfl | rfl | rfl | rfl | rfl | rfl | rfl | rfl | rfl | rfl | rfl | rfl | rfl | rfl | rfl | rfl | rfl | rfl | rfl | rfl | rfl | rfl | rfl | rfl | rfl | rfl | rfl | rfl | rfl | rfl | rfl | rfl | rfl <;> assumption)
  clear hout hall hsz hdf h17 h18 h19 h20 h21 h22 h23 h24 h25 h26 h27 h28 h29 h30 h31 h32 h33 h34 h35 h36 h37 h38 h39 h40 h41 h42 h43 h44 h45 h46 h47 h48 h49 h50 h51 h52
  rw [hfr]
  clear hfr
  simp only [show List.range 135 = [0, 1, 2, 3, 4, 5, 6, 7, 8, 9, 10, 11, 12, 13, 14, 15, 16, 17, 18, 19, 20, 21, 22, 23, 24, 25, 26, 27, 28, 29, 30, 31, 32, 33, 34, 35, 36, 37, 38, 39, 40, 41, 42, 43, 44, 45, 46, 47, 48, 49, 50, 51, 52, 53, 54, 55, 56, 57, 58, 59, 60, 61, 62, 63, 64, 65, 66, 67, 68, 69, 70, 71, 72, 73, 74, 75, 76, 77, 78, 79, 80, 81, 82, 83, 84, 85, 86, 87, 88, 89, 90, 91, 92, 93, 94, 95, 96, 97, 98, 99, 100, 101, 102, 103, 104, 105, 106, 107, 108, 109, 110, 111, 112, 113, 114, 115, 116, 117, 118, 119, 120, 121, 122, 123, 124, 125, 126, 127, 128, 129, 130, 131, 132, 133, 134] from by decide, List.map_cons, List.map_nil, List.lookup_cons, List.lookup_nil]
  go_simp
  replace HE := Lib.hid (HE.out.up hb4)
  replace HVa := Lib.hid (HVa.out.up hb4)
  replace HVb := Lib.hid (HVb.out.up hb4)
  replace HW := Lib.hid (HW.out.up hb4)
  replace HP := Lib.hid (HP.out.up hb4)
  replace Hka := Lib.hid (Hka.out.below hb4 Hka.out.lt)
  replace Hkb := Lib.hid (Hkb.out.below hb4 Hkb.out.lt)
  replace Hkq := Lib.hid (Hkq.out.below hb4 Hkq.out.lt)
  replace Hb0 := Lib.hid (Z0_ Hb0.out (Nat.le_refl _) hb4)
  clear hb4
  have k0 := Hka.out.cell 0
  have k1 := Hka.out.cell 1
  have k2 := Hka.out.cell 2
  have k3 := Hka.out.cell 3
  have k4 := Hka.out.cell 4
  have k5 := Hka.out.cell 5
  have n0 := Hkb.out.cell 0
  have n1 := Hkb.out.cell 1
  have n2 := Hkb.out.cell 2
  have n3 := Hkb.out.cell 3
  have n4 := Hkb.out.cell 4
  have n5 := Hkb.out.cell 5
  have r0 := Hkq.out.cell 0
  go_wp2_with fail
  refine (HG1.out _ _ _ _ HVa.out HVb.out HW.out HE.out).mono ?_
  rintro e w5 ⟨vj, vf, vt, rfl, hadj, hf, ht, hb5⟩
  clear k0 k1 k2 k3 k4 k5 n0 n1 n2 n3 n4 n5 r0 HG1
  replace HE := Lib.hid (HE.out.up hb5)
  replace HVa := Lib.hid (HVa.out.up hb5)
  replace HVb := Lib.hid (HVb.out.up hb5)
  replace HW := Lib.hid (HW.out.up hb5)
  replace HP := Lib.hid (HP.out.up hb5)
  replace Hka := Lib.hid (Hka.out.below hb5 Hka.out.lt)
  replace Hkb := Lib.hid (Hkb.out.below hb5 Hkb.out.lt)
  replace Hkq := Lib.hid (Hkq.out.below hb5 Hkq.out.lt)
  replace Hb0 := Lib.hid (Z0_ Hb0.out (Nat.le_refl _) hb5)
  clear hb5
  have HJ := Lib.hid hadj
  have HF := Lib.hid hf
  have HT := Lib.hid ht
  obtain ⟨Aj, cj, rfl, _, _⟩ := hadj
  obtain ⟨Af, cf, rfl, _⟩ := hf
  obtain ⟨At, ct, rfl, _⟩ := ht
  have k0 := Hka.out.cell 0
  have k1 := Hka.out.cell 1
  have k2 := Hka.out.cell 2
  have k3 := Hka.out.cell 3
  have k4 := Hka.out.cell 4
  have k5 := Hka.out.cell 5
  have n0 := Hkb.out.cell 0
  have n1 := Hkb.out.cell 1
  have n2 := Hkb.out.cell 2
  have n3 := Hkb.out.cell 3
  have n4 := Hkb.out.cell 4
  have n5 := Hkb.out.cell 5
  have r0 := Hkq.out.cell 0
  go_wp2_with fail
  refine (HG2.out _ _ _ _ HVb.out HVa.out HW.out HE.out).mono ?_
  rintro e w6 ⟨vj2, vf2, vt2, rfl, hadj2, hf2, ht2, hb6⟩
  clear k0 k1 k2 k3 k4 k5 n0 n1 n2 n3 n4 n5 r0 HG2
  replace HE := Lib.hid (HE.out.up hb6)
  replace HVa := Lib.hid (HVa.out.up hb6)
  replace HVb := Lib.hid (HVb.out.up hb6)
  replace HW := Lib.hid (HW.out.up hb6)
  replace HP := Lib.hid (HP.out.up hb6)
  replace HJ := Lib.hid (HJ.out.up hb6)
  replace HF := Lib.hid (HF.out.up hb6)
  replace HT := Lib.hid (HT.out.up hb6)
  replace Hka := Lib.hid (Hka.out.below hb6 Hka.out.lt)
  replace Hkb := Lib.hid (Hkb.out.below hb6 Hkb.out.lt)
  replace Hkq := Lib.hid (Hkq.out.below hb6 Hkq.out.lt)
  replace Hb0 := Lib.hid (Z0_ Hb0.out (Nat.le_refl _) hb6)
  clear hb6
  have HJ2 := Lib.hid hadj2
  have HF2 := Lib.hid hf2
  have HT3 := Lib.hid ht2
  obtain ⟨Bj, dj, rfl, _, _⟩ := hadj2
  obtain ⟨Bf, df, rfl, _⟩ := hf2
  obtain ⟨Bt, dt, rfl, _⟩ := ht2
  go_wp2_with fail
  refine (cS _ _ FA _ HF.out HT3.out (by omega)).mono ?_
  rintro e w7 ⟨rfl, hb7⟩
  replace HE := Lib.hid (HE.out.up hb7)
  replace HVa := Lib.hid (HVa.out.up hb7)
  replace HVb := Lib.hid (HVb.out.up hb7)
  replace HW := Lib.hid (HW.out.up hb7)
  replace HP := Lib.hid (HP.out.up hb7)
  replace HJ := Lib.hid (HJ.out.up hb7)
  replace HJ2 := Lib.hid (HJ2.out.up hb7)
  replace HT := Lib.hid (HT.out.up hb7)
  replace HF2 := Lib.hid (HF2.out.up hb7)
  replace Hka := Lib.hid (Hka.out.below hb7 Hka.out.lt)
  replace Hkb := Lib.hid (Hkb.out.below hb7 Hkb.out.lt)
  replace Hkq := Lib.hid (Hkq.out.below hb7 Hkq.out.lt)
  replace Hb0 := Lib.hid (Z0_ Hb0.out (Nat.le_refl _) hb7)
  clear hb7
  clear HF HT3
  go_wp2_with fail
  refine (cS _ _ FB _ HT.out HF2.out (by omega)).mono ?_
  rintro e w8 ⟨rfl, hb8⟩
  replace HE := Lib.hid (HE.out.up hb8)
  replace HVa := Lib.hid (HVa.out.up hb8)
  replace HVb := Lib.hid (HVb.out.up hb8)
  replace HW := Lib.hid (HW.out.up hb8)
  replace HP := Lib.hid (HP.out.up hb8)
  replace HJ := Lib.hid (HJ.out.up hb8)
  replace HJ2 := Lib.hid (HJ2.out.up hb8)
  replace Hka := Lib.hid (Hka.out.below hb8 Hka.out.lt)
  replace Hkb := Lib.hid (Hkb.out.below hb8 Hkb.out.lt)
  replace Hkq := Lib.hid (Hkq.out.below hb8 Hkq.out.lt)
  replace Hb0 := Lib.hid (Z0_ Hb0.out (Nat.le_refl _) hb8)
  clear hb8
  clear HT HF2
  go_wp2
  go_loopw [15, 16] (fun vi _ wr => ∃ i : Nat, vi = .int .i64 (i : Int) ∧ i ≤ L.length ∧ Hid (Below w8.heap.size w8 wr)) (fun vi _ _ => L.length - (intOf vi).toNat)
  case atStart => exact ⟨0, rfl, Nat.zero_le _, Lib.hid (Below.refl _ _)⟩
  case round =>
    obtain ⟨i, rfl, hil, HB1⟩ := hrel
    by_cases hlt : i < L.length
    · have hltI : (i : Int) < (L.length : Int) := by omega
      have hw1 : IntKind.i64.wrap ((i : Int) + 1) = (i : Int) + 1 := by rw [IntKind.wrap_i64]; omega
      go_wp2
      go_loopw [16] (fun vk wr => ∃ k : Nat, vk = .int .i64 (k : Int) ∧ k ≤ L.length ∧ Hid (Below w8.heap.size w8 wr)) (fun vk _ => L.length - (intOf vk).toNat)
      case atStart => exact ⟨0, rfl, Nat.zero_le _, HB1⟩
      case round =>
        obtain ⟨k, rfl, hkl, HBk⟩ := hrel
        clear HB1
        by_cases hkt : k < L.length
        · have hktI : (k : Int) < (L.length : Int) := by omega
          have hktJ : (k : Int) < (L2.length : Int) := by omega
          have hktN : k < L2.length := by omega
          have hw2 : IntKind.i64.wrap ((k : Int) + 1) = (k : Int) + 1 := by rw [IntKind.wrap_i64]; omega
          obtain ⟨_, _, he, _, hk6⟩ := id HJ.out
          obtain ⟨_, _, hf, _, hk7⟩ := id HJ2.out
          obtain ⟨al, u1, hA, halb, hc1, hr1⟩ := hk6 i hlt
          obtain ⟨bl, u2, hA2, hblb, hc2, hr2⟩ := hk7 k hktN
          have he1 := (Value.slice.inj he).1
          have hf1 := (Value.slice.inj hf).1
          subst he1
          subst hf1
          clear he hf
          subst hA
          subst hA2
          have hx1 := HX.out i k hlt hkt
          obtain ⟨X, hX⟩ : ∃ X : Bool, hasB (L.getD i []) (k : Int) = X := ⟨_, rfl⟩
          rw [hX] at hx1
          have hXX : (X != X) = false := by simp
          have HC1 : Hid (∀ W, Below w8.heap.size w8 W → Calls Tryz.prog 33 #[u1, .int .i64 (k : Int)] W (Says W X)) := Lib.hid fun W hW => by
            rw [← hX]
            exact refhas_any _ _ _ W (hr1.up hW) (by have := HrowL.out i; omega)
          have HC2 : Hid (∀ W, Below w8.heap.size w8 W → Calls Tryz.prog 33 #[u2, .int .i64 (i : Int)] W (Says W X)) := Lib.hid fun W hW => by
            rw [← hx1]
            exact refhas_any _ _ _ W (hr2.up hW) (by have := HrowL2.out k; omega)
          have HCg : Hid (∀ (u : Value) (z : Int) (W : World), (u = u1 ∧ z = (k : Int)) ∨ (u = u2 ∧ z = (i : Int)) → Below w8.heap.size w8 W → Calls Tryz.prog 33 #[u, .int .i64 z] W (Says W X)) := Lib.hid fun u z W h hW => by
            rcases h with ⟨rfl, rfl⟩ | ⟨rfl, rfl⟩
            · exact HC1.out W hW
            · exact HC2.out W hW
          have HK : Hid (∀ W, Below wr.drew.heap.size wr.drew W → Below w8.heap.size w8 W) := Lib.hid fun W hW => Z0_ HBk.out.drew (Nat.le_refl _) hW
          have HKc : Hid (∀ W, Below wr.drew.heap.size wr.drew W → W.cell? (al.add i) = some u1 ∧ W.cell? (bl.add k) = some u2) := Lib.hid fun W hW => ⟨((HK.out W hW).cell (p := al.add i) (by rw [Z2_]; exact halb)).trans hc1, ((HK.out W hW).cell (p := bl.add k) (by rw [Z2_]; exact hblb)).trans hc2⟩
          have HB : Hid (Below wr.drew.heap.size wr.drew wr.drew) := Lib.hid (Below.refl _ _)
          clear hc1 hc2 hr1 hr2 hk6 hk7 hX hx1 HC1 HC2
          go_wp2
          go_region_held3 (fun W => W.cell? (al.add i) = some u1 ∧ W.cell? (bl.add k) = some u2)
            (exact HKc.out _ HB.out)
            ((go_at_call 33; refine (HCg.out _ _ _ (by first | exact .inl ⟨rfl, rfl⟩ | exact .inr ⟨rfl, rfl⟩) (HK.out _ HB.out)).mono ?_; rintro e w11 ⟨rfl, hb11⟩; replace HB := Lib.hid (Z0_ HB.out (Nat.le_refl _) hb11); clear hb11))
          all_goals
            go_simp
            have HB9 := Lib.hid (HK.out _ HB.out)
            go_wp2
            go_roundw
            case rel => exact ⟨k + 1, by go_num, by omega, HB9⟩
            case measure => simp [intOf]; omega
        · have hktI : ¬ (k : Int) < (L2.length : Int) := by omega
          go_wp2
          go_roundw
          case rel => exact ⟨i + 1, by go_num, by omega, HBk⟩
          case measure => simp [intOf]; omega
    · have hltI : ¬ (i : Int) < (L.length : Int) := by omega
      have HK : Hid (∀ W, Below wr.drew.heap.size wr.drew W → Below w8.heap.size w8 W) := Lib.hid fun W hW => Z0_ HB1.out.drew (Nat.le_refl _) hW
      go_wp2
      refine wp_region_ways (ops := vzO) (vzK ⟨w.heap.size + 2, .slice Aw s.length cw, .slice Ap P.length cp, s, turnL s P⟩) (by kernel_rfl) (by kernel_rfl) (vz_all (x := ⟨w.heap.size + 2, .slice Aw s.length cw, .slice Ap P.length cp, s, turnL s P⟩) ⟨rfl, ?hK30, ?hK31, ?hT1, ?hT2, ?hS⟩) ?_
      case hK30 => exact fun W hW => (Hkq.out.below (HK.out W hW) Hkq.out.lt).cell 0
      case hK31 => exact fun W hW => (Hkq.out.below (HK.out W hW) Hkq.out.lt).cell 1
      case hT1 => exact fun W hW => K9_ _ _ s P W (HW.out.up (HK.out W hW)) (HP.out.up (HK.out W hW)) (by omega) (by omega)
      case hT2 => exact fun W hW u hu => by have h := K9_ u _ (turnL s P) P W hu (HP.out.up (HK.out W hW)) HTl.out (by omega); rw [HT2.out] at h; exact h
      case hS => exact fun W hW u hu => cS u _ s W hu (HW.out.up (HK.out W hW)) (by omega)
      intro a' W hW hsz hdf hout hall
      have hb9 := Z0_ Hb0.out (Nat.le_refl _) (HK.out W hW)
      obtain ⟨v124, h124⟩ : ∃ v, a'.tmps.getD 124 undef = v := ⟨_, rfl⟩
      obtain ⟨v125, h125⟩ : ∃ v, a'.tmps.getD 125 undef = v := ⟨_, rfl⟩
      obtain ⟨v126, h126⟩ : ∃ v, a'.tmps.getD 126 undef = v := ⟨_, rfl⟩
      obtain ⟨v127, h127⟩ : ∃ v, a'.tmps.getD 127 undef = v := ⟨_, rfl⟩
      obtain ⟨v128, h128⟩ : ∃ v, a'.tmps.getD 128 undef = v := ⟨_, rfl⟩
      obtain ⟨v129, h129⟩ : ∃ v, a'.tmps.getD 129 undef = v := ⟨_, rfl⟩
      obtain ⟨v130, h130⟩ : ∃ v, a'.tmps.getD 130 undef = v := ⟨_, rfl⟩
      obtain ⟨v131, h131⟩ : ∃ v, a'.tmps.getD 131 undef = v := ⟨_, rfl⟩
      obtain ⟨v132, h132⟩ : ∃ v, a'.tmps.getD 132 undef = v := ⟨_, rfl⟩
      obtain ⟨v133, h133⟩ : ∃ v, a'.tmps.getD 133 undef = v := ⟨_, rfl⟩
      obtain ⟨v134, h134⟩ : ∃ v, a'.tmps.getD 134 undef = v := ⟨_, rfl⟩
      have h6 := hall 11 6 (by rw [show vzO.size = 12 by kernel_rfl]; decide) (by kernel_rfl)
      rw [show ek vzO (vzK ⟨w.heap.size + 2, .slice Aw s.length cw, .slice Ap P.length cp, s, turnL s P⟩) 11 = .eq (.bool true) from by kernel_rfl] at h6
      have h6 : a'.tmps.getD 6 undef = .bool true := h6
      have hfr := Ym4 (ops := vzO) (n := 12) (N := 135) [(124, v124), (125, v125), (126, v126), (127, v127), (128, v128), (129, v129), (130, v130), (131, v131), (132, v132), (133, v133), (134, v134), (6, .bool true)] rfl hsz hdf (fun t ht => hout t (by unfold Ym1; rw [show vzO.size = 12 by kernel_rfl]; exact ht)) (by kernel_rfl) (by
        intro p hp
        simp only [List.mem_cons, List.not_mem_nil, or_false] at hp
        rcases hp with rfl | rfl | rfl | rfl | rfl | rfl | rfl | rfl | rfl | rfl | rfl | rfl <;> assumption)
      clear hout hall hsz hdf h124 h125 h126 h127 h128 h129 h130 h131 h132 h133 h134 h6
      rw [hfr]
      clear hfr
      simp only [show List.range 135 = [0, 1, 2, 3, 4, 5, 6, 7, 8, 9, 10, 11, 12, 13, 14, 15, 16, 17, 18, 19, 20, 21, 22, 23, 24, 25, 26, 27, 28, 29, 30, 31, 32, 33, 34, 35, 36, 37, 38, 39, 40, 41, 42, 43, 44, 45, 46, 47, 48, 49, 50, 51, 52, 53, 54, 55, 56, 57, 58, 59, 60, 61, 62, 63, 64, 65, 66, 67, 68, 69, 70, 71, 72, 73, 74, 75, 76, 77, 78, 79, 80, 81, 82, 83, 84, 85, 86, 87, 88, 89, 90, 91, 92, 93, 94, 95, 96, 97, 98, 99, 100, 101, 102, 103, 104, 105, 106, 107, 108, 109, 110, 111, 112, 113, 114, 115, 116, 117, 118, 119, 120, 121, 122, 123, 124, 125, 126, 127, 128, 129, 130, 131, 132, 133, 134] from by decide, List.map_cons, List.map_nil, List.lookup_cons, List.lookup_nil]
      go_simp
      go_wp2
      go_ret
      exact ⟨rfl, hb9⟩

set_option maxHeartbeats 1000000 in
set_option maxRecDepth 100000 in
theorem SwapBack_any (E : Nat → Addr) (a : Mat) (va : Value) (b : Mat) (vb : Value) (sw pw : Value) (s P : List Int) (w : World) (hva : MatV w w.heap.size va a) (hla : Lim a) (hvb : MatV w w.heap.size vb b) (hlb : Lim b) (hrw : Row w w.heap.size sw s) (hpw : Row w w.heap.size pw P) (hE : Env E w) : Calls Tryz.prog 6 #[va, vb, .agg #[sw, pw]] w (Truly w) := by
  by_cases hR : ((((((!true) || (!fewB 9 a 8)) || (!fewB 9 b 8)) || (!mayS a b s)) || decide ((20 : Int) < (P.length : Int))) || (((sortL P).length : Int) != (P.length : Int))) = true
  · exact vb_off E a va b vb sw pw s P w hva hla hvb hlb hrw hpw hE _ _ _ _ _ rfl rfl rfl rfl rfl hR
  · simp only [Bool.not_eq_true] at hR
    have h0 : ∀ A B M G D : Bool, ((((((!true) || (!A)) || (!B)) || (!M)) || G) || D) = false → A = true ∧ B = true ∧ M = true ∧ G = false ∧ D = false := by decide
    obtain ⟨h1, h2, h3, h4, h5⟩ := h0 _ _ _ _ _ hR
    exact vb_main E a va b vb sw pw s P w hva hla hvb hlb hrw hpw hE h1 h2 (mayS_iff.1 h3) h4 h5

end Wp
end Go.Proofs.YteiejkhdonmcdaaGreatDoor
