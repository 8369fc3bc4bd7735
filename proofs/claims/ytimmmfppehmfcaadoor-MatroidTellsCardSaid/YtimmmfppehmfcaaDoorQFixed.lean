/- The calls whose answers the document fixes, walked: they are as it fixes them. -/
import Derived.Test.YtimmmfppehmfcaaDoorQLit
namespace Go.Proofs.YtimmmfppehmfcaaDoor
open Go.RowKit
namespace Wp

set_option maxHeartbeats 16000000 in
set_option maxRecDepth 100000 in
theorem fixed_any (E : Nat → Addr) (w : World) (hE : Env E w) : Calls Tryd.prog 9 #[] w (Truly w) := by
  have HE := Lib.hid hE
  clear hE
  go_enter Tryd.func9, Tryd.ntmps9
  have HR1 : Hid (Rows2 (((w).alloc (.cells #[.int .i64 0, .int .i64 2] 3)).alloc (.cells #[.slice (some ⟨w.heap.size, 0, none⟩) 2 2] 26)) (((w).alloc (.cells #[.int .i64 0, .int .i64 2] 3)).alloc (.cells #[.slice (some ⟨w.heap.size, 0, none⟩) 2 2] 26)).heap.size (.slice (some ⟨w.heap.size + 1, 0, none⟩) 1 1) [[0, 2]]) := by
    have h := lit_rows1 (Row.lit2 w 0 2).here
    rw [size_more] at h
    show Rows2 _ _ _ _
    rw [size_more, size_more]
    exact h
  have HB0 : Hid (Below w.heap.size w (((w).alloc (.cells #[.int .i64 0, .int .i64 2] 3)).alloc (.cells #[.slice (some ⟨w.heap.size, 0, none⟩) 2 2] 26))) := ((Below.refl _ w).alloc (Nat.le_refl _) _).alloc (by rw [size_more]; omega) _
  go_wp2_with fail
  refine (uniform_any _).mono ?_
  rintro e w1 ⟨rfl, hb1⟩
  have HB1 := Lib.hid (below_next HB0.out (Nat.le_refl _) hb1)
  have HR1' := Lib.hid (HR1.out.up hb1)
  clear hb1
  have HV1 : Hid (MatV ((w1.alloc (.cells #[.int .i64 0, .int .i64 3, .int .i64 2, .int .i64 0, .slice none 0 0, .slice none 0 0] 25)).alloc (.cells #[.int .i64 5, .int .i64 2, .int .i64 0, .int .i64 0, .slice (some ⟨w.heap.size + 1, 0, none⟩) 1 1, .slice (some ⟨w1.heap.size, 0, none⟩) 1 1] 25)) ((w1.alloc (.cells #[.int .i64 0, .int .i64 3, .int .i64 2, .int .i64 0, .slice none 0 0, .slice none 0 0] 25)).alloc (.cells #[.int .i64 5, .int .i64 2, .int .i64 0, .int .i64 0, .slice (some ⟨w.heap.size + 1, 0, none⟩) 1 1, .slice (some ⟨w1.heap.size, 0, none⟩) 1 1] 25)).heap.size (.agg #[.int .i64 5, .int .i64 2, .int .i64 0, .int .i64 0, .slice (some ⟨w.heap.size + 1, 0, none⟩) 1 1, .slice (some ⟨w1.heap.size, 0, none⟩) 1 1]) rM) := by
    have h1 := rows2_upA HR1'.out (.cells #[.int .i64 0, .int .i64 3, .int .i64 2, .int .i64 0, .slice none 0 0, .slice none 0 0] 25)
    have h2 := lit_mats (plain_mat w1 w1.heap.size 0 3 2 0)
    rw [← size_more w1 (.cells #[.int .i64 0, .int .i64 3, .int .i64 2, .int .i64 0, .slice none 0 0, .slice none 0 0] 25)] at h2
    exact (MatV.shut h1 h2).upA _
  have HK1 : Hid (Blk ((w1.alloc (.cells #[.int .i64 0, .int .i64 3, .int .i64 2, .int .i64 0, .slice none 0 0, .slice none 0 0] 25)).alloc (.cells #[.int .i64 5, .int .i64 2, .int .i64 0, .int .i64 0, .slice (some ⟨w.heap.size + 1, 0, none⟩) 1 1, .slice (some ⟨w1.heap.size, 0, none⟩) 1 1] 25)) (w1.heap.size + 1) 25 #[.int .i64 5, .int .i64 2, .int .i64 0, .int .i64 0, .slice (some ⟨w.heap.size + 1, 0, none⟩) 1 1, .slice (some ⟨w1.heap.size, 0, none⟩) 1 1]) := by
    have h := Blk.new (w1.alloc (.cells #[.int .i64 0, .int .i64 3, .int .i64 2, .int .i64 0, .slice none 0 0, .slice none 0 0] 25)) 25 #[.int .i64 5, .int .i64 2, .int .i64 0, .int .i64 0, .slice (some ⟨w.heap.size + 1, 0, none⟩) 1 1, .slice (some ⟨w1.heap.size, 0, none⟩) 1 1]
    rw [size_more] at h
    exact h
  have HB2 : Hid (Below w.heap.size w ((w1.alloc (.cells #[.int .i64 0, .int .i64 3, .int .i64 2, .int .i64 0, .slice none 0 0, .slice none 0 0] 25)).alloc (.cells #[.int .i64 5, .int .i64 2, .int .i64 0, .int .i64 0, .slice (some ⟨w.heap.size + 1, 0, none⟩) 1 1, .slice (some ⟨w1.heap.size, 0, none⟩) 1 1] 25))) := (HB1.out.alloc HB1.out.size _).alloc (by rw [size_more]; have := HB1.out.size; omega) _
  have HR2 : Hid (Rows2 ((((w1.alloc (.cells #[.int .i64 0, .int .i64 3, .int .i64 2, .int .i64 0, .slice none 0 0, .slice none 0 0] 25)).alloc (.cells #[.int .i64 5, .int .i64 2, .int .i64 0, .int .i64 0, .slice (some ⟨w.heap.size + 1, 0, none⟩) 1 1, .slice (some ⟨w1.heap.size, 0, none⟩) 1 1] 25)).alloc (.cells #[.int .i64 1] 3)).alloc (.cells #[.slice (some ⟨w1.heap.size + 1 + 1, 0, none⟩) 1 1] 26)) ((((w1.alloc (.cells #[.int .i64 0, .int .i64 3, .int .i64 2, .int .i64 0, .slice none 0 0, .slice none 0 0] 25)).alloc (.cells #[.int .i64 5, .int .i64 2, .int .i64 0, .int .i64 0, .slice (some ⟨w.heap.size + 1, 0, none⟩) 1 1, .slice (some ⟨w1.heap.size, 0, none⟩) 1 1] 25)).alloc (.cells #[.int .i64 1] 3)).alloc (.cells #[.slice (some ⟨w1.heap.size + 1 + 1, 0, none⟩) 1 1] 26)).heap.size (.slice (some ⟨w1.heap.size + 1 + 1 + 1, 0, none⟩) 1 1) [[1]]) := by
    have h := lit_rows1 (Row.lit1 ((w1.alloc (.cells #[.int .i64 0, .int .i64 3, .int .i64 2, .int .i64 0, .slice none 0 0, .slice none 0 0] 25)).alloc (.cells #[.int .i64 5, .int .i64 2, .int .i64 0, .int .i64 0, .slice (some ⟨w.heap.size + 1, 0, none⟩) 1 1, .slice (some ⟨w1.heap.size, 0, none⟩) 1 1] 25)) 1).here
    show Rows2 _ _ _ _
    simp only [size_more] at h ⊢
    exact h
  have HB3 : Hid (Below ((w1.alloc (.cells #[.int .i64 0, .int .i64 3, .int .i64 2, .int .i64 0, .slice none 0 0, .slice none 0 0] 25)).alloc (.cells #[.int .i64 5, .int .i64 2, .int .i64 0, .int .i64 0, .slice (some ⟨w.heap.size + 1, 0, none⟩) 1 1, .slice (some ⟨w1.heap.size, 0, none⟩) 1 1] 25)).heap.size ((w1.alloc (.cells #[.int .i64 0, .int .i64 3, .int .i64 2, .int .i64 0, .slice none 0 0, .slice none 0 0] 25)).alloc (.cells #[.int .i64 5, .int .i64 2, .int .i64 0, .int .i64 0, .slice (some ⟨w.heap.size + 1, 0, none⟩) 1 1, .slice (some ⟨w1.heap.size, 0, none⟩) 1 1] 25)) ((((w1.alloc (.cells #[.int .i64 0, .int .i64 3, .int .i64 2, .int .i64 0, .slice none 0 0, .slice none 0 0] 25)).alloc (.cells #[.int .i64 5, .int .i64 2, .int .i64 0, .int .i64 0, .slice (some ⟨w.heap.size + 1, 0, none⟩) 1 1, .slice (some ⟨w1.heap.size, 0, none⟩) 1 1] 25)).alloc (.cells #[.int .i64 1] 3)).alloc (.cells #[.slice (some ⟨w1.heap.size + 1 + 1, 0, none⟩) 1 1] 26))) := ((Below.refl _ _).alloc (Nat.le_refl _) _).alloc (by rw [size_more _ (.cells #[.int .i64 1] 3)]; omega) _
  go_wp2_with fail
  refine (uniform_any _).mono ?_
  rintro e w2 ⟨rfl, hb2⟩
  have HB4 := Lib.hid (below_next HB3.out (Nat.le_refl _) hb2)
  have HR2' := Lib.hid (HR2.out.up hb2)
  have HV1b := Lib.hid (HV1.out.up HB4.out)
  have HK1b := Lib.hid (HK1.out.below HB4.out (by rw [size_more, size_more]; omega))
  have HB5 := Lib.hid (below_next HB2.out (Nat.le_refl _) HB4.out)
  clear hb2 HR1 HB0 HR1' HV1 HK1 HB2 HB3 HB4 HB1 HR2
  have HV2 : Hid (MatV ((w2.alloc (.cells #[.int .i64 0, .int .i64 3, .int .i64 2, .int .i64 0, .slice none 0 0, .slice none 0 0] 25)).alloc (.cells #[.int .i64 6, .int .i64 2, .int .i64 0, .int .i64 0, .slice (some ⟨w1.heap.size + 1 + 1 + 1, 0, none⟩) 1 1, .slice (some ⟨w2.heap.size, 0, none⟩) 1 1] 25)) ((w2.alloc (.cells #[.int .i64 0, .int .i64 3, .int .i64 2, .int .i64 0, .slice none 0 0, .slice none 0 0] 25)).alloc (.cells #[.int .i64 6, .int .i64 2, .int .i64 0, .int .i64 0, .slice (some ⟨w1.heap.size + 1 + 1 + 1, 0, none⟩) 1 1, .slice (some ⟨w2.heap.size, 0, none⟩) 1 1] 25)).heap.size (.agg #[.int .i64 6, .int .i64 2, .int .i64 0, .int .i64 0, .slice (some ⟨w1.heap.size + 1 + 1 + 1, 0, none⟩) 1 1, .slice (some ⟨w2.heap.size, 0, none⟩) 1 1]) cM) := by
    have h1 := rows2_upA HR2'.out (.cells #[.int .i64 0, .int .i64 3, .int .i64 2, .int .i64 0, .slice none 0 0, .slice none 0 0] 25)
    have h2 := lit_mats (plain_mat w2 w2.heap.size 0 3 2 0)
    rw [← size_more w2 (.cells #[.int .i64 0, .int .i64 3, .int .i64 2, .int .i64 0, .slice none 0 0, .slice none 0 0] 25)] at h2
    exact (MatV.shut h1 h2).upA _
  have HK2 : Hid (Blk ((w2.alloc (.cells #[.int .i64 0, .int .i64 3, .int .i64 2, .int .i64 0, .slice none 0 0, .slice none 0 0] 25)).alloc (.cells #[.int .i64 6, .int .i64 2, .int .i64 0, .int .i64 0, .slice (some ⟨w1.heap.size + 1 + 1 + 1, 0, none⟩) 1 1, .slice (some ⟨w2.heap.size, 0, none⟩) 1 1] 25)) (w2.heap.size + 1) 25 #[.int .i64 6, .int .i64 2, .int .i64 0, .int .i64 0, .slice (some ⟨w1.heap.size + 1 + 1 + 1, 0, none⟩) 1 1, .slice (some ⟨w2.heap.size, 0, none⟩) 1 1]) := by
    have h := Blk.new (w2.alloc (.cells #[.int .i64 0, .int .i64 3, .int .i64 2, .int .i64 0, .slice none 0 0, .slice none 0 0] 25)) 25 #[.int .i64 6, .int .i64 2, .int .i64 0, .int .i64 0, .slice (some ⟨w1.heap.size + 1 + 1 + 1, 0, none⟩) 1 1, .slice (some ⟨w2.heap.size, 0, none⟩) 1 1]
    rw [size_more] at h
    exact h
  have HB6 : Hid (Below w2.heap.size w2 ((w2.alloc (.cells #[.int .i64 0, .int .i64 3, .int .i64 2, .int .i64 0, .slice none 0 0, .slice none 0 0] 25)).alloc (.cells #[.int .i64 6, .int .i64 2, .int .i64 0, .int .i64 0, .slice (some ⟨w1.heap.size + 1 + 1 + 1, 0, none⟩) 1 1, .slice (some ⟨w2.heap.size, 0, none⟩) 1 1] 25))) := ((Below.refl _ _).alloc (Nat.le_refl _) _).alloc (by rw [size_more]; omega) _
  go_wp2_with fail
  refine (uniform_any _).mono ?_
  rintro e w3 ⟨rfl, hb3⟩
  have HB7 := Lib.hid (below_next HB6.out (Nat.le_refl _) hb3)
  have HV2b := Lib.hid (HV2.out.up hb3)
  have HK2b := Lib.hid (HK2.out.below hb3 (by rw [size_more, size_more]; omega))
  have HV1c := Lib.hid (HV1b.out.up HB7.out)
  have HK1c := Lib.hid (HK1b.out.below HB7.out HK1b.out.lt)
  have HB8 := Lib.hid (below_next HB5.out (Nat.le_refl _) HB7.out)
  clear hb3 HR2' HV2 HK2 HB6 HB7 HV1b HK1b HB5
  have H1lt : Hid (w1.heap.size + 1 < w3.heap.size) := HK1c.out.lt
  have H2lt : Hid (w2.heap.size + 1 < w3.heap.size) := HK2b.out.lt
  generalize w1.heap.size + 1 = n1 at *
  generalize w2.heap.size + 1 = n2 at *
  have Hg0 : Hid (Blk (w3.alloc (.cells #[.int .i64 0, .int .i64 3, .int .i64 2, .int .i64 0, .slice none 0 0, .slice none 0 0] 25)) w3.heap.size 25 #[.int .i64 0, .int .i64 3, .int .i64 2, .int .i64 0, .slice none 0 0, .slice none 0 0]) := Blk.new w3 25 #[.int .i64 0, .int .i64 3, .int .i64 2, .int .i64 0, .slice none 0 0, .slice none 0 0]
  have HB9 : Hid (Below w3.heap.size w3 (w3.alloc (.cells #[.int .i64 0, .int .i64 3, .int .i64 2, .int .i64 0, .slice none 0 0, .slice none 0 0] 25))) := (Below.refl _ _).alloc (Nat.le_refl _) _
  go_wp2
  go_loopw [4] (fun vi wr => ∃ (k : Nat) (t a : Int) (A : Option Addr) (n c : Nat), vi = .int .i64 k ∧ k ≤ 4 ∧ Blk wr w3.heap.size 25 #[.int .i64 t, .int .i64 3, .int .i64 a, .int .i64 0, .slice none 0 0, .slice A n c] ∧ MatK w3.heap.size wr (.agg #[.int .i64 t, .int .i64 3, .int .i64 a, .int .i64 0, .slice none 0 0, .slice A n c]) (dN k) ∧ Below w3.heap.size w3 wr) (fun vi _ => 4 - (intOf vi).toNat)
  case atStart => exact ⟨0, 0, 2, none, 0, 0, rfl, by decide, Hg0.out, matK_plain _ _ 0 3 2 0, HB9.out⟩
  case round =>
    clear Hg0 HB9
    obtain ⟨k, t, a, A, n, c, rfl, hk, hblk, hmk, hbr⟩ := hrel
    have Hblk := Lib.hid hblk
    have Hmk := Lib.hid hmk
    have Hbr := Lib.hid hbr
    have c0 := hblk.cell 0
    have c1 := hblk.cell 1
    have c2 := hblk.cell 2
    have c3 := hblk.cell 3
    have c4 := hblk.cell 4
    have c5 := hblk.cell 5
    have f0 := hblk.frozen 0
    have f1 := hblk.frozen 1
    have f2 := hblk.frozen 2
    have f3 := hblk.frozen 3
    have f4 := hblk.frozen 4
    have f5 := hblk.frozen 5
    have hgw := hblk.lt
    have hkI : (k : Int) ≤ 4 := by omega
    clear hblk hmk hbr
    by_cases hlt : k < 4
    · have hltI : (k : Int) < 4 := by omega
      go_wp2
      go_roundw
      case rel =>
        refine ⟨k + 1, 8, 0, some ⟨wr.heap.size, 0, none⟩, 1, 1, by go_num, by omega, ?_, ?_, ?_⟩
        · have h := ((((((Hblk.out.set_ 0 (.int .i64 8)).set_ 1 (.int .i64 3)).set_ 2 (.int .i64 0)).set_ 3 (.int .i64 0)).set_ 4 (.slice none 0 0)).set_ 5 (.slice (some ⟨wr.heap.size, 0, none⟩) 1 1)).alloc (.cells #[.int .i64 t, .int .i64 3, .int .i64 a, .int .i64 0, .slice none 0 0, .slice A n c] 25)
          simpa using h
        · exact dual_round Hmk.out hgw
        · have h := (((((Hbr.out.setCell (p := ⟨w3.heap.size, 0, none⟩) (Nat.le_refl _) (.int .i64 8)).setCell (p := ⟨w3.heap.size, 1, none⟩) (Nat.le_refl _) (.int .i64 3)).setCell (p := ⟨w3.heap.size, 2, none⟩) (Nat.le_refl _) (.int .i64 0)).setCell (p := ⟨w3.heap.size, 3, none⟩) (Nat.le_refl _) (.int .i64 0)).setCell (p := ⟨w3.heap.size, 4, none⟩) (Nat.le_refl _) (.slice none 0 0)).setCell (p := ⟨w3.heap.size, 5, none⟩) (Nat.le_refl _) (.slice (some ⟨wr.heap.size, 0, none⟩) 1 1)
          exact h.alloc h.size _
      case measure => simp [intOf]; omega
    · have hk4 : k = 4 := by omega
      subst hk4
      have HV1 := Lib.hid (HV1c.out.up Hbr.out)
      have HV2 := Lib.hid (HV2b.out.up Hbr.out)
      have HV3 := Lib.hid (Hmk.out wr (Off.refl _ wr))
      have HK1 := Lib.hid (HK1c.out.below Hbr.out H1lt.out)
      have HK2 := Lib.hid (HK2b.out.below Hbr.out H2lt.out)
      have HK3 := Lib.hid Hblk.out
      have HB := Lib.hid (below_next HB8.out (Nat.le_refl _) Hbr.out)
      clear c0 c1 c2 c3 c4 c5 f0 f1 f2 f3 f4 f5 HV1c HV2b Hmk HK1c HK2b Hblk Hbr HB8 H1lt H2lt hgw hkI hlt
      generalize w3.heap.size = n3 at *
      have K1 := HK1.out
      have k10 := K1.cell 0
      have k11 := K1.cell 1
      have k12 := K1.cell 2
      have k13 := K1.cell 3
      have k14 := K1.cell 4
      have k15 := K1.cell 5
      clear K1
      go_wp2_with fail
      refine (image_any E rM _ _ [1] _ (HV1.out.upA _) sml_r1 (HE.out.up (below_next HB.out (Nat.le_refl _) ((Below.refl _ _).alloc (Nat.le_refl _) _))) (Row.lit1 _ 1).here (by decide)).mono ?_
      rintro e w4 ⟨x1, rfl, hr, hb, _⟩
      have hbA : Below wr.heap.size wr w4 := below_next ((Below.refl _ wr).alloc (Nat.le_refl _) _) (Nat.le_refl _) hb
      rw [img_r.1]
      rw [img_r.2] at hr
      have HV1' := Lib.hid (HV1.out.up hbA)
      clear HV1
      have HV1 := HV1'
      clear HV1'
      have HV2' := Lib.hid (HV2.out.up hbA)
      clear HV2
      have HV2 := HV2'
      clear HV2'
      have HV3' := Lib.hid (HV3.out.up hbA)
      clear HV3
      have HV3 := HV3'
      clear HV3'
      have HK1' := Lib.hid (HK1.out.below hbA HK1.out.lt)
      clear HK1
      have HK1 := HK1'
      clear HK1'
      have HK2' := Lib.hid (HK2.out.below hbA HK2.out.lt)
      clear HK2
      have HK2 := HK2'
      clear HK2'
      have HK3' := Lib.hid (HK3.out.below hbA HK3.out.lt)
      clear HK3
      have HK3 := HK3'
      clear HK3'
      have HB' := Lib.hid (below_next HB.out (Nat.le_refl _) hbA)
      clear HB
      have HB := HB'
      clear HB'
      clear hb hbA k10 k11 k12 k13 k14 k15
      have X := Lib.hid hr
      clear hr
      have K2 := HK2.out
      have k20 := K2.cell 0
      have k21 := K2.cell 1
      have k22 := K2.cell 2
      have k23 := K2.cell 3
      have k24 := K2.cell 4
      have k25 := K2.cell 5
      clear K2
      go_wp2_with fail
      refine (image_any E cM _ _ [0, 1] _ (HV2.out.upA _) sml_c1 (HE.out.up (below_next HB.out (Nat.le_refl _) ((Below.refl _ _).alloc (Nat.le_refl _) _))) (Row.lit2 _ 0 1).here (by decide)).mono ?_
      rintro e w5 ⟨x2, rfl, hr, hb, _⟩
      have hbA : Below w4.heap.size w4 w5 := below_next ((Below.refl _ w4).alloc (Nat.le_refl _) _) (Nat.le_refl _) hb
      rw [img_c.1]
      rw [img_c.2] at hr
      have HV1' := Lib.hid (HV1.out.up hbA)
      clear HV1
      have HV1 := HV1'
      clear HV1'
      have HV2' := Lib.hid (HV2.out.up hbA)
      clear HV2
      have HV2 := HV2'
      clear HV2'
      have HV3' := Lib.hid (HV3.out.up hbA)
      clear HV3
      have HV3 := HV3'
      clear HV3'
      have X' := Lib.hid (X.out.up hbA)
      clear X
      have X := X'
      clear X'
      have HK1' := Lib.hid (HK1.out.below hbA HK1.out.lt)
      clear HK1
      have HK1 := HK1'
      clear HK1'
      have HK2' := Lib.hid (HK2.out.below hbA HK2.out.lt)
      clear HK2
      have HK2 := HK2'
      clear HK2'
      have HK3' := Lib.hid (HK3.out.below hbA HK3.out.lt)
      clear HK3
      have HK3 := HK3'
      clear HK3'
      have HB' := Lib.hid (below_next HB.out (Nat.le_refl _) hbA)
      clear HB
      have HB := HB'
      clear HB'
      clear hb hbA k20 k21 k22 k23 k24 k25
      have Y := Lib.hid hr
      clear hr
      go_wp2_with fail
      refine (uniform_any _).mono ?_
      rintro e w6 ⟨rfl, hb⟩
      have hbA : Below w5.heap.size w5 w6 := hb
      have HV1' := Lib.hid (HV1.out.up hbA)
      clear HV1
      have HV1 := HV1'
      clear HV1'
      have HV2' := Lib.hid (HV2.out.up hbA)
      clear HV2
      have HV2 := HV2'
      clear HV2'
      have HV3' := Lib.hid (HV3.out.up hbA)
      clear HV3
      have HV3 := HV3'
      clear HV3'
      have X' := Lib.hid (X.out.up hbA)
      clear X
      have X := X'
      clear X'
      have Y' := Lib.hid (Y.out.up hbA)
      clear Y
      have Y := Y'
      clear Y'
      have HK1' := Lib.hid (HK1.out.below hbA HK1.out.lt)
      clear HK1
      have HK1 := HK1'
      clear HK1'
      have HK2' := Lib.hid (HK2.out.below hbA HK2.out.lt)
      clear HK2
      have HK2 := HK2'
      clear HK2'
      have HK3' := Lib.hid (HK3.out.below hbA HK3.out.lt)
      clear HK3
      have HK3 := HK3'
      clear HK3'
      have HB' := Lib.hid (below_next HB.out (Nat.le_refl _) hbA)
      clear HB
      have HB := HB'
      clear HB'
      clear hb hbA
      go_wp2_with fail
      refine (image_any E uM _ _ [] _ (plain_mat _ _ 0 3 2 0) (sml_plain ..) (HE.out.up HB.out) (Row.nil_ _ _) (by decide)).mono ?_
      rintro e w7 ⟨x3, rfl, hr, hb, _⟩
      have hbA : Below w6.heap.size w6 w7 := hb
      rw [img_u.1]
      clear hr
      have HV1' := Lib.hid (HV1.out.up hbA)
      clear HV1
      have HV1 := HV1'
      clear HV1'
      have HV2' := Lib.hid (HV2.out.up hbA)
      clear HV2
      have HV2 := HV2'
      clear HV2'
      have HV3' := Lib.hid (HV3.out.up hbA)
      clear HV3
      have HV3 := HV3'
      clear HV3'
      have X' := Lib.hid (X.out.up hbA)
      clear X
      have X := X'
      clear X'
      have Y' := Lib.hid (Y.out.up hbA)
      clear Y
      have Y := Y'
      clear Y'
      have HK1' := Lib.hid (HK1.out.below hbA HK1.out.lt)
      clear HK1
      have HK1 := HK1'
      clear HK1'
      have HK2' := Lib.hid (HK2.out.below hbA HK2.out.lt)
      clear HK2
      have HK2 := HK2'
      clear HK2'
      have HK3' := Lib.hid (HK3.out.below hbA HK3.out.lt)
      clear HK3
      have HK3 := HK3'
      clear HK3'
      have HB' := Lib.hid (below_next HB.out (Nat.le_refl _) hbA)
      clear HB
      have HB := HB'
      clear HB'
      clear hb hbA
      go_wp2_with fail
      refine (uniform_any _).mono ?_
      rintro e w8 ⟨rfl, hb⟩
      have hbA : Below w7.heap.size w7 w8 := hb
      have HV1' := Lib.hid (HV1.out.up hbA)
      clear HV1
      have HV1 := HV1'
      clear HV1'
      have HV2' := Lib.hid (HV2.out.up hbA)
      clear HV2
      have HV2 := HV2'
      clear HV2'
      have HV3' := Lib.hid (HV3.out.up hbA)
      clear HV3
      have HV3 := HV3'
      clear HV3'
      have X' := Lib.hid (X.out.up hbA)
      clear X
      have X := X'
      clear X'
      have Y' := Lib.hid (Y.out.up hbA)
      clear Y
      have Y := Y'
      clear Y'
      have HK1' := Lib.hid (HK1.out.below hbA HK1.out.lt)
      clear HK1
      have HK1 := HK1'
      clear HK1'
      have HK2' := Lib.hid (HK2.out.below hbA HK2.out.lt)
      clear HK2
      have HK2 := HK2'
      clear HK2'
      have HK3' := Lib.hid (HK3.out.below hbA HK3.out.lt)
      clear HK3
      have HK3 := HK3'
      clear HK3'
      have HB' := Lib.hid (below_next HB.out (Nat.le_refl _) hbA)
      clear HB
      have HB := HB'
      clear HB'
      clear hb hbA
      go_wp2_with fail
      refine (check_any E uM _ _ (plain_mat _ _ 0 3 2 0) (sml_plain ..) (HE.out.up HB.out)).mono ?_
      rintro e w9 ⟨rfl, hb⟩
      have hbA : Below w8.heap.size w8 w9 := hb
      rw [chk_u]
      have HV1' := Lib.hid (HV1.out.up hbA)
      clear HV1
      have HV1 := HV1'
      clear HV1'
      have HV2' := Lib.hid (HV2.out.up hbA)
      clear HV2
      have HV2 := HV2'
      clear HV2'
      have HV3' := Lib.hid (HV3.out.up hbA)
      clear HV3
      have HV3 := HV3'
      clear HV3'
      have X' := Lib.hid (X.out.up hbA)
      clear X
      have X := X'
      clear X'
      have Y' := Lib.hid (Y.out.up hbA)
      clear Y
      have Y := Y'
      clear Y'
      have HK1' := Lib.hid (HK1.out.below hbA HK1.out.lt)
      clear HK1
      have HK1 := HK1'
      clear HK1'
      have HK2' := Lib.hid (HK2.out.below hbA HK2.out.lt)
      clear HK2
      have HK2 := HK2'
      clear HK2'
      have HK3' := Lib.hid (HK3.out.below hbA HK3.out.lt)
      clear HK3
      have HK3 := HK3'
      clear HK3'
      have HB' := Lib.hid (below_next HB.out (Nat.le_refl _) hbA)
      clear HB
      have HB := HB'
      clear HB'
      clear hb hbA
      have K1 := HK1.out
      have k10 := K1.cell 0
      have k11 := K1.cell 1
      have k12 := K1.cell 2
      have k13 := K1.cell 3
      have k14 := K1.cell 4
      have k15 := K1.cell 5
      clear K1
      go_wp2_with fail
      refine (check_any E rM _ _ HV1.out sml_r1 (HE.out.up HB.out)).mono ?_
      rintro e w10 ⟨rfl, hb⟩
      have hbA : Below w9.heap.size w9 w10 := hb
      rw [chk_r]
      have HV1' := Lib.hid (HV1.out.up hbA)
      clear HV1
      have HV1 := HV1'
      clear HV1'
      have HV2' := Lib.hid (HV2.out.up hbA)
      clear HV2
      have HV2 := HV2'
      clear HV2'
      have HV3' := Lib.hid (HV3.out.up hbA)
      clear HV3
      have HV3 := HV3'
      clear HV3'
      have X' := Lib.hid (X.out.up hbA)
      clear X
      have X := X'
      clear X'
      have Y' := Lib.hid (Y.out.up hbA)
      clear Y
      have Y := Y'
      clear Y'
      have HK1' := Lib.hid (HK1.out.below hbA HK1.out.lt)
      clear HK1
      have HK1 := HK1'
      clear HK1'
      have HK2' := Lib.hid (HK2.out.below hbA HK2.out.lt)
      clear HK2
      have HK2 := HK2'
      clear HK2'
      have HK3' := Lib.hid (HK3.out.below hbA HK3.out.lt)
      clear HK3
      have HK3 := HK3'
      clear HK3'
      have HB' := Lib.hid (below_next HB.out (Nat.le_refl _) hbA)
      clear HB
      have HB := HB'
      clear HB'
      clear hb hbA k10 k11 k12 k13 k14 k15
      have K3 := HK3.out
      have k30 := K3.cell 0
      have k31 := K3.cell 1
      have k32 := K3.cell 2
      have k33 := K3.cell 3
      have k34 := K3.cell 4
      have k35 := K3.cell 5
      clear K3
      go_wp2_with fail
      refine (check_any E (dN 4) _ _ HV3.out (sml_d 4) (HE.out.up HB.out)).mono ?_
      rintro e w11 ⟨rfl, hb⟩
      have hbA : Below w10.heap.size w10 w11 := hb
      rw [chk_d]
      have HV1' := Lib.hid (HV1.out.up hbA)
      clear HV1
      have HV1 := HV1'
      clear HV1'
      have HV2' := Lib.hid (HV2.out.up hbA)
      clear HV2
      have HV2 := HV2'
      clear HV2'
      have HV3' := Lib.hid (HV3.out.up hbA)
      clear HV3
      have HV3 := HV3'
      clear HV3'
      have X' := Lib.hid (X.out.up hbA)
      clear X
      have X := X'
      clear X'
      have Y' := Lib.hid (Y.out.up hbA)
      clear Y
      have Y := Y'
      clear Y'
      have HK1' := Lib.hid (HK1.out.below hbA HK1.out.lt)
      clear HK1
      have HK1 := HK1'
      clear HK1'
      have HK2' := Lib.hid (HK2.out.below hbA HK2.out.lt)
      clear HK2
      have HK2 := HK2'
      clear HK2'
      have HK3' := Lib.hid (HK3.out.below hbA HK3.out.lt)
      clear HK3
      have HK3 := HK3'
      clear HK3'
      have HB' := Lib.hid (below_next HB.out (Nat.le_refl _) hbA)
      clear HB
      have HB := HB'
      clear HB'
      clear hb hbA k30 k31 k32 k33 k34 k35
      have K3 := HK3.out
      have k30 := K3.cell 0
      have k31 := K3.cell 1
      have k32 := K3.cell 2
      have k33 := K3.cell 3
      have k34 := K3.cell 4
      have k35 := K3.cell 5
      clear K3
      go_wp2_with fail
      refine (deepf_any (dN 4) _ _ HV3.out (sml_d 4)).mono ?_
      rintro e w12 ⟨rfl, hb⟩
      have hbA : Below w11.heap.size w11 w12 := hb
      rw [deep_d]
      have HV1' := Lib.hid (HV1.out.up hbA)
      clear HV1
      have HV1 := HV1'
      clear HV1'
      have HV2' := Lib.hid (HV2.out.up hbA)
      clear HV2
      have HV2 := HV2'
      clear HV2'
      have HV3' := Lib.hid (HV3.out.up hbA)
      clear HV3
      have HV3 := HV3'
      clear HV3'
      have X' := Lib.hid (X.out.up hbA)
      clear X
      have X := X'
      clear X'
      have Y' := Lib.hid (Y.out.up hbA)
      clear Y
      have Y := Y'
      clear Y'
      have HK1' := Lib.hid (HK1.out.below hbA HK1.out.lt)
      clear HK1
      have HK1 := HK1'
      clear HK1'
      have HK2' := Lib.hid (HK2.out.below hbA HK2.out.lt)
      clear HK2
      have HK2 := HK2'
      clear HK2'
      have HK3' := Lib.hid (HK3.out.below hbA HK3.out.lt)
      clear HK3
      have HK3 := HK3'
      clear HK3'
      have HB' := Lib.hid (below_next HB.out (Nat.le_refl _) hbA)
      clear HB
      have HB := HB'
      clear HB'
      clear hb hbA k30 k31 k32 k33 k34 k35
      have K1 := HK1.out
      have k10 := K1.cell 0
      have k11 := K1.cell 1
      have k12 := K1.cell 2
      have k13 := K1.cell 3
      have k14 := K1.cell 4
      have k15 := K1.cell 5
      clear K1
      go_wp2_with fail
      refine (deepf_any rM _ _ HV1.out sml_r1).mono ?_
      rintro e w13 ⟨rfl, hb⟩
      have hbA : Below w12.heap.size w12 w13 := hb
      rw [deep_r]
      have HV1' := Lib.hid (HV1.out.up hbA)
      clear HV1
      have HV1 := HV1'
      clear HV1'
      have HV2' := Lib.hid (HV2.out.up hbA)
      clear HV2
      have HV2 := HV2'
      clear HV2'
      have HV3' := Lib.hid (HV3.out.up hbA)
      clear HV3
      have HV3 := HV3'
      clear HV3'
      have X' := Lib.hid (X.out.up hbA)
      clear X
      have X := X'
      clear X'
      have Y' := Lib.hid (Y.out.up hbA)
      clear Y
      have Y := Y'
      clear Y'
      have HK1' := Lib.hid (HK1.out.below hbA HK1.out.lt)
      clear HK1
      have HK1 := HK1'
      clear HK1'
      have HK2' := Lib.hid (HK2.out.below hbA HK2.out.lt)
      clear HK2
      have HK2 := HK2'
      clear HK2'
      have HK3' := Lib.hid (HK3.out.below hbA HK3.out.lt)
      clear HK3
      have HK3 := HK3'
      clear HK3'
      have HB' := Lib.hid (below_next HB.out (Nat.le_refl _) hbA)
      clear HB
      have HB := HB'
      clear HB'
      clear hb hbA k10 k11 k12 k13 k14 k15
      go_wp2_with fail
      refine (check_any E (.mk 0 1 2 0 [] []) _ _ (plain_mat _ _ 0 1 2 0) (sml_plain ..) (HE.out.up HB.out)).mono ?_
      rintro e w14 ⟨rfl, hb⟩
      have hbA : Below w13.heap.size w13 w14 := hb
      rw [chk_1]
      have HV1' := Lib.hid (HV1.out.up hbA)
      clear HV1
      have HV1 := HV1'
      clear HV1'
      have HV2' := Lib.hid (HV2.out.up hbA)
      clear HV2
      have HV2 := HV2'
      clear HV2'
      have HV3' := Lib.hid (HV3.out.up hbA)
      clear HV3
      have HV3 := HV3'
      clear HV3'
      have X' := Lib.hid (X.out.up hbA)
      clear X
      have X := X'
      clear X'
      have Y' := Lib.hid (Y.out.up hbA)
      clear Y
      have Y := Y'
      clear Y'
      have HK1' := Lib.hid (HK1.out.below hbA HK1.out.lt)
      clear HK1
      have HK1 := HK1'
      clear HK1'
      have HK2' := Lib.hid (HK2.out.below hbA HK2.out.lt)
      clear HK2
      have HK2 := HK2'
      clear HK2'
      have HK3' := Lib.hid (HK3.out.below hbA HK3.out.lt)
      clear HK3
      have HK3 := HK3'
      clear HK3'
      have HB' := Lib.hid (below_next HB.out (Nat.le_refl _) hbA)
      clear HB
      have HB := HB'
      clear HB'
      clear hb hbA
      go_wp2_with fail
      refine (check_any E (.mk 10 0 0 0 [] []) _ _ (plain_mat _ _ 10 0 0 0) (sml_plain ..) (HE.out.up HB.out)).mono ?_
      rintro e w15 ⟨rfl, hb⟩
      have hbA : Below w14.heap.size w14 w15 := hb
      rw [chk_2]
      have HV1' := Lib.hid (HV1.out.up hbA)
      clear HV1
      have HV1 := HV1'
      clear HV1'
      have HV2' := Lib.hid (HV2.out.up hbA)
      clear HV2
      have HV2 := HV2'
      clear HV2'
      have HV3' := Lib.hid (HV3.out.up hbA)
      clear HV3
      have HV3 := HV3'
      clear HV3'
      have X' := Lib.hid (X.out.up hbA)
      clear X
      have X := X'
      clear X'
      have Y' := Lib.hid (Y.out.up hbA)
      clear Y
      have Y := Y'
      clear Y'
      have HK1' := Lib.hid (HK1.out.below hbA HK1.out.lt)
      clear HK1
      have HK1 := HK1'
      clear HK1'
      have HK2' := Lib.hid (HK2.out.below hbA HK2.out.lt)
      clear HK2
      have HK2 := HK2'
      clear HK2'
      have HK3' := Lib.hid (HK3.out.below hbA HK3.out.lt)
      clear HK3
      have HK3 := HK3'
      clear HK3'
      have HB' := Lib.hid (below_next HB.out (Nat.le_refl _) hbA)
      clear HB
      have HB := HB'
      clear HB'
      clear hb hbA
      go_wp2_with fail
      refine (same_is _ _ [2] [2] _ (X.out.upA _) (Row.lit1 _ 2).here (by decide) (by decide) (same_true rfl)).mono ?_
      rintro e w16 ⟨rfl, hb⟩
      have hbA : Below w15.heap.size w15 w16 := below_next ((Below.refl _ w15).alloc (Nat.le_refl _) _) (Nat.le_refl _) hb
      have HV1' := Lib.hid (HV1.out.up hbA)
      clear HV1
      have HV1 := HV1'
      clear HV1'
      have HV2' := Lib.hid (HV2.out.up hbA)
      clear HV2
      have HV2 := HV2'
      clear HV2'
      have HV3' := Lib.hid (HV3.out.up hbA)
      clear HV3
      have HV3 := HV3'
      clear HV3'
      have X' := Lib.hid (X.out.up hbA)
      clear X
      have X := X'
      clear X'
      have Y' := Lib.hid (Y.out.up hbA)
      clear Y
      have Y := Y'
      clear Y'
      have HK1' := Lib.hid (HK1.out.below hbA HK1.out.lt)
      clear HK1
      have HK1 := HK1'
      clear HK1'
      have HK2' := Lib.hid (HK2.out.below hbA HK2.out.lt)
      clear HK2
      have HK2 := HK2'
      clear HK2'
      have HK3' := Lib.hid (HK3.out.below hbA HK3.out.lt)
      clear HK3
      have HK3 := HK3'
      clear HK3'
      have HB' := Lib.hid (below_next HB.out (Nat.le_refl _) hbA)
      clear HB
      have HB := HB'
      clear HB'
      clear hb hbA
      go_wp2_with fail
      refine (same_is _ _ [0, 2] [0, 2] _ (Y.out.upA _) (Row.lit2 _ 0 2).here (by decide) (by decide) (same_true rfl)).mono ?_
      rintro e w17 ⟨rfl, hb⟩
      have hbA : Below w16.heap.size w16 w17 := below_next ((Below.refl _ w16).alloc (Nat.le_refl _) _) (Nat.le_refl _) hb
      have HV1' := Lib.hid (HV1.out.up hbA)
      clear HV1
      have HV1 := HV1'
      clear HV1'
      have HV2' := Lib.hid (HV2.out.up hbA)
      clear HV2
      have HV2 := HV2'
      clear HV2'
      have HV3' := Lib.hid (HV3.out.up hbA)
      clear HV3
      have HV3 := HV3'
      clear HV3'
      have X' := Lib.hid (X.out.up hbA)
      clear X
      have X := X'
      clear X'
      have Y' := Lib.hid (Y.out.up hbA)
      clear Y
      have Y := Y'
      clear Y'
      have HK1' := Lib.hid (HK1.out.below hbA HK1.out.lt)
      clear HK1
      have HK1 := HK1'
      clear HK1'
      have HK2' := Lib.hid (HK2.out.below hbA HK2.out.lt)
      clear HK2
      have HK2 := HK2'
      clear HK2'
      have HK3' := Lib.hid (HK3.out.below hbA HK3.out.lt)
      clear HK3
      have HK3 := HK3'
      clear HK3'
      have HB' := Lib.hid (below_next HB.out (Nat.le_refl _) hbA)
      clear HB
      have HB := HB'
      clear HB'
      clear hb hbA
      go_wp2
      go_ret
      exact ⟨rfl, HB.out⟩

end Wp
end Go.Proofs.YtimmmfppehmfcaaDoor
