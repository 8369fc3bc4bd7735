/- MatroidBounds, walked: it answers true. -/
import Derived.Test.YtgipkpfogfcebaaDoorQFixed
import Derived.Test.YtgipkpfogfcebaaDoorQSml
namespace Go.Proofs.YtgipkpfogfcebaaDoor
open Go.RowKit
namespace Wp

set_option maxHeartbeats 8000000 in
set_option maxRecDepth 100000 in
theorem bounds_big (E : Nat → Addr) (m : Mat) (v : Value) (w : World) (hv : MatV w w.heap.size v m) (hl : Lim m) (hE : Env E w) (hsm : smlB m = false) : Calls Tryd.prog 4 #[v] w (Truly w) := by
  have Hsm := Lib.hid hsm
  have Hl := Lib.hid hl
  obtain ⟨lv, iv, hve, hl2, hi2⟩ := hv.open
  have Hb0 := Lib.hid (boxed_below w m lv iv)
  have Hv := Lib.hid (hv.up Hb0.out)
  have HE := Lib.hid (hE.up Hb0.out)
  have Hblk := Lib.hid (boxed_blk w m lv iv)
  obtain ⟨Al, cl, rfl, _⟩ := hl2
  obtain ⟨Ai, ci, rfl, _, hik⟩ := hi2
  subst hve
  unfold boxed at *
  clear hv hE hik hsm hl
  go_enter Tryd.func4, Tryd.ntmps4
  go_wp2_with fail
  refine (fixed_any E _ HE.out).mono ?_
  rintro e w1 ⟨rfl, hb1⟩
  have Hb1 := Lib.hid (below_next Hb0.out (Nat.le_refl _) hb1)
  have HE1 := Lib.hid (HE.out.up hb1)
  have Hv1 := Lib.hid (Hv.out.up hb1)
  have Hblk1 := Lib.hid (Hblk.out.below hb1 (by simp))
  have K := Hblk1.out
  have k0 := K.cell 0
  have k1 := K.cell 1
  have k2 := K.cell 2
  have k3 := K.cell 3
  have k4 := K.cell 4
  have k5 := K.cell 5
  clear hb1 K
  go_wp2_with fail
  refine (small_any m _ _ Hv1.out Hl.out).mono ?_
  rintro e w2 ⟨rfl, hb2⟩
  rw [Hsm.out]
  have Hb2 := Lib.hid (below_next Hb1.out (Nat.le_refl _) hb2)
  have HE2 := Lib.hid (HE1.out.up hb2)
  have Hv2 := Lib.hid (Hv1.out.up hb2)
  have Hblk2 := Lib.hid (Hblk1.out.below hb2 Hblk1.out.lt)
  clear hb2 k0 k1 k2 k3 k4 k5 Hblk1 HE1 Hv1 Hb1 Hblk HE Hv
  go_wp2_with fail
  refine (fixed_any E _ HE2.out).mono ?_
  rintro e w3 ⟨rfl, hb3⟩
  have Hb3 := Lib.hid (below_next Hb2.out (Nat.le_refl _) hb3)
  clear hb3
  go_wp2
  go_ret
  exact ⟨rfl, Hb3.out⟩

theorem mat_eta (m : Mat) : Mat.mk m.t m.n m.a m.b m.l m.i = m := by cases m; rfl
/-- The dual of one that lies in memory, written out. -/
theorem dual_lit {W : World} {c0 c1 c2 c3 c4 c5 : Value} {m : Mat} (h : MatV W W.heap.size (.agg #[c0, c1, c2, c3, c4, c5]) m) :
    MatV (W.alloc (.cells #[c0, c1, c2, c3, c4, c5] 25)) (W.heap.size + 1) (.agg #[.int .i64 8, .int .i64 m.n, .int .i64 0, .int .i64 0, .slice none 0 0, .slice (some ⟨W.heap.size, 0, none⟩) 1 1]) (dualOf m) :=
  MatV.shut (rows2_nil _ _) (lit_mats h)
theorem sml_dual {m : Mat} (h : Sml m) : Sml (dualOf m) := sml_one h

set_option maxHeartbeats 16000000 in
set_option maxRecDepth 100000 in
theorem bounds_in (E : Nat → Addr) (m : Mat) (v : Value) (w : World) (hv : MatV w w.heap.size v m) (hl : Lim m) (hE : Env E w) (hsm : smlB m = true) : Calls Tryd.prog 4 #[v] w (Truly w) := by
  have Hsm := Lib.hid hsm
  have Hl := Lib.hid hl
  have Hs := Lib.hid (sml_of hsm)
  have hi0 := sml_il Hs.out
  have hiI : (m.i.length : Int) ≤ 1000 := by omega
  obtain ⟨lv, iv, hve, hl2, hi2⟩ := hv.open
  have Hb0 := Lib.hid (boxed_below w m lv iv)
  have Hv := Lib.hid (hv.up Hb0.out)
  have HE := Lib.hid (hE.up Hb0.out)
  have Hblk := Lib.hid (boxed_blk w m lv iv)
  obtain ⟨Al, cl, rfl, _⟩ := hl2
  obtain ⟨Ai, ci, rfl, _, hik⟩ := hi2
  subst hve
  unfold boxed at *
  clear hv hE hsm hl hi0
  have Hik := Lib.hid (fun h => (show ∀ k, k < m.i.length → _ from hik) h)
  clear hik
  go_enter Tryd.func4, Tryd.ntmps4
  go_wp2_with fail
  refine (fixed_any E _ HE.out).mono ?_
  rintro e w1 ⟨rfl, hb1⟩
  have Hb1 := Lib.hid (below_next Hb0.out (Nat.le_refl _) hb1)
  have HE1 := Lib.hid (HE.out.up hb1)
  have Hv1 := Lib.hid (Hv.out.up hb1)
  have Hblk1 := Lib.hid (Hblk.out.below hb1 (by simp))
  have K := Hblk1.out
  have k0 := K.cell 0
  have k1 := K.cell 1
  have k2 := K.cell 2
  have k3 := K.cell 3
  have k4 := K.cell 4
  have k5 := K.cell 5
  clear hb1 K
  go_wp2_with fail
  refine (small_any m _ _ Hv1.out Hl.out).mono ?_
  rintro e w2 ⟨rfl, hb2⟩
  rw [Hsm.out]
  have Hb2 := Lib.hid (below_next Hb1.out (Nat.le_refl _) hb2)
  have HE2 := Lib.hid (HE1.out.up hb2)
  have Hv2 := Lib.hid (Hv1.out.up hb2)
  have Hblk2 := Lib.hid (Hblk1.out.below hb2 Hblk1.out.lt)
  clear hb2 k0 k1 k2 k3 k4 k5 Hblk1 HE1 Hv1 Hb1 Hblk HE Hv
  have K := Hblk2.out
  have k0 := K.cell 0
  have k1 := K.cell 1
  have k2 := K.cell 2
  have k3 := K.cell 3
  have k4 := K.cell 4
  have k5 := K.cell 5
  clear K
  have Hd1 := Lib.hid (dual_lit Hv2.out)
  obtain ⟨W3, hW3⟩ : ∃ W3, W3 = (w2.alloc (.cells #[.int .i64 m.t, .int .i64 m.n, .int .i64 m.a, .int .i64 m.b, .slice Al m.l.length cl, .slice Ai m.i.length ci] 25)).alloc (.cells #[.int .i64 8, .int .i64 m.n, .int .i64 0, .int .i64 0, .slice none 0 0, .slice (some ⟨w2.heap.size, 0, none⟩) 1 1] 25) := ⟨_, rfl⟩
  have HW3 := Lib.hid hW3
  have Hb3 : Hid (Below w2.heap.size w2 W3) := by
    show Below _ _ _
    rw [hW3]
    exact ((Below.refl _ _).alloc (Nat.le_refl _) _).alloc (by rw [size_more]; omega) _
  have Hdv : Hid (MatV W3 W3.heap.size (.agg #[.int .i64 8, .int .i64 m.n, .int .i64 0, .int .i64 0, .slice none 0 0, .slice (some ⟨w2.heap.size, 0, none⟩) 1 1]) (dualOf m)) := by
    have h := Hd1.out
    rw [← size_more w2 (.cells #[.int .i64 m.t, .int .i64 m.n, .int .i64 m.a, .int .i64 m.b, .slice Al m.l.length cl, .slice Ai m.i.length ci] 25)] at h
    show MatV _ _ _ _
    rw [hW3]
    exact h.upA _
  have Hdb : Hid (Blk W3 (w2.heap.size + 1) 25 #[.int .i64 8, .int .i64 m.n, .int .i64 0, .int .i64 0, .slice none 0 0, .slice (some ⟨w2.heap.size, 0, none⟩) 1 1]) := by
    have h := Blk.new (w2.alloc (.cells #[.int .i64 m.t, .int .i64 m.n, .int .i64 m.a, .int .i64 m.b, .slice Al m.l.length cl, .slice Ai m.i.length ci] 25)) 25 #[.int .i64 8, .int .i64 m.n, .int .i64 0, .int .i64 0, .slice none 0 0, .slice (some ⟨w2.heap.size, 0, none⟩) 1 1]
    rw [size_more] at h
    show Blk _ _ _ _
    rw [hW3]
    exact h
  clear hW3 Hd1
  have HE3 := Lib.hid (HE2.out.up Hb3.out)
  have Hv3 := Lib.hid (Hv2.out.up Hb3.out)
  have Hblk3 := Lib.hid (Hblk2.out.below Hb3.out Hblk2.out.lt)
  have HB3 := Lib.hid (below_next Hb2.out (Nat.le_refl _) Hb3.out)
  have Hmb : Hid (∀ W, Below W3.heap.size W3 W → ∀ i, W.cell? ⟨w.heap.size, i, none⟩ = #[.int .i64 m.t, .int .i64 m.n, .int .i64 m.a, .int .i64 m.b, .slice Al m.l.length cl, .slice Ai m.i.length ci][i]?) := fun W hW i => (Hblk3.out.below hW Hblk3.out.lt).cell i
  have Hdbx : Hid (∀ W, Below W3.heap.size W3 W → ∀ i, W.cell? ⟨w2.heap.size + 1, i, none⟩ = #[.int .i64 8, .int .i64 m.n, .int .i64 0, .int .i64 0, .slice none 0 0, .slice (some ⟨w2.heap.size, 0, none⟩) 1 1][i]?) := fun W hW i => (Hdb.out.below hW Hdb.out.lt).cell i
  have Hc1 : Hid (∀ W, Below W3.heap.size W3 W → Calls Tryd.prog 12 #[.agg #[.int .i64 m.t, .int .i64 m.n, .int .i64 m.a, .int .i64 m.b, .slice Al m.l.length cl, .slice Ai m.i.length ci]] W fun e w' => e = .returned (.int .i64 (chk m)) ∧ Below W3.heap.size W3 w') := fun W hW =>
    (check_any E m _ W (Hv3.out.up hW) Hs.out (HE3.out.up hW)).mono fun _ _ ⟨h1, h2⟩ => ⟨h1, below_next hW (Nat.le_refl _) h2⟩
  have Hc2 : Hid (∀ W, Below W3.heap.size W3 W → Calls Tryd.prog 12 #[.agg #[.int .i64 8, .int .i64 m.n, .int .i64 0, .int .i64 0, .slice none 0 0, .slice (some ⟨w2.heap.size, 0, none⟩) 1 1]] W fun e w' => e = .returned (.int .i64 (chk (dualOf m))) ∧ Below W3.heap.size W3 w') := fun W hW =>
    (check_any E (dualOf m) _ W (Hdv.out.up hW) (sml_dual Hs.out) (HE3.out.up hW)).mono fun _ _ ⟨h1, h2⟩ => ⟨h1, below_next hW (Nat.le_refl _) h2⟩
  obtain ⟨F, hF⟩ : ∃ F, chk (dualOf m) = F := ⟨_, rfl⟩
  have HF := Lib.hid hF
  obtain ⟨D, hD⟩ : ∃ D, chk m = D := ⟨_, rfl⟩
  have HD := Lib.hid hD
  rw [hF] at Hc2
  rw [hD] at Hc1
  clear hF hD
  go_wp2
  rw [← HW3.out]
  clear k0 k1 k2 k3 k4 k5
  refine wp_region_below W3.heap.size W3 (by kernel_rfl) (by kernel_rfl) (Below.refl _ _) ?_
  iterate 6 (first
    | go_big_quiet_step (first | with_reducible exact Hc1.out _ | with_reducible exact Hc2.out _)
    | (go_big_quiet_want; apply Exists.intro; refine ⟨fun W hW => ?_, ?_⟩; (· have q := Hmb.out W hW; have q0 := q 0; have q1 := q 1; have q2 := q 2; have q3 := q 3; have q4 := q 4; have q5 := q 5; clear q; have p := Hdbx.out W hW; have p0 := p 0; have p1 := p 1; have p2 := p 2; have p3 := p 3; have p4 := p 4; have p5 := p 5; clear p; go_simp; first | exact rfl | exact ⟨rfl, rfl⟩); go_simp; go_big_quiet_on))
  refine wpQuiet_nil ?_
  intro w4 hb4
  have Hb4 := Lib.hid (HB3.out.trans (hb4.mono HB3.out.size))
  have HE4 := Lib.hid (HE3.out.up hb4)
  have Hv4 := Lib.hid (Hv3.out.up hb4)
  have Hdv4 := Lib.hid (Hdv.out.up hb4)
  have Hblk4 := Lib.hid (Hblk3.out.below hb4 Hblk3.out.lt)
  have Hdb4 := Lib.hid (Hdb.out.below hb4 Hdb.out.lt)
  clear hb4 HW3 Hc1 Hc2 Hmb Hdbx Hdb Hblk3 HE3 Hv3 Hdv HB3 Hb3 Hblk2 HE2 Hv2
  generalize w2.heap.size + 1 = nd at *
  by_cases hD0 : D = 0
  · subst hD0
    have hc := HD.out
    have Hwith := Lib.hid (fun x hx => within (x := x) hc hx)
    have hn := chk_n hc
    have hdd := deep_dual hc
    have hd1 := dp_pos 4 m
    have hd4 := (chk_ok.1 hc).1
    have hF4 : dp 4 m = 4 → F = 91 := fun h => by rw [← HF.out]; exact dual_four hc h
    have hF3 : dp 4 m ≤ 3 → F = 0 := fun h => by rw [← HF.out]; exact dual_less hc h
    have hDm : deepI m = (dp 4 m : Nat) := rfl
    have hDd : deepI (dualOf m) = (dp 4 m : Nat) + 1 := by unfold deepI; rw [hdd]; rfl
    have HDm := Lib.hid hDm
    have HDd := Lib.hid hDd
    have HF4 := Lib.hid hF4
    have HF3 := Lib.hid hF3
    have Hwd : Hid (∀ x, x ∈ m.i → (dp 4 x : Int) < (dp 4 m : Nat)) := fun x hx => by have := (Hwith.out x hx).2; omega
    clear hc hdd hF4 hF3 hDm hDd
    generalize dp 4 m = P at *
    have hP1 : (1 : Int) ≤ (P : Int) := by omega
    have hP4 : (P : Int) ≤ 4 := by omega
    have hn0 := hn.1
    have hn64 := hn.2
    clear hn
    go_wp2
    go_loopw [6] (fun vi wr => ∃ i : Nat, vi = .int .i64 i ∧ i ≤ m.i.length ∧ Below w4.heap.size w4 wr) (fun vi _ => m.i.length - (intOf vi).toNat)
    case atStart => exact ⟨0, rfl, Nat.zero_le _, Below.refl _ _⟩
    case round =>
      obtain ⟨i, rfl, hi, hbr⟩ := hrel
      have Hbr := Lib.hid (below_next Hb4.out (Nat.le_refl _) hbr)
      have HEr := Lib.hid (HE4.out.up hbr)
      have Hvr := Lib.hid (Hv4.out.up hbr)
      have Hdvr := Lib.hid (Hdv4.out.up hbr)
      have Hblkr := Lib.hid (Hblk4.out.below hbr Hblk4.out.lt)
      have Hdbr := Lib.hid (Hdb4.out.below hbr Hdb4.out.lt)
      have HbrX := Lib.hid hbr
      clear hbr
      by_cases hlt : i < m.i.length
      · have hltI : (i : Int) < (m.i.length : Int) := by omega
        have c5 := Hblkr.out.cell 5
        obtain ⟨ad, u, hA, hab, hsix, hmv⟩ := Hik.out i hlt
        subst hA
        have hxm := getD_mem m.i i default hlt
        have hx1 := (Hwith.out _ hxm).1
        have hx2 := Hwd.out _ hxm
        have hxs := sml_i Hs.out hxm
        obtain ⟨x0, x1, x2, x3, x4, x5, rfl, s0, s1, s2, s3, s4, s5⟩ := hsix.below Hbr.out (by rw [add_block]; exact hab)
        have hmvr := (hmv.bel Hbr.out).mono Hbr.out.size
        have Hsx : Hid (∀ W, Below wr.heap.size wr W → SixV W (ad.add (i * 6)) (.agg #[x0, x1, x2, x3, x4, x5])) := fun W hW => SixV.below ⟨x0, x1, x2, x3, x4, x5, rfl, s0, s1, s2, s3, s4, s5⟩ hW (by rw [add_block]; exact Nat.lt_of_lt_of_le hab Hbr.out.size)
        have Hmb : Hid (∀ W, Below wr.heap.size wr W → ∀ i, W.cell? ⟨w.heap.size, i, none⟩ = #[.int .i64 m.t, .int .i64 m.n, .int .i64 m.a, .int .i64 m.b, .slice Al m.l.length cl, .slice (some ad) m.i.length ci][i]?) := fun W hW i => (Hblkr.out.below hW Hblkr.out.lt).cell i
        have Hc1 : Hid (∀ W, Below wr.heap.size wr W → Calls Tryd.prog 12 #[.agg #[x0, x1, x2, x3, x4, x5]] W fun e w' => e = .returned (.int .i64 0) ∧ Below wr.heap.size wr w') := fun W hW =>
          (check_any E _ _ W (hmvr.up hW) hxs (HEr.out.up hW)).mono fun _ _ ⟨h1, h2⟩ => ⟨by rw [h1, hx1], below_next hW (Nat.le_refl _) h2⟩
        have Hc2 : Hid (∀ W, Below wr.heap.size wr W → Calls Tryd.prog 14 #[.agg #[x0, x1, x2, x3, x4, x5]] W fun e w' => e = .returned (.int .i64 (dp 4 (m.i.getD i default) : Nat)) ∧ Below wr.heap.size wr w') := fun W hW =>
          (deepf_any _ _ W (hmvr.up hW) hxs).mono fun _ _ ⟨h1, h2⟩ => ⟨h1, below_next hW (Nat.le_refl _) h2⟩
        have Hc3 : Hid (∀ W, Below wr.heap.size wr W → Calls Tryd.prog 14 #[.agg #[.int .i64 m.t, .int .i64 m.n, .int .i64 m.a, .int .i64 m.b, .slice Al m.l.length cl, .slice (some ad) m.i.length ci]] W fun e w' => e = .returned (.int .i64 (P : Nat)) ∧ Below wr.heap.size wr w') := fun W hW =>
          (deepf_any _ _ W (Hvr.out.up hW) Hs.out).mono fun _ _ ⟨h1, h2⟩ => ⟨by rw [h1, HDm.out], below_next hW (Nat.le_refl _) h2⟩
        generalize dp 4 (m.i.getD i default) = Q at *
        have hQn : ¬ P ≤ Q := by omega
        have hQ : decide (P ≤ Q) = false := by simp; omega
        clear hsix hmv hxm hx1 hxs hmvr s0 s1 s2 s3 s4 s5 hx2
        go_wp2
        clear c5
        refine wp_region_below wr.heap.size wr (by kernel_rfl) (by kernel_rfl) (Below.refl _ _) ?_
        iterate 18 (first
          | go_big_quiet_step (first | with_reducible exact Hc1.out _ | with_reducible exact Hc2.out _ | with_reducible exact Hc3.out _)
          | (go_big_quiet_want; apply Exists.intro; refine ⟨fun W hW => ?_, ?_⟩; (· have q := Hmb.out W hW; have q0 := q 0; have q1 := q 1; have q2 := q 2; have q3 := q 3; have q4 := q 4; have q5 := q 5; clear q; obtain ⟨_, _, _, _, _, _, hp, p0, p1, p2, p3, p4, p5⟩ := Hsx.out W hW; cases hp; go_simp; first | exact rfl | exact ⟨rfl, rfl⟩); go_simp; go_big_quiet_on))
        refine wpQuiet_nil ?_
        intro w5 hb5
        have Hb5 := Lib.hid (HbrX.out.trans (hb5.mono HbrX.out.size))
        clear hb5
        go_wp2
        go_roundw
        case rel => exact ⟨i + 1, by go_num, by omega, Hb5.out⟩
        case measure => simp [intOf]; omega
      · have hie : i = m.i.length := by omega
        subst hie
        have K := Hblkr.out
        have k0 := K.cell 0
        have k1 := K.cell 1
        have k2 := K.cell 2
        have k3 := K.cell 3
        have k4 := K.cell 4
        have k5 := K.cell 5
        clear K
        go_wp2_with fail
        refine (deepf_any m _ _ Hvr.out Hs.out).mono ?_
        rintro e w5 ⟨rfl, hb5⟩
        rw [HDm.out]
        have Hb5 := Lib.hid (below_next Hbr.out (Nat.le_refl _) hb5)
        have Hdv5 := Lib.hid (Hdvr.out.up hb5)
        have K1 := Hblkr.out.below hb5 Hblkr.out.lt
        have K2 := Hdbr.out.below hb5 Hdbr.out.lt
        clear hb5 k0 k1 k2 k3 k4 k5
        have k0 := K1.cell 0
        have k1 := K1.cell 1
        have k2 := K1.cell 2
        have k3 := K1.cell 3
        have k4 := K1.cell 4
        have k5 := K1.cell 5
        have j0 := K2.cell 0
        have j1 := K2.cell 1
        have j2 := K2.cell 2
        have j3 := K2.cell 3
        have j4 := K2.cell 4
        have j5 := K2.cell 5
        clear K1 K2
        have hm1 : ¬ m.n < 0 := by omega
        have hm2 : ¬ 64 < m.n := by omega
        have hm3 : ¬ (P : Int) < 1 := by omega
        have hm4 : ¬ 4 < (P : Int) := by omega
        go_wp2_with fail
        refine (deepf_any (dualOf m) _ _ Hdv5.out (sml_dual Hs.out)).mono ?_
        rintro e w6 ⟨rfl, hb6⟩
        rw [HDd.out]
        have Hb6 := Lib.hid (below_next Hb5.out (Nat.le_refl _) hb6)
        clear hb6
        have hwp : wrap64 ((P : Int) + 1) = (P : Int) + 1 := by rw [← wrap_w, IntKind.wrap_i64]; omega
        by_cases h4 : P = 4
        · have hF := HF4.out h4
          subst h4
          subst hF
          go_wp2
          go_ret
          exact ⟨rfl, Hb6.out⟩
        · have hF := HF3.out (by omega)
          subst hF
          have hP3 : (P : Int) < 4 := by omega
          have hP4' : ((P : Int) == 4) = false := by simp; omega
          go_wp2
          go_ret
          exact ⟨rfl, Hb6.out⟩
  · have hne : (D != 0) = true := by simpa using hD0
    have hFn : F ≠ 0 := by rw [← HF.out]; exact bounds_no (by rw [HD.out]; exact hD0)
    have hFne : (F != 0) = true := by simpa using hFn
    clear hD0 hFn
    go_wp2
    go_ret
    exact ⟨rfl, Hb4.out⟩

theorem bounds_any (E : Nat → Addr) (m : Mat) (v : Value) (w : World) (hv : MatV w w.heap.size v m) (hl : Lim m) (hE : Env E w) : Calls Tryd.prog 4 #[v] w (Truly w) := by
  rcases hs : smlB m with _ | _
  · exact bounds_big E m v w hv hl hE hs
  · exact bounds_in E m v w hv hl hE hs

end Wp
end Go.Proofs.YtgipkpfogfcebaaDoor
