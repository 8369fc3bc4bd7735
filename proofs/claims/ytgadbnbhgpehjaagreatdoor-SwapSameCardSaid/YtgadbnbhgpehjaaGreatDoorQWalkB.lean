/- The program's fits, walked, kind by kind. -/
import Derived.Test.YtgadbnbhgpehjaaGreatDoorQWalkA
import Derived.Test.YtgadbnbhgpehjaaGreatDoorZE
set_option maxHeartbeats 8000000
set_option maxRecDepth 100000
open Go.Lib (hid)
open Nat (le_refl)
namespace Go.Proofs.YtgadbnbhgpehjaaGreatDoor
open Go.RowKit
namespace Wp
theorem Vv1 (n a b : Int) (l : List (List Int)) (i : List Mat) (v : Value) (w : World) (hv : MatV w w.heap.size v (.mk 0 n a b l i)) : Calls Tryz.prog 155 #[v] w (Says w (fitsB (.mk 0 n a b l i))) := by
 obtain ⟨lv, iv, rfl, _, _⟩ := hv.open
 rw [show fitsB (.mk 0 n a b l i) = decide (a ≤ n) from rfl]
 simp only [Mat.t, Mat.n, Mat.a, Mat.b]
 have Hb0 : Hid (Below w.heap.size w (w.alloc (.cells #[.int .i64 0, .int .i64 n, .int .i64 a, .int .i64 b, lv, iv] 25))) := (Below.refl _ w).alloc (le_refl _) _
 clear hv
 go_enter Tryz.func155, Tryz.ntmps155
 go_wp2
 go_ret
 exact ⟨rfl, Hb0.out⟩
theorem Xb6 (A : Int) (B : Nat) (w : World) (hB : B < w.heap.size) (hc : w.cell? ⟨B, 2, none⟩ = some (.int .i64 A)) : Zk9 w 169 #[.pointer (some ⟨B, 0, none⟩)] (edgeB A) :=
 fun u zs W hW hu => Xq0 A B u zs W ((hW.cell (p := ⟨B, 2, none⟩) hB).trans hc) hu
theorem Vv2 (n a b : Int) (l : List (List Int)) (i : List Mat) (v : Value) (w : World) (hv : MatV w w.heap.size v (.mk 1 n a b l i)) (hl0 : l.length ≤ 1000) : Calls Tryz.prog 155 #[v] w (Says w (fitsB (.mk 1 n a b l i))) := by
 obtain ⟨lv, iv, rfl, hl, _⟩ := hv.open
 rw [show fitsB (.mk 1 n a b l i) = (decide (1 ≤ a) && !l.any (edgeB a)) from rfl]
 simp only [Mat.t, Mat.n, Mat.a, Mat.b]
 have Hb0 : Hid (Below w.heap.size w (w.alloc (.cells #[.int .i64 1, .int .i64 n, .int .i64 a, .int .i64 b, lv, iv] 25))) := (Below.refl _ w).alloc (le_refl _) _
 have Hl := hid (hl.up Hb0.out)
 have Hc := hid (H8_ 169 #[.pointer (some ⟨w.heap.size, 0, none⟩)] (edgeB a) lv l (w.alloc (.cells #[.int .i64 1, .int .i64 n, .int .i64 a, .int .i64 b, lv, iv] 25)) (enters_of Tryz.func169 (by kernel_rfl) rfl) Hl.out (by omega) (Xb6 a w.heap.size _ (by simp) ((Blk.new w _ _).cell 2)))
 obtain ⟨Al, cl, rfl, _⟩ := hl
 clear hv
 by_cases h1 : 1 ≤ a
 ·rw [decide_eq_true h1, Bool.true_and]
  generalize l.any (edgeB a) = c at *
  go_enter Tryz.func155, Tryz.ntmps155
  go_wp2_with fail
  refine (Hc.out).mono ?_
  rintro e w1 ⟨rfl, hb1⟩
  have Hb1 := hid (Z0_ Hb0.out (le_refl _) hb1)
  clear hb1
  go_wp2
  go_ret
  exact ⟨rfl, Hb1.out⟩
 ·rw [decide_eq_false h1, Bool.false_and]
  have h1' : a < 1 := by omega
  clear Hc
  go_enter Tryz.func155, Tryz.ntmps155
  go_wp2
  go_ret
  exact ⟨rfl, Hb0.out⟩
theorem Vv3 (n a b : Int) (l : List (List Int)) (i : List Mat) (v : Value) (w : World) (hv : MatV w w.heap.size v (.mk 3 n a b l i)) : Calls Tryz.prog 155 #[v] w (Says w (fitsB (.mk 3 n a b l i))) := by
 obtain ⟨lv, iv, rfl, hl, _⟩ := hv.open
 rw [show fitsB (.mk 3 n a b l i) = mayM a l from rfl]
 simp only [Mat.t, Mat.n, Mat.a, Mat.b]
 have Hb0 : Hid (Below w.heap.size w (w.alloc (.cells #[.int .i64 3, .int .i64 n, .int .i64 a, .int .i64 b, lv, iv] 25))) := (Below.refl _ w).alloc (le_refl _) _
 have Hl := hid (hl.up Hb0.out)
 generalize hc : mayM a l = c
 have Hcc : Hid (mayM a l = c) := hc
 obtain ⟨Al, cl, rfl, _⟩ := hl
 clear hv hc
 go_enter Tryz.func155, Tryz.ntmps155
 go_wp2_with fail
 refine (kmay_any a _ l _ Hl.out).mono ?_
 rintro e w1 ⟨rfl, hb1⟩
 rw [Hcc.out]
 have Hb1 := hid (Z0_ Hb0.out (le_refl _) hb1)
 clear hb1
 go_wp2
 go_ret
 exact ⟨rfl, Hb1.out⟩
theorem Vv4 (n a b : Int) (l : List (List Int)) (i : List Mat) (v : Value) (w : World) (hv : MatV w w.heap.size v (.mk 4 n a b l i)) (hM : Met w) : Calls Tryz.prog 155 #[v] w (Says w (fitsB (.mk 4 n a b l i))) := by
 obtain ⟨lv, iv, rfl, hl, _⟩ := hv.open
 rw [show fitsB (.mk 4 n a b l i) = elimB b a l from rfl]
 simp only [Mat.t, Mat.n, Mat.a, Mat.b]
 have Hb0 : Hid (Below w.heap.size w (w.alloc (.cells #[.int .i64 4, .int .i64 n, .int .i64 a, .int .i64 b, lv, iv] 25))) := (Below.refl _ w).alloc (le_refl _) _
 have Hl := hid (hl.up Hb0.out)
 have HM := hid (hM.up Hb0.out)
 clear hM
 generalize hc : elimB b a l = c
 have Hcc : Hid (elimB b a l = c) := hc
 obtain ⟨Al, cl, rfl, _⟩ := hl
 clear hv hc
 go_enter Tryz.func155, Tryz.ntmps155
 go_wp2_with fail
 refine (Xq1 b a _ l _ HM.out Hl.out).mono ?_
 rintro e w1 ⟨rfl, hb1⟩
 rw [Hcc.out]
 have Hb1 := hid (Z0_ Hb0.out (le_refl _) hb1)
 clear hb1
 go_wp2
 go_ret
 exact ⟨rfl, Hb1.out⟩
open Go.RowKit
theorem Xb7 (n a b : Int) (l : List (List Int)) (i : List Mat) (v : Value) (w : World) (hv : MatV w w.heap.size v (.mk 2 n a b l i)) (hl2 : l.length = 2) (hn : n ≤ 64) (ha : a ≤ 64) (h0 : numsB (l.getD 0 []) n a = true) (h1 : numsB (l.getD 1 []) a 65 = true) : Calls Tryz.prog 155 #[v] w (Says w (fitsB (.mk 2 n a b l i))) := by
 obtain ⟨lv, iv, rfl, ⟨Al, cl, rfl, _, hlk⟩, _⟩ := hv.open
 simp only [Mat.t, Mat.n, Mat.a, Mat.b, Mat.l] at *
 rw [show fitsB (.mk 2 n a b l i) = true from by show (numsB (l.getD 0 []) n a && numsB (l.getD 1 []) a 65) = true; rw [h0, h1]; rfl]
 obtain ⟨ad, u0, hA, hab, hc0, hr0⟩ := hlk 0 (by omega)
 subst hA
 obtain ⟨ad', u1, hA', _, hc1, hr1⟩ := hlk 1 (by omega)
 obtain rfl := Option.some.inj hA'
 rw [add_zero] at hc0
 generalize l.getD 0 [] = r0 at *
 generalize l.getD 1 [] = r1 at *
 obtain ⟨Ar, cr, hu0, _⟩ := id hr0
 obtain ⟨Ar1, cr1, hu1, _⟩ := id hr1
 have Hb0 : Hid (Below w.heap.size w (w.alloc (.cells #[.int .i64 2, .int .i64 n, .int .i64 a, .int .i64 b, .slice (some ad) l.length cl, iv] 25))) := (Below.refl _ w).alloc (le_refl _) _
 have Hbox := hid (G5_ (w := w) (t := 25) (cs := #[.int .i64 2, .int .i64 n, .int .i64 a, .int .i64 b, .slice (some ad) l.length cl, iv]))
 have Hr0 := hid (hr0.up Hb0.out)
 have Hr1 := hid (hr1.up Hb0.out)
 have Hc0 := hid (X7_ ((Hb0.out.cell (p := ad) hab).trans hc0) (Nat.lt_of_lt_of_le hab Hb0.out.size))
 rw [show ad.add 1 = (⟨ad.block, ad.off + 1, none⟩ : Addr) by simp [Addr.add]] at hc1
 have Hc1 := hid (X7_ ((Hb0.out.cell (p := ⟨ad.block, ad.off + 1, none⟩) hab).trans hc1) (show ad.block < _ from Nat.lt_of_lt_of_le hab Hb0.out.size))
 have hll : (1 : Int) < (l.length : Int) := by omega
 have hll0 : (0 : Int) < (l.length : Int) := by omega
 have hln : 0 < l.length := by omega
 have hln1 : 1 < l.length := by omega
 obtain ⟨W0, hW0⟩ : ∃ W0, W0 = w.alloc (.cells #[.int .i64 2, .int .i64 n, .int .i64 a, .int .i64 b, .slice (some ad) l.length cl, iv] 25) := ⟨_, rfl⟩
 have hsz : W0.heap.size = w.heap.size + 1 := by rw [hW0]; simp
 have HW0 := hid hW0
 have g0 := (Blk.new w 25 #[.int .i64 2, .int .i64 n, .int .i64 a, .int .i64 b, .slice (some ad) l.length cl, iv]).cell 0
 rw [← hW0] at Hb0 Hbox Hr0 Hr1 Hc0 Hc1 g0
 rw [← hsz] at Hbox
 have Hn0 : Hid (∀ W, Below W0.heap.size W0 W → Calls Tryz.prog 170 #[u0, .int .i64 n, .int .i64 a] W fun e w' => e = .returned (.bool true) ∧ Below W0.heap.size W0 w') := fun W hW =>
  (B8_ n a u0 r0 W (Hr0.out.up hW) (by omega)).mono fun _ _ ⟨h2, h3⟩ => ⟨by rw [h2, h0], Z0_ hW (le_refl _) h3⟩
 have Hn1 : Hid (∀ W, Below W0.heap.size W0 W → Calls Tryz.prog 170 #[u1, .int .i64 a, .int .i64 65] W fun e w' => e = .returned (.bool true) ∧ Below W0.heap.size W0 w') := fun W hW =>
  (B8_ a 65 u1 r1 W (Hr1.out.up hW) (by omega)).mono fun _ _ ⟨h2, h3⟩ => ⟨by rw [h2, h1], Z0_ hW (le_refl _) h3⟩
 subst hu0 hu1
 clear hv hlk hr0 hr1 hc0 hc1 h0 h1 hl2 hsz Hr0 Hr1
 go_enter Tryz.func155, Tryz.ntmps155
 go_wp2
 rw [← HW0.out]
 clear hW0
 refine Z6_ W0.heap.size W0 (by kernel_rfl) (by kernel_rfl) (Below.refl _ _) ?_
 iterate 19 (first
   | go_big_quiet_step (with_reducible exact Hn0.out _)
   | go_big_quiet_step (with_reducible exact Hn1.out _)
   | (go_big_quiet_want; apply Exists.intro; refine ⟨fun W hW => ?_, ?_⟩; (· have q := Hbox.out W hW; have q1 := q 1; have q2 := q 2; have q4 := q 4; clear q; have r0 := Hc0.out W hW; have r1 := Hc1.out W hW; go_simp; first | exact rfl | exact ⟨rfl, rfl⟩); go_simp; go_big_quiet_on))
 refine wpQuiet_nil ?_
 intro w5 hB5
 go_wp2
 go_ret
 exact ⟨rfl, Hb0.out.trans (hB5.mono Hb0.out.size)⟩
theorem Xb8 (n a b : Int) (l : List (List Int)) (i : List Mat) (v : Value) (w : World) (hv : MatV w w.heap.size v (.mk 2 n a b l i)) (hl2 : l.length = 2) (hn : n ≤ 64) (ha : a ≤ 64) (h0 : numsB (l.getD 0 []) n a = true) (h1 : numsB (l.getD 1 []) a 65 = false) : Calls Tryz.prog 155 #[v] w (Says w (fitsB (.mk 2 n a b l i))) := by
 obtain ⟨lv, iv, rfl, ⟨Al, cl, rfl, _, hlk⟩, _⟩ := hv.open
 simp only [Mat.t, Mat.n, Mat.a, Mat.b, Mat.l] at *
 rw [show fitsB (.mk 2 n a b l i) = false from by show (numsB (l.getD 0 []) n a && numsB (l.getD 1 []) a 65) = false; rw [h0, h1]; rfl]
 obtain ⟨ad, u0, hA, hab, hc0, hr0⟩ := hlk 0 (by omega)
 subst hA
 obtain ⟨ad', u1, hA', _, hc1, hr1⟩ := hlk 1 (by omega)
 obtain rfl := Option.some.inj hA'
 rw [add_zero] at hc0
 generalize l.getD 0 [] = r0 at *
 generalize l.getD 1 [] = r1 at *
 obtain ⟨Ar, cr, hu0, _⟩ := id hr0
 obtain ⟨Ar1, cr1, hu1, _⟩ := id hr1
 have Hb0 : Hid (Below w.heap.size w (w.alloc (.cells #[.int .i64 2, .int .i64 n, .int .i64 a, .int .i64 b, .slice (some ad) l.length cl, iv] 25))) := (Below.refl _ w).alloc (le_refl _) _
 have Hbox := hid (G5_ (w := w) (t := 25) (cs := #[.int .i64 2, .int .i64 n, .int .i64 a, .int .i64 b, .slice (some ad) l.length cl, iv]))
 have Hr0 := hid (hr0.up Hb0.out)
 have Hr1 := hid (hr1.up Hb0.out)
 have Hc0 := hid (X7_ ((Hb0.out.cell (p := ad) hab).trans hc0) (Nat.lt_of_lt_of_le hab Hb0.out.size))
 rw [show ad.add 1 = (⟨ad.block, ad.off + 1, none⟩ : Addr) by simp [Addr.add]] at hc1
 have Hc1 := hid (X7_ ((Hb0.out.cell (p := ⟨ad.block, ad.off + 1, none⟩) hab).trans hc1) (show ad.block < _ from Nat.lt_of_lt_of_le hab Hb0.out.size))
 have hll : (1 : Int) < (l.length : Int) := by omega
 have hll0 : (0 : Int) < (l.length : Int) := by omega
 have hln : 0 < l.length := by omega
 have hln1 : 1 < l.length := by omega
 obtain ⟨W0, hW0⟩ : ∃ W0, W0 = w.alloc (.cells #[.int .i64 2, .int .i64 n, .int .i64 a, .int .i64 b, .slice (some ad) l.length cl, iv] 25) := ⟨_, rfl⟩
 have hsz : W0.heap.size = w.heap.size + 1 := by rw [hW0]; simp
 have HW0 := hid hW0
 have g0 := (Blk.new w 25 #[.int .i64 2, .int .i64 n, .int .i64 a, .int .i64 b, .slice (some ad) l.length cl, iv]).cell 0
 rw [← hW0] at Hb0 Hbox Hr0 Hr1 Hc0 Hc1 g0
 rw [← hsz] at Hbox
 have Hn0 : Hid (∀ W, Below W0.heap.size W0 W → Calls Tryz.prog 170 #[u0, .int .i64 n, .int .i64 a] W fun e w' => e = .returned (.bool true) ∧ Below W0.heap.size W0 w') := fun W hW =>
  (B8_ n a u0 r0 W (Hr0.out.up hW) (by omega)).mono fun _ _ ⟨h2, h3⟩ => ⟨by rw [h2, h0], Z0_ hW (le_refl _) h3⟩
 have Hn1 : Hid (∀ W, Below W0.heap.size W0 W → Calls Tryz.prog 170 #[u1, .int .i64 a, .int .i64 65] W fun e w' => e = .returned (.bool false) ∧ Below W0.heap.size W0 w') := fun W hW =>
  (B8_ a 65 u1 r1 W (Hr1.out.up hW) (by omega)).mono fun _ _ ⟨h2, h3⟩ => ⟨by rw [h2, h1], Z0_ hW (le_refl _) h3⟩
 subst hu0 hu1
 clear hv hlk hr0 hr1 hc0 hc1 h0 h1 hl2 hsz Hr0 Hr1
 go_enter Tryz.func155, Tryz.ntmps155
 go_wp2
 rw [← HW0.out]
 clear hW0
 refine Z6_ W0.heap.size W0 (by kernel_rfl) (by kernel_rfl) (Below.refl _ _) ?_
 iterate 19 (first
   | go_big_quiet_step (with_reducible exact Hn0.out _)
   | go_big_quiet_step (with_reducible exact Hn1.out _)
   | (go_big_quiet_want; apply Exists.intro; refine ⟨fun W hW => ?_, ?_⟩; (· have q := Hbox.out W hW; have q1 := q 1; have q2 := q 2; have q4 := q 4; clear q; have r0 := Hc0.out W hW; have r1 := Hc1.out W hW; go_simp; first | exact rfl | exact ⟨rfl, rfl⟩); go_simp; go_big_quiet_on))
 refine wpQuiet_nil ?_
 intro w5 hB5
 go_wp2
 go_ret
 exact ⟨rfl, Hb0.out.trans (hB5.mono Hb0.out.size)⟩
theorem Xr6 (n a b : Int) (l : List (List Int)) (i : List Mat) (v : Value) (w : World) (hv : MatV w w.heap.size v (.mk 2 n a b l i)) (hl2 : l.length = 2) (hn : n ≤ 64) (h0 : numsB (l.getD 0 []) n a = false) : Calls Tryz.prog 155 #[v] w (Says w (fitsB (.mk 2 n a b l i))) := by
 obtain ⟨lv, iv, rfl, ⟨Al, cl, rfl, _, hlk⟩, _⟩ := hv.open
 simp only [Mat.t, Mat.n, Mat.a, Mat.b, Mat.l] at *
 rw [show fitsB (.mk 2 n a b l i) = false from by show (numsB (l.getD 0 []) n a && numsB (l.getD 1 []) a 65) = false; rw [h0]; rfl]
 obtain ⟨ad, u0, hA, hab, hc0, hr0⟩ := hlk 0 (by omega)
 subst hA
 obtain ⟨ad', u1, hA', _, hc1, hr1⟩ := hlk 1 (by omega)
 obtain rfl := Option.some.inj hA'
 rw [add_zero] at hc0
 generalize l.getD 0 [] = r0 at *
 generalize l.getD 1 [] = r1 at *
 obtain ⟨Ar, cr, hu0, _⟩ := id hr0
 obtain ⟨Ar1, cr1, hu1, _⟩ := id hr1
 have Hb0 : Hid (Below w.heap.size w (w.alloc (.cells #[.int .i64 2, .int .i64 n, .int .i64 a, .int .i64 b, .slice (some ad) l.length cl, iv] 25))) := (Below.refl _ w).alloc (le_refl _) _
 have Hbox := hid (G5_ (w := w) (t := 25) (cs := #[.int .i64 2, .int .i64 n, .int .i64 a, .int .i64 b, .slice (some ad) l.length cl, iv]))
 have Hr0 := hid (hr0.up Hb0.out)
 have Hr1 := hid (hr1.up Hb0.out)
 have Hc0 := hid (X7_ ((Hb0.out.cell (p := ad) hab).trans hc0) (Nat.lt_of_lt_of_le hab Hb0.out.size))
 rw [show ad.add 1 = (⟨ad.block, ad.off + 1, none⟩ : Addr) by simp [Addr.add]] at hc1
 have Hc1 := hid (X7_ ((Hb0.out.cell (p := ⟨ad.block, ad.off + 1, none⟩) hab).trans hc1) (show ad.block < _ from Nat.lt_of_lt_of_le hab Hb0.out.size))
 have hll : (1 : Int) < (l.length : Int) := by omega
 have hll0 : (0 : Int) < (l.length : Int) := by omega
 have hln : 0 < l.length := by omega
 have hln1 : 1 < l.length := by omega
 obtain ⟨W0, hW0⟩ : ∃ W0, W0 = w.alloc (.cells #[.int .i64 2, .int .i64 n, .int .i64 a, .int .i64 b, .slice (some ad) l.length cl, iv] 25) := ⟨_, rfl⟩
 have hsz : W0.heap.size = w.heap.size + 1 := by rw [hW0]; simp
 have HW0 := hid hW0
 have g0 := (Blk.new w 25 #[.int .i64 2, .int .i64 n, .int .i64 a, .int .i64 b, .slice (some ad) l.length cl, iv]).cell 0
 rw [← hW0] at Hb0 Hbox Hr0 Hr1 Hc0 Hc1 g0
 rw [← hsz] at Hbox
 have Hn0 : Hid (∀ W, Below W0.heap.size W0 W → Calls Tryz.prog 170 #[u0, .int .i64 n, .int .i64 a] W fun e w' => e = .returned (.bool false) ∧ Below W0.heap.size W0 w') := fun W hW =>
  (B8_ n a u0 r0 W (Hr0.out.up hW) (by omega)).mono fun _ _ ⟨h2, h3⟩ => ⟨by rw [h2, h0], Z0_ hW (le_refl _) h3⟩
 subst hu0 hu1
 clear hv hlk hr0 hr1 hc0 hc1 h0 hl2 hsz Hr0 Hr1
 go_enter Tryz.func155, Tryz.ntmps155
 go_wp2
 rw [← HW0.out]
 clear hW0
 refine Z6_ W0.heap.size W0 (by kernel_rfl) (by kernel_rfl) (Below.refl _ _) ?_
 iterate 19 (first
   | go_big_quiet_step (with_reducible exact Hn0.out _)
   | (go_big_quiet_want; apply Exists.intro; refine ⟨fun W hW => ?_, ?_⟩; (· have q := Hbox.out W hW; have q1 := q 1; have q2 := q 2; have q4 := q 4; clear q; have r0 := Hc0.out W hW; have r1 := Hc1.out W hW; go_simp; first | exact rfl | exact ⟨rfl, rfl⟩); go_simp; go_big_quiet_on))
 refine wpQuiet_nil ?_
 intro w5 hB5
 go_wp2
 go_ret
 exact ⟨rfl, Hb0.out.trans (hB5.mono Hb0.out.size)⟩
theorem Vv5 (n a b : Int) (l : List (List Int)) (i : List Mat) (v : Value) (w : World) (hv : MatV w w.heap.size v (.mk 2 n a b l i)) (hl2 : l.length = 2) (hn : n ≤ 64) (ha : a ≤ 64) : Calls Tryz.prog 155 #[v] w (Says w (fitsB (.mk 2 n a b l i))) := by
 rcases h0 : numsB (l.getD 0 []) n a with _ | _
 ·exact Xr6 n a b l i v w hv hl2 hn h0
 ·rcases h1 : numsB (l.getD 1 []) a 65 with _ | _
  ·exact Xb8 n a b l i v w hv hl2 hn ha h0 h1
  ·exact Xb7 n a b l i v w hv hl2 hn ha h0 h1
open Go.RowKit
theorem Xr7 (n a b : Int) (l : List (List Int)) (i : List Mat) (v : Value) (w : World) (hv : MatV w w.heap.size v (.mk 5 n a b l i)) (hs : Sml (.mk 5 n a b l i)) (hl1 : 0 < l.length) (hi1 : 0 < i.length) (hp : partB (.mk 5 n a b l i) = true) : Calls Tryz.prog 155 #[v] w (Says w (fitsB (.mk 5 n a b l i))) := by
 have hrow : (l.getD 0 []).length ≤ 1000 := sml_r hs (Y1_ l 0 [] hl1)
 obtain ⟨lv, iv, hve, hl2, hi2⟩ := hv.open
 rw [show fitsB (.mk 5 n a b l i) = decide (n = ((l.getD 0 []).length : Int)) from by show (partB (.mk 5 n a b l i) && decide (n = ((l.getD 0 []).length : Int))) = _; rw [hp]; rfl]
 have Hb0 : Hid (Below w.heap.size w (w.alloc (.cells #[.int .i64 5, .int .i64 n, .int .i64 a, .int .i64 b, lv, iv] 25))) := (Below.refl _ w).alloc (le_refl _) _
 have Hv := hid (hv.up Hb0.out)
 obtain ⟨Al, cl, rfl, _, hlk⟩ := hl2
 obtain ⟨Ai, ci, rfl, _, hik⟩ := hi2
 obtain rfl := hve
 simp only [Mat.t, Mat.n, Mat.a, Mat.b, Mat.l, Mat.i] at *
 obtain ⟨ad, u0, hA, hab, hc0, hr0⟩ := hlk 0 hl1
 subst hA
 obtain ⟨ai, ui, hA, hab2, hsix, hmv⟩ := hik 0 hi1
 subst hA
 rw [add_zero] at hc0
 rw [show (0 : Nat) * 6 = 0 from rfl, add_zero] at hsix
 obtain ⟨lv2, iv2, hui, _, _⟩ := hmv.open
 obtain ⟨x0, x1, x2, x3, x4, x5, hui2, s0, s1, _⟩ := hsix
 rw [hui] at hui2
 injection hui2 with hui2
 injection hui2 with hui2
 injection hui2 with _ hui2
 injection hui2 with hx1 _
 subst hx1
 generalize l.getD 0 [] = r at *
 generalize i.getD 0 default = x at *
 obtain ⟨Ar, cr, hu0, _⟩ := id hr0
 have Hbox := hid (G5_ (w := w) (t := 25) (cs := #[.int .i64 5, .int .i64 n, .int .i64 a, .int .i64 b, .slice (some ad) l.length cl, .slice (some ai) i.length ci]))
 have Hc0 := hid (X7_ ((Hb0.out.cell (p := ad) hab).trans hc0) (Nat.lt_of_lt_of_le hab Hb0.out.size))
 have Hc1 := hid (X7_ ((Hb0.out.cell (p := ⟨ai.block, ai.off + 1, none⟩) hab2).trans s1) (show ai.block < _ from Nat.lt_of_lt_of_le hab2 Hb0.out.size))
 have hll0 : (0 : Int) < (l.length : Int) := by omega
 have hii0 : (0 : Int) < (i.length : Int) := by omega
 have hrl : (r.length : Int) ≤ 1000 := by omega
 obtain ⟨W0, hW0⟩ : ∃ W0, W0 = w.alloc (.cells #[.int .i64 5, .int .i64 n, .int .i64 a, .int .i64 b, .slice (some ad) l.length cl, .slice (some ai) i.length ci] 25) := ⟨_, rfl⟩
 have hsz : W0.heap.size = w.heap.size + 1 := by rw [hW0]; simp
 have HW0 := hid hW0
 have g0 := (Blk.new w 25 #[.int .i64 5, .int .i64 n, .int .i64 a, .int .i64 b, .slice (some ad) l.length cl, .slice (some ai) i.length ci]).cell 0
 rw [← hW0] at Hb0 Hbox Hv Hc0 Hc1 g0
 rw [← hsz] at Hbox
 have Hp : Hid (∀ W, Below W0.heap.size W0 W → Calls Tryz.prog 171 #[.agg #[.int .i64 5, .int .i64 n, .int .i64 a, .int .i64 b, .slice (some ad) l.length cl, .slice (some ai) i.length ci]] W fun e w' => e = .returned (.bool true) ∧ Below W0.heap.size W0 w') := fun W hW =>
  (P3_ (.mk 5 n a b l i) _ W (Hv.out.up hW) hs hl1 hi1).mono fun _ _ ⟨h2, h3⟩ => ⟨by rw [h2, hp], Z0_ hW (le_refl _) h3⟩
 subst hu0
 clear hv hlk hik hr0 hc0 hp hsz Hv s0 s1 hmv hui hrow
 go_enter Tryz.func155, Tryz.ntmps155
 go_wp2
 rw [← HW0.out]
 clear hW0
 refine Z6_ W0.heap.size W0 (by kernel_rfl) (by kernel_rfl) (Below.refl _ _) ?_
 iterate 13 (first
   | go_big_quiet_step (with_reducible exact Hp.out _)
   | (go_big_quiet_want; apply Exists.intro; refine ⟨fun W hW => ?_, ?_⟩; (· have q := Hbox.out W hW; have q0 := q 0; have q1 := q 1; have q2 := q 2; have q3 := q 3; have q4 := q 4; have q5 := q 5; clear q; have r0 := Hc0.out W hW; have r1 := Hc1.out W hW; go_simp; first | exact rfl | exact ⟨rfl, rfl⟩); go_simp; go_big_quiet_on))
 refine wpQuiet_nil ?_
 intro w5 hB5
 go_wp2
 go_ret
 exact ⟨rfl, Hb0.out.trans (hB5.mono Hb0.out.size)⟩
theorem Xr8 (n a b : Int) (l : List (List Int)) (i : List Mat) (v : Value) (w : World) (hv : MatV w w.heap.size v (.mk 5 n a b l i)) (hs : Sml (.mk 5 n a b l i)) (hl1 : 0 < l.length) (hi1 : 0 < i.length) (hp : partB (.mk 5 n a b l i) = false) : Calls Tryz.prog 155 #[v] w (Says w (fitsB (.mk 5 n a b l i))) := by
 have hrow : (l.getD 0 []).length ≤ 1000 := sml_r hs (Y1_ l 0 [] hl1)
 obtain ⟨lv, iv, hve, hl2, hi2⟩ := hv.open
 rw [show fitsB (.mk 5 n a b l i) = false from by show (partB (.mk 5 n a b l i) && decide (n = ((l.getD 0 []).length : Int))) = _; rw [hp]; rfl]
 have Hb0 : Hid (Below w.heap.size w (w.alloc (.cells #[.int .i64 5, .int .i64 n, .int .i64 a, .int .i64 b, lv, iv] 25))) := (Below.refl _ w).alloc (le_refl _) _
 have Hv := hid (hv.up Hb0.out)
 obtain ⟨Al, cl, rfl, _, hlk⟩ := hl2
 obtain ⟨Ai, ci, rfl, _, hik⟩ := hi2
 obtain rfl := hve
 simp only [Mat.t, Mat.n, Mat.a, Mat.b, Mat.l, Mat.i] at *
 obtain ⟨ad, u0, hA, hab, hc0, hr0⟩ := hlk 0 hl1
 subst hA
 obtain ⟨ai, ui, hA, hab2, hsix, hmv⟩ := hik 0 hi1
 subst hA
 rw [add_zero] at hc0
 rw [show (0 : Nat) * 6 = 0 from rfl, add_zero] at hsix
 obtain ⟨lv2, iv2, hui, _, _⟩ := hmv.open
 obtain ⟨x0, x1, x2, x3, x4, x5, hui2, s0, s1, _⟩ := hsix
 rw [hui] at hui2
 injection hui2 with hui2
 injection hui2 with hui2
 injection hui2 with _ hui2
 injection hui2 with hx1 _
 subst hx1
 generalize l.getD 0 [] = r at *
 generalize i.getD 0 default = x at *
 obtain ⟨Ar, cr, hu0, _⟩ := id hr0
 have Hbox := hid (G5_ (w := w) (t := 25) (cs := #[.int .i64 5, .int .i64 n, .int .i64 a, .int .i64 b, .slice (some ad) l.length cl, .slice (some ai) i.length ci]))
 have Hc0 := hid (X7_ ((Hb0.out.cell (p := ad) hab).trans hc0) (Nat.lt_of_lt_of_le hab Hb0.out.size))
 have Hc1 := hid (X7_ ((Hb0.out.cell (p := ⟨ai.block, ai.off + 1, none⟩) hab2).trans s1) (show ai.block < _ from Nat.lt_of_lt_of_le hab2 Hb0.out.size))
 have hll0 : (0 : Int) < (l.length : Int) := by omega
 have hii0 : (0 : Int) < (i.length : Int) := by omega
 have hrl : (r.length : Int) ≤ 1000 := by omega
 obtain ⟨W0, hW0⟩ : ∃ W0, W0 = w.alloc (.cells #[.int .i64 5, .int .i64 n, .int .i64 a, .int .i64 b, .slice (some ad) l.length cl, .slice (some ai) i.length ci] 25) := ⟨_, rfl⟩
 have hsz : W0.heap.size = w.heap.size + 1 := by rw [hW0]; simp
 have HW0 := hid hW0
 have g0 := (Blk.new w 25 #[.int .i64 5, .int .i64 n, .int .i64 a, .int .i64 b, .slice (some ad) l.length cl, .slice (some ai) i.length ci]).cell 0
 rw [← hW0] at Hb0 Hbox Hv Hc0 Hc1 g0
 rw [← hsz] at Hbox
 have Hp : Hid (∀ W, Below W0.heap.size W0 W → Calls Tryz.prog 171 #[.agg #[.int .i64 5, .int .i64 n, .int .i64 a, .int .i64 b, .slice (some ad) l.length cl, .slice (some ai) i.length ci]] W fun e w' => e = .returned (.bool false) ∧ Below W0.heap.size W0 w') := fun W hW =>
  (P3_ (.mk 5 n a b l i) _ W (Hv.out.up hW) hs hl1 hi1).mono fun _ _ ⟨h2, h3⟩ => ⟨by rw [h2, hp], Z0_ hW (le_refl _) h3⟩
 subst hu0
 clear hv hlk hik hr0 hc0 hp hsz Hv s0 s1 hmv hui hrow
 go_enter Tryz.func155, Tryz.ntmps155
 go_wp2
 rw [← HW0.out]
 clear hW0
 refine Z6_ W0.heap.size W0 (by kernel_rfl) (by kernel_rfl) (Below.refl _ _) ?_
 iterate 13 (first
   | go_big_quiet_step (with_reducible exact Hp.out _)
   | (go_big_quiet_want; apply Exists.intro; refine ⟨fun W hW => ?_, ?_⟩; (· have q := Hbox.out W hW; have q0 := q 0; have q1 := q 1; have q2 := q 2; have q3 := q 3; have q4 := q 4; have q5 := q 5; clear q; have r0 := Hc0.out W hW; have r1 := Hc1.out W hW; go_simp; first | exact rfl | exact ⟨rfl, rfl⟩); go_simp; go_big_quiet_on))
 refine wpQuiet_nil ?_
 intro w5 hB5
 go_wp2
 go_ret
 exact ⟨rfl, Hb0.out.trans (hB5.mono Hb0.out.size)⟩
theorem Vv6 (n a b : Int) (l : List (List Int)) (i : List Mat) (v : Value) (w : World) (hv : MatV w w.heap.size v (.mk 5 n a b l i)) (hs : Sml (.mk 5 n a b l i)) (hl1 : 0 < l.length) (hi1 : 0 < i.length) : Calls Tryz.prog 155 #[v] w (Says w (fitsB (.mk 5 n a b l i))) := by
 rcases h0 : partB (.mk 5 n a b l i) with _ | _
 ·exact Xr8 n a b l i v w hv hs hl1 hi1 h0
 ·exact Xr7 n a b l i v w hv hs hl1 hi1 h0
theorem Xr9 (n a b : Int) (l : List (List Int)) (i : List Mat) (v : Value) (w : World) (hv : MatV w w.heap.size v (.mk 6 n a b l i)) (hs : Sml (.mk 6 n a b l i)) (hl1 : 0 < l.length) (hi1 : 0 < i.length) (hp : partB (.mk 6 n a b l i) = true) : Calls Tryz.prog 155 #[v] w (Says w (fitsB (.mk 6 n a b l i))) := by
 have hrow : (l.getD 0 []).length ≤ 1000 := sml_r hs (Y1_ l 0 [] hl1)
 obtain ⟨lv, iv, hve, hl2, hi2⟩ := hv.open
 rw [show fitsB (.mk 6 n a b l i) = decide (IntKind.i64.wrap (n + ((l.getD 0 []).length : Int)) = (i.getD 0 default).n) from by show (partB (.mk 6 n a b l i) && decide (IntKind.i64.wrap (n + ((l.getD 0 []).length : Int)) = (i.getD 0 default).n)) = _; rw [hp]; rfl]
 have Hb0 : Hid (Below w.heap.size w (w.alloc (.cells #[.int .i64 6, .int .i64 n, .int .i64 a, .int .i64 b, lv, iv] 25))) := (Below.refl _ w).alloc (le_refl _) _
 have Hv := hid (hv.up Hb0.out)
 obtain ⟨Al, cl, rfl, _, hlk⟩ := hl2
 obtain ⟨Ai, ci, rfl, _, hik⟩ := hi2
 obtain rfl := hve
 simp only [Mat.t, Mat.n, Mat.a, Mat.b, Mat.l, Mat.i] at *
 obtain ⟨ad, u0, hA, hab, hc0, hr0⟩ := hlk 0 hl1
 subst hA
 obtain ⟨ai, ui, hA, hab2, hsix, hmv⟩ := hik 0 hi1
 subst hA
 rw [add_zero] at hc0
 rw [show (0 : Nat) * 6 = 0 from rfl, add_zero] at hsix
 obtain ⟨lv2, iv2, hui, _, _⟩ := hmv.open
 obtain ⟨x0, x1, x2, x3, x4, x5, hui2, s0, s1, _⟩ := hsix
 rw [hui] at hui2
 injection hui2 with hui2
 injection hui2 with hui2
 injection hui2 with _ hui2
 injection hui2 with hx1 _
 subst hx1
 generalize l.getD 0 [] = r at *
 generalize i.getD 0 default = x at *
 obtain ⟨Ar, cr, hu0, _⟩ := id hr0
 have Hbox := hid (G5_ (w := w) (t := 25) (cs := #[.int .i64 6, .int .i64 n, .int .i64 a, .int .i64 b, .slice (some ad) l.length cl, .slice (some ai) i.length ci]))
 have Hc0 := hid (X7_ ((Hb0.out.cell (p := ad) hab).trans hc0) (Nat.lt_of_lt_of_le hab Hb0.out.size))
 have Hc1 := hid (X7_ ((Hb0.out.cell (p := ⟨ai.block, ai.off + 1, none⟩) hab2).trans s1) (show ai.block < _ from Nat.lt_of_lt_of_le hab2 Hb0.out.size))
 have hll0 : (0 : Int) < (l.length : Int) := by omega
 have hii0 : (0 : Int) < (i.length : Int) := by omega
 have hrl : (r.length : Int) ≤ 1000 := by omega
 obtain ⟨W0, hW0⟩ : ∃ W0, W0 = w.alloc (.cells #[.int .i64 6, .int .i64 n, .int .i64 a, .int .i64 b, .slice (some ad) l.length cl, .slice (some ai) i.length ci] 25) := ⟨_, rfl⟩
 have hsz : W0.heap.size = w.heap.size + 1 := by rw [hW0]; simp
 have HW0 := hid hW0
 have g0 := (Blk.new w 25 #[.int .i64 6, .int .i64 n, .int .i64 a, .int .i64 b, .slice (some ad) l.length cl, .slice (some ai) i.length ci]).cell 0
 rw [← hW0] at Hb0 Hbox Hv Hc0 Hc1 g0
 rw [← hsz] at Hbox
 have Hp : Hid (∀ W, Below W0.heap.size W0 W → Calls Tryz.prog 171 #[.agg #[.int .i64 6, .int .i64 n, .int .i64 a, .int .i64 b, .slice (some ad) l.length cl, .slice (some ai) i.length ci]] W fun e w' => e = .returned (.bool true) ∧ Below W0.heap.size W0 w') := fun W hW =>
  (P3_ (.mk 6 n a b l i) _ W (Hv.out.up hW) hs hl1 hi1).mono fun _ _ ⟨h2, h3⟩ => ⟨by rw [h2, hp], Z0_ hW (le_refl _) h3⟩
 subst hu0
 clear hv hlk hik hr0 hc0 hp hsz Hv s0 s1 hmv hui hrow
 go_enter Tryz.func155, Tryz.ntmps155
 go_wp2
 rw [← HW0.out]
 clear hW0
 refine Z6_ W0.heap.size W0 (by kernel_rfl) (by kernel_rfl) (Below.refl _ _) ?_
 iterate 19 (first
   | go_big_quiet_step (with_reducible exact Hp.out _)
   | (go_big_quiet_want; apply Exists.intro; refine ⟨fun W hW => ?_, ?_⟩; (· have q := Hbox.out W hW; have q0 := q 0; have q1 := q 1; have q2 := q 2; have q3 := q 3; have q4 := q 4; have q5 := q 5; clear q; have r0 := Hc0.out W hW; have r1 := Hc1.out W hW; go_simp; first | exact rfl | exact ⟨rfl, rfl⟩); go_simp; go_big_quiet_on))
 refine wpQuiet_nil ?_
 intro w5 hB5
 go_wp2
 go_ret
 exact ⟨by rw [Yp5]; rfl, Hb0.out.trans (hB5.mono Hb0.out.size)⟩
theorem Xs0 (n a b : Int) (l : List (List Int)) (i : List Mat) (v : Value) (w : World) (hv : MatV w w.heap.size v (.mk 6 n a b l i)) (hs : Sml (.mk 6 n a b l i)) (hl1 : 0 < l.length) (hi1 : 0 < i.length) (hp : partB (.mk 6 n a b l i) = false) : Calls Tryz.prog 155 #[v] w (Says w (fitsB (.mk 6 n a b l i))) := by
 have hrow : (l.getD 0 []).length ≤ 1000 := sml_r hs (Y1_ l 0 [] hl1)
 obtain ⟨lv, iv, hve, hl2, hi2⟩ := hv.open
 rw [show fitsB (.mk 6 n a b l i) = false from by show (partB (.mk 6 n a b l i) && decide (IntKind.i64.wrap (n + ((l.getD 0 []).length : Int)) = (i.getD 0 default).n)) = _; rw [hp]; rfl]
 have Hb0 : Hid (Below w.heap.size w (w.alloc (.cells #[.int .i64 6, .int .i64 n, .int .i64 a, .int .i64 b, lv, iv] 25))) := (Below.refl _ w).alloc (le_refl _) _
 have Hv := hid (hv.up Hb0.out)
 obtain ⟨Al, cl, rfl, _, hlk⟩ := hl2
 obtain ⟨Ai, ci, rfl, _, hik⟩ := hi2
 obtain rfl := hve
 simp only [Mat.t, Mat.n, Mat.a, Mat.b, Mat.l, Mat.i] at *
 obtain ⟨ad, u0, hA, hab, hc0, hr0⟩ := hlk 0 hl1
 subst hA
 obtain ⟨ai, ui, hA, hab2, hsix, hmv⟩ := hik 0 hi1
 subst hA
 rw [add_zero] at hc0
 rw [show (0 : Nat) * 6 = 0 from rfl, add_zero] at hsix
 obtain ⟨lv2, iv2, hui, _, _⟩ := hmv.open
 obtain ⟨x0, x1, x2, x3, x4, x5, hui2, s0, s1, _⟩ := hsix
 rw [hui] at hui2
 injection hui2 with hui2
 injection hui2 with hui2
 injection hui2 with _ hui2
 injection hui2 with hx1 _
 subst hx1
 generalize l.getD 0 [] = r at *
 generalize i.getD 0 default = x at *
 obtain ⟨Ar, cr, hu0, _⟩ := id hr0
 have Hbox := hid (G5_ (w := w) (t := 25) (cs := #[.int .i64 6, .int .i64 n, .int .i64 a, .int .i64 b, .slice (some ad) l.length cl, .slice (some ai) i.length ci]))
 have Hc0 := hid (X7_ ((Hb0.out.cell (p := ad) hab).trans hc0) (Nat.lt_of_lt_of_le hab Hb0.out.size))
 have Hc1 := hid (X7_ ((Hb0.out.cell (p := ⟨ai.block, ai.off + 1, none⟩) hab2).trans s1) (show ai.block < _ from Nat.lt_of_lt_of_le hab2 Hb0.out.size))
 have hll0 : (0 : Int) < (l.length : Int) := by omega
 have hii0 : (0 : Int) < (i.length : Int) := by omega
 have hrl : (r.length : Int) ≤ 1000 := by omega
 obtain ⟨W0, hW0⟩ : ∃ W0, W0 = w.alloc (.cells #[.int .i64 6, .int .i64 n, .int .i64 a, .int .i64 b, .slice (some ad) l.length cl, .slice (some ai) i.length ci] 25) := ⟨_, rfl⟩
 have hsz : W0.heap.size = w.heap.size + 1 := by rw [hW0]; simp
 have HW0 := hid hW0
 have g0 := (Blk.new w 25 #[.int .i64 6, .int .i64 n, .int .i64 a, .int .i64 b, .slice (some ad) l.length cl, .slice (some ai) i.length ci]).cell 0
 rw [← hW0] at Hb0 Hbox Hv Hc0 Hc1 g0
 rw [← hsz] at Hbox
 have Hp : Hid (∀ W, Below W0.heap.size W0 W → Calls Tryz.prog 171 #[.agg #[.int .i64 6, .int .i64 n, .int .i64 a, .int .i64 b, .slice (some ad) l.length cl, .slice (some ai) i.length ci]] W fun e w' => e = .returned (.bool false) ∧ Below W0.heap.size W0 w') := fun W hW =>
  (P3_ (.mk 6 n a b l i) _ W (Hv.out.up hW) hs hl1 hi1).mono fun _ _ ⟨h2, h3⟩ => ⟨by rw [h2, hp], Z0_ hW (le_refl _) h3⟩
 subst hu0
 clear hv hlk hik hr0 hc0 hp hsz Hv s0 s1 hmv hui hrow
 go_enter Tryz.func155, Tryz.ntmps155
 go_wp2
 rw [← HW0.out]
 clear hW0
 refine Z6_ W0.heap.size W0 (by kernel_rfl) (by kernel_rfl) (Below.refl _ _) ?_
 iterate 19 (first
   | go_big_quiet_step (with_reducible exact Hp.out _)
   | (go_big_quiet_want; apply Exists.intro; refine ⟨fun W hW => ?_, ?_⟩; (· have q := Hbox.out W hW; have q0 := q 0; have q1 := q 1; have q2 := q 2; have q3 := q 3; have q4 := q 4; have q5 := q 5; clear q; have r0 := Hc0.out W hW; have r1 := Hc1.out W hW; go_simp; first | exact rfl | exact ⟨rfl, rfl⟩); go_simp; go_big_quiet_on))
 refine wpQuiet_nil ?_
 intro w5 hB5
 go_wp2
 go_ret
 exact ⟨rfl, Hb0.out.trans (hB5.mono Hb0.out.size)⟩
theorem Vv7 (n a b : Int) (l : List (List Int)) (i : List Mat) (v : Value) (w : World) (hv : MatV w w.heap.size v (.mk 6 n a b l i)) (hs : Sml (.mk 6 n a b l i)) (hl1 : 0 < l.length) (hi1 : 0 < i.length) : Calls Tryz.prog 155 #[v] w (Says w (fitsB (.mk 6 n a b l i))) := by
 rcases h0 : partB (.mk 6 n a b l i) with _ | _
 ·exact Xs0 n a b l i v w hv hs hl1 hi1 h0
 ·exact Xr9 n a b l i v w hv hs hl1 hi1 h0
end Wp
end Go.Proofs.YtgadbnbhgpehjaaGreatDoor
