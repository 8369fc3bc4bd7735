/- The document's plain, walked. -/
import Derived.Test.YtgadbnbhgpehjaaGreatDoorQTA
import Derived.Test.YtgadbnbhgpehjaaGreatDoorQWalkC
set_option maxHeartbeats 8000000
set_option maxRecDepth 100000
open Go.Lib (hid)
open Nat (le_refl)
namespace Go.Proofs.YtgadbnbhgpehjaaGreatDoor
open Go.RowKit
namespace Wp
def D6_ (m : Mat) : Bool :=
 if 0 < m.i.length ∨ (m.t ≠ 4 ∧ m.b ≠ 0) then false
 else if m.t = 0 then decide (m.a ≤ m.n) && decide (m.l.length = 0)
 else if m.t = 1 then !m.l.any (edgeB m.a) && decide (1 ≤ m.a) && decide ((m.l.length : Int) = m.n)
 else if m.t = 2 then decide (m.l.length = 2) && numsB (row m 0) m.n m.a && numsB (row m 1) m.a 65
 else if m.t = 3 then decide ((m.l.length : Int) = m.n) && mayM m.a m.l
 else if m.t = 4 then decide ((m.l.length : Int) = m.n) && elimB m.b m.a m.l else false
theorem Ys3 {m : Mat} (h2 : 0 ≤ m.n ∧ m.n ≤ 64 ∧ 0 ≤ m.a ∧ m.a ≤ 64) (hn : ¬ nest m.t) : D6_ m = decide (bad m = 0) := by
 have e : (bad m = 0) ↔ (0 ≤ m.t ∧ m.t < 10) ∧ Z5_ (form m.t) m = true ∧ fitsB m = true := by
  constructor
  ·intro h; have := X0_ h; exact ⟨this.1, this.2.2⟩
  ·rintro ⟨h1, h3, h4⟩; exact Xh5 h1 h2 h3 h4
 rw [Bool.eq_iff_iff, decide_eq_true_iff, e, takes_iff]
 obtain ⟨t, n, a, b, l, i⟩ := m
 unfold nest at hn
 unfold D6_
 simp only [Mat.t, Mat.n, Mat.a, Mat.b, Mat.l, Mat.i] at *
 by_cases t0 : t = 0
 ·subst t0; simp [form, fitsB, Mat.t, Mat.n, Mat.a]; grind
 by_cases t1 : t = 1
 ·subst t1; simp [form, fitsB, Mat.t, Mat.a, Mat.l]; grind
 by_cases t2 : t = 2
 ·subst t2; simp [form, fitsB, Mat.t, Mat.n, Mat.a]; grind
 by_cases t3 : t = 3
 ·subst t3; simp [form, fitsB, Mat.t, Mat.a, Mat.l]; grind
 by_cases t4 : t = 4
 ·subst t4; simp [form, fitsB, Mat.t, Mat.a, Mat.b, Mat.l]; grind
 ·simp [t0, t1, t2, t3, t4]; omega
theorem Zn3 (m : Mat) (v : Value) (w : World) (hv : MatV w w.heap.size v m) (h : 0 < m.i.length) : Calls Tryz.prog 101 #[v] w (Says w false) := by
 obtain ⟨lv, iv, rfl, _, ⟨A, c, rfl, _⟩⟩ := hv.open
 have Hb0 := hid (Z1_ w m lv (.slice A m.i.length c))
 have g := (Z3_ w m lv (.slice A m.i.length c)).cell
 have g0 := g 0
 have g3 := g 3
 have g5 := g 5
 have hI : (0 : Int) < (m.i.length : Int) := by omega
 clear hv g
 unfold boxed at *
 go_enter Tryz.func101, Tryz.ntmps101
 go_wp2
 go_ret
 exact ⟨rfl, Hb0.out⟩
theorem Xc7 (m : Mat) (v : Value) (w : World) (hv : MatV w w.heap.size v m) (h : m.i.length = 0) (h4 : m.t ≠ 4) (hb : m.b ≠ 0) : Calls Tryz.prog 101 #[v] w (Says w false) := by
 obtain ⟨lv, iv, rfl, _, ⟨A, c, rfl, _⟩⟩ := hv.open
 rw [h]
 have Hb0 := hid (Z1_ w m lv (.slice A 0 c))
 have g := (Z3_ w m lv (.slice A 0 c)).cell
 have g0 := g 0
 have g3 := g 3
 have g5 := g 5
 have d4 : (m.t != 4) = true := by simpa using h4
 have db : (m.b != 0) = true := by simpa using hb
 clear hv g
 unfold boxed at *
 go_enter Tryz.func101, Tryz.ntmps101
 go_wp2
 go_ret
 exact ⟨rfl, Hb0.out⟩
theorem Xc8 (n a : Int) (l : List (List Int)) (v : Value) (w : World) (hv : MatV w w.heap.size v (.mk 0 n a 0 l [])) : Calls Tryz.prog 101 #[v] w (Says w (decide (a ≤ n) && decide (l.length = 0))) := by
 obtain ⟨lv, iv, rfl, ⟨Al, cl, rfl, _⟩, ⟨A, c, rfl, _⟩⟩ := hv.open
 simp only [Mat.t, Mat.n, Mat.a, Mat.b, Mat.l, Mat.i, List.length_nil]
 have Hb0 : Hid (Below w.heap.size w (w.alloc (.cells #[.int .i64 0, .int .i64 n, .int .i64 a, .int .i64 0, .slice Al l.length cl, .slice A 0 c] 25))) := (Below.refl _ w).alloc (le_refl _) _
 clear hv
 by_cases h1 : a ≤ n
 ·rw [decide_eq_true h1, Bool.true_and]
  go_enter Tryz.func101, Tryz.ntmps101
  go_wp2
  go_ret
  refine ⟨?_, Hb0.out⟩
  by_cases h0 : l.length = 0 <;> simp [h0]
 ·rw [decide_eq_false h1, Bool.false_and]
  have h1' : n < a := by omega
  go_enter Tryz.func101, Tryz.ntmps101
  go_wp2
  go_ret
  exact ⟨rfl, Hb0.out⟩
theorem Xc9 (n a : Int) (l : List (List Int)) (v : Value) (w : World) (hv : MatV w w.heap.size v (.mk 3 n a 0 l [])) : Calls Tryz.prog 101 #[v] w (Says w (decide ((l.length : Int) = n) && mayM a l)) := by
 obtain ⟨lv, iv, rfl, hl, ⟨A, c, rfl, _⟩⟩ := hv.open
 simp only [Mat.t, Mat.n, Mat.a, Mat.b, Mat.l, Mat.i, List.length_nil] at *
 have Hb0 : Hid (Below w.heap.size w (w.alloc (.cells #[.int .i64 3, .int .i64 n, .int .i64 a, .int .i64 0, lv, .slice A 0 c] 25))) := (Below.refl _ w).alloc (le_refl _) _
 have Hl := hid (hl.up Hb0.out)
 generalize hc : mayM a l = r
 have Hcc : Hid (mayM a l = r) := hc
 obtain ⟨Al, cl, rfl, _⟩ := hl
 clear hv hc
 by_cases h1 : (l.length : Int) = n
 ·rw [decide_eq_true h1, Bool.true_and]
  have h1' : ((l.length : Int) == n) = true := by simp [h1]
  go_enter Tryz.func101, Tryz.ntmps101
  go_wp2_with fail
  refine (Ys2 a _ l _ Hl.out).mono ?_
  rintro e w1 ⟨rfl, hb1⟩
  rw [Hcc.out]
  have Hb1 := hid (Z0_ Hb0.out (le_refl _) hb1)
  clear hb1
  go_wp2
  go_ret
  exact ⟨rfl, Hb1.out⟩
 ·rw [decide_eq_false h1, Bool.false_and]
  have h1' : ((l.length : Int) == n) = false := by simpa using h1
  go_enter Tryz.func101, Tryz.ntmps101
  go_wp2
  go_ret
  exact ⟨rfl, Hb0.out⟩
theorem Xd0 (n a b : Int) (l : List (List Int)) (v : Value) (w : World) (hv : MatV w w.heap.size v (.mk 4 n a b l [])) : Calls Tryz.prog 101 #[v] w (Says w (decide ((l.length : Int) = n) && elimB b a l)) := by
 obtain ⟨lv, iv, rfl, hl, ⟨A, c, rfl, _⟩⟩ := hv.open
 simp only [Mat.t, Mat.n, Mat.a, Mat.b, Mat.l, Mat.i, List.length_nil] at *
 have Hb0 : Hid (Below w.heap.size w (w.alloc (.cells #[.int .i64 4, .int .i64 n, .int .i64 a, .int .i64 b, lv, .slice A 0 c] 25))) := (Below.refl _ w).alloc (le_refl _) _
 have Hl := hid (hl.up Hb0.out)
 generalize hc : elimB b a l = r
 have Hcc : Hid (elimB b a l = r) := hc
 obtain ⟨Al, cl, rfl, _⟩ := hl
 clear hv hc
 by_cases h1 : (l.length : Int) = n
 ·rw [decide_eq_true h1, Bool.true_and]
  have h1' : ((l.length : Int) == n) = true := by simp [h1]
  go_enter Tryz.func101, Tryz.ntmps101
  go_wp2_with fail
  refine (Zj3 b a _ l _ Hl.out).mono ?_
  rintro e w1 ⟨rfl, hb1⟩
  rw [Hcc.out]
  have Hb1 := hid (Z0_ Hb0.out (le_refl _) hb1)
  clear hb1
  go_wp2
  go_ret
  exact ⟨rfl, Hb1.out⟩
 ·rw [decide_eq_false h1, Bool.false_and]
  have h1' : ((l.length : Int) == n) = false := by simpa using h1
  go_enter Tryz.func101, Tryz.ntmps101
  go_wp2
  go_ret
  exact ⟨rfl, Hb0.out⟩
theorem Yg1 (t n a : Int) (l : List (List Int)) (v : Value) (w : World) (h : t < 0 ∨ 4 < t) (hv : MatV w w.heap.size v (.mk t n a 0 l [])) : Calls Tryz.prog 101 #[v] w (Says w false) := by
 obtain ⟨lv, iv, rfl, _, ⟨A, c, rfl, _⟩⟩ := hv.open
 simp only [Mat.t, Mat.n, Mat.a, Mat.b, Mat.l, Mat.i, List.length_nil] at *
 have Hb0 : Hid (Below w.heap.size w (w.alloc (.cells #[.int .i64 t, .int .i64 n, .int .i64 a, .int .i64 0, lv, .slice A 0 c] 25))) := (Below.refl _ w).alloc (le_refl _) _
 have d0 : (t == 0) = false := by simp; omega
 have d1 : (t == 1) = false := by simp; omega
 have d2 : (t == 2) = false := by simp; omega
 have d3 : (t == 3) = false := by simp; omega
 have d4 : (t == 4) = false := by simp; omega
 have n4 : (t != 4) = true := by simp; omega
 clear hv h
 go_enter Tryz.func101, Tryz.ntmps101
 go_wp2
 go_ret
 exact ⟨rfl, Hb0.out⟩
open Go.RowKit
theorem Yg2 (n a : Int) (l : List (List Int)) (v : Value) (w : World) (hv : MatV w w.heap.size v (.mk 2 n a 0 l [])) (hl2 : l.length = 2) (ha0 : 0 ≤ a ∧ a ≤ 64) (h0 : numsB (l.getD 0 []) n a = true) (h1 : numsB (l.getD 1 []) a 65 = true) : Calls Tryz.prog 101 #[v] w (Says w true) := by
 obtain ⟨lv, iv, rfl, ⟨Al, cl, rfl, _, hlk⟩, ⟨Ai, ci, rfl, _⟩⟩ := hv.open
 simp only [Mat.t, Mat.n, Mat.a, Mat.b, Mat.l, Mat.i, List.length_nil] at *
 obtain ⟨ad, u0, hA, hab, hc0, hr0⟩ := hlk 0 (by omega)
 subst hA
 obtain ⟨ad', u1, hA', _, hc1, hr1⟩ := hlk 1 (by omega)
 obtain rfl := Option.some.inj hA'
 rw [add_zero] at hc0
 generalize l.getD 0 [] = r0 at *
 generalize l.getD 1 [] = r1 at *
 obtain ⟨Ar, cr, hu0, _⟩ := id hr0
 obtain ⟨Ar1, cr1, hu1, _⟩ := id hr1
 have Hb0 : Hid (Below w.heap.size w (w.alloc (.cells #[.int .i64 2, .int .i64 n, .int .i64 a, .int .i64 0, .slice (some ad) l.length cl, .slice Ai 0 ci] 25))) := (Below.refl _ w).alloc (le_refl _) _
 have Hbox := hid (G5_ (w := w) (t := 25) (cs := #[.int .i64 2, .int .i64 n, .int .i64 a, .int .i64 0, .slice (some ad) l.length cl, .slice Ai 0 ci]))
 have Hr0 := hid (hr0.up Hb0.out)
 have Hr1 := hid (hr1.up Hb0.out)
 have Hc0 := hid (X7_ ((Hb0.out.cell (p := ad) hab).trans hc0) (Nat.lt_of_lt_of_le hab Hb0.out.size))
 rw [show ad.add 1 = (⟨ad.block, ad.off + 1, none⟩ : Addr) by simp [Addr.add]] at hc1
 have Hc1 := hid (X7_ ((Hb0.out.cell (p := ⟨ad.block, ad.off + 1, none⟩) hab).trans hc1) (show ad.block < _ from Nat.lt_of_lt_of_le hab Hb0.out.size))
 have hl2e : ((l.length : Int) == 2) = true := by simp [hl2]
 have hwa : IntKind.i64.wrap (a - 1) = a - 1 := by rw [IntKind.wrap_i64]; omega
 have hll : (1 : Int) < (l.length : Int) := by omega
 have hll0 : (0 : Int) < (l.length : Int) := by omega
 have hln : 0 < l.length := by omega
 have hln1 : 1 < l.length := by omega
 obtain ⟨W0, hW0⟩ : ∃ W0, W0 = w.alloc (.cells #[.int .i64 2, .int .i64 n, .int .i64 a, .int .i64 0, .slice (some ad) l.length cl, .slice Ai 0 ci] 25) := ⟨_, rfl⟩
 have hsz : W0.heap.size = w.heap.size + 1 := by rw [hW0]; simp
 have HW0 := hid hW0
 have g0 := (Blk.new w 25 #[.int .i64 2, .int .i64 n, .int .i64 a, .int .i64 0, .slice (some ad) l.length cl, .slice Ai 0 ci]).cell 0
 rw [← hW0] at Hb0 Hbox Hr0 Hr1 Hc0 Hc1 g0
 rw [← hsz] at Hbox
 have Hn0 : Hid (∀ W, Below W0.heap.size W0 W → Calls Tryz.prog 123 #[u0, .int .i64 n, .int .i64 (a - 1)] W fun e w' => e = .returned (.bool true) ∧ Below W0.heap.size W0 w') := fun W hW =>
  (A4_ n (a - 1) u0 r0 W (Hr0.out.up hW)).mono fun _ _ ⟨h2, h3⟩ => ⟨by rw [h2, Int.sub_add_cancel, h0], Z0_ hW (le_refl _) h3⟩
 have Hn1 : Hid (∀ W, Below W0.heap.size W0 W → Calls Tryz.prog 123 #[u1, .int .i64 a, .int .i64 64] W fun e w' => e = .returned (.bool true) ∧ Below W0.heap.size W0 w') := fun W hW =>
  (A4_ a 64 u1 r1 W (Hr1.out.up hW)).mono fun _ _ ⟨h2, h3⟩ => ⟨by rw [h2, show (64 : Int) + 1 = 65 from rfl, h1], Z0_ hW (le_refl _) h3⟩
 subst hu0 hu1
 clear hv hlk hr0 hr1 hc0 hc1 h0 h1 hl2 hsz Hr0 Hr1
 go_enter Tryz.func101, Tryz.ntmps101
 go_wp2
 rw [← HW0.out]
 clear hW0
 refine Z6_ W0.heap.size W0 (by kernel_rfl) (by kernel_rfl) (Below.refl _ _) ?_
 repeat (first
   | go_big_quiet_step (with_reducible exact Hn0.out _)
   | go_big_quiet_step (with_reducible exact Hn1.out _)
   | (go_big_quiet_want; apply Exists.intro; refine ⟨fun W hW => ?_, ?_⟩; (· have q := Hbox.out W hW; have q1 := q 1; have q2 := q 2; have q4 := q 4; have q0 := q 0; clear q; have r0 := Hc0.out W hW; have r1 := Hc1.out W hW; go_simp; first | exact rfl | exact ⟨rfl, rfl⟩); go_simp; go_big_quiet_on))
 refine wpQuiet_nil ?_
 intro w5 hB5
 go_wp2
 go_ret
 exact ⟨rfl, Hb0.out.trans (hB5.mono Hb0.out.size)⟩
theorem Yg3 (n a : Int) (l : List (List Int)) (v : Value) (w : World) (hv : MatV w w.heap.size v (.mk 2 n a 0 l [])) (hl2 : l.length = 2) (ha0 : 0 ≤ a ∧ a ≤ 64) (h0 : numsB (l.getD 0 []) n a = true) (h1 : numsB (l.getD 1 []) a 65 = false) : Calls Tryz.prog 101 #[v] w (Says w false) := by
 obtain ⟨lv, iv, rfl, ⟨Al, cl, rfl, _, hlk⟩, ⟨Ai, ci, rfl, _⟩⟩ := hv.open
 simp only [Mat.t, Mat.n, Mat.a, Mat.b, Mat.l, Mat.i, List.length_nil] at *
 obtain ⟨ad, u0, hA, hab, hc0, hr0⟩ := hlk 0 (by omega)
 subst hA
 obtain ⟨ad', u1, hA', _, hc1, hr1⟩ := hlk 1 (by omega)
 obtain rfl := Option.some.inj hA'
 rw [add_zero] at hc0
 generalize l.getD 0 [] = r0 at *
 generalize l.getD 1 [] = r1 at *
 obtain ⟨Ar, cr, hu0, _⟩ := id hr0
 obtain ⟨Ar1, cr1, hu1, _⟩ := id hr1
 have Hb0 : Hid (Below w.heap.size w (w.alloc (.cells #[.int .i64 2, .int .i64 n, .int .i64 a, .int .i64 0, .slice (some ad) l.length cl, .slice Ai 0 ci] 25))) := (Below.refl _ w).alloc (le_refl _) _
 have Hbox := hid (G5_ (w := w) (t := 25) (cs := #[.int .i64 2, .int .i64 n, .int .i64 a, .int .i64 0, .slice (some ad) l.length cl, .slice Ai 0 ci]))
 have Hr0 := hid (hr0.up Hb0.out)
 have Hr1 := hid (hr1.up Hb0.out)
 have Hc0 := hid (X7_ ((Hb0.out.cell (p := ad) hab).trans hc0) (Nat.lt_of_lt_of_le hab Hb0.out.size))
 rw [show ad.add 1 = (⟨ad.block, ad.off + 1, none⟩ : Addr) by simp [Addr.add]] at hc1
 have Hc1 := hid (X7_ ((Hb0.out.cell (p := ⟨ad.block, ad.off + 1, none⟩) hab).trans hc1) (show ad.block < _ from Nat.lt_of_lt_of_le hab Hb0.out.size))
 have hl2e : ((l.length : Int) == 2) = true := by simp [hl2]
 have hwa : IntKind.i64.wrap (a - 1) = a - 1 := by rw [IntKind.wrap_i64]; omega
 have hll : (1 : Int) < (l.length : Int) := by omega
 have hll0 : (0 : Int) < (l.length : Int) := by omega
 have hln : 0 < l.length := by omega
 have hln1 : 1 < l.length := by omega
 obtain ⟨W0, hW0⟩ : ∃ W0, W0 = w.alloc (.cells #[.int .i64 2, .int .i64 n, .int .i64 a, .int .i64 0, .slice (some ad) l.length cl, .slice Ai 0 ci] 25) := ⟨_, rfl⟩
 have hsz : W0.heap.size = w.heap.size + 1 := by rw [hW0]; simp
 have HW0 := hid hW0
 have g0 := (Blk.new w 25 #[.int .i64 2, .int .i64 n, .int .i64 a, .int .i64 0, .slice (some ad) l.length cl, .slice Ai 0 ci]).cell 0
 rw [← hW0] at Hb0 Hbox Hr0 Hr1 Hc0 Hc1 g0
 rw [← hsz] at Hbox
 have Hn0 : Hid (∀ W, Below W0.heap.size W0 W → Calls Tryz.prog 123 #[u0, .int .i64 n, .int .i64 (a - 1)] W fun e w' => e = .returned (.bool true) ∧ Below W0.heap.size W0 w') := fun W hW =>
  (A4_ n (a - 1) u0 r0 W (Hr0.out.up hW)).mono fun _ _ ⟨h2, h3⟩ => ⟨by rw [h2, Int.sub_add_cancel, h0], Z0_ hW (le_refl _) h3⟩
 have Hn1 : Hid (∀ W, Below W0.heap.size W0 W → Calls Tryz.prog 123 #[u1, .int .i64 a, .int .i64 64] W fun e w' => e = .returned (.bool false) ∧ Below W0.heap.size W0 w') := fun W hW =>
  (A4_ a 64 u1 r1 W (Hr1.out.up hW)).mono fun _ _ ⟨h2, h3⟩ => ⟨by rw [h2, show (64 : Int) + 1 = 65 from rfl, h1], Z0_ hW (le_refl _) h3⟩
 subst hu0 hu1
 clear hv hlk hr0 hr1 hc0 hc1 h0 h1 hl2 hsz Hr0 Hr1
 go_enter Tryz.func101, Tryz.ntmps101
 go_wp2
 rw [← HW0.out]
 clear hW0
 refine Z6_ W0.heap.size W0 (by kernel_rfl) (by kernel_rfl) (Below.refl _ _) ?_
 repeat (first
   | go_big_quiet_step (with_reducible exact Hn0.out _)
   | go_big_quiet_step (with_reducible exact Hn1.out _)
   | (go_big_quiet_want; apply Exists.intro; refine ⟨fun W hW => ?_, ?_⟩; (· have q := Hbox.out W hW; have q1 := q 1; have q2 := q 2; have q4 := q 4; have q0 := q 0; clear q; have r0 := Hc0.out W hW; have r1 := Hc1.out W hW; go_simp; first | exact rfl | exact ⟨rfl, rfl⟩); go_simp; go_big_quiet_on))
 refine wpQuiet_nil ?_
 intro w5 hB5
 go_wp2
 go_ret
 exact ⟨rfl, Hb0.out.trans (hB5.mono Hb0.out.size)⟩
theorem Ys4 (n a : Int) (l : List (List Int)) (v : Value) (w : World) (hv : MatV w w.heap.size v (.mk 2 n a 0 l [])) (hl2 : l.length = 2) (ha0 : 0 ≤ a ∧ a ≤ 64) (h0 : numsB (l.getD 0 []) n a = false) : Calls Tryz.prog 101 #[v] w (Says w false) := by
 obtain ⟨lv, iv, rfl, ⟨Al, cl, rfl, _, hlk⟩, ⟨Ai, ci, rfl, _⟩⟩ := hv.open
 simp only [Mat.t, Mat.n, Mat.a, Mat.b, Mat.l, Mat.i, List.length_nil] at *
 obtain ⟨ad, u0, hA, hab, hc0, hr0⟩ := hlk 0 (by omega)
 subst hA
 obtain ⟨ad', u1, hA', _, hc1, hr1⟩ := hlk 1 (by omega)
 obtain rfl := Option.some.inj hA'
 rw [add_zero] at hc0
 generalize l.getD 0 [] = r0 at *
 generalize l.getD 1 [] = r1 at *
 obtain ⟨Ar, cr, hu0, _⟩ := id hr0
 obtain ⟨Ar1, cr1, hu1, _⟩ := id hr1
 have Hb0 : Hid (Below w.heap.size w (w.alloc (.cells #[.int .i64 2, .int .i64 n, .int .i64 a, .int .i64 0, .slice (some ad) l.length cl, .slice Ai 0 ci] 25))) := (Below.refl _ w).alloc (le_refl _) _
 have Hbox := hid (G5_ (w := w) (t := 25) (cs := #[.int .i64 2, .int .i64 n, .int .i64 a, .int .i64 0, .slice (some ad) l.length cl, .slice Ai 0 ci]))
 have Hr0 := hid (hr0.up Hb0.out)
 have Hr1 := hid (hr1.up Hb0.out)
 have Hc0 := hid (X7_ ((Hb0.out.cell (p := ad) hab).trans hc0) (Nat.lt_of_lt_of_le hab Hb0.out.size))
 rw [show ad.add 1 = (⟨ad.block, ad.off + 1, none⟩ : Addr) by simp [Addr.add]] at hc1
 have Hc1 := hid (X7_ ((Hb0.out.cell (p := ⟨ad.block, ad.off + 1, none⟩) hab).trans hc1) (show ad.block < _ from Nat.lt_of_lt_of_le hab Hb0.out.size))
 have hl2e : ((l.length : Int) == 2) = true := by simp [hl2]
 have hwa : IntKind.i64.wrap (a - 1) = a - 1 := by rw [IntKind.wrap_i64]; omega
 have hll : (1 : Int) < (l.length : Int) := by omega
 have hll0 : (0 : Int) < (l.length : Int) := by omega
 have hln : 0 < l.length := by omega
 have hln1 : 1 < l.length := by omega
 obtain ⟨W0, hW0⟩ : ∃ W0, W0 = w.alloc (.cells #[.int .i64 2, .int .i64 n, .int .i64 a, .int .i64 0, .slice (some ad) l.length cl, .slice Ai 0 ci] 25) := ⟨_, rfl⟩
 have hsz : W0.heap.size = w.heap.size + 1 := by rw [hW0]; simp
 have HW0 := hid hW0
 have g0 := (Blk.new w 25 #[.int .i64 2, .int .i64 n, .int .i64 a, .int .i64 0, .slice (some ad) l.length cl, .slice Ai 0 ci]).cell 0
 rw [← hW0] at Hb0 Hbox Hr0 Hr1 Hc0 Hc1 g0
 rw [← hsz] at Hbox
 have Hn0 : Hid (∀ W, Below W0.heap.size W0 W → Calls Tryz.prog 123 #[u0, .int .i64 n, .int .i64 (a - 1)] W fun e w' => e = .returned (.bool false) ∧ Below W0.heap.size W0 w') := fun W hW =>
  (A4_ n (a - 1) u0 r0 W (Hr0.out.up hW)).mono fun _ _ ⟨h2, h3⟩ => ⟨by rw [h2, Int.sub_add_cancel, h0], Z0_ hW (le_refl _) h3⟩
 subst hu0 hu1
 clear hv hlk hr0 hr1 hc0 hc1 h0 hl2 hsz Hr0 Hr1
 go_enter Tryz.func101, Tryz.ntmps101
 go_wp2
 rw [← HW0.out]
 clear hW0
 refine Z6_ W0.heap.size W0 (by kernel_rfl) (by kernel_rfl) (Below.refl _ _) ?_
 repeat (first
   | go_big_quiet_step (with_reducible exact Hn0.out _)
   | (go_big_quiet_want; apply Exists.intro; refine ⟨fun W hW => ?_, ?_⟩; (· have q := Hbox.out W hW; have q1 := q 1; have q2 := q 2; have q4 := q 4; have q0 := q 0; clear q; have r0 := Hc0.out W hW; have r1 := Hc1.out W hW; go_simp; first | exact rfl | exact ⟨rfl, rfl⟩); go_simp; go_big_quiet_on))
 refine wpQuiet_nil ?_
 intro w5 hB5
 go_wp2
 go_ret
 exact ⟨rfl, Hb0.out.trans (hB5.mono Hb0.out.size)⟩
open Go.RowKit
theorem Xd1 {l : List (List Int)} {a : Int} {i : Nat} (hi : i < l.length) (h : edgeB a (l.getD i []) = true) : l.any (edgeB a) = true :=
 List.any_eq_true.2 ⟨l[i], List.getElem_mem hi, by simpa [List.getD, hi] using h⟩
theorem Ys5 {l : List (List Int)} {a : Int} (h : ∀ i, i < l.length → edgeB a (l.getD i []) = false) : l.any (edgeB a) = false := by
 rw [List.any_eq_false]
 intro c hc
 obtain ⟨i, hi, rfl⟩ := List.mem_iff_getElem.1 hc
 have := h i hi
 simpa [List.getD, hi] using this
theorem Xd2 (n a : Int) (l : List (List Int)) (v : Value) (w : World) (hv : MatV w w.heap.size v (.mk 1 n a 0 l [])) (hl0 : l.length ≤ 1000) (ha : 0 ≤ a ∧ a ≤ 64) : Calls Tryz.prog 101 #[v] w (Says w (!l.any (edgeB a) && decide (1 ≤ a) && decide ((l.length : Int) = n))) := by
 obtain ⟨lv, iv, rfl, hl, ⟨Ai, ci, rfl, _⟩⟩ := hv.open
 simp only [Mat.t, Mat.n, Mat.a, Mat.b, Mat.l, Mat.i, List.length_nil] at *
 obtain ⟨A, c, rfl, _, hk⟩ := hl
 have Hcell := hid hk
 have Hb0 : Hid (Below w.heap.size w (w.alloc (.cells #[.int .i64 1, .int .i64 n, .int .i64 a, .int .i64 0, .slice A l.length c, .slice Ai 0 ci] 25))) := (Below.refl _ w).alloc (le_refl _) _
 have Hblk := hid (Blk.new w 25 #[.int .i64 1, .int .i64 n, .int .i64 a, .int .i64 0, .slice A l.length c, .slice Ai 0 ci])
 have hlm : (l.length : Int) ≤ 1000 := by omega
 have hwa : IntKind.i64.wrap (a - 1) = a - 1 := by rw [IntKind.wrap_i64]; omega
 have g0 := Hblk.out.cell 0
 clear hv hk
 obtain ⟨r, hre⟩ : ∃ r, r = l.any (edgeB a) := ⟨_, rfl⟩
 rw [← hre]
 have Hre := hid hre
 clear hre
 go_enter Tryz.func101, Tryz.ntmps101
 go_wp2
 clear g0
 go_loopw [3] (fun vi wr => ∃ i : Nat, vi = .int .i64 i ∧ i ≤ l.length ∧ (∀ j, j < i → edgeB a (l.getD j []) = false) ∧ Blk wr w.heap.size 25 #[.int .i64 1, .int .i64 n, .int .i64 a, .int .i64 0, .slice A l.length c, .slice Ai 0 ci] ∧ Below w.heap.size w wr) (fun vi _ => l.length - (intOf vi).toNat)
 case atStart => exact ⟨0, rfl, Nat.zero_le _, fun j hj => absurd hj (Nat.not_lt_zero _), Hblk.out, Hb0.out⟩
 case round =>
  obtain ⟨i, rfl, hi, hok, hblk, hbr⟩ := hrel
  have Hok := hid hok
  have Hbr := hid hbr
  have Hblkr := hid hblk
  have g1 := hblk.cell 1
  have g2 := hblk.cell 2
  have g4 := hblk.cell 4
  clear hok hblk hbr
  by_cases hlt : i < l.length
  ·obtain ⟨ad, u, hA, hab, hc1, hru⟩ := Hcell.out i hlt
   subst hA
   have hcw := (Hbr.out.cell (p := ad.add i) (by rw [Z2_]; exact hab)).trans hc1
   have Hru := hid ((hru.below Hbr.out).mono Hbr.out.size)
   have Hhit := hid (Xd1 (a := a) hlt)
   have Hok1 : Hid (edgeB a (l.getD i []) = false → ∀ j, j < i + 1 → edgeB a (l.getD j []) = false) := by
    intro hb j hj
    by_cases e : j = i
    ·rw [e]; exact hb
    ·exact Hok.out j (by omega)
   generalize l.getD i [] = z at *
   obtain ⟨Az, cz, rfl, _⟩ := id hru
   have hlt' : (i : Int) < (l.length : Int) := by omega
   have Hc : ∀ b, numsB z 2 a = b → ∀ W, Below wr.heap.size wr W → Calls Tryz.prog 123 #[.slice Az z.length cz, .int .i64 2, .int .i64 (a - 1)] W fun e w' => e = .returned (.bool b) ∧ Below wr.heap.size wr w' := fun b hb W hW =>
    (A4_ 2 (a - 1) _ z W (Hru.out.up hW)).mono fun _ _ ⟨h2, h3⟩ => ⟨by rw [h2, Int.sub_add_cancel, hb], Z0_ hW (le_refl _) h3⟩
   have Q2 := hid (X7_ g2 Hblkr.out.lt)
   have Q4 := hid (X7_ g4 Hblkr.out.lt)
   have Qw := hid (X7_ hcw (by rw [Z2_]; exact Nat.lt_of_lt_of_le hab Hbr.out.size))
   clear hru hc1 hab
   rcases hz : numsB z 2 a with _ | _
   ·have Hn0 := hid (Hc false hz)
    clear Hc
    have Hr : Hid (r = true) := Hre.out.trans (Hhit.out (by unfold edgeB; rw [hz]; rfl))
    obtain rfl := Hr.out
    clear hz
    go_wp2
    refine Z6_ wr.heap.size wr (by kernel_rfl) (by kernel_rfl) (Below.refl _ _) ?_
    iterate 10 (first
     | go_big_quiet_step (with_reducible exact Hn0.out _)
     | (go_big_quiet_want; apply Exists.intro; refine ⟨fun W hW => ?_, ?_⟩; (· have q2 := Q2.out W hW; have q4 := Q4.out W hW; have r0 := Qw.out W hW; go_simp; first | exact rfl | exact ⟨rfl, rfl⟩); go_simp; go_big_quiet_on))
    refine wpQuiet_nil ?_
    intro w1 hb1
    have Hb1 := hid (Z0_ Hbr.out (le_refl _) hb1)
    clear hb1
    go_wp2
    go_ret
    exact ⟨by simp, Hb1.out⟩
   ·have Hn0 := hid (Hc true hz)
    clear Hc
    have Hw : Hid (edgeB a z = false) := by show edgeB a z = false; unfold edgeB; rw [hz]; rfl
    clear hz
    go_wp2
    refine Z6_ wr.heap.size wr (by kernel_rfl) (by kernel_rfl) (Below.refl _ _) ?_
    iterate 10 (first
     | go_big_quiet_step (with_reducible exact Hn0.out _)
     | (go_big_quiet_want; apply Exists.intro; refine ⟨fun W hW => ?_, ?_⟩; (· have q2 := Q2.out W hW; have q4 := Q4.out W hW; have r0 := Qw.out W hW; go_simp; first | exact rfl | exact ⟨rfl, rfl⟩); go_simp; go_big_quiet_on))
    refine wpQuiet_nil ?_
    intro w1 hb1
    have Hb1 := hid (Z0_ Hbr.out (le_refl _) hb1)
    have Hblk1 := hid (Hblkr.out.below hb1 Hblkr.out.lt)
    clear hb1
    go_wp2
    go_roundw
    case rel => exact ⟨i + 1, by go_num, by omega, Hok1.out Hw.out, Hblk1.out, Hb1.out⟩
    case measure => simp [intOf]; omega
  ·have hie : i = l.length := by omega
   have Hie := hid hie
   have Hr : Hid (r = false) := Hre.out.trans (Ys5 (by rw [← Hie.out]; exact Hok.out))
   obtain rfl := Hr.out
   obtain rfl := hie
   by_cases h1 : 1 ≤ a
   ·rw [decide_eq_true h1]
    go_wp2
    go_ret
    refine ⟨?_, Hbr.out⟩
    by_cases hl : (l.length : Int) = n <;> simp [hl]
   ·have h1' : a < 1 := by omega
    rw [decide_eq_false h1]
    clear h1
    go_wp2
    go_ret
    refine ⟨?_, Hbr.out⟩
    simp
    intro hge
    omega
theorem Xd3 (n a : Int) (l : List (List Int)) (v : Value) (w : World) (hv : MatV w w.heap.size v (.mk 2 n a 0 l [])) (hl2 : l.length = 2) (ha : 0 ≤ a ∧ a ≤ 64) : Calls Tryz.prog 101 #[v] w (Says w (numsB (l.getD 0 []) n a && numsB (l.getD 1 []) a 65)) := by
 rcases h0 : numsB (l.getD 0 []) n a with _ | _
 ·exact Ys4 n a l v w hv hl2 ha h0
 ·rcases h1 : numsB (l.getD 1 []) a 65 with _ | _
  ·exact Yg3 n a l v w hv hl2 ha h0 h1
  ·exact Yg2 n a l v w hv hl2 ha h0 h1
theorem Ys6 (n a : Int) (l : List (List Int)) (v : Value) (w : World) (hv : MatV w w.heap.size v (.mk 2 n a 0 l [])) (hl2 : l.length ≠ 2) : Calls Tryz.prog 101 #[v] w (Says w false) := by
 obtain ⟨lv, iv, rfl, ⟨Al, cl, rfl, _⟩, ⟨Ai, ci, rfl, _⟩⟩ := hv.open
 simp only [Mat.t, Mat.n, Mat.a, Mat.b, Mat.l, Mat.i, List.length_nil] at *
 have Hb0 : Hid (Below w.heap.size w (w.alloc (.cells #[.int .i64 2, .int .i64 n, .int .i64 a, .int .i64 0, .slice Al l.length cl, .slice Ai 0 ci] 25))) := (Below.refl _ w).alloc (le_refl _) _
 have Hbox := hid (G5_ (w := w) (t := 25) (cs := #[.int .i64 2, .int .i64 n, .int .i64 a, .int .i64 0, .slice Al l.length cl, .slice Ai 0 ci]))
 obtain ⟨L, hL⟩ : ∃ L : Int, L = (l.length : Int) := ⟨_, rfl⟩
 have hl2e : (L == 2) = false := by simp; omega
 obtain ⟨W0, hW0⟩ : ∃ W0, W0 = w.alloc (.cells #[.int .i64 2, .int .i64 n, .int .i64 a, .int .i64 0, .slice Al l.length cl, .slice Ai 0 ci] 25) := ⟨_, rfl⟩
 have hsz : W0.heap.size = w.heap.size + 1 := by rw [hW0]; simp
 have HW0 := hid hW0
 have g0 := (Blk.new w 25 #[.int .i64 2, .int .i64 n, .int .i64 a, .int .i64 0, .slice Al l.length cl, .slice Ai 0 ci]).cell 0
 rw [← hW0] at Hb0 Hbox g0
 rw [← hsz] at Hbox
 have hN : ((l.length : Nat) : Int) = L := hL.symm
 clear hv hl2 hsz hL
 go_enter Tryz.func101, Tryz.ntmps101
 go_wp2
 rw [← HW0.out]
 clear hW0
 refine Z6_ W0.heap.size W0 (by kernel_rfl) (by kernel_rfl) (Below.refl _ _) ?_
 iterate 26 (first
   | go_big_quiet_skip
   | (go_big_quiet_want; apply Exists.intro; refine ⟨fun W hW => ?_, ?_⟩; (· have q := Hbox.out W hW; have q1 := q 1; have q2 := q 2; have q4 := q 4; have q0 := q 0; clear q; go_simp; first | exact rfl | exact ⟨rfl, rfl⟩); go_simp; go_big_quiet_on))
 refine wpQuiet_nil ?_
 intro w5 hB5
 go_wp2
 go_ret
 exact ⟨rfl, Hb0.out.trans (hB5.mono Hb0.out.size)⟩
theorem Xd4 (n a b : Int) (l : List (List Int)) : D6_ (.mk 4 n a b l []) = (decide ((l.length : Int) = n) && elimB b a l) := by rw [Bool.eq_iff_iff]; simp [D6_, Mat.t, Mat.n, Mat.a, Mat.b, Mat.l, Mat.i]; exact fun _ => decide_eq_true_iff
theorem Xd5 (n a : Int) (l : List (List Int)) : D6_ (.mk 0 n a 0 l []) = (decide (a ≤ n) && decide (l.length = 0)) := by rw [Bool.eq_iff_iff]; simp [D6_, Mat.t, Mat.n, Mat.a, Mat.b, Mat.l, Mat.i]; exact fun _ => decide_eq_true_iff
theorem Xd6 (n a : Int) (l : List (List Int)) : D6_ (.mk 1 n a 0 l []) = (!l.any (edgeB a) && decide (1 ≤ a) && decide ((l.length : Int) = n)) := by rw [Bool.eq_iff_iff]; simp [D6_, Mat.t, Mat.n, Mat.a, Mat.b, Mat.l, Mat.i]; exact ⟨fun ⟨⟨h1, h2⟩, h3⟩ => ⟨⟨h1, of_decide_eq_true h2⟩, of_decide_eq_true h3⟩, fun ⟨⟨h1, h2⟩, h3⟩ => ⟨⟨h1, decide_eq_true h2⟩, decide_eq_true h3⟩⟩
theorem Xd7 (n a : Int) (l : List (List Int)) : D6_ (.mk 2 n a 0 l []) = (decide (l.length = 2) && numsB (l.getD 0 []) n a && numsB (l.getD 1 []) a 65) := by rw [Bool.eq_iff_iff]; simp [D6_, row, Mat.t, Mat.n, Mat.a, Mat.b, Mat.l, Mat.i]; exact fun _ _ => decide_eq_true_iff
theorem Xd8 (n a : Int) (l : List (List Int)) : D6_ (.mk 3 n a 0 l []) = (decide ((l.length : Int) = n) && mayM a l) := by rw [Bool.eq_iff_iff]; simp [D6_, Mat.t, Mat.n, Mat.a, Mat.b, Mat.l, Mat.i]; exact fun _ => decide_eq_true_iff
theorem Yg4 (t n a : Int) (l : List (List Int)) (h : t < 0 ∨ 4 < t) : D6_ (.mk t n a 0 l []) = false := by
 have h0 : t ≠ 0 := by omega
 have h1 : t ≠ 1 := by omega
 have h2 : t ≠ 2 := by omega
 have h3 : t ≠ 3 := by omega
 have h4 : t ≠ 4 := by omega
 simp [D6_, Mat.t, Mat.b, Mat.i, h0, h1, h2, h3, h4]
theorem Yg5 (m : Mat) (v : Value) (w : World) (hv : MatV w w.heap.size v m) (hs : Sml m) (h2 : 0 ≤ m.n ∧ m.n ≤ 64 ∧ 0 ≤ m.a ∧ m.a ≤ 64) (hn : ¬ nest m.t) : Calls Tryz.prog 101 #[v] w (Says w (decide (bad m = 0))) := by
 rw [← Ys3 h2 hn]
 by_cases hi : 0 < m.i.length
 ·rw [show D6_ m = false from if_pos (.inl hi)]
  exact Zn3 m v w hv hi
 by_cases hb : m.t ≠ 4 ∧ m.b ≠ 0
 ·rw [show D6_ m = false from if_pos (.inr hb)]
  exact Xc7 m v w hv (by omega) hb.1 hb.2
 have hl0 := sml_l hs
 obtain ⟨t, n, a, b, l, i⟩ := m
 change 0 ≤ n ∧ n ≤ 64 ∧ 0 ≤ a ∧ a ≤ 64 at h2
 change ¬ 0 < i.length at hi
 change ¬ (t ≠ 4 ∧ b ≠ 0) at hb
 change ¬ (5 ≤ t ∧ t ≤ 9) at hn
 change l.length ≤ 1000 at hl0
 obtain rfl : i = [] := List.length_eq_zero_iff.1 (by omega)
 by_cases t4 : t = 4
 ·subst t4
  rw [Xd4]
  exact Xd0 n a b l v w hv
 have hb0 : b = 0 := by
  by_cases e : b = 0
  ·exact e
  ·exact absurd ⟨t4, e⟩ hb
 subst hb0
 by_cases t0 : t = 0
 ·subst t0; rw [Xd5]; exact Xc8 n a l v w hv
 by_cases t1 : t = 1
 ·subst t1; rw [Xd6]; exact Xd2 n a l v w hv hl0 ⟨h2.2.2.1, h2.2.2.2⟩
 by_cases t2 : t = 2
 ·subst t2
  rw [Xd7]
  by_cases hl2 : l.length = 2
  ·rw [decide_eq_true hl2, Bool.true_and]; exact Xd3 n a l v w hv hl2 ⟨h2.2.2.1, h2.2.2.2⟩
  ·rw [decide_eq_false hl2, Bool.false_and, Bool.false_and]; exact Ys6 n a l v w hv hl2
 by_cases t3 : t = 3
 ·subst t3; rw [Xd8]; exact Xc9 n a l v w hv
 ·rw [Yg4 t n a l (by omega)]
  exact Yg1 t n a l v w (by omega) hv
end Wp
end Go.Proofs.YtgadbnbhgpehjaaGreatDoor
