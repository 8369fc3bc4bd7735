/- The program's May, Rank and Indep, and the document's May, walked. Matroids written out in memory. -/
import Derived.Test.YtgadbnbhgpehjaaGreatDoorZW
import Derived.Test.YtgadbnbhgpehjaaGreatDoorZT
import Derived.Test.YtgadbnbhgpehjaaGreatDoorQImg
import Derived.Test.YtgadbnbhgpehjaaGreatDoorZA
set_option maxHeartbeats 4000000
set_option maxRecDepth 100000
open Go.Lib (hid)
open Nat (le_refl)
namespace Go.Proofs.YtgadbnbhgpehjaaGreatDoor
open Go.RowKit
namespace Wp
def mayI (m : Mat) (s : List Int) : Bool := decide (chk m = 0) && subB s (allL m.n)
noncomputable def rankT (m : Mat) (s : List Int) : Int := if mayI m s = true then (rkP 4 m (memP s) : Nat) else -1
noncomputable def indT (m : Mat) (s : List Int) : Bool := decide (rankT m s = (s.length : Int))
theorem mayI_iff {m : Mat} {s : List Int} : mayI m s = true ↔ chk m = 0 ∧ InN (nN m) s := by
 unfold mayI
 rw [Bool.and_eq_true, decide_eq_true_iff]
 constructor
 ·rintro ⟨h1, h2⟩; exact ⟨h1, (N0_ (chk_n h1).1 (chk_n h1).2).1 h2⟩
 ·rintro ⟨h1, h2⟩; exact ⟨h1, (N0_ (chk_n h1).1 (chk_n h1).2).2 h2⟩
theorem Xe8 (m : Mat) (s : List Int) : mayI m s = (decide (chk m = 0) && okA m.n s) := by
 unfold mayI
 by_cases h : chk m = 0
 ·rw [S2_ (chk_n h).1 (chk_n h).2]
 ·rw [decide_eq_false h]; rfl
theorem Yq6 (E : Nat → Addr) (m : Mat) (v sv : Value) (s : List Int) (w : World) (hv : MatV w w.heap.size v m) (hs : Sml m) (hr : Row w w.heap.size sv s) (hsl : s.length ≤ 1048576) (hE : Env E w) : Calls Tryz.prog 69 #[v, sv] w (Says w (mayI m s)) := by
 have Hs := hid hs
 obtain ⟨lv, iv, hve, _, _⟩ := hv.open
 obtain ⟨As, cs, rfl, _⟩ := id hr
 have Hb0 := hid (Z1_ w m lv iv)
 have Hv0 := hid (hv.up Hb0.out)
 have Hr0 := hid (hr.up Hb0.out)
 have Hblk0 := hid (Z3_ w m lv iv)
 have g0 := Hblk0.out.cell 0
 have g1 := Hblk0.out.cell 1
 have g2 := Hblk0.out.cell 2
 have g3 := Hblk0.out.cell 3
 have g4 := Hblk0.out.cell 4
 have g5 := Hblk0.out.cell 5
 subst hve
 unfold boxed at *
 have HE0 := hid (hE.up Hb0.out)
 obtain ⟨D, hD⟩ : ∃ D, chk m = D := ⟨_, rfl⟩
 have HD := hid hD
 have hal := D2_ m.n
 unfold mayI
 rw [hD]
 clear hv hs hr hE hD
 by_cases h : D = 0
 ·subst h
  rw [decide_eq_true rfl, Bool.true_and]
  go_enter Tryz.func69, Tryz.ntmps69
  go_wp2_with fail
  refine (C7_ E m _ _ Hv0.out Hs.out HE0.out).mono ?_
  rintro e w1 ⟨rfl, hb1⟩
  rw [HD.out]
  have Hb1 := hid (Z0_ Hb0.out (le_refl _) hb1)
  have Hr1 := hid (Hr0.out.up hb1)
  have k1 := (Hblk0.out.below hb1 Hblk0.out.lt).cell 1
  clear hb1 g0 g1 g2 g3 g4 g5
  go_wp2_with fail
  refine (H0_ m.n _).mono ?_
  rintro e w2 ⟨va, rfl, hra, hb2⟩
  have Hb2 := hid (Z0_ Hb1.out (le_refl _) hb2)
  have Hr2 := hid (Hr1.out.up hb2)
  have Hra := hid hra
  clear hb2 hra k1
  go_wp2_with fail
  refine (R2_ _ _ s (allL m.n) _ Hr2.out Hra.out hsl hal).mono ?_
  rintro e w3 ⟨rfl, hb3⟩
  have Hb3 := hid (Z0_ Hb2.out (le_refl _) hb3)
  clear hb3
  go_wp2
  go_ret
  exact ⟨rfl, Hb3.out⟩
 ·rw [decide_eq_false h, Bool.false_and]
  have hne : (D == 0) = false := by simpa using h
  clear h
  go_enter Tryz.func69, Tryz.ntmps69
  go_wp2_with fail
  refine (C7_ E m _ _ Hv0.out Hs.out HE0.out).mono ?_
  rintro e w1 ⟨rfl, hb1⟩
  rw [HD.out]
  have Hb1 := hid (Z0_ Hb0.out (le_refl _) hb1)
  clear hb1 g0 g1 g2 g3 g4 g5
  go_wp2
  go_ret
  exact ⟨rfl, Hb1.out⟩
theorem L5_ (m : Mat) (v sv : Value) (s : List Int) (w : World) (hv : MatV w w.heap.size v m) (hs : Sml m) (hr : Row w w.heap.size sv s) : Calls Tryz.prog 45 #[v, sv] w (Says w (mayI m s)) := by
 have Hs := hid hs
 obtain ⟨lv, iv, hve, _, _⟩ := hv.open
 obtain ⟨As, cs, rfl, _⟩ := id hr
 have Hb0 := hid (Z1_ w m lv iv)
 have Hv0 := hid (hv.up Hb0.out)
 have Hr0 := hid (hr.up Hb0.out)
 have Hblk0 := hid (Z3_ w m lv iv)
 have g0 := Hblk0.out.cell 0
 have g1 := Hblk0.out.cell 1
 have g2 := Hblk0.out.cell 2
 have g3 := Hblk0.out.cell 3
 have g4 := Hblk0.out.cell 4
 have g5 := Hblk0.out.cell 5
 subst hve
 unfold boxed at *
 obtain ⟨D, hD⟩ : ∃ D, chk m = D := ⟨_, rfl⟩
 have HD := hid hD
 rw [Xe8, hD]
 clear hv hs hr hD
 by_cases h : D = 0
 ·subst h
  rw [decide_eq_true rfl, Bool.true_and]
  go_enter Tryz.func45, Tryz.ntmps45
  go_wp2_with fail
  refine (A5_ m _ _ Hv0.out Hs.out).mono ?_
  rintro e w1 ⟨rfl, hb1⟩
  rw [HD.out]
  have Hb1 := hid (Z0_ Hb0.out (le_refl _) hb1)
  have Hr1 := hid (Hr0.out.up hb1)
  have k1 := (Hblk0.out.below hb1 Hblk0.out.lt).cell 1
  clear hb1 g0 g1 g2 g3 g4 g5
  go_wp2_with fail
  refine (F4_ _ s m.n _ Hr1.out).mono ?_
  rintro e w2 ⟨rfl, hb2⟩
  have Hb2 := hid (Z0_ Hb1.out (le_refl _) hb2)
  clear hb2 k1
  go_wp2
  go_ret
  exact ⟨rfl, Hb2.out⟩
 ·rw [decide_eq_false h, Bool.false_and]
  have hne : (D == 0) = false := by simpa using h
  clear h
  go_enter Tryz.func45, Tryz.ntmps45
  go_wp2_with fail
  refine (A5_ m _ _ Hv0.out Hs.out).mono ?_
  rintro e w1 ⟨rfl, hb1⟩
  rw [HD.out]
  have Hb1 := hid (Z0_ Hb0.out (le_refl _) hb1)
  clear hb1 g0 g1 g2 g3 g4 g5
  go_wp2
  go_ret
  exact ⟨rfl, Hb1.out⟩
theorem Yt8 (E : Nat → Addr) (m : Mat) (v sv : Value) (s : List Int) (w : World) (hv : MatV w w.heap.size v m) (hs : Sml m) (hr : Row w w.heap.size sv s) (hsl : s.length ≤ 1048576) (hE : Env E w) : Calls Tryz.prog 55 #[v, sv] w (Tells w (rankT m s)) := by
 have Hs := hid hs
 obtain ⟨lv, iv, hve, _, _⟩ := hv.open
 obtain ⟨As, cs, rfl, _⟩ := id hr
 have Hb0 := hid (Z1_ w m lv iv)
 have Hv0 := hid (hv.up Hb0.out)
 have Hr0 := hid (hr.up Hb0.out)
 have Hblk0 := hid (Z3_ w m lv iv)
 have g0 := Hblk0.out.cell 0
 have g1 := Hblk0.out.cell 1
 have g2 := Hblk0.out.cell 2
 have g3 := Hblk0.out.cell 3
 have g4 := Hblk0.out.cell 4
 have g5 := Hblk0.out.cell 5
 subst hve
 unfold boxed at *
 have HE0 := hid (hE.up Hb0.out)
 unfold rankT
 rcases hm : mayI m s with _ | _
 ·rw [if_neg (by decide)]
  have Hm := hid hm
  clear hv hs hr hE hm
  go_enter Tryz.func55, Tryz.ntmps55
  go_wp2_with fail
  refine (Yq6 E m _ _ s _ Hv0.out Hs.out Hr0.out hsl HE0.out).mono ?_
  rintro e w1 ⟨rfl, hb1⟩
  rw [Hm.out]
  have Hb1 := hid (Z0_ Hb0.out (le_refl _) hb1)
  clear hb1 g0 g1 g2 g3 g4 g5
  go_wp2
  go_ret
  exact ⟨rfl, Hb1.out⟩
 ·rw [if_pos rfl]
  have Hm := hid hm
  have Hi := hid (mayI_iff.1 hm)
  obtain ⟨R, hR⟩ : ∃ R : Nat, rkP 4 m (memP s) = R := ⟨_, rfl⟩
  have Hrk : Hid (∀ (v sv : Value) (W : World), MatV W W.heap.size v m → Row W W.heap.size sv s → Env E W → Calls Tryz.prog 70 #[v, sv] W (Tells W (R : Int))) := hid fun v sv W h1 h2 h3 => by rw [← hR]; exact Yq3 E 4 m v sv s W h1 Hs.out Hi.out.1 (chk_ok.1 Hi.out.1).1 h2 Hi.out.2 h3
  rw [hR]
  clear hv hs hr hE hm hR
  go_enter Tryz.func55, Tryz.ntmps55
  go_wp2_with fail
  refine (Yq6 E m _ _ s _ Hv0.out Hs.out Hr0.out hsl HE0.out).mono ?_
  rintro e w1 ⟨rfl, hb1⟩
  rw [Hm.out]
  have Hb1 := hid (Z0_ Hb0.out (le_refl _) hb1)
  have Hr1 := hid (Hr0.out.up hb1)
  have Hv1 := hid (Hv0.out.up hb1)
  have HE1 := hid (HE0.out.up hb1)
  have Hblk1 := hid (Hblk0.out.below hb1 Hblk0.out.lt)
  clear hb1 g0 g1 g2 g3 g4 g5
  have g0 := Hblk1.out.cell 0
  have g1 := Hblk1.out.cell 1
  have g2 := Hblk1.out.cell 2
  have g3 := Hblk1.out.cell 3
  have g4 := Hblk1.out.cell 4
  have g5 := Hblk1.out.cell 5
  go_wp2_with fail
  refine (Hrk.out _ _ _ Hv1.out Hr1.out HE1.out).mono ?_
  rintro e w2 ⟨rfl, hb2⟩
  have Hb2 := hid (Z0_ Hb1.out (le_refl _) hb2)
  clear hb2 g0 g1 g2 g3 g4 g5
  go_wp2
  go_ret
  exact ⟨rfl, Hb2.out⟩
theorem Zj4 (E : Nat → Addr) (m : Mat) (v sv : Value) (s : List Int) (w : World) (hv : MatV w w.heap.size v m) (hs : Sml m) (hr : Row w w.heap.size sv s) (hsl : s.length ≤ 1048576) (hE : Env E w) : Calls Tryz.prog 37 #[v, sv] w (Says w (indT m s)) := by
 have Hs := hid hs
 obtain ⟨lv, iv, hve, _, _⟩ := hv.open
 obtain ⟨As, cs, rfl, _⟩ := id hr
 have Hb0 := hid (Z1_ w m lv iv)
 have Hv0 := hid (hv.up Hb0.out)
 have Hr0 := hid (hr.up Hb0.out)
 have Hblk0 := hid (Z3_ w m lv iv)
 have g0 := Hblk0.out.cell 0
 have g1 := Hblk0.out.cell 1
 have g2 := Hblk0.out.cell 2
 have g3 := Hblk0.out.cell 3
 have g4 := Hblk0.out.cell 4
 have g5 := Hblk0.out.cell 5
 subst hve
 unfold boxed at *
 have HE0 := hid (hE.up Hb0.out)
 obtain ⟨R, hR⟩ : ∃ R, rankT m s = R := ⟨_, rfl⟩
 have HR := hid hR
 obtain ⟨b0, hb0⟩ : ∃ b0, indT m s = b0 := ⟨_, rfl⟩
 have hbe : (R == (s.length : Int)) = b0 := by rw [← hb0, ← hR]; unfold indT; rw [Bool.eq_iff_iff, beq_iff_eq, decide_eq_true_iff]
 rw [hb0]
 clear hv hs hr hE hR hb0
 go_enter Tryz.func37, Tryz.ntmps37
 go_wp2_with fail
 refine (Yt8 E m _ _ s _ Hv0.out Hs.out Hr0.out hsl HE0.out).mono ?_
 rintro e w1 ⟨rfl, hb1⟩
 rw [HR.out]
 have Hb1 := hid (Z0_ Hb0.out (le_refl _) hb1)
 clear hb1 g0 g1 g2 g3 g4 g5
 go_wp2
 go_ret
 exact ⟨by rw [← hbe]; rfl, Hb1.out⟩
open Go.RowKit
theorem Yt9 (W : World) (B : Nat) : Rows2 W B (.slice none 0 0) [] := ⟨none, 0, rfl, ⟨le_refl _, by decide, fun _ => rfl⟩, fun k hk => absurd hk (by simp)⟩
theorem Q7_ (W : World) (B : Nat) (t n a b : Int) : MatV W B (.agg #[.int .i64 t, .int .i64 n, .int .i64 a, .int .i64 b, .slice none 0 0, .slice none 0 0]) (.mk t n a b [] []) := MatV.shut (Yt9 W B) (MatL.nil_ W B)
theorem Q8_ (t n a b : Int) : Sml (.mk t n a b [] []) := .mk (by simp) (by simp) (by simp) (by simp)
end Wp
end Go.Proofs.YtgadbnbhgpehjaaGreatDoor
