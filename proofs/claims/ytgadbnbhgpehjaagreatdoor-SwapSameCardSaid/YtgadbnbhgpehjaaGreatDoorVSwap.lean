/- The program's swap, walked: a side, what it tells, and May (VSwap). -/
import Derived.Test.YtgadbnbhgpehjaaGreatDoorZH
import Derived.Test.YtgadbnbhgpehjaaGreatDoorZN
import Derived.Test.YtgadbnbhgpehjaaGreatDoorZF
import Derived.Test.YtgadbnbhgpehjaaGreatDoorZI
import Derived.Test.YtgadbnbhgpehjaaGreatDoorZX
import Derived.Deep.RegionHeld3
set_option maxHeartbeats 8000000
set_option maxRecDepth 100000
open Go.Lib (hid)
open Nat (le_refl)
namespace Go.Proofs.YtgadbnbhgpehjaaGreatDoor
open Go Go.RowKit
namespace Wp
theorem U5_ (n : Int) (c0 c2 c3 c4 c5 sv mv : Value) (s : List Int) (w : World) (hr : Row w w.heap.size sv s) (hsl : s.length ≤ 1048576) :
  Calls Tryz.prog 33 #[.agg #[c0, .int .i64 n, c2, c3, c4, c5, sv, mv]] w (Gives w (Z7_ (allL n) s)) := by
 obtain ⟨W0, hW0⟩ : ∃ W0, W0 = w.alloc (.cells #[c0, .int .i64 n, c2, c3, c4, c5, sv, mv] 52) := ⟨_, rfl⟩
 have HW0 := hid hW0
 have hb0 : Below w.heap.size w W0 := by rw [hW0]; exact (Below.refl _ w).alloc (le_refl _) _
 have hblk : Blk W0 w.heap.size 52 #[c0, .int .i64 n, c2, c3, c4, c5, sv, mv] := by rw [hW0]; exact Blk.new w _ _
 have Hb0 := hid hb0
 have Hblk := hid hblk
 have HR := hid ((hr.up hb0).up (Below.refl _ W0).drew)
 have hal := D2_ n
 have K1 : Hid (∀ W, Below W0.drew.heap.size W0.drew W → W.cell? ⟨w.heap.size, 1, none⟩ = some (.int .i64 n) ∧ W.cell? ⟨w.heap.size, 6, none⟩ = some sv) := hid fun W hW => ⟨(Hblk.out.drew.below hW Hblk.out.lt).cell 1, (Hblk.out.drew.below hW Hblk.out.lt).cell 6⟩
 have HB : Hid (Below W0.drew.heap.size W0.drew W0.drew) := hid (Below.refl _ _)
 obtain ⟨As, cs, rfl, _⟩ := id hr
 clear hW0 hb0 hblk hr
 go_enter Tryz.func33, Tryz.ntmps33
 go_wp2
 rw [← HW0.out]
 go_region_held3 (fun W => W.cell? ⟨w.heap.size, 1, none⟩ = some (.int .i64 n) ∧ W.cell? ⟨w.heap.size, 6, none⟩ = some (.slice As s.length cs))
  (exact K1.out _ HB.out)
  (first
  | (go_at_call 53; refine (H0_ n _).mono ?_; rintro e w1 ⟨va, rfl, hra, hb1⟩; replace HB := hid (Z0_ HB.out (le_refl _) hb1); replace HR := hid (HR.out.up hb1); have HA := hid hra; clear hra hb1)
  | (go_at_call 41; refine (E4_ _ _ (allL n) s _ HA.out HR.out hal hsl).mono ?_; rintro e w2 ⟨vm, rfl, hrm, hb2⟩; replace HB := hid (Z0_ HB.out (le_refl _) hb2); have HM := hid hrm; clear hrm hb2))
 all_goals
  have Hb9 := hid (Z0_ Hb0.out.drew (le_refl _) HB.out)
  go_simp
  go_wp2
  go_ret
  exact ⟨vm, rfl, HM.out, Hb9.out⟩
theorem Zj5 (E : Nat → Addr) (m : Mat) (c0 c1 c2 c3 c4 c5 sv mv uv : Value) (s : List Int) (x : Int) (w : World) (hv : MatV w w.heap.size (.agg #[c0, c1, c2, c3, c4, c5]) m) (hs : Sml m) (hr : Row w w.heap.size uv s) (hsl : s.length ≤ 1000) (hE : Env E w) :
  Calls Tryz.prog 52 #[.agg #[c0, c1, c2, c3, c4, c5, sv, mv], uv, .int .i64 x] w (Says w (indT m (Y2_ s [x]))) := by
 obtain ⟨W0, hW0⟩ : ∃ W0, W0 = w.alloc (.cells #[c0, c1, c2, c3, c4, c5, sv, mv] 52) := ⟨_, rfl⟩
 have HW0 := hid hW0
 have hb0 : Below w.heap.size w W0 := by rw [hW0]; exact (Below.refl _ w).alloc (le_refl _) _
 have hblk : Blk W0 w.heap.size 52 #[c0, c1, c2, c3, c4, c5, sv, mv] := by rw [hW0]; exact Blk.new w _ _
 have Hb0 := hid hb0
 have Hblk := hid hblk
 have hbd := (Below.refl W0.heap.size W0).drew
 have HR := hid ((hr.up hb0).up hbd)
 have HV := hid ((hv.up hb0).up hbd)
 have HE := hid ((hE.up hb0).up hbd)
 have Hs := hid hs
 have K1 : Hid (∀ W, Below W0.drew.heap.size W0.drew W → W.cell? ⟨w.heap.size, 0, none⟩ = some c0 ∧ W.cell? ⟨w.heap.size, 1, none⟩ = some c1 ∧ W.cell? ⟨w.heap.size, 2, none⟩ = some c2 ∧ W.cell? ⟨w.heap.size, 3, none⟩ = some c3 ∧ W.cell? ⟨w.heap.size, 4, none⟩ = some c4 ∧ W.cell? ⟨w.heap.size, 5, none⟩ = some c5) := hid fun W hW => ⟨(Hblk.out.drew.below hW Hblk.out.lt).cell 0, (Hblk.out.drew.below hW Hblk.out.lt).cell 1, (Hblk.out.drew.below hW Hblk.out.lt).cell 2, (Hblk.out.drew.below hW Hblk.out.lt).cell 3, (Hblk.out.drew.below hW Hblk.out.lt).cell 4, (Hblk.out.drew.below hW Hblk.out.lt).cell 5⟩
 have HB : Hid (Below W0.drew.heap.size W0.drew W0.drew) := hid (Below.refl _ _)
 have hul : Hid ((Y2_ s [x]).length ≤ 1048576) := hid (by have := T1_ s [x]; simp only [List.length_cons, List.length_nil] at this; omega)
 have hsl2 : s.length ≤ 1048576 := by omega
 obtain ⟨z, hz⟩ : ∃ z, indT m (Y2_ s [x]) = z := ⟨_, rfl⟩
 have HZ := hid hz
 rw [hz]
 obtain ⟨As, cs, rfl, _⟩ := id hr
 clear hW0 hb0 hblk hr hv hE hs hbd hz
 go_enter Tryz.func52, Tryz.ntmps52
 go_wp2
 rw [← HW0.out]
 go_region_held3 (fun W => W.cell? ⟨w.heap.size, 0, none⟩ = some c0 ∧ W.cell? ⟨w.heap.size, 1, none⟩ = some c1 ∧ W.cell? ⟨w.heap.size, 2, none⟩ = some c2 ∧ W.cell? ⟨w.heap.size, 3, none⟩ = some c3 ∧ W.cell? ⟨w.heap.size, 4, none⟩ = some c4 ∧ W.cell? ⟨w.heap.size, 5, none⟩ = some c5)
  (first | exact K1.out _ HB.out | exact K1.out _ (HB.out.alloc (le_refl _) _))
  (first
  | (go_at_call 40; refine (Zv6 _ _ s [x] _ (HR.out.upA _) (Row.here (Row.lit1 _ x)) hsl2 (by simp)).mono ?_; rintro e w1 ⟨v1, rfl, hr1, hb1⟩; replace hb1 := Z0_ ((Below.refl _ W0.drew).alloc (le_refl _) _) (le_refl _) hb1; replace HB := hid hb1; replace HV := hid (HV.out.up hb1); replace HE := hid (HE.out.up hb1); have HU := hid hr1; clear hr1 hb1)
  | (go_at_call 37; refine (Zj4 E m _ _ _ _ HV.out Hs.out HU.out hul.out HE.out).mono ?_; rintro e w2 ⟨rfl, hb2⟩; rw [HZ.out]; replace HB := hid (Z0_ HB.out (le_refl _) hb2); clear hb2))
 all_goals
  have Hb9 := hid (Z0_ Hb0.out.drew (le_refl _) HB.out)
  go_simp
  go_wp2
  go_ret
  exact ⟨rfl, Hb9.out⟩
theorem Zw2 (a b : List Int) : (Z7_ a b).length ≤ a.length := by
 unfold Z7_ partL
 split
 ·exact List.length_filter_le _ _
 ·exact Nat.zero_le _
theorem U6_ (E : Nat → Addr) (m : Mat) (c0 c1 c2 c3 c4 c5 sv mv : Value) (s M : List Int) (x y : Int) (w : World) (hv : MatV w w.heap.size (.agg #[c0, c1, c2, c3, c4, c5]) m) (hs : Sml m) (hr : Row w w.heap.size sv s) (hm : Row w w.heap.size mv M) (hsl : s.length ≤ 64) (hml : M.length ≤ 64) (hE : Env E w) :
  Calls Tryz.prog 34 #[.agg #[c0, c1, c2, c3, c4, c5, sv, mv], .int .i64 x, .int .i64 y] w (Says w (hasB M x || indT m (Y2_ (Z7_ s [y]) [x]))) := by
 obtain ⟨W0, hW0⟩ : ∃ W0, W0 = w.alloc (.cells #[c0, c1, c2, c3, c4, c5, sv, mv] 52) := ⟨_, rfl⟩
 have HW0 := hid hW0
 have hb0 : Below w.heap.size w W0 := by rw [hW0]; exact (Below.refl _ w).alloc (le_refl _) _
 have hblk : Blk W0 w.heap.size 52 #[c0, c1, c2, c3, c4, c5, sv, mv] := by rw [hW0]; exact Blk.new w _ _
 have Hb0 := hid hb0
 have Hblk := hid hblk
 have hbd := (Below.refl W0.heap.size W0).drew
 have HR := hid (hr.up hb0)
 have HM := hid (hm.up hb0)
 have HV := hid (hv.up hb0)
 have HE := hid (hE.up hb0)
 have Hs := hid hs
 have hml2 : M.length ≤ 1048576 := by omega
 have hsl2 : s.length ≤ 1048576 := by omega
 have hmn : (Z7_ s [y]).length ≤ 1000 := Nat.le_trans (Zw2 _ _) (by omega)
 obtain ⟨As, cs, rfl, _⟩ := id hr
 obtain ⟨Am, cm, rfl, _⟩ := id hm
 obtain ⟨q, hq⟩ : ∃ q, hasB M x = q := ⟨_, rfl⟩
 have HQ := hid hq
 obtain ⟨z, hz⟩ : ∃ z, indT m (Y2_ (Z7_ s [y]) [x]) = z := ⟨_, rfl⟩
 have HZ := hid hz
 rw [hq, hz]
 clear hW0 hb0 hblk hr hm hv hE hs hz hq
 cases q
 ·have K1 : Hid (∀ W, Below W0.drew.heap.size W0.drew W → W.cell? ⟨w.heap.size, 0, none⟩ = some c0 ∧ W.cell? ⟨w.heap.size, 1, none⟩ = some c1 ∧ W.cell? ⟨w.heap.size, 2, none⟩ = some c2 ∧ W.cell? ⟨w.heap.size, 3, none⟩ = some c3 ∧ W.cell? ⟨w.heap.size, 4, none⟩ = some c4 ∧ W.cell? ⟨w.heap.size, 5, none⟩ = some c5 ∧ W.cell? ⟨w.heap.size, 6, none⟩ = some (.slice As s.length cs) ∧ W.cell? ⟨w.heap.size, 7, none⟩ = some (.slice Am M.length cm)) := hid fun W hW => ⟨(Hblk.out.drew.below hW Hblk.out.lt).cell 0, (Hblk.out.drew.below hW Hblk.out.lt).cell 1, (Hblk.out.drew.below hW Hblk.out.lt).cell 2, (Hblk.out.drew.below hW Hblk.out.lt).cell 3, (Hblk.out.drew.below hW Hblk.out.lt).cell 4, (Hblk.out.drew.below hW Hblk.out.lt).cell 5, (Hblk.out.drew.below hW Hblk.out.lt).cell 6, (Hblk.out.drew.below hW Hblk.out.lt).cell 7⟩
  have HB : Hid (Below W0.drew.heap.size W0.drew W0.drew) := hid (Below.refl _ _)
  replace HR := hid (HR.out.up hbd)
  replace HM := hid (HM.out.up hbd)
  replace HV := hid (HV.out.up hbd)
  replace HE := hid (HE.out.up hbd)
  clear hbd
  rw [Bool.false_or]
  go_enter Tryz.func34, Tryz.ntmps34
  go_wp2
  rw [← HW0.out]
  go_region_held3 (fun W => W.cell? ⟨w.heap.size, 0, none⟩ = some c0 ∧ W.cell? ⟨w.heap.size, 1, none⟩ = some c1 ∧ W.cell? ⟨w.heap.size, 2, none⟩ = some c2 ∧ W.cell? ⟨w.heap.size, 3, none⟩ = some c3 ∧ W.cell? ⟨w.heap.size, 4, none⟩ = some c4 ∧ W.cell? ⟨w.heap.size, 5, none⟩ = some c5 ∧ W.cell? ⟨w.heap.size, 6, none⟩ = some (.slice As s.length cs) ∧ W.cell? ⟨w.heap.size, 7, none⟩ = some (.slice Am M.length cm))
   (first | exact K1.out _ HB.out | exact K1.out _ (HB.out.alloc HB.out.size _))
   (first
   | (go_at_call 54; refine (Yu2 _ M x _ HM.out hml2).mono ?_; rintro e w1 ⟨rfl, hb1⟩; rw [HQ.out]; replace HB := hid (Z0_ HB.out (le_refl _) hb1); replace HR := hid (HR.out.up hb1); replace HV := hid (HV.out.up hb1); replace HE := hid (HE.out.up hb1); clear hb1)
   | (go_at_call 41; refine (E4_ _ _ s [y] _ (HR.out.upA _) (Row.here (Row.lit1 _ y)) hsl2 (by simp)).mono ?_; rintro e w2 ⟨v2, rfl, hr2, hb2⟩; replace hb2 := Z0_ ((Below.refl _ _).alloc (le_refl _) _) (le_refl _) hb2; replace HV := hid (HV.out.up hb2); replace HE := hid (HE.out.up hb2); replace HB := hid (Z0_ HB.out (le_refl _) hb2); have HN := hid hr2; clear hr2 hb2)
   | (go_at_call 52; refine (Zj5 E m _ _ _ _ _ _ _ _ _ _ x _ HV.out Hs.out HN.out hmn HE.out).mono ?_; rintro e w3 ⟨rfl, hb3⟩; rw [HZ.out]; replace HB := hid (Z0_ HB.out (le_refl _) hb3); clear hb3))
  all_goals
   have Hb9 := hid (Z0_ Hb0.out.drew (le_refl _) HB.out)
   go_simp
   go_wp2
   go_ret
   exact ⟨rfl, Hb9.out⟩
 ·have K1 : Hid (∀ W, Below W0.heap.size W0 W → W.cell? ⟨w.heap.size, 0, none⟩ = some c0 ∧ W.cell? ⟨w.heap.size, 1, none⟩ = some c1 ∧ W.cell? ⟨w.heap.size, 2, none⟩ = some c2 ∧ W.cell? ⟨w.heap.size, 3, none⟩ = some c3 ∧ W.cell? ⟨w.heap.size, 4, none⟩ = some c4 ∧ W.cell? ⟨w.heap.size, 5, none⟩ = some c5 ∧ W.cell? ⟨w.heap.size, 6, none⟩ = some (.slice As s.length cs) ∧ W.cell? ⟨w.heap.size, 7, none⟩ = some (.slice Am M.length cm)) := hid fun W hW => ⟨(Hblk.out.below hW Hblk.out.lt).cell 0, (Hblk.out.below hW Hblk.out.lt).cell 1, (Hblk.out.below hW Hblk.out.lt).cell 2, (Hblk.out.below hW Hblk.out.lt).cell 3, (Hblk.out.below hW Hblk.out.lt).cell 4, (Hblk.out.below hW Hblk.out.lt).cell 5, (Hblk.out.below hW Hblk.out.lt).cell 6, (Hblk.out.below hW Hblk.out.lt).cell 7⟩
  have Hh : Hid (∀ W, Below W0.heap.size W0 W → Calls Tryz.prog 54 #[.slice Am M.length cm, .int .i64 x] W fun e w' => e = .returned (.bool true) ∧ Below W0.heap.size W0 w') := hid fun W hW => (Yu2 _ M x W (HM.out.up hW) hml2).mono fun _ _ ⟨h2, h3⟩ => ⟨by rw [h2, HQ.out], Z0_ hW (le_refl _) h3⟩
  rw [Bool.true_or]
  clear hbd
  go_enter Tryz.func34, Tryz.ntmps34
  go_wp2
  rw [← HW0.out]
  refine Z6_ W0.heap.size W0 (by kernel_rfl) (by kernel_rfl) (Below.refl _ _) ?_
  iterate 15 (first
   | go_big_quiet_skip
   | go_big_quiet_step (with_reducible exact Hh.out _)
   | (go_big_quiet_want; apply Exists.intro; refine ⟨fun W hW => ?_, ?_⟩; (· obtain ⟨k0, k1, k2, k3, k4, k5, k6, k7⟩ := K1.out W hW; go_simp; first | exact rfl | exact ⟨rfl, rfl⟩); go_simp; go_big_quiet_on))
  refine wpQuiet_nil ?_
  intro w7 hB7
  go_wp2
  go_ret
  exact ⟨rfl, Z0_ Hb0.out (le_refl _) hB7⟩
def P7_ (w : World) (c0 c1 c2 c3 c4 c5 sv : Value) (M : List Int) (e : Ending) (w' : World) : Prop := ∃ (A : Option Addr) (n c : Nat), e = .returned (.agg #[c0, c1, c2, c3, c4, c5, sv, .slice A n c]) ∧ w'.ownsRow 0 3 1 (.slice A n c) M.length (ints M) ∧ Below w.heap.size w w'
theorem Row.storeS {w : World} {B : Nat} {v : Value} {l : List Int} (h : Row w B v l) {p : Addr} {A : Option Addr} {n c : Nat} (hp : w.cell? p = some (.slice A n c)) (u : Value) : Row (w.setCell p u) B v l := by
 obtain ⟨A', c', hv, hn, hk⟩ := h
 refine ⟨A', c', hv, hn, fun k hlt => ?_⟩
 obtain ⟨ad, hA, hB, hc⟩ := hk k hlt
 refine ⟨ad, hA, hB, ?_⟩
 rw [World.cell?_setCell_other _ _ _ _ (fun e => by rw [e, hc] at hp; cases hp)]
 exact hc
theorem Y6_ (w : World) (g i : Nat) (u : Value) : w.grownBy (w.setCell ⟨g, i, none⟩ u) (some g) := I4_ (World.grownBy.refl w (some g)) (.inl rfl) u
theorem sw_no {a b : Nat} (h1 : a ≤ b + 1) (h2 : b + 3 ≤ a) : False := by omega
theorem Yw0 {p : Int → Bool} {o : List Int} {k : Nat} (hk : k < o.length) : (o.take (k + 1)).filter p = (o.take k).filter p ++ if p (o.getD k 0) = true then [o.getD k 0] else [] := by
 rw [List.take_succ_eq_append_getElem hk, List.filter_append, show o[k] = o.getD k 0 by simp [List.getD, hk], List.filter_cons]
 split <;> rfl
theorem Zc2 (E : Nat → Addr) (m : Mat) (Al Ai : Option Addr) (nl cl ni ci : Nat) (sv : Value) (s : List Int) (w : World) (hv : MatV w w.heap.size (.agg #[.int .i64 m.t, .int .i64 m.n, .int .i64 m.a, .int .i64 m.b, .slice Al nl cl, .slice Ai ni ci]) m) (hs : Sml m) (hr : Row w w.heap.size sv s) (hsl : s.length ≤ 64) (hal : (Z7_ (allL m.n) s).length ≤ 64) (hE : Env E w) :
  Calls Tryz.prog 32 #[.agg #[.int .i64 m.t, .int .i64 m.n, .int .i64 m.a, .int .i64 m.b, .slice Al nl cl, .slice Ai ni ci], sv] w (P7_ w (.int .i64 m.t) (.int .i64 m.n) (.int .i64 m.a) (.int .i64 m.b) (.slice Al nl cl) (.slice Ai ni ci) sv ((Z7_ (allL m.n) s).filter fun x => indT m (Y2_ s [x]))) := by
 have hmv := hv
 obtain ⟨As, cs, hsv, _⟩ := id hr
 subst hsv
 obtain ⟨o, ho⟩ : ∃ o, Z7_ (allL m.n) s = o := ⟨_, rfl⟩
 obtain ⟨p, hp⟩ : ∃ p : Int → Bool, p = fun x => indT m (Y2_ s [x]) := ⟨_, rfl⟩
 rw [← hp, ho]
 rw [ho] at hal
 have HO := hid ho
 have HP := hid hp
 obtain ⟨W3, hW3⟩ : ∃ W3, W3 = ((w.alloc (.cells #[.int .i64 m.t, .int .i64 m.n, .int .i64 m.a, .int .i64 m.b, .slice Al nl cl, .slice Ai ni ci] 25)).alloc (.cells #[.int .i64 0, .int .i64 0, .int .i64 0, .int .i64 0, .slice none 0 0, .slice none 0 0, .slice none 0 0, .slice none 0 0] 52)).alloc (.cells #[.int .i64 m.t, .int .i64 m.n, .int .i64 m.a, .int .i64 m.b, .slice Al nl cl, .slice Ai ni ci, .slice As s.length cs, .slice none 0 0] 52) := ⟨_, rfl⟩
 have HW3 := hid hW3
 have hb3 : Below w.heap.size w W3 := by rw [hW3]; exact (((Below.refl _ w).alloc (le_refl _) _).alloc (by simp) _).alloc (by simp; omega) _
 have hz3 : Blk W3 (w.heap.size + 1) 52 #[.int .i64 0, .int .i64 0, .int .i64 0, .int .i64 0, .slice none 0 0, .slice none 0 0, .slice none 0 0, .slice none 0 0] := by
  rw [hW3]
  have := (Blk.new (w.alloc (.cells #[.int .i64 m.t, .int .i64 m.n, .int .i64 m.a, .int .i64 m.b, .slice Al nl cl, .slice Ai ni ci] 25)) 52 #[.int .i64 0, .int .i64 0, .int .i64 0, .int .i64 0, .slice none 0 0, .slice none 0 0, .slice none 0 0, .slice none 0 0]).alloc (.cells #[.int .i64 m.t, .int .i64 m.n, .int .i64 m.a, .int .i64 m.b, .slice Al nl cl, .slice Ai ni ci, .slice As s.length cs, .slice none 0 0] 52)
  simpa using this
 have hd3 : Blk W3 (w.heap.size + 1 + 1) 52 #[.int .i64 m.t, .int .i64 m.n, .int .i64 m.a, .int .i64 m.b, .slice Al nl cl, .slice Ai ni ci, .slice As s.length cs, .slice none 0 0] := by
  rw [hW3]
  have := Blk.new ((w.alloc (.cells #[.int .i64 m.t, .int .i64 m.n, .int .i64 m.a, .int .i64 m.b, .slice Al nl cl, .slice Ai ni ci] 25)).alloc (.cells #[.int .i64 0, .int .i64 0, .int .i64 0, .int .i64 0, .slice none 0 0, .slice none 0 0, .slice none 0 0, .slice none 0 0] 52)) 52 #[.int .i64 m.t, .int .i64 m.n, .int .i64 m.a, .int .i64 m.b, .slice Al nl cl, .slice Ai ni ci, .slice As s.length cs, .slice none 0 0]
  simpa using this
 have hs3 : W3.heap.size = w.heap.size + 3 := by rw [hW3]; simp
 have Hb3 := hid hb3
 have Hz3 := hid hz3
 have Hd3 := hid hd3
 have Hs3 := hid hs3
 have Hr := hid hr
 have HV := hid hmv
 have HE := hid hE
 have Hs := hid hs
 have hsl2 : s.length ≤ 1048576 := by omega
 have hsl3 : s.length ≤ 1000 := by omega
 have holI : (o.length : Int) ≤ 64 := by omega
 clear hW3 hb3 hz3 hd3 hs3 hr hmv hE hs ho hp
 go_enter Tryz.func32, Tryz.ntmps32
 go_wp2_with fail
 rw [← HW3.out]
 refine (U5_ m.n _ _ _ _ _ _ _ s _ (Hr.out.up Hb3.out) hsl2).mono ?_
 rintro e w1 ⟨vo, rfl, hro, hb1⟩
 rw [HO.out] at hro
 have HRo := hid hro
 obtain ⟨Ao, co, rfl, _⟩ := hro
 have Hb1 := hid (Z0_ Hb3.out (le_refl _) hb1)
 have Hz1 := hid (Hz3.out.below hb1 Hz3.out.lt)
 have Hd1 := hid (Hd3.out.below hb1 Hd3.out.lt)
 have Hs1 : Hid (w.heap.size + 3 ≤ w1.heap.size) := hid (by rw [← Hs3.out]; exact hb1.size)
 clear hb1 Hz3 Hd3 Hb3 HW3 Hs3
 go_wp2
 go_loopw [14] (fun vk wr => ∃ (k : Nat) (Am : Option Addr) (nm cm : Nat), vk = .int .i64 (k : Int) ∧ k ≤ o.length ∧ Hid (Blk wr (w.heap.size + 1) 52 #[.int .i64 0, .int .i64 0, .int .i64 0, .int .i64 0, .slice none 0 0, .slice none 0 0, .slice none 0 0, .slice none 0 0] ∧ Blk wr (w.heap.size + 1 + 1) 52 #[.int .i64 m.t, .int .i64 m.n, .int .i64 m.a, .int .i64 m.b, .slice Al nl cl, .slice Ai ni ci, .slice As s.length cs, .slice Am nm cm] ∧ wr.ownsRow w1.heap.size 3 1 (.slice Am nm cm) ((o.take k).filter p).length (ints ((o.take k).filter p)) ∧ Row wr w1.heap.size (.slice Ao o.length co) o ∧ Below w.heap.size w wr ∧ w1.heap.size ≤ wr.heap.size)) (fun vk _ => o.length - (intOf vk).toNat)
 case atStart => exact ⟨0, none, 0, 0, rfl, Nat.zero_le _, Hz1.out, Hd1.out, World.ownsRow_nil _ _ _ _, HRo.out, Hb1.out, le_refl _⟩
 case round =>
  obtain ⟨k, Am, nm, cm, rfl, hk, HT⟩ := hrel
  clear Hz1 Hd1 HRo Hb1
  have Hzb := hid HT.out.1
  have Hdb := hid HT.out.2.1
  have Hown := hid HT.out.2.2.1
  have HRo := hid HT.out.2.2.2.1
  have Hbr := hid HT.out.2.2.2.2.1
  have Hsz := hid HT.out.2.2.2.2.2
  clear HT
  by_cases hlt : k < o.length
  ·have hltI : (k : Int) < (o.length : Int) := by omega
   obtain ⟨ao, hA, hcs⟩ := Row.nthV HRo.out hlt
   subst hA
   have gx := hcs wr (Below.refl _ _)
   have Hst := hid (Yw0 (p := p) hlt)
   have hfl : ((o.take k).filter p).length ≤ 64 := Nat.le_trans (List.length_filter_le _ _) (by rw [List.length_take]; omega)
   generalize o.getD k 0 = x at *
   generalize (o.take k).filter p = L at *
   have HC : Hid (∀ W, Below w.heap.size w W → Calls Tryz.prog 52 #[.agg #[.int .i64 m.t, .int .i64 m.n, .int .i64 m.a, .int .i64 m.b, .slice Al nl cl, .slice Ai ni ci, .slice As s.length cs, .slice Am nm cm], .slice As s.length cs, .int .i64 x] W (Says W (p x))) := hid fun W hW => by rw [HP.out]; exact Zj5 E m _ _ _ _ _ _ _ _ _ s x W (HV.out.up hW) Hs.out (Hr.out.up hW) hsl3 (HE.out.up hW)
   have HCr := hid (HC.out wr Hbr.out)
   have d0 := Hdb.out.cell 0
   have d1 := Hdb.out.cell 1
   have d2 := Hdb.out.cell 2
   have d3 := Hdb.out.cell 3
   have d4 := Hdb.out.cell 4
   have d5 := Hdb.out.cell 5
   have d6 := Hdb.out.cell 6
   have d7 := Hdb.out.cell 7
   have hw1 : IntKind.i64.wrap ((k : Int) + 1) = (k : Int) + 1 := by rw [IntKind.wrap_i64]; omega
   clear hcs HC
   go_wp2_with fail
   refine HCr.out.mono ?_
   rintro e w2 ⟨rfl, hb2⟩
   have Hz2 := hid (Hzb.out.below hb2 Hzb.out.lt)
   have Hd2 := hid (Hdb.out.below hb2 Hdb.out.lt)
   have Hown2 := hid (P6_ Hown.out hb2)
   have HRo2 := hid (HRo.out.below (hb2.mono Hsz.out))
   have Hbr2 := hid (Z0_ Hbr.out (le_refl _) hb2)
   have Hsz2 := hid (Nat.le_trans Hsz.out hb2.size)
   clear hb2 d0 d1 d2 d3 d4 d5 d6 d7 gx
   rcases hpx : p x with _ | _
   ·have Hn : Hid ((o.take (k + 1)).filter p = L) := hid (by rw [Hst.out, if_neg (by rw [hpx]; decide), List.append_nil])
    clear hpx
    go_wp2
    go_roundw
    case rel => exact ⟨k + 1, Am, nm, cm, by go_num, by omega, Hz2.out, Hd2.out, by rw [Hn.out]; exact Hown2.out, HRo2.out, Hbr2.out, Hsz2.out⟩
    case measure => simp [intOf]; omega
   ·have Hn : Hid ((o.take (k + 1)).filter p = L ++ [x]) := hid (by rw [Hst.out, if_pos hpx])
    have d7 := Hd2.out.cell 7
    clear hpx
    have hsz3 : w1.heap.size ≤ w2.heap.size + 1 := Nat.le_trans Hsz2.out (Nat.le_succ _)
    go_wp2_with (at_builtin; refine Z4_ rfl _ _ rfl w1.heap.size _ _ _ L [x] rfl rfl (World.ownsRow.alloc Hown2.out _) (Row.lit1 _ x) (by omega) (by simp) (by simp; exact hsz3) ?_)
    intro v8 w8 hown8 hg8
    have hne : ∀ i, (Value.slice Am nm cm).ownBlock = some i → w.heap.size + 3 ≤ i := fun i hi => Nat.le_trans Hs1.out (World.ownsRow.lt Hown2.out i hi).1
    have hz8 := (Hz2.out.alloc (.cells #[.int .i64 x] 3)).grown hg8 (fun e => by have := hne _ e.symm; omega)
    have hd8 := (Hd2.out.alloc (.cells #[.int .i64 x] 3)).grown hg8 (fun e => by have := hne _ e.symm; omega)
    have hb8 : Below w1.heap.size w2 w8 := ((Below.refl _ w2).alloc Hsz2.out (.cells #[.int .i64 x] 3)).grown hg8 (by simp; omega) (fun i hi => (World.ownsRow.lt Hown2.out i hi).1)
    obtain ⟨A8, c8, hv8⟩ := J1_ hown8
    subst hv8
    have e7 := hd8.cell 7
    have f7 := hd8.frozen 7
    have Hz9 := hid (hz8.far (p := ⟨w.heap.size + 1 + 1, 7, none⟩) (by show w.heap.size + 1 ≠ w.heap.size + 1 + 1; omega) (.slice A8 (L.length + 1) c8))
    have Hd9 := hid (hd8.set_ 7 (.slice A8 (L.length + 1) c8))
    have Hown9 : Hid ((w8.setCell ⟨w.heap.size + 1 + 1, 7, none⟩ (.slice A8 (L.length + 1) c8)).ownsRow w1.heap.size 3 1 (.slice A8 (L.length + 1) c8) (L.length + 1) (ints (L ++ [x]))) := hid (World.ownsRow.kept hown8 (I4_ (World.grownBy.refl w8 (some (w.heap.size + 1 + 1))) (.inl rfl) _) (by
     rcases hb : (Value.slice A8 (L.length + 1) c8).ownBlock with _ | i
     ·exact .inl rfl
     ·right
      intro e
      injection e with e
      have h1 := (World.ownsRow.lt hown8 i hb).1
      have h2 := Hs1.out
      omega))
    have HRo9 := hid ((HRo2.out.below hb8).storeS e7 (.slice A8 (L.length + 1) c8))
    have Hbr9 := hid ((Hbr2.out.trans (hb8.mono (by have := Hs1.out; omega))).setCell (p := ⟨w.heap.size + 1 + 1, 7, none⟩) (by show w.heap.size ≤ w.heap.size + 1 + 1; omega) (.slice A8 (L.length + 1) c8))
    have Hsz9 : Hid (w1.heap.size ≤ (w8.setCell ⟨w.heap.size + 1 + 1, 7, none⟩ (.slice A8 (L.length + 1) c8)).heap.size) := hid (by simp [World.setCell]; exact Nat.le_trans Hsz2.out hb8.size)
    clear hown8 hg8 hz8 hd8 hb8 hne d7
    go_wp2
    go_roundw
    case rel => exact ⟨k + 1, A8, L.length + 1, c8, by go_num, by omega, Hz9.out, Hd9.out, by rw [Hn.out, List.length_append]; exact Hown9.out, HRo9.out, Hbr9.out, Hsz9.out⟩
    case measure => simp [intOf]; omega
  ·have hke : k = o.length := by omega
   have HL : Hid ((o.take k).filter p = o.filter p) := hid (by rw [hke, List.take_length])
   have hltI : ¬ (k : Int) < (o.length : Int) := by omega
   have d0 := Hdb.out.cell 0
   have d1 := Hdb.out.cell 1
   have d2 := Hdb.out.cell 2
   have d3 := Hdb.out.cell 3
   have d4 := Hdb.out.cell 4
   have d5 := Hdb.out.cell 5
   have d6 := Hdb.out.cell 6
   have d7 := Hdb.out.cell 7
   have z0 := Hzb.out.cell 0
   have z1 := Hzb.out.cell 1
   have z2 := Hzb.out.cell 2
   have z3 := Hzb.out.cell 3
   have z4 := Hzb.out.cell 4
   have z5 := Hzb.out.cell 5
   have z6 := Hzb.out.cell 6
   have z7 := Hzb.out.cell 7
   have y0 := Hzb.out.frozen 0
   have y1 := Hzb.out.frozen 1
   have y2 := Hzb.out.frozen 2
   have y3 := Hzb.out.frozen 3
   have y4 := Hzb.out.frozen 4
   have y5 := Hzb.out.frozen 5
   have y6 := Hzb.out.frozen 6
   have y7 := Hzb.out.frozen 7
   go_wp2
   have hfin : Blk ((((((((wr.setCell ⟨w.heap.size + 1, 0, none⟩ (.int .i64 m.t)).setCell ⟨w.heap.size + 1, 1, none⟩ (.int .i64 m.n)).setCell ⟨w.heap.size + 1, 2, none⟩ (.int .i64 m.a)).setCell ⟨w.heap.size + 1, 3, none⟩ (.int .i64 m.b)).setCell ⟨w.heap.size + 1, 4, none⟩ (.slice Al nl cl)).setCell ⟨w.heap.size + 1, 5, none⟩ (.slice Ai ni ci)).setCell ⟨w.heap.size + 1, 6, none⟩ (.slice As s.length cs)).setCell ⟨w.heap.size + 1, 7, none⟩ (.slice Am nm cm)) (w.heap.size + 1) 52 #[.int .i64 m.t, .int .i64 m.n, .int .i64 m.a, .int .i64 m.b, .slice Al nl cl, .slice Ai ni ci, .slice As s.length cs, .slice Am nm cm] := by
    have h := ((((((((Hzb.out.set_ 0 (.int .i64 m.t)).set_ 1 (.int .i64 m.n)).set_ 2 (.int .i64 m.a)).set_ 3 (.int .i64 m.b)).set_ 4 (.slice Al nl cl)).set_ 5 (.slice Ai ni ci)).set_ 6 (.slice As s.length cs)).set_ 7 (.slice Am nm cm))
    simpa only [List.setIfInBounds_toArray, List.set_cons_zero, List.set_cons_succ] using h
   have hbw : Below w.heap.size w ((((((((wr.setCell ⟨w.heap.size + 1, 0, none⟩ (.int .i64 m.t)).setCell ⟨w.heap.size + 1, 1, none⟩ (.int .i64 m.n)).setCell ⟨w.heap.size + 1, 2, none⟩ (.int .i64 m.a)).setCell ⟨w.heap.size + 1, 3, none⟩ (.int .i64 m.b)).setCell ⟨w.heap.size + 1, 4, none⟩ (.slice Al nl cl)).setCell ⟨w.heap.size + 1, 5, none⟩ (.slice Ai ni ci)).setCell ⟨w.heap.size + 1, 6, none⟩ (.slice As s.length cs)).setCell ⟨w.heap.size + 1, 7, none⟩ (.slice Am nm cm)) := ((((((((Hbr.out.setCell (p := ⟨w.heap.size + 1, 0, none⟩) (Nat.le_succ _) _).setCell (p := ⟨w.heap.size + 1, 1, none⟩) (Nat.le_succ _) _).setCell (p := ⟨w.heap.size + 1, 2, none⟩) (Nat.le_succ _) _).setCell (p := ⟨w.heap.size + 1, 3, none⟩) (Nat.le_succ _) _).setCell (p := ⟨w.heap.size + 1, 4, none⟩) (Nat.le_succ _) _).setCell (p := ⟨w.heap.size + 1, 5, none⟩) (Nat.le_succ _) _).setCell (p := ⟨w.heap.size + 1, 6, none⟩) (Nat.le_succ _) _).setCell (p := ⟨w.heap.size + 1, 7, none⟩) (Nat.le_succ _) _)
   have hon := X2_ (X2_ (X2_ (X2_ (X2_ (X2_ (X2_ (Y6_ wr (w.heap.size + 1) 0 (.int .i64 m.t)) (Y6_ _ (w.heap.size + 1) 1 (.int .i64 m.n))) (Y6_ _ (w.heap.size + 1) 2 (.int .i64 m.a))) (Y6_ _ (w.heap.size + 1) 3 (.int .i64 m.b))) (Y6_ _ (w.heap.size + 1) 4 (.slice Al nl cl))) (Y6_ _ (w.heap.size + 1) 5 (.slice Ai ni ci))) (Y6_ _ (w.heap.size + 1) 6 (.slice As s.length cs))) (Y6_ _ (w.heap.size + 1) 7 (.slice Am nm cm))
   generalize ((((((((wr.setCell ⟨w.heap.size + 1, 0, none⟩ (.int .i64 m.t)).setCell ⟨w.heap.size + 1, 1, none⟩ (.int .i64 m.n)).setCell ⟨w.heap.size + 1, 2, none⟩ (.int .i64 m.a)).setCell ⟨w.heap.size + 1, 3, none⟩ (.int .i64 m.b)).setCell ⟨w.heap.size + 1, 4, none⟩ (.slice Al nl cl)).setCell ⟨w.heap.size + 1, 5, none⟩ (.slice Ai ni ci)).setCell ⟨w.heap.size + 1, 6, none⟩ (.slice As s.length cs)).setCell ⟨w.heap.size + 1, 7, none⟩ (.slice Am nm cm)) = w9 at *
   have hown9 := World.ownsRow.kept Hown.out hon (.inr fun e => sw_no (World.ownsRow.lt Hown.out _ e).1 Hs1.out)
   have k0 : w9.cell? ⟨w.heap.size + 1, 0, none⟩ = some (.int .i64 m.t) := hfin.cell 0
   have k1 : w9.cell? ⟨w.heap.size + 1, 1, none⟩ = some (.int .i64 m.n) := hfin.cell 1
   have k2 : w9.cell? ⟨w.heap.size + 1, 2, none⟩ = some (.int .i64 m.a) := hfin.cell 2
   have k3 : w9.cell? ⟨w.heap.size + 1, 3, none⟩ = some (.int .i64 m.b) := hfin.cell 3
   have k4 : w9.cell? ⟨w.heap.size + 1, 4, none⟩ = some (.slice Al nl cl) := hfin.cell 4
   have k5 : w9.cell? ⟨w.heap.size + 1, 5, none⟩ = some (.slice Ai ni ci) := hfin.cell 5
   have k6 : w9.cell? ⟨w.heap.size + 1, 6, none⟩ = some (.slice As s.length cs) := hfin.cell 6
   have k7 : w9.cell? ⟨w.heap.size + 1, 7, none⟩ = some (.slice Am nm cm) := hfin.cell 7
   refine bodyPost_ret (v := .agg #[.int .i64 m.t, .int .i64 m.n, .int .i64 m.a, .int .i64 m.b, .slice Al nl cl, .slice Ai ni ci, .slice As s.length cs, .slice Am nm cm]) ?_ rfl ?_
   ·simp [results, Tryz.results32, go_sem, k0, k1, k2, k3, k4, k5, k6, k7]
   ·rw [HL.out] at hown9
    exact ⟨_, _, _, rfl, L.own_le hown9 (Nat.zero_le _), hbw⟩
end Wp
end Go.Proofs.YtgadbnbhgpehjaaGreatDoor
