/- The document's deep, numbers, prime, columns' May and sides' May, walked. -/
import Derived.Test.YtgadbnbhgpehjaaGreatDoorZO
import Derived.Test.YtgadbnbhgpehjaaGreatDoorZE
import Derived.Test.YtgadbnbhgpehjaaGreatDoorZM
import Derived.Test.YtgadbnbhgpehjaaGreatDoorZA
set_option maxHeartbeats 4000000
set_option maxRecDepth 100000
open Go.Lib (hid)
namespace Go.Proofs.YtgadbnbhgpehjaaGreatDoor
open Go.RowKit
namespace Wp
theorem Y5_ (t : Int) (w : World) : Calls Tryz.prog 67 #[.int .i64 t] w (Says w (decide (nest t))) := by
 by_cases h1 : t < 5
 ·rw [show decide (nest t) = false from decide_eq_false (by unfold nest; omega)]
  go_enter Tryz.func67, Tryz.ntmps67
  go_wp2
  go_ret
  exact ⟨rfl, Below.refl _ _⟩
 ·have h1' : 5 ≤ t := by omega
  rw [show decide (nest t) = decide (t ≤ 9) from decide_eq_decide.2 ⟨fun h => h.2, fun h => ⟨h1', h⟩⟩]
  clear h1
  go_enter Tryz.func67, Tryz.ntmps67
  go_wp2
  go_ret
  exact ⟨rfl, Below.refl _ _⟩
theorem Yr9 : ∀ (k : Nat) (m : Mat) (v : Value) (w : World) (left : Int), left = (k : Int) → k ≤ 10 → MatV w w.heap.size v m → Sml m → Calls Tryz.prog 50 #[v, .int .i64 left] w (Tells w (dp k m)) := by
 intro k
 induction k with
 | zero =>
  intro m v w left hleft _ hv hs
  obtain ⟨lv, iv, rfl, hl, hi⟩ := hv.open
  obtain ⟨A, c, rfl, hcap, hk⟩ := hi
  have hlen := U1_ hs
  have hlen' : (m.i.length : Int) ≤ 1000 := by omega
  have Hb0 := hid (Z1_ w m lv (.slice A m.i.length c))
  have hblk := Z3_ w m lv (.slice A m.i.length c)
  have g0 := hblk.cell 0
  have g5 := hblk.cell 5
  subst hleft
  clear hblk hk hl
  unfold boxed at *
  by_cases h3 : (0 : Int) < (m.i.length : Int)
  ·go_enter Tryz.func50, Tryz.ntmps50
   go_wp2
   refine wp_loop_rounds 1 ?_
   rw [rounds_succ]
   go_wp2
   go_ret
   exact ⟨rfl, Hb0.out⟩
  ·go_enter Tryz.func50, Tryz.ntmps50
   go_wp2
   refine wp_loop_rounds 1 ?_
   rw [rounds_succ]
   go_wp2
   go_ret
   exact ⟨rfl, Hb0.out⟩
 | succ k ih =>
  intro m v w left hleft hk10 hv hs
  obtain ⟨lv, iv, rfl, hl, hi⟩ := hv.open
  obtain ⟨A, c, rfl, hcap, hk⟩ := hi
  have Hk := hid hk
  have Hs := hid hs
  have Ih := hid ih
  have hlen := U1_ hs
  have hlen' : (m.i.length : Int) ≤ 1000 := by omega
  have Hb0 := hid (Z1_ w m lv (.slice A m.i.length c))
  have Hblk := hid (Z3_ w m lv (.slice A m.i.length c))
  have g0 := Hblk.out.cell 0
  have g5 := Hblk.out.cell 5
  have hm1 : (k : Int) + 1 = left := by omega
  have hm0 : 0 < left := by omega
  have hk10' : (k : Int) ≤ 10 := by omega
  have hw1 : IntKind.i64.wrap (left - 1) = (k : Int) := by rw [IntKind.wrap_i64]; omega
  clear hk hl hleft ih hs
  unfold boxed at *
  by_cases hn : nest m.t
  ·have hd : Hid (dp (k + 1) m = 1 + maxN (m.i.map (dp k))) := by
    show dp (k + 1) m = _
    rw [dp, if_pos hn]
   have Hn := hid hn
   clear hn g0 g5
   go_enter Tryz.func50, Tryz.ntmps50
   go_wp2
   go_loopw [5, 6] (fun vd vi wr => ∃ (d i : Nat), vd = .int .i64 d ∧ vi = .int .i64 i ∧ i ≤ m.i.length ∧ d = Wp.most k i m.i ∧ Blk wr w.heap.size 25 #[.int .i64 m.t, .int .i64 m.n, .int .i64 m.a, .int .i64 m.b, lv, .slice A m.i.length c] ∧ Below w.heap.size w wr) (fun _ vi _ => m.i.length - (intOf vi).toNat)
   case atStart => exact ⟨0, 0, rfl, rfl, Nat.zero_le _, by rw [Zv2], Hblk.out, Hb0.out⟩
   case round =>
    obtain ⟨d, i, rfl, rfl, hi, hdm, hblk, hbr⟩ := hrel
    have Hbr := hid hbr
    have Hblkr := hid hblk
    have g5 := hblk.cell 5
    have g0 := hblk.cell 0
    have hdle := Zu1 k i m.i
    have hdI : (d : Int) ≤ (k : Int) + 1 := by omega
    have Hdm := hid hdm
    clear hbr hblk hdm
    by_cases hlt : i < m.i.length
    ·have hltI : (i : Int) < (m.i.length : Int) := by omega
     have Hne := hid (Y5_ m.t wr)
     rw [decide_eq_true Hn.out] at Hne
     go_wp2_with fail
     refine (Hne.out).mono ?_
     rintro e w2 ⟨rfl, hb2⟩
     have Hb2 := hid (Z0_ Hbr.out (Nat.le_refl _) hb2)
     have Hblk2 := hid (Hblkr.out.below hb2 Hblkr.out.lt)
     have g5' := Hblk2.out.cell 5
     obtain ⟨ad, u, hA, hab, hsix, hmv⟩ := Hk.out i hlt
     subst hA
     have hsix1 := hsix.below Hb2.out (by rw [Z2_]; exact hab)
     have hmv1 := (hmv.bel Hb2.out).mono Hb2.out.size
     have Hcall := hid (Ih.out (m.i.getD i default) u w2 (k : Int) rfl (by omega) hmv1 (sml_i Hs.out (Y1_ _ _ _ hlt)))
     have hms := Zv4 k i m.i hlt
     have hdp := dp_le k (m.i.getD i default)
     obtain ⟨x0, x1, x2, x3, x4, x5, rfl, s0, s1, s2, s3, s4, s5⟩ := hsix1
     obtain ⟨D, hD⟩ : ∃ D, dp k (m.i.getD i default) = D := ⟨_, rfl⟩
     rw [hD] at Hcall hms hdp
     have hDI : (D : Int) ≤ (k : Int) + 1 := by omega
     have Hms := hid hms
     clear hsix hmv hmv1 Hk Ih hD hms hdle g5 g0 hb2 Hne Hblkr
     go_wp2_with fail
     refine (Hcall.out).mono ?_
     rintro e w1 ⟨rfl, hb1⟩
     have Hb1 := hid (Z0_ Hb2.out (Nat.le_refl _) hb1)
     have Hblk1 := hid (Hblk2.out.below hb1 Hblk2.out.lt)
     clear hb1
     go_wp2
     go_roundw
     case rel =>
      refine ⟨max d D, i + 1, ?_, by go_num, by omega, ?_, Hblk1.out, Hb1.out⟩
      ·exact congrArg (Value.int .i64) (by omega)
      ·rw [Hms.out, Hdm.out]
     case measure => simp [intOf]; omega
    ·have hie : i = m.i.length := by omega
     subst hie
     go_wp2
     go_ret
     refine ⟨?_, Hbr.out⟩
     have e : dp (k + 1) m = d + 1 := by rw [hd.out, ← Zf8]; have := Hdm.out; omega
     rw [e]
     rfl
  ·have hd : Hid (dp (k + 1) m = 1) := by
    show dp (k + 1) m = 1
    rw [dp, if_neg hn]
   have Hn := hid hn
   clear hn
   by_cases h3 : (0 : Int) < (m.i.length : Int)
   ·go_enter Tryz.func50, Tryz.ntmps50
    go_wp2
    refine wp_loop_rounds 1 ?_
    rw [rounds_succ]
    go_wp2_with fail
    have Hne := hid (Y5_ m.t (w.alloc (.cells #[.int .i64 m.t, .int .i64 m.n, .int .i64 m.a, .int .i64 m.b, lv, .slice A m.i.length c] 25)))
    rw [decide_eq_false Hn.out] at Hne
    refine (Hne.out).mono ?_
    rintro e w2 ⟨rfl, hb2⟩
    have Hb2 := hid (Z0_ Hb0.out (Nat.le_refl _) hb2)
    go_wp2
    go_ret
    exact ⟨by rw [hd.out]; rfl, Hb2.out⟩
   ·go_enter Tryz.func50, Tryz.ntmps50
    go_wp2
    refine wp_loop_rounds 1 ?_
    rw [rounds_succ]
    go_wp2
    go_ret
    exact ⟨by rw [hd.out]; rfl, Hb0.out⟩
theorem Zn1 (m : Mat) (v : Value) (w : World) (hv : MatV w w.heap.size v m) (hs : Sml m) : Calls Tryz.prog 30 #[v] w (Tells w (deepI m)) := by
 obtain ⟨lv, iv, hve, _, _⟩ := hv.open
 have Hb0 := hid (Z1_ w m lv iv)
 have Hv := hid (hv.up Hb0.out)
 have gb := (Z3_ w m lv iv).cell
 have g0 := gb 0
 have g1 := gb 1
 have g2 := gb 2
 have g3 := gb 3
 have g4 := gb 4
 have g5 := gb 5
 subst hve
 clear hv gb
 unfold boxed at *
 unfold deepI
 go_enter Tryz.func30, Tryz.ntmps30
 go_wp2_with fail
 refine (Yr9 4 m _ _ 4 rfl (by omega) Hv.out hs).mono ?_
 rintro e w1 ⟨rfl, hb1⟩
 have Hb1 := hid (Z0_ Hb0.out (Nat.le_refl _) hb1)
 clear hb1
 go_wp2
 go_ret
 exact ⟨rfl, Hb1.out⟩
open Go.RowKit
theorem Xs5 {l : List Int} {b : Int} {i : Nat} (hi : i < l.length) (h : outB b (l.getD i 0) = true) : l.any (outB b) = true :=
 List.any_eq_true.2 ⟨l[i], List.getElem_mem hi, by simpa [List.getD, hi] using h⟩
theorem Xc4 {l : List Int} {b : Int} (h : ∀ i, i < l.length → outB b (l.getD i 0) = false) : l.any (outB b) = false := by
 rw [List.any_eq_false]
 intro c hc
 obtain ⟨i, hi, rfl⟩ := List.mem_iff_getElem.1 hc
 have := h i hi
 simpa [List.getD, hi] using this
theorem A4_ (many most : Int) (v : Value) (l : List Int) (w : World) (hr : Row w w.heap.size v l) :
  Calls Tryz.prog 123 #[v, .int .i64 many, .int .i64 most] w (Says w (numsB l many (most + 1))) := by
 obtain ⟨A, c, rfl, hn, hcell⟩ := hr
 have Hcell := hid hcell
 have hlm : (l.length : Int) ≤ 9223372036854775807 := by have := hn.1; have := hn.2.1; unfold maxLen at *; omega
 clear hn hcell
 unfold numsB
 obtain ⟨r, hre⟩ : ∃ r, r = l.any (outB (most + 1)) := ⟨_, rfl⟩
 rw [← hre]
 have Hre := hid hre
 clear hre
 go_enter Tryz.func123, Tryz.ntmps123
 go_wp2
 go_loop [7] (fun vi => ∃ i : Nat, vi = .int .i64 i ∧ i ≤ l.length ∧ ∀ j, j < i → outB (most + 1) (l.getD j 0) = false) (fun vi => l.length - (intOf vi).toNat)
 case atStart => exact ⟨0, rfl, Nat.zero_le _, fun j hj => absurd hj (Nat.not_lt_zero _)⟩
 case round =>
  obtain ⟨i, rfl, hi, hok⟩ := hrel
  have Hok := hid hok
  clear hok
  by_cases hlt : i < l.length
  ·obtain ⟨ad, hA, hab, hc1⟩ := Hcell.out i hlt
   subst hA
   have Hhit := hid (Xs5 (b := most + 1) hlt)
   have Hok1 : Hid (outB (most + 1) (l.getD i 0) = false → ∀ j, j < i + 1 → outB (most + 1) (l.getD j 0) = false) := by
    intro hb j hj
    by_cases e : j = i
    ·rw [e]; exact hb
    ·exact Hok.out j (by omega)
   generalize l.getD i 0 = x at *
   have hlt' : (i : Int) < (l.length : Int) := by omega
   by_cases hx1 : x < 0
   ·have Hr : Hid (r = true) := Hre.out.trans (Hhit.out (decide_eq_true (.inl hx1)))
    obtain rfl := Hr.out
    go_wp2
    go_ret
    exact ⟨by simp, Below.refl _ _⟩
   ·have hx1' : 0 ≤ x := by omega
    clear hx1
    by_cases hx2 : most < x
    ·have Hr : Hid (r = true) := Hre.out.trans (Hhit.out (decide_eq_true (.inr (by omega))))
     obtain rfl := Hr.out
     go_wp2
     go_ret
     exact ⟨by simp, Below.refl _ _⟩
    ·have hx2' : x ≤ most := by omega
     have Hw : Hid (outB (most + 1) x = false) := decide_eq_false (by omega)
     clear hx2
     go_wp2
     go_round
     case rel => exact ⟨i + 1, by go_num, by omega, Hok1.out Hw.out⟩
     case measure => simp [intOf]; omega
  ·have hie : i = l.length := by omega
   have Hie := hid hie
   have Hr : Hid (r = false) := Hre.out.trans (Xc4 (by rw [← Hie.out]; exact Hok.out))
   obtain rfl := Hr.out
   obtain rfl := hie
   by_cases hl : (l.length : Int) = many
   ·have Hl := hid hl
    rw [decide_eq_true hl]
    clear hl
    go_wp2
    go_ret
    refine ⟨?_, Below.refl _ _⟩
    simp [Hl.out]
   ·have Hl := hid hl
    rw [decide_eq_false hl]
    clear hl
    go_wp2
    go_ret
    refine ⟨?_, Below.refl _ _⟩
    simp [Hl.out]
open Go.RowKit
def Ys0 (n d : Nat) : Prop := ∀ x, 2 ≤ x → x < d → ¬ x ∣ n
theorem Yg0 {n d : Nat} (h2 : 2 ≤ n) (h : Ys0 n d) (hd : n < d * d) : Pr n := by
 refine ⟨h2, fun c hc => ?_⟩
 obtain ⟨k, hk⟩ := hc
 have hc0 : c ≠ 0 := by rintro rfl; omega
 have hk0 : k ≠ 0 := by rintro rfl; omega
 by_cases h1 : c = 1
 ·exact .inl h1
 ·right
  by_cases hk1 : k = 1
  ·rw [hk, hk1, Nat.mul_one]
  ·exfalso
   have hcd : d ≤ c := by
    rcases Nat.lt_or_ge c d with hl | hl
    ·exact absurd ⟨k, hk⟩ (h c (by omega) hl)
    ·exact hl
   have hkd : d ≤ k := by
    rcases Nat.lt_or_ge k d with hl | hl
    ·exact absurd ⟨c, by rw [hk, Nat.mul_comm]⟩ (h k (by omega) hl)
    ·exact hl
   have := Nat.mul_le_mul hcd hkd
   omega
theorem Ys1 {n d : Nat} (h2 : 2 ≤ d) (hd : d * d ≤ n) (h : n % d = 0) : ¬ Pr n := by
 intro hp
 have : d < n := by
  have := Nat.mul_le_mul_left d h2
  omega
 rcases hp.2 d (Nat.dvd_of_mod_eq_zero h) with e | e <;> omega
theorem Zg1 (P : Nat) (w : World) (h2 : 2 ≤ P) (hp2 : P ≤ 2147483647) :
  Calls Tryz.prog 126 #[.int .i64 P] w fun e w' => e = .returned (.bool (prB P)) ∧ w' = w := by
 obtain ⟨b, hb⟩ : ∃ b, b = prB P := ⟨_, rfl⟩
 have hyes : Pr P → b = true := fun h => hb.trans (Xx8 ⟨by omega, by omega, by rw [Int.toNat_natCast]; exact h⟩)
 have hno : ¬ Pr P → b = false := fun h => hb.trans (I7_ fun k => h (by have := k.2.2; rwa [Int.toNat_natCast] at this))
 have Hyes := hid hyes
 have Hno := hid hno
 rw [← hb]
 clear hb hyes hno
 have h2i : ¬ (P : Int) < 2 := by omega
 have hpi : ¬ (2147483647 : Int) < (P : Int) := by omega
 go_enter Tryz.func126, Tryz.ntmps126
 go_wp2
 go_loopw [3] (fun vd wr => ∃ d : Nat, vd = .int .i64 d ∧ 2 ≤ d ∧ d ≤ 46341 ∧ Ys0 P d ∧ wr = w) (fun vd _ => 46342 - (intOf vd).toNat)
 case atStart => exact ⟨2, rfl, Nat.le_refl _, by decide, fun x h1 h2 => by omega, rfl⟩
 case round =>
  obtain ⟨d, rfl, hd2, hdl, hn, rfl⟩ := hrel
  have Hn := hid hn
  clear hn
  have hsq : wrap64 ((d : Int) * (d : Int)) = ((d * d : Nat) : Int) := by
   have := Nat.mul_le_mul hdl hdl
   rw [← Int.natCast_mul]
   unfold wrap64
   omega
  have hd0 : ¬ (d : Int) = 0 := by omega
  have htm := Zi1 P d
  by_cases hle : d * d ≤ P
  ·have hdl' : d < 46341 := by
    rcases Nat.lt_or_ge d 46341 with h | h
    ·exact h
    ·have := Nat.mul_le_mul h h
     omega
   obtain ⟨q, hq⟩ : ∃ q, q = d * d := ⟨_, rfl⟩
   rw [← hq] at hsq
   have hqi : (q : Int) ≤ (P : Int) := by omega
   by_cases hz : P % d = 0
   ·have hb := Hno.out (Ys1 hd2 hle hz)
    subst hb
    rw [hz] at htm
    clear hq hle hz
    go_wp2
    go_ret
    exact ⟨rfl, rfl⟩
   ·obtain ⟨m, hm⟩ : ∃ m, m = P % d := ⟨_, rfl⟩
    rw [← hm] at htm
    have hm0 : ¬ (m : Int) = 0 := by omega
    have Hnext : Hid (Ys0 P (d + 1)) := hid (by
     intro x h1 h3 hx
     by_cases hxd : x = d
     ·subst hxd
      exact hz (Nat.mod_eq_zero_of_dvd hx)
     ·exact Hn.out x h1 (by omega) hx)
    clear hq hle hz hm
    go_wp2
    go_roundw
    case rel => exact ⟨d + 1, by go_num, by omega, by omega, Hnext.out, trivial⟩
    case measure => simp [intOf]; omega
  ·have hb := Hyes.out (Yg0 h2 Hn.out (by omega))
   subst hb
   obtain ⟨q, hq⟩ : ∃ q, q = d * d := ⟨_, rfl⟩
   rw [← hq] at hsq
   have hqi : ¬ (q : Int) ≤ (P : Int) := by omega
   clear hq hle
   go_wp2
   go_ret
   exact ⟨rfl, rfl⟩
theorem Zn2 (p : Int) (w : World) : Calls Tryz.prog 126 #[.int .i64 p] w fun e w' => e = .returned (.bool (prB p)) ∧ w' = w := by
 by_cases h2 : p < 2
 ·have hf : prB p = false := I7_ fun h => by have := h.1; omega
  rw [hf]
  clear hf
  go_enter Tryz.func126, Tryz.ntmps126
  go_wp2
  go_ret
  exact ⟨rfl, rfl⟩
 ·by_cases h3 : 2147483647 < p
  ·have hf : prB p = false := I7_ fun h => by have := h.2.1; omega
   rw [hf]
   clear hf
   go_enter Tryz.func126, Tryz.ntmps126
   go_wp2
   go_ret
   exact ⟨rfl, rfl⟩
  ·obtain ⟨P, rfl⟩ : ∃ P : Nat, p = P := ⟨p.toNat, by omega⟩
   exact Zg1 P w (by omega) (by omega)
theorem K6_ (p : Int) (w : World) : Calls Tryz.prog 126 #[.int .i64 p] w (Gets w (.bool (prB p))) :=
 (Zn2 p w).mono fun _ _ ⟨h1, h2⟩ => ⟨h1, by rw [h2]; exact Below.refl _ _⟩
theorem E7_ (p : Int) (b : Bool) (h : prB p = b) (w : World) : Calls Tryz.prog 126 #[.int .i64 p] w (Gets w (.bool b)) := by
 subst h
 exact K6_ p w
theorem Xs6 {p rows : Int} {cols : List (List Int)} {i : Nat} (hi : i < cols.length) (h : badRow p rows (cols.getD i []) = true) : cols.any (badRow p rows) = true :=
 List.any_eq_true.2 ⟨cols[i], List.getElem_mem hi, by simpa [List.getD, hi] using h⟩
theorem Xc5 {p rows : Int} {cols : List (List Int)} (h : ∀ i, i < cols.length → badRow p rows (cols.getD i []) = false) : cols.any (badRow p rows) = false := by
 rw [List.any_eq_false]
 intro c hc
 obtain ⟨i, hi, rfl⟩ := List.mem_iff_getElem.1 hc
 have := h i hi
 simpa [List.getD, hi] using this
theorem Xs7 {p rows : Int} {col : List Int} {k : Nat} (hk : k < col.length) (h : wrongB p (col.getD k 0) = true) : badRow p rows col = true := by
 unfold badRow
 rw [Bool.or_eq_true]
 exact .inr (List.any_eq_true.2 ⟨col[k], List.getElem_mem hk, by simpa [List.getD, hk] using h⟩)
theorem Xc6 {p rows : Int} {col : List Int} (hl : (col.length : Int) = rows) (h : ∀ k, k < col.length → wrongB p (col.getD k 0) = false) : badRow p rows col = false := by
 unfold badRow
 rw [decide_eq_false (by omega), Bool.false_or, List.any_eq_false]
 intro x hx
 obtain ⟨i, hi, rfl⟩ := List.mem_iff_getElem.1 hx
 have := h i hi
 simpa [List.getD, hi] using this
theorem Zj3 (p rows : Int) (v : Value) (cols : List (List Int)) (w : World) (hr : Rows2 w w.heap.size v cols) :
  Calls Tryz.prog 104 #[.int .i64 p, .int .i64 rows, v] w (Says w (elimB p rows cols)) := by
 obtain ⟨A, c, rfl, hn, hcell⟩ := hr
 have Hcell := hid hcell
 have hlm : (cols.length : Int) ≤ 9223372036854775807 := by have := hn.1; have := hn.2.1; unfold maxLen at *; omega
 clear hn hcell
 unfold elimB
 rcases hp : prB p with _ | _
 ·simp only [Bool.false_and]
  have HP := hid hp
  clear hp
  go_enter Tryz.func104, Tryz.ntmps104
  go_wp2_with fail
  refine (E7_ p false HP.out _).mono ?_
  rintro e w1 ⟨rfl, hb1⟩
  go_wp2
  go_ret
  exact ⟨rfl, hb1⟩
 ·simp only [Bool.true_and]
  have HP := hid hp
  clear hp
  by_cases h1 : rows < 0
  ·rw [decide_eq_false (show ¬ (0 ≤ rows ∧ rows ≤ 64) by omega)]
   simp only [Bool.false_and]
   go_enter Tryz.func104, Tryz.ntmps104
   go_wp2_with fail
   refine (E7_ p true HP.out _).mono ?_
   rintro e w1 ⟨rfl, hb1⟩
   go_wp2
   go_ret
   exact ⟨rfl, hb1⟩
  ·have h1' : 0 ≤ rows := by omega
   clear h1
   by_cases h2 : 64 < rows
   ·rw [decide_eq_false (show ¬ (0 ≤ rows ∧ rows ≤ 64) by omega)]
    simp only [Bool.false_and]
    go_enter Tryz.func104, Tryz.ntmps104
    go_wp2_with fail
    refine (E7_ p true HP.out _).mono ?_
    rintro e w1 ⟨rfl, hb1⟩
    go_wp2
    go_ret
    exact ⟨rfl, hb1⟩
   ·have h2' : rows ≤ 64 := by omega
    rw [decide_eq_true (show 0 ≤ rows ∧ rows ≤ 64 from ⟨h1', h2'⟩), Bool.true_and]
    clear h2
    by_cases h3 : cols.length ≤ 64
    ·rw [decide_eq_true h3, Bool.true_and]
     have h3' : (cols.length : Int) ≤ 64 := by omega
     obtain ⟨R, rfl⟩ : ∃ R : Nat, rows = (R : Int) := ⟨rows.toNat, by omega⟩
     obtain ⟨r, hre⟩ : ∃ r, r = !cols.any (badRow p R) := ⟨_, rfl⟩
     rw [← hre]
     have Hre := hid hre
     clear hre
     go_enter Tryz.func104, Tryz.ntmps104
     go_wp2_with fail
     refine (E7_ p true HP.out _).mono ?_
     rintro e w1 ⟨rfl, hb1⟩
     have Hb1 := hid hb1
     clear hb1
     go_wp2
     go_loop [7] (fun vi => ∃ i : Nat, vi = .int .i64 i ∧ i ≤ cols.length ∧ ∀ j, j < i → badRow p R (cols.getD j []) = false) (fun vi => cols.length - (intOf vi).toNat)
     case atStart => exact ⟨0, rfl, Nat.zero_le _, fun j hj => absurd hj (Nat.not_lt_zero _)⟩
     case round =>
      obtain ⟨i, rfl, hi, hok⟩ := hrel
      have Hok := hid hok
      clear hok
      by_cases hlt : i < cols.length
      ·obtain ⟨ad, u, hA, hab, hc1, hru⟩ := Hcell.out i hlt
       subst hA
       have hcw := (Hb1.out.cell (p := ad.add i) (by rw [Z2_]; exact hab)).trans hc1
       obtain ⟨Ac, cc, rfl, _, hcr⟩ := hru
       have Hhit := hid (Xs6 (p := p) (rows := R) hlt)
       have Hok1 : Hid (badRow p R (cols.getD i []) = false → ∀ j, j < i + 1 → badRow p R (cols.getD j []) = false) := by
        intro hb j hj
        by_cases e : j = i
        ·rw [e]; exact hb
        ·exact Hok.out j (by omega)
       generalize cols.getD i [] = col at *
       have Hcr := hid hcr
       have hlt' : (i : Int) < (cols.length : Int) := by omega
       clear hcr hc1
       by_cases hl : (col.length : Int) = (R : Int)
       ·have hl' : col.length = R := by omega
        have hne : ((col.length : Int) != (R : Int)) = false := by simp [hl']
        have HL := hid hl'
        clear hl
        rw [hl'] at hne hcw
        clear hl'
        go_wp2
        go_loop [8] (fun vk => ∃ k : Nat, vk = .int .i64 k ∧ k ≤ R ∧ ∀ j, j < k → wrongB p (col.getD j 0) = false) (fun vk => R - (intOf vk).toNat)
        case atStart => exact ⟨0, rfl, Nat.zero_le _, fun j hj => absurd hj (Nat.not_lt_zero _)⟩
        case round =>
         obtain ⟨k, rfl, hk, hz⟩ := hrel
         have Hz := hid hz
         clear hz
         by_cases hkR : k < R
         ·obtain ⟨ac, hAc, hacb, hcc⟩ := Hcr.out k (by rw [HL.out]; exact hkR)
          subst hAc
          have hcx := (Hb1.out.cell (p := ac.add k) (by rw [Z2_]; exact hacb)).trans hcc
          have hkR' : (k : Int) < (R : Int) := by omega
          have Hbad := hid (Xs7 (p := p) (rows := R) (col := col) (k := k) (by rw [HL.out]; exact hkR))
          have Hz1 : Hid (wrongB p (col.getD k 0) = false → ∀ j, j < k + 1 → wrongB p (col.getD j 0) = false) := by
           intro hb j hj
           by_cases e : j = k
           ·rw [e]; exact hb
           ·exact Hz.out j (by omega)
          generalize col.getD k 0 = x at *
          clear hcc
          by_cases hx1 : x < 0
          ·have Hr : Hid (r = false) := Hre.out.trans (by rw [Hhit.out (Hbad.out (decide_eq_true (.inl hx1)))]; rfl)
           obtain rfl := Hr.out
           go_wp2
           go_ret
           exact ⟨rfl, Hb1.out⟩
          ·have hx1' : 0 ≤ x := by omega
           clear hx1
           by_cases hx2 : p ≤ x
           ·have Hr : Hid (r = false) := Hre.out.trans (by rw [Hhit.out (Hbad.out (decide_eq_true (.inr hx2)))]; rfl)
            obtain rfl := Hr.out
            go_wp2
            go_ret
            exact ⟨rfl, Hb1.out⟩
           ·have hx2' : x < p := by omega
            have Hw : Hid (wrongB p x = false) := decide_eq_false (by omega)
            clear hx2
            go_wp2
            go_round
            case rel => exact ⟨k + 1, by go_num, by omega, Hz1.out Hw.out⟩
            case measure => simp [intOf]; omega
         ·have hke : k = R := by omega
          subst hke
          have Hb : Hid (badRow p k col = false) := Xc6 (by rw [HL.out]) (by rw [HL.out]; exact Hz.out)
          go_wp2
          go_round
          case rel => exact ⟨i + 1, by go_num, by omega, Hok1.out Hb.out⟩
          case measure => simp [intOf]; omega
       ·have hne : ((col.length : Int) != (R : Int)) = true := by simpa using hl
        have Hr : Hid (r = false) := Hre.out.trans (by
         rw [Hhit.out (by unfold badRow; rw [decide_eq_true hl, Bool.true_or])]
         rfl)
        obtain rfl := Hr.out
        clear hl
        go_wp2
        go_ret
        exact ⟨rfl, Hb1.out⟩
      ·have hie : i = cols.length := by omega
       subst hie
       have Hr : Hid (r = true) := Hre.out.trans (by rw [Xc5 Hok.out]; rfl)
       obtain rfl := Hr.out
       go_wp2
       go_ret
       exact ⟨rfl, Hb1.out⟩
    ·rw [decide_eq_false h3, Bool.false_and]
     have h3' : 64 < (cols.length : Int) := by omega
     clear h3
     go_enter Tryz.func104, Tryz.ntmps104
     go_wp2_with fail
     refine (E7_ p true HP.out _).mono ?_
     rintro e w1 ⟨rfl, hb1⟩
     go_wp2
     go_ret
     exact ⟨rfl, hb1⟩
open Go.RowKit
theorem wpAny_act {P : Program} {md : Region.Mode} {ops : Array Oper} {Q : Exit → Act → World → Prop} {fuel : Nat} {listed : Array Bool} {a b : Act} {w : World} (h : a = b) (k : wpAny P md ops Q fuel listed b w) : wpAny P md ops Q fuel listed a w := h ▸ k
theorem below_drew (w : World) : Below w.heap.size w w.drew := ⟨rfl, rfl, rfl, Nat.le_refl _, fun _ _ => rfl⟩
theorem Zc0 (v : Value) (l : List Int) (b : Bool) (h : mayB l = b) (w : World) (hr : Row w w.heap.size v l) : Calls Tryz.prog 29 #[v] w (Says w b) := by
 obtain ⟨_, _, _, ⟨h1, h2, _⟩, _⟩ := id hr
 exact X9_ v l w hr (by unfold maxLen at h2; omega) h
theorem Ys2 (right : Int) (v : Value) (adj : List (List Int)) (w : World) (hr : Rows2 w w.heap.size v adj) :
  Calls Tryz.prog 124 #[.int .i64 right, v] w (Says w (mayM right adj)) := by
 obtain ⟨A, c, rfl, hcap, hcell⟩ := hr
 have hlm : (adj.length : Int) ≤ 9223372036854775807 := by
  have h1 := hcap.1
  have h2 := hcap.2.1
  unfold maxLen at h2
  omega
 have Hcell := hid hcell
 clear hcell
 go_enter Tryz.func124, Tryz.ntmps124
 go_wp2
 go_loopw [5] (fun vi wr => ∃ i : Nat, vi = .int .i64 i ∧ i ≤ adj.length ∧ Below w.heap.size w wr ∧ ∀ j, j < i → okA right (adj.getD j []) = true) (fun vi _ => adj.length - (intOf vi).toNat)
 case atStart => exact ⟨0, rfl, Nat.zero_le _, Below.refl _ _, fun j hj => absurd hj (Nat.not_lt_zero _)⟩
 case round =>
  obtain ⟨i, rfl, hi, hbr, hok⟩ := hrel
  have Hbr := hid hbr
  have Hok := hid hok
  clear hbr hok
  by_cases hlt : i < adj.length
  ·have hltI : (i : Int) < (adj.length : Int) := by omega
   obtain ⟨ad, u, hA, hab, hcu, hru⟩ := Hcell.out i hlt
   subst hA
   have g1 := (Hbr.out.cell (p := ad.add i) (by rw [Z2_]; exact hab)).trans hcu
   have Hru := hid ((hru.below Hbr.out).mono Hbr.out.size)
   have Hmiss := hid (fun h => mayM_miss (right := right) hlt h)
   have Hnext : Hid (okA right (adj.getD i []) = true → ∀ j, j < i + 1 → okA right (adj.getD j []) = true) := hid fun h j hj => by
    by_cases e : j = i
    ·rw [e]; exact h
    ·exact Hok.out j (by omega)
   clear Hok
   generalize adj.getD i [] = l at *
   obtain ⟨Au, cu, rfl, hcu2, hcl⟩ := hru
   have hlm2 : (l.length : Int) ≤ 9223372036854775807 := by
    have h1 := hcu2.1
    have h2 := hcu2.2.1
    unfold maxLen at h2
    omega
   have Hcl := hid hcl
   have Hcu := hid hcu
   clear hcl hcu
   go_wp2
   refine wp_region_any (by kernel_rfl) ?_
   change wpAny _ _ _ _ _ _ _ (World.drew _)
   refine wpAny_take (i := 0) (v := ?_) rfl (by kernel_rfl) (by kernel_rfl) (by kernel_rfl) (fun _ _ _ h => h) (Or.inl ⟨by rfl, ?_⟩) ?_
   rotate_left
   ·intro w; go_simp; try with_reducible rfl
   (refine wpAny_act (b := ?_) ?_ ?_; rotate_left; (go_simp; with_reducible rfl))
   refine wpAny_take (i := 1) (v := ?_) rfl (by kernel_rfl) (by kernel_rfl) (by kernel_rfl) (fun _ _ _ h => h) (Or.inl ⟨by rfl, ?_⟩) ?_
   rotate_left
   ·intro w; go_simp; try with_reducible rfl
   (refine wpAny_act (b := ?_) ?_ ?_; rotate_left; (go_simp; with_reducible rfl))
   refine wpAny_take (i := 2) (v := ?_) rfl (by kernel_rfl) (by kernel_rfl) (by kernel_rfl) (fun _ _ _ h => h) (Or.inl ⟨by rfl, ?_⟩) ?_
   rotate_left
   ·intro w; go_simp; try with_reducible rfl
   (refine wpAny_act (b := ?_) ?_ ?_; rotate_left; (go_simp; with_reducible rfl))
   refine wpAny_ready (rs := [3]) (by kernel_rfl) (by simp) ?_
   refine AllReady.cons rfl (fun K hK => ?_) AllReady.nil
   go_simp
   refine hK _ _ ?_
   clear hK K
   rcases hm : mayB l with _ | _
   ·have Hm := hid hm
    clear hm
    refine wpAny_ready (rs := [4]) (by kernel_rfl) (by simp) ?_
    refine AllReady.cons rfl (fun K hK => ?_) AllReady.nil
    go_simp
    refine (Zc0 _ l false Hm.out _ (Hru.out.up (below_drew wr))).mono ?_
    rintro e w1 ⟨rfl, hb1⟩
    refine hK _ _ ?_
    clear hK K
    have Hb1 := hid (Hbr.out.drew.trans (hb1.mono (by have := Hbr.out.size; simpa using this)))
    clear hb1 g1
    have Hno := hid (Hmiss.out (Yk4 Hm.out))
    refine wpAny_take (i := 5) (v := ?_) rfl (by kernel_rfl) (by kernel_rfl) (by kernel_rfl) (fun _ _ _ h => h) (Or.inl ⟨by rfl, ?_⟩) ?_
    rotate_left
    ·intro w; go_simp; try with_reducible rfl
    (refine wpAny_act (b := ?_) ?_ ?_; rotate_left; (go_simp; with_reducible rfl))
    refine wpAny_take (i := 6) (v := ?_) rfl (by kernel_rfl) (by kernel_rfl) (by kernel_rfl) (fun _ _ _ h => h) (Or.inl ⟨by rfl, ?_⟩) ?_
    rotate_left
    ·intro w; go_simp; try with_reducible rfl
    (refine wpAny_act (b := ?_) ?_ ?_; rotate_left; (go_simp; with_reducible rfl))
    refine wpAny_take (i := 7) (v := undef) rfl (by kernel_rfl) (by kernel_rfl) (by kernel_rfl) (fun _ _ _ h => h) (Or.inr ⟨by simp [Region.wanted, yielded, go_sem, undef], rfl⟩) ?_
    (refine wpAny_act (b := ?_) ?_ ?_; rotate_left; (go_simp; with_reducible rfl))
    refine wpAny_take (i := 8) (v := undef) rfl (by kernel_rfl) (by kernel_rfl) (by kernel_rfl) (fun _ _ _ h => h) (Or.inr ⟨by simp [Region.wanted, yielded, go_sem, undef], rfl⟩) ?_
    (refine wpAny_act (b := ?_) ?_ ?_; rotate_left; (go_simp; with_reducible rfl))
    refine wpAny_take (i := 9) (v := undef) rfl (by kernel_rfl) (by kernel_rfl) (by kernel_rfl) (fun _ _ _ h => h) (Or.inr ⟨by simp [Region.wanted, yielded, go_sem, undef], rfl⟩) ?_
    (refine wpAny_act (b := ?_) ?_ ?_; rotate_left; (go_simp; with_reducible rfl))
    refine wpAny_take (i := 10) (v := undef) rfl (by kernel_rfl) (by kernel_rfl) (by kernel_rfl) (fun _ _ _ h => h) (Or.inr ⟨by simp [Region.wanted, yielded, go_sem, undef], rfl⟩) ?_
    (refine wpAny_act (b := ?_) ?_ ?_; rotate_left; (go_simp; with_reducible rfl))
    refine wpAny_take (i := 11) (v := undef) rfl (by kernel_rfl) (by kernel_rfl) (by kernel_rfl) (fun _ _ _ h => h) (Or.inr ⟨by simp [Region.wanted, yielded, go_sem, undef], rfl⟩) ?_
    (refine wpAny_act (b := ?_) ?_ ?_; rotate_left; (go_simp; with_reducible rfl))
    refine wpAny_take (i := 12) (v := undef) rfl (by kernel_rfl) (by kernel_rfl) (by kernel_rfl) (fun _ _ _ h => h) (Or.inr ⟨by simp [Region.wanted, yielded, go_sem, undef], rfl⟩) ?_
    (refine wpAny_act (b := ?_) ?_ ?_; rotate_left; (go_simp; with_reducible rfl))
    refine wpAny_take (i := 13) (v := undef) rfl (by kernel_rfl) (by kernel_rfl) (by kernel_rfl) (fun _ _ _ h => h) (Or.inr ⟨by simp [Region.wanted, yielded, go_sem, undef], rfl⟩) ?_
    (refine wpAny_act (b := ?_) ?_ ?_; rotate_left; (go_simp; with_reducible rfl))
    refine wpAny_take (i := 14) (v := undef) rfl (by kernel_rfl) (by kernel_rfl) (by kernel_rfl) (fun _ _ _ h => h) (Or.inr ⟨by simp [Region.wanted, yielded, go_sem, undef], rfl⟩) ?_
    (refine wpAny_act (b := ?_) ?_ ?_; rotate_left; (go_simp; with_reducible rfl))
    refine wpAny_take (i := 15) (v := undef) rfl (by kernel_rfl) (by kernel_rfl) (by kernel_rfl) (fun _ _ _ h => h) (Or.inr ⟨by simp [Region.wanted, yielded, go_sem, undef], rfl⟩) ?_
    (refine wpAny_act (b := ?_) ?_ ?_; rotate_left; (go_simp; with_reducible rfl))
    refine wpAny_take (i := 16) (v := undef) rfl (by kernel_rfl) (by kernel_rfl) (by kernel_rfl) (fun _ _ _ h => h) (Or.inr ⟨by simp [Region.wanted, yielded, go_sem, undef], rfl⟩) ?_
    (refine wpAny_act (b := ?_) ?_ ?_; rotate_left; (go_simp; with_reducible rfl))
    refine wpAny_take (i := 17) (v := undef) rfl (by kernel_rfl) (by kernel_rfl) (by kernel_rfl) (fun _ _ _ h => h) (Or.inr ⟨by simp [Region.wanted, yielded, go_sem, undef], rfl⟩) ?_
    (refine wpAny_act (b := ?_) ?_ ?_; rotate_left; (go_simp; with_reducible rfl))
    refine wpAny_take (i := 18) (v := undef) rfl (by kernel_rfl) (by kernel_rfl) (by kernel_rfl) (fun _ _ _ h => h) (Or.inr ⟨by simp [Region.wanted, yielded, go_sem, undef], rfl⟩) ?_
    (refine wpAny_act (b := ?_) ?_ ?_; rotate_left; (go_simp; with_reducible rfl))
    refine wpAny_take (i := 19) (v := undef) rfl (by kernel_rfl) (by kernel_rfl) (by kernel_rfl) (fun _ _ _ h => h) (Or.inr ⟨by simp [Region.wanted, yielded, go_sem, undef], rfl⟩) ?_
    (refine wpAny_act (b := ?_) ?_ ?_; rotate_left; (go_simp; with_reducible rfl))
    refine wpAny_take (i := 20) (v := undef) rfl (by kernel_rfl) (by kernel_rfl) (by kernel_rfl) (fun _ _ _ h => h) (Or.inr ⟨by simp [Region.wanted, yielded, go_sem, undef], rfl⟩) ?_
    (refine wpAny_act (b := ?_) ?_ ?_; rotate_left; (go_simp; with_reducible rfl))
    refine wpAny_take (i := 21) (v := undef) rfl (by kernel_rfl) (by kernel_rfl) (by kernel_rfl) (fun _ _ _ h => h) (Or.inr ⟨by simp [Region.wanted, yielded, go_sem, undef], rfl⟩) ?_
    (refine wpAny_act (b := ?_) ?_ ?_; rotate_left; (go_simp; with_reducible rfl))
    refine wpAny_take (i := 22) (v := undef) rfl (by kernel_rfl) (by kernel_rfl) (by kernel_rfl) (fun _ _ _ h => h) (Or.inr ⟨by simp [Region.wanted, yielded, go_sem, undef], rfl⟩) ?_
    (refine wpAny_act (b := ?_) ?_ ?_; rotate_left; (go_simp; with_reducible rfl))
    refine wpAny_take (i := 23) (v := undef) rfl (by kernel_rfl) (by kernel_rfl) (by kernel_rfl) (fun _ _ _ h => h) (Or.inr ⟨by simp [Region.wanted, yielded, go_sem, undef], rfl⟩) ?_
    (refine wpAny_act (b := ?_) ?_ ?_; rotate_left; (go_simp; with_reducible rfl))
    refine wpAny_take (i := 24) (v := undef) rfl (by kernel_rfl) (by kernel_rfl) (by kernel_rfl) (fun _ _ _ h => h) (Or.inr ⟨by simp [Region.wanted, yielded, go_sem, undef], rfl⟩) ?_
    (refine wpAny_act (b := ?_) ?_ ?_; rotate_left; (go_simp; with_reducible rfl))
    refine wpAny_take (i := 25) (v := undef) rfl (by kernel_rfl) (by kernel_rfl) (by kernel_rfl) (fun _ _ _ h => h) (Or.inr ⟨by simp [Region.wanted, yielded, go_sem, undef], rfl⟩) ?_
    (refine wpAny_act (b := ?_) ?_ ?_; rotate_left; (go_simp; with_reducible rfl))
    refine wpAny_take (i := 26) (v := undef) rfl (by kernel_rfl) (by kernel_rfl) (by kernel_rfl) (fun _ _ _ h => h) (Or.inr ⟨by simp [Region.wanted, yielded, go_sem, undef], rfl⟩) ?_
    (refine wpAny_act (b := ?_) ?_ ?_; rotate_left; (go_simp; with_reducible rfl))
    refine wpAny_take (i := 27) (v := undef) rfl (by kernel_rfl) (by kernel_rfl) (by kernel_rfl) (fun _ _ _ h => h) (Or.inr ⟨by simp [Region.wanted, yielded, go_sem, undef], rfl⟩) ?_
    (refine wpAny_act (b := ?_) ?_ ?_; rotate_left; (go_simp; with_reducible rfl))
    refine wpAny_take (i := 28) (v := undef) rfl (by kernel_rfl) (by kernel_rfl) (by kernel_rfl) (fun _ _ _ h => h) (Or.inr ⟨by simp [Region.wanted, yielded, go_sem, undef], rfl⟩) ?_
    (refine wpAny_act (b := ?_) ?_ ?_; rotate_left; (go_simp; with_reducible rfl))
    refine wpAny_take (i := 29) (v := ?_) rfl (by kernel_rfl) (by kernel_rfl) (by kernel_rfl) (fun _ _ _ h => h) (Or.inl ⟨by rfl, ?_⟩) ?_
    rotate_left
    ·intro w; go_simp; try with_reducible rfl
    (refine wpAny_act (b := ?_) ?_ ?_; rotate_left; (go_simp; with_reducible rfl))
    refine wpAny_done (by kernel_rfl) ?_ _
    go_wp2
    go_ret
    exact ⟨congrArg (fun b => Ending.returned (.bool b)) Hno.out.symm, Hb1.out⟩
   ·have Hm := hid hm
    clear hm
    refine wpAny_ready (rs := [4]) (by kernel_rfl) (by simp) ?_
    refine AllReady.cons rfl (fun K hK => ?_) AllReady.nil
    go_simp
    refine (Zc0 _ l true Hm.out _ (Hru.out.up (below_drew wr))).mono ?_
    rintro e w1 ⟨rfl, hb1⟩
    refine hK _ _ ?_
    clear hK K
    have Hb1 := hid (Hbr.out.drew.trans (hb1.mono (by have := Hbr.out.size; simpa using this)))
    clear hb1 g1
    have g1 := (Hb1.out.cell (p := ad.add i) (by rw [Z2_]; exact hab)).trans Hcu.out
    refine wpAny_take (i := 5) (v := ?_) rfl (by kernel_rfl) (by kernel_rfl) (by kernel_rfl) (fun _ _ _ h => h) (Or.inl ⟨by rfl, ?_⟩) ?_
    rotate_left
    ·intro w; go_simp; try with_reducible rfl
    (refine wpAny_act (b := ?_) ?_ ?_; rotate_left; (go_simp; with_reducible rfl))
    refine wpAny_take (i := 6) (v := ?_) rfl (by kernel_rfl) (by kernel_rfl) (by kernel_rfl) (fun _ _ _ h => h) (Or.inl ⟨by rfl, ?_⟩) ?_
    rotate_left
    ·intro w; go_simp; try with_reducible rfl
    (refine wpAny_act (b := ?_) ?_ ?_; rotate_left; (go_simp; with_reducible rfl))
    refine wpAny_take (i := 7) (v := ?_) rfl (by kernel_rfl) (by kernel_rfl) (by kernel_rfl) (fun _ _ _ h => h) (Or.inl ⟨by rfl, ?_⟩) ?_
    rotate_left
    ·intro w; go_simp; try with_reducible rfl
    (refine wpAny_act (b := ?_) ?_ ?_; rotate_left; (go_simp; with_reducible rfl))
    refine wpAny_take (i := 8) (v := ?_) rfl (by kernel_rfl) (by kernel_rfl) (by kernel_rfl) (fun _ _ _ h => h) (Or.inl ⟨by rfl, ?_⟩) ?_
    rotate_left
    ·intro w; go_simp; try with_reducible rfl
    (refine wpAny_act (b := ?_) ?_ ?_; rotate_left; (go_simp; with_reducible rfl))
    refine wpAny_take (i := 9) (v := ?_) rfl (by kernel_rfl) (by kernel_rfl) (by kernel_rfl) (fun _ _ _ h => h) (Or.inl ⟨by rfl, ?_⟩) ?_
    rotate_left
    ·intro w; go_simp; try with_reducible rfl
    (refine wpAny_act (b := ?_) ?_ ?_; rotate_left; (go_simp; with_reducible rfl))
    refine wpAny_ready (rs := [10]) (by kernel_rfl) (by simp) ?_
    refine AllReady.cons rfl (fun K hK => ?_) AllReady.nil
    go_simp
    refine hK _ _ ?_
    clear hK K
    by_cases h0 : l.length = 0
    ·have Hok1 := hid (Zd7 (right := right) Hm.out h0)
     have Hl0 : Hid ((l.length : Int) = 0) := hid (by omega)
     rw [h0]
     refine wpAny_take (i := 11) (v := ?_) rfl (by kernel_rfl) (by kernel_rfl) (by kernel_rfl) (fun _ _ _ h => h) (Or.inl ⟨by rfl, ?_⟩) ?_
     rotate_left
     ·intro w; go_simp; try with_reducible rfl
     (refine wpAny_act (b := ?_) ?_ ?_; rotate_left; (go_simp; with_reducible rfl))
     refine wpAny_take (i := 12) (v := ?_) rfl (by kernel_rfl) (by kernel_rfl) (by kernel_rfl) (fun _ _ _ h => h) (Or.inl ⟨by rfl, ?_⟩) ?_
     rotate_left
     ·intro w; go_simp; try with_reducible rfl
     (refine wpAny_act (b := ?_) ?_ ?_; rotate_left; (go_simp; with_reducible rfl))
     refine wpAny_take (i := 13) (v := ?_) rfl (by kernel_rfl) (by kernel_rfl) (by kernel_rfl) (fun _ _ _ h => h) (Or.inl ⟨by rfl, ?_⟩) ?_
     rotate_left
     ·intro w; go_simp; try with_reducible rfl
     (refine wpAny_act (b := ?_) ?_ ?_; rotate_left; (go_simp; with_reducible rfl))
     refine wpAny_take (i := 14) (v := undef) rfl (by kernel_rfl) (by kernel_rfl) (by kernel_rfl) (fun _ _ _ h => h) (Or.inr ⟨by simp [Region.wanted, yielded, go_sem, undef], rfl⟩) ?_
     (refine wpAny_act (b := ?_) ?_ ?_; rotate_left; (go_simp; with_reducible rfl))
     refine wpAny_take (i := 15) (v := undef) rfl (by kernel_rfl) (by kernel_rfl) (by kernel_rfl) (fun _ _ _ h => h) (Or.inr ⟨by simp [Region.wanted, yielded, go_sem, undef], rfl⟩) ?_
     (refine wpAny_act (b := ?_) ?_ ?_; rotate_left; (go_simp; with_reducible rfl))
     refine wpAny_take (i := 16) (v := undef) rfl (by kernel_rfl) (by kernel_rfl) (by kernel_rfl) (fun _ _ _ h => h) (Or.inr ⟨by simp [Region.wanted, yielded, go_sem, undef], rfl⟩) ?_
     (refine wpAny_act (b := ?_) ?_ ?_; rotate_left; (go_simp; with_reducible rfl))
     refine wpAny_take (i := 17) (v := undef) rfl (by kernel_rfl) (by kernel_rfl) (by kernel_rfl) (fun _ _ _ h => h) (Or.inr ⟨by simp [Region.wanted, yielded, go_sem, undef], rfl⟩) ?_
     (refine wpAny_act (b := ?_) ?_ ?_; rotate_left; (go_simp; with_reducible rfl))
     refine wpAny_take (i := 18) (v := undef) rfl (by kernel_rfl) (by kernel_rfl) (by kernel_rfl) (fun _ _ _ h => h) (Or.inr ⟨by simp [Region.wanted, yielded, go_sem, undef], rfl⟩) ?_
     (refine wpAny_act (b := ?_) ?_ ?_; rotate_left; (go_simp; with_reducible rfl))
     refine wpAny_take (i := 19) (v := undef) rfl (by kernel_rfl) (by kernel_rfl) (by kernel_rfl) (fun _ _ _ h => h) (Or.inr ⟨by simp [Region.wanted, yielded, go_sem, undef], rfl⟩) ?_
     (refine wpAny_act (b := ?_) ?_ ?_; rotate_left; (go_simp; with_reducible rfl))
     refine wpAny_take (i := 20) (v := undef) rfl (by kernel_rfl) (by kernel_rfl) (by kernel_rfl) (fun _ _ _ h => h) (Or.inr ⟨by simp [Region.wanted, yielded, go_sem, undef], rfl⟩) ?_
     (refine wpAny_act (b := ?_) ?_ ?_; rotate_left; (go_simp; with_reducible rfl))
     refine wpAny_take (i := 21) (v := undef) rfl (by kernel_rfl) (by kernel_rfl) (by kernel_rfl) (fun _ _ _ h => h) (Or.inr ⟨by simp [Region.wanted, yielded, go_sem, undef], rfl⟩) ?_
     (refine wpAny_act (b := ?_) ?_ ?_; rotate_left; (go_simp; with_reducible rfl))
     refine wpAny_take (i := 22) (v := undef) rfl (by kernel_rfl) (by kernel_rfl) (by kernel_rfl) (fun _ _ _ h => h) (Or.inr ⟨by simp [Region.wanted, yielded, go_sem, undef], rfl⟩) ?_
     (refine wpAny_act (b := ?_) ?_ ?_; rotate_left; (go_simp; with_reducible rfl))
     refine wpAny_take (i := 23) (v := undef) rfl (by kernel_rfl) (by kernel_rfl) (by kernel_rfl) (fun _ _ _ h => h) (Or.inr ⟨by simp [Region.wanted, yielded, go_sem, undef], rfl⟩) ?_
     (refine wpAny_act (b := ?_) ?_ ?_; rotate_left; (go_simp; with_reducible rfl))
     refine wpAny_take (i := 24) (v := undef) rfl (by kernel_rfl) (by kernel_rfl) (by kernel_rfl) (fun _ _ _ h => h) (Or.inr ⟨by simp [Region.wanted, yielded, go_sem, undef], rfl⟩) ?_
     (refine wpAny_act (b := ?_) ?_ ?_; rotate_left; (go_simp; with_reducible rfl))
     refine wpAny_take (i := 25) (v := undef) rfl (by kernel_rfl) (by kernel_rfl) (by kernel_rfl) (fun _ _ _ h => h) (Or.inr ⟨by simp [Region.wanted, yielded, go_sem, undef], rfl⟩) ?_
     (refine wpAny_act (b := ?_) ?_ ?_; rotate_left; (go_simp; with_reducible rfl))
     refine wpAny_take (i := 26) (v := undef) rfl (by kernel_rfl) (by kernel_rfl) (by kernel_rfl) (fun _ _ _ h => h) (Or.inr ⟨by simp [Region.wanted, yielded, go_sem, undef], rfl⟩) ?_
     (refine wpAny_act (b := ?_) ?_ ?_; rotate_left; (go_simp; with_reducible rfl))
     refine wpAny_take (i := 27) (v := undef) rfl (by kernel_rfl) (by kernel_rfl) (by kernel_rfl) (fun _ _ _ h => h) (Or.inr ⟨by simp [Region.wanted, yielded, go_sem, undef], rfl⟩) ?_
     (refine wpAny_act (b := ?_) ?_ ?_; rotate_left; (go_simp; with_reducible rfl))
     refine wpAny_take (i := 28) (v := ?_) rfl (by kernel_rfl) (by kernel_rfl) (by kernel_rfl) (fun _ _ _ h => h) (Or.inl ⟨by rfl, ?_⟩) ?_
     rotate_left
     ·intro w; go_simp; try with_reducible rfl
     (refine wpAny_act (b := ?_) ?_ ?_; rotate_left; (go_simp; with_reducible rfl))
     refine wpAny_take (i := 29) (v := ?_) rfl (by kernel_rfl) (by kernel_rfl) (by kernel_rfl) (fun _ _ _ h => h) (Or.inl ⟨by rfl, ?_⟩) ?_
     rotate_left
     ·intro w; go_simp; try with_reducible rfl
     (refine wpAny_act (b := ?_) ?_ ?_; rotate_left; (go_simp; with_reducible rfl))
     refine wpAny_done (by kernel_rfl) ?_ _
     clear h0 g1
     go_wp2
     go_roundw
     case rel => exact ⟨i + 1, by go_num, by omega, Hb1.out, Hnext.out Hok1.out⟩
     case measure => simp [intOf]; omega
    ·obtain ⟨x, hx⟩ : ∃ x, l.getD (l.length - 1) 0 = x := ⟨_, rfl⟩
     obtain ⟨al, hAl, halb, hcx⟩ := Hcl.out (l.length - 1) (by omega)
     have Hlast := hid (U8_ (right := right) Hm.out (by omega) hx)
     rw [hx] at hcx
     subst hAl
     have hL0 : 0 < l.length := by omega
     have hL1 : (1 : Int) ≤ (l.length : Int) := by omega
     have hw1 : IntKind.i64.wrap ((l.length : Int) - 1) = (l.length : Int) - 1 := by rw [IntKind.wrap_i64]; omega
     have hw2 : (0 : Int) ≤ (l.length : Int) - 1 := by omega
     have hw3 : (l.length : Int) - 1 < (l.length : Int) := by omega
     have hw4 : ((l.length : Int) - 1).toNat = l.length - 1 := by omega
     have g2 := (Hb1.out.cell (p := al.add (l.length - 1)) (by rw [Z2_]; exact halb)).trans hcx
     clear hx hcx h0
     refine wpAny_take (i := 11) (v := ?_) rfl (by kernel_rfl) (by kernel_rfl) (by kernel_rfl) (fun _ _ _ h => h) (Or.inl ⟨by rfl, ?_⟩) ?_
     rotate_left
     ·intro w; go_simp; try with_reducible rfl
     (refine wpAny_act (b := ?_) ?_ ?_; rotate_left; (go_simp; with_reducible rfl))
     refine wpAny_take (i := 12) (v := ?_) rfl (by kernel_rfl) (by kernel_rfl) (by kernel_rfl) (fun _ _ _ h => h) (Or.inl ⟨by rfl, ?_⟩) ?_
     rotate_left
     ·intro w; go_simp; try with_reducible rfl
     (refine wpAny_act (b := ?_) ?_ ?_; rotate_left; (go_simp; with_reducible rfl))
     refine wpAny_take (i := 13) (v := ?_) rfl (by kernel_rfl) (by kernel_rfl) (by kernel_rfl) (fun _ _ _ h => h) (Or.inl ⟨by rfl, ?_⟩) ?_
     rotate_left
     ·intro w; go_simp; try with_reducible rfl
     (refine wpAny_act (b := ?_) ?_ ?_; rotate_left; (go_simp; with_reducible rfl))
     refine wpAny_take (i := 14) (v := ?_) rfl (by kernel_rfl) (by kernel_rfl) (by kernel_rfl) (fun _ _ _ h => h) (Or.inl ⟨by rfl, ?_⟩) ?_
     rotate_left
     ·intro w; go_simp; try with_reducible rfl
     (refine wpAny_act (b := ?_) ?_ ?_; rotate_left; (go_simp; with_reducible rfl))
     refine wpAny_take (i := 15) (v := ?_) rfl (by kernel_rfl) (by kernel_rfl) (by kernel_rfl) (fun _ _ _ h => h) (Or.inl ⟨by rfl, ?_⟩) ?_
     rotate_left
     ·intro w; go_simp; try with_reducible rfl
     (refine wpAny_act (b := ?_) ?_ ?_; rotate_left; (go_simp; with_reducible rfl))
     refine wpAny_take (i := 16) (v := ?_) rfl (by kernel_rfl) (by kernel_rfl) (by kernel_rfl) (fun _ _ _ h => h) (Or.inl ⟨by rfl, ?_⟩) ?_
     rotate_left
     ·intro w; go_simp; try with_reducible rfl
     (refine wpAny_act (b := ?_) ?_ ?_; rotate_left; (go_simp; with_reducible rfl))
     refine wpAny_take (i := 18) (v := ?_) rfl (by kernel_rfl) (by kernel_rfl) (by kernel_rfl) (fun _ _ _ h => h) (Or.inl ⟨by rfl, ?_⟩) ?_
     rotate_left
     ·intro w; go_simp; try with_reducible rfl
     (refine wpAny_act (b := ?_) ?_ ?_; rotate_left; (go_simp; with_reducible rfl))
     refine wpAny_take (i := 19) (v := ?_) rfl (by kernel_rfl) (by kernel_rfl) (by kernel_rfl) (fun _ _ _ h => h) (Or.inl ⟨by rfl, ?_⟩) ?_
     rotate_left
     ·intro w; go_simp; try with_reducible rfl
     (refine wpAny_act (b := ?_) ?_ ?_; rotate_left; (go_simp; with_reducible rfl))
     refine wpAny_take (i := 20) (v := ?_) rfl (by kernel_rfl) (by kernel_rfl) (by kernel_rfl) (fun _ _ _ h => h) (Or.inl ⟨by rfl, ?_⟩) ?_
     rotate_left
     ·intro w; go_simp; try with_reducible rfl
     (refine wpAny_act (b := ?_) ?_ ?_; rotate_left; (go_simp; with_reducible rfl))
     refine wpAny_take (i := 26) (v := ?_) rfl (by kernel_rfl) (by kernel_rfl) (by kernel_rfl) (fun _ _ _ h => h) (Or.inl ⟨by rfl, ?_⟩) ?_
     rotate_left
     ·intro w; go_simp; try with_reducible rfl
     (refine wpAny_act (b := ?_) ?_ ?_; rotate_left; (go_simp; with_reducible rfl))
     refine wpAny_ready (rs := [17, 21]) (by kernel_rfl) (by simp) ?_
     refine AllReady.cons rfl (fun K hK => ?_) (AllReady.cons rfl (fun K hK => ?_) AllReady.nil)
     go_simp
     refine hK _ _ ?_
     clear hK K
     refine wpAny_ready (rs := [21]) (by kernel_rfl) (by simp) ?_
     refine AllReady.cons rfl (fun K hK => ?_) AllReady.nil
     go_simp
     refine hK _ _ ?_
     clear hK K
     refine wpAny_take (i := 22) (v := ?_) rfl (by kernel_rfl) (by kernel_rfl) (by kernel_rfl) (fun _ _ _ h => h) (Or.inl ⟨by rfl, ?_⟩) ?_
     rotate_left
     ·intro w; go_simp; try with_reducible rfl
     (refine wpAny_act (b := ?_) ?_ ?_; rotate_left; (go_simp; with_reducible rfl))
     refine wpAny_take (i := 23) (v := ?_) rfl (by kernel_rfl) (by kernel_rfl) (by kernel_rfl) (fun _ _ _ h => h) (Or.inl ⟨by rfl, ?_⟩) ?_
     rotate_left
     ·intro w; go_simp; try with_reducible rfl
     (refine wpAny_act (b := ?_) ?_ ?_; rotate_left; (go_simp; with_reducible rfl))
     rotate_left
     go_simp
     refine hK _ _ ?_
     clear hK K
     refine wpAny_take (i := 22) (v := ?_) rfl (by kernel_rfl) (by kernel_rfl) (by kernel_rfl) (fun _ _ _ h => h) (Or.inl ⟨by rfl, ?_⟩) ?_
     rotate_left
     ·intro w; go_simp; try with_reducible rfl
     (refine wpAny_act (b := ?_) ?_ ?_; rotate_left; (go_simp; with_reducible rfl))
     refine wpAny_take (i := 23) (v := ?_) rfl (by kernel_rfl) (by kernel_rfl) (by kernel_rfl) (fun _ _ _ h => h) (Or.inl ⟨by rfl, ?_⟩) ?_
     rotate_left
     ·intro w; go_simp; try with_reducible rfl
     (refine wpAny_act (b := ?_) ?_ ?_; rotate_left; (go_simp; with_reducible rfl))
     refine wpAny_ready (rs := [17]) (by kernel_rfl) (by simp) ?_
     refine AllReady.cons rfl (fun K hK => ?_) AllReady.nil
     go_simp
     refine hK _ _ ?_
     clear hK K
     all_goals
      refine wpAny_take (i := 24) (v := ?_) rfl (by kernel_rfl) (by kernel_rfl) (by kernel_rfl) (fun _ _ _ h => h) (Or.inl ⟨by rfl, ?_⟩) ?_
      rotate_left
      ·intro w; go_simp; try with_reducible rfl
      (refine wpAny_act (b := ?_) ?_ ?_; rotate_left; (go_simp; with_reducible rfl))
      refine wpAny_ready (rs := [25]) (by kernel_rfl) (by simp) ?_
      refine AllReady.cons rfl (fun K hK => ?_) AllReady.nil
      go_simp
      refine hK _ _ ?_
      clear hK K
      by_cases hxr : x < right
      ·have hxr2 : ¬ right ≤ x := by omega
       have Hok1 : Hid (okA right l = true) := hid (Hlast.out.trans (decide_eq_true hxr))
       refine wpAny_take (i := 27) (v := ?_) rfl (by kernel_rfl) (by kernel_rfl) (by kernel_rfl) (fun _ _ _ h => h) (Or.inl ⟨by rfl, ?_⟩) ?_
       rotate_left
       ·intro w; go_simp; try with_reducible rfl
       (refine wpAny_act (b := ?_) ?_ ?_; rotate_left; (go_simp; with_reducible rfl))
       refine wpAny_take (i := 28) (v := ?_) rfl (by kernel_rfl) (by kernel_rfl) (by kernel_rfl) (fun _ _ _ h => h) (Or.inl ⟨by rfl, ?_⟩) ?_
       rotate_left
       ·intro w; go_simp; try with_reducible rfl
       (refine wpAny_act (b := ?_) ?_ ?_; rotate_left; (go_simp; with_reducible rfl))
       refine wpAny_take (i := 29) (v := ?_) rfl (by kernel_rfl) (by kernel_rfl) (by kernel_rfl) (fun _ _ _ h => h) (Or.inl ⟨by rfl, ?_⟩) ?_
       rotate_left
       ·intro w; go_simp; try with_reducible rfl
       (refine wpAny_act (b := ?_) ?_ ?_; rotate_left; (go_simp; with_reducible rfl))
       refine wpAny_done (by kernel_rfl) ?_ _
       clear g1 g2
       go_wp2
       go_roundw
       case rel => exact ⟨i + 1, by go_num, by omega, Hb1.out, Hnext.out Hok1.out⟩
       case measure => simp [intOf]; omega
      ·have hxr2 : right ≤ x := by omega
       have Hno := hid (Hmiss.out (Hlast.out.trans (decide_eq_false hxr)))
       refine wpAny_take (i := 27) (v := ?_) rfl (by kernel_rfl) (by kernel_rfl) (by kernel_rfl) (fun _ _ _ h => h) (Or.inl ⟨by rfl, ?_⟩) ?_
       rotate_left
       ·intro w; go_simp; try with_reducible rfl
       (refine wpAny_act (b := ?_) ?_ ?_; rotate_left; (go_simp; with_reducible rfl))
       refine wpAny_take (i := 28) (v := ?_) rfl (by kernel_rfl) (by kernel_rfl) (by kernel_rfl) (fun _ _ _ h => h) (Or.inl ⟨by rfl, ?_⟩) ?_
       rotate_left
       ·intro w; go_simp; try with_reducible rfl
       (refine wpAny_act (b := ?_) ?_ ?_; rotate_left; (go_simp; with_reducible rfl))
       refine wpAny_take (i := 29) (v := ?_) rfl (by kernel_rfl) (by kernel_rfl) (by kernel_rfl) (fun _ _ _ h => h) (Or.inl ⟨by rfl, ?_⟩) ?_
       rotate_left
       ·intro w; go_simp; try with_reducible rfl
       (refine wpAny_act (b := ?_) ?_ ?_; rotate_left; (go_simp; with_reducible rfl))
       refine wpAny_done (by kernel_rfl) ?_ _
       clear g1 g2
       go_wp2
       go_ret
       exact ⟨congrArg (fun b => Ending.returned (.bool b)) Hno.out.symm, Hb1.out⟩
  ·have hie : i = adj.length := by omega
   subst hie
   by_cases b1 : 0 ≤ right
   ·by_cases b2 : right ≤ 64
    ·by_cases b3 : (adj.length : Int) ≤ 64
     ·have Hyes := hid (mayM_all (adj := adj) (by omega) (by omega) (by omega) Hok.out)
      go_wp2
      go_ret
      exact ⟨congrArg (fun b => Ending.returned (.bool b)) Hyes.out.symm, Hbr.out⟩
     ·have Hno := hid (mayM_off (right := right) (adj := adj) (.inr (.inr (by omega))))
      go_wp2
      go_ret
      exact ⟨congrArg (fun b => Ending.returned (.bool b)) Hno.out.symm, Hbr.out⟩
    ·have Hno := hid (mayM_off (right := right) (adj := adj) (.inr (.inl (by omega))))
     go_wp2
     go_ret
     exact ⟨congrArg (fun b => Ending.returned (.bool b)) Hno.out.symm, Hbr.out⟩
   ·have Hno := hid (mayM_off (right := right) (adj := adj) (.inl (by omega)))
    go_wp2
    go_ret
    exact ⟨congrArg (fun b => Ending.returned (.bool b)) Hno.out.symm, Hbr.out⟩
end Wp
end Go.Proofs.YtgadbnbhgpehjaaGreatDoor
