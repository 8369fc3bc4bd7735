/- The library's IndexFunc and ContainsFunc over a list of integers, and over a list of lists, walked over whatever test. The program's numbers: whether a list has so many, all in bounds; and no edge. The program's elim.May, walked: whether columns may be. -/
import Derived.Test.YtgadbnbhgpehjaaGreatDoorZA
import Derived.Deep.QuietTactic
import Derived.Test.YtgadbnbhgpehjaaGreatDoorZQ
import Derived.Test.YtgadbnbhgpehjaaGreatDoorZM
import Derived.Laws.EntriesVeiled
set_option maxHeartbeats 4000000
set_option maxRecDepth 100000
open Go.Lib (hid)
namespace Go.Proofs.YtgadbnbhgpehjaaGreatDoor
open Go.RowKit
namespace Wp
def Found {α : Type} (P : α → Bool) (d : α) (zs : List α) (r : Int) : Prop :=
 (r = -1 ∧ ∀ j, j < zs.length → P (zs.getD j d) = false) ∨ ∃ i : Nat, i < zs.length ∧ r = (i : Int) ∧ P (zs.getD i d) = true ∧ ∀ j, j < i → P (zs.getD j d) = false
theorem Zk8 {α : Type} {P : α → Bool} {d : α} {zs : List α} {r : Int} (h : Found P d zs r) : (decide (0 ≤ r)) = zs.any P := by
 rcases h with ⟨rfl, h⟩ | ⟨i, hi, rfl, h, _⟩
 ·have : zs.any P = false := by
   rw [← Bool.not_eq_true, List.any_eq_true]
   rintro ⟨x, hx, hp⟩
   obtain ⟨j, hj, rfl⟩ := List.mem_iff_getElem.1 hx
   have := h j hj
   rw [List.getD_eq_getElem?_getD, List.getElem?_eq_getElem hj] at this
   simp [hp] at this
  rw [this]
  rfl
 ·have : zs.any P = true := List.any_eq_true.2 ⟨zs[i], List.getElem_mem hi, by
   rw [List.getD_eq_getElem?_getD, List.getElem?_eq_getElem hi] at h
   exact h⟩
  rw [this]
  exact decide_eq_true (by omega)
def Tests (w : World) (g : Nat) (lb : Array Value) (P : Int → Bool) : Prop :=
 ∀ (x : Int) (W : World), Below w.heap.size w W → Calls Tryz.prog g (#[.int .i64 x] ++ lb) W fun e W' => e = .returned (.bool (P x)) ∧ Below W.heap.size W W'
def Zk9 (w : World) (g : Nat) (lb : Array Value) (P : List Int → Bool) : Prop :=
 ∀ (u : Value) (zs : List Int) (W : World), Below w.heap.size w W → Row W W.heap.size u zs → Calls Tryz.prog g (#[u] ++ lb) W fun e W' => e = .returned (.bool (P zs)) ∧ Below W.heap.size W W'
theorem Zl0 (g : Nat) (lb : Array Value) (P : Int → Bool) (v : Value) (zs : List Int) (w : World) (eg : ∀ args w, (callFunc g args).run Tryz.prog w = .ok (.enter g args) w) (hr : Row w w.heap.size v zs) (hl : zs.length ≤ 1048576) (ht : Tests w g lb P) :
  Calls Tryz.prog 162 #[v, .func (.func g) #[] lb] w fun e w' => ∃ r, e = .returned (.int .i64 r) ∧ Found P 0 zs r ∧ Below w.heap.size w w' := by
 obtain ⟨A, c, rfl, _, hk⟩ := hr
 have Hk := hid hk
 have Ht := hid ht
 have hl' : (zs.length : Int) ≤ 1048576 := by omega
 clear hk ht
 go_enter Tryz.func162, Tryz.ntmps162
 go_wp2
 go_loopw [8] (fun vk wr => ∃ k : Nat, vk = .int .i64 k ∧ k ≤ zs.length ∧ Below w.heap.size w wr ∧ ∀ j, j < k → P (zs.getD j 0) = false) (fun vk _ => zs.length - (intOf vk).toNat)
 case atStart => exact ⟨0, rfl, Nat.zero_le _, Below.refl _ _, fun j hj => absurd hj (Nat.not_lt_zero _)⟩
 case round =>
  obtain ⟨k, rfl, hk, hb, hz⟩ := hrel
  have Hb := hid hb
  have Hz := hid hz
  clear hb hz
  by_cases hlt : k < zs.length
  ·obtain ⟨ad, hA, hab, hc⟩ := Hk.out k hlt
   subst hA
   have g1 := (Hb.out.cell (p := ad.add k) (by rw [Z2_]; exact hab)).trans hc
   have Hcall := hid (Ht.out (zs.getD k 0) _ Hb.out)
   have hlt' : (k : Int) < (zs.length : Int) := by omega
   obtain ⟨x, hx⟩ : ∃ x, x = zs.getD k 0 := ⟨_, rfl⟩
   rw [← hx] at g1 Hcall
   have Hx := hid hx
   clear hx hc Hk Ht
   rcases hq : P x with _ | _
   ·rw [hq] at Hcall
    have Hq := hid hq
    clear hq
    go_wp2_with fail
    refine (Hcall.out).mono ?_
    rintro e w' ⟨rfl, hb'⟩
    go_wp2
    go_roundw
    case rel =>
     refine ⟨k + 1, by go_num, by omega, Hb.out.trans (hb'.mono Hb.out.size), fun j hj => ?_⟩
     by_cases e : j = k
     ·rw [e, ← Hx.out]
      exact Hq.out
     ·exact Hz.out j (by omega)
    case measure => simp [intOf]; omega
   ·rw [hq] at Hcall
    have Hq := hid hq
    clear hq
    go_wp2_with fail
    refine (Hcall.out).mono ?_
    rintro e w' ⟨rfl, hb'⟩
    go_wp2
    go_ret
    exact ⟨_, rfl, .inr ⟨k, hlt, rfl, by rw [← Hx.out]; exact Hq.out, Hz.out⟩, Hb.out.trans (hb'.mono Hb.out.size)⟩
  ·have hke : k = zs.length := by omega
   subst hke
   go_wp2
   go_ret
   exact ⟨_, rfl, .inl ⟨rfl, Hz.out⟩, Hb.out⟩
theorem Yd7 (g : Nat) (lb : Array Value) (P : List Int → Bool) (v : Value) (pp : List (List Int)) (w : World) (eg : ∀ args w, (callFunc g args).run Tryz.prog w = .ok (.enter g args) w) (hr : Rows2 w w.heap.size v pp) (hl : pp.length ≤ 1048576) (ht : Zk9 w g lb P) :
  Calls Tryz.prog 161 #[v, .func (.func g) #[] lb] w fun e w' => ∃ r, e = .returned (.int .i64 r) ∧ Found P [] pp r ∧ Below w.heap.size w w' := by
 obtain ⟨A, c, rfl, _, hk⟩ := hr
 have Hk := hid hk
 have Ht := hid ht
 have hl' : (pp.length : Int) ≤ 1048576 := by omega
 clear hk ht
 go_enter Tryz.func161, Tryz.ntmps161
 go_wp2
 go_loopw [8] (fun vk wr => ∃ k : Nat, vk = .int .i64 k ∧ k ≤ pp.length ∧ Below w.heap.size w wr ∧ ∀ j, j < k → P (pp.getD j []) = false) (fun vk _ => pp.length - (intOf vk).toNat)
 case atStart => exact ⟨0, rfl, Nat.zero_le _, Below.refl _ _, fun j hj => absurd hj (Nat.not_lt_zero _)⟩
 case round =>
  obtain ⟨k, rfl, hk, hb, hz⟩ := hrel
  have Hb := hid hb
  have Hz := hid hz
  clear hb hz
  by_cases hlt : k < pp.length
  ·obtain ⟨ad, u, hA, hab, hc, hru⟩ := Hk.out k hlt
   subst hA
   have g1 := (Hb.out.cell (p := ad.add k) (by rw [Z2_]; exact hab)).trans hc
   have Hcall := hid (Ht.out u (pp.getD k []) _ Hb.out ((hru.below Hb.out).mono Hb.out.size))
   have hlt' : (k : Int) < (pp.length : Int) := by omega
   obtain ⟨x, hx⟩ : ∃ x, x = pp.getD k [] := ⟨_, rfl⟩
   rw [← hx] at Hcall hru
   have Hx := hid hx
   obtain ⟨B, c1, rfl, _⟩ := hru
   clear hx hc Hk Ht
   rcases hq : P x with _ | _
   ·rw [hq] at Hcall
    have Hq := hid hq
    clear hq
    go_wp2_with fail
    refine (Hcall.out).mono ?_
    rintro e w' ⟨rfl, hb'⟩
    go_wp2
    go_roundw
    case rel =>
     refine ⟨k + 1, by go_num, by omega, Hb.out.trans (hb'.mono Hb.out.size), fun j hj => ?_⟩
     by_cases e : j = k
     ·rw [e, ← Hx.out]
      exact Hq.out
     ·exact Hz.out j (by omega)
    case measure => simp [intOf]; omega
   ·rw [hq] at Hcall
    have Hq := hid hq
    clear hq
    go_wp2_with fail
    refine (Hcall.out).mono ?_
    rintro e w' ⟨rfl, hb'⟩
    go_wp2
    go_ret
    exact ⟨_, rfl, .inr ⟨k, hlt, rfl, by rw [← Hx.out]; exact Hq.out, Hz.out⟩, Hb.out.trans (hb'.mono Hb.out.size)⟩
  ·have hke : k = pp.length := by omega
   subst hke
   go_wp2
   go_ret
   exact ⟨_, rfl, .inl ⟨rfl, Hz.out⟩, Hb.out⟩
theorem K3_ (g : Nat) (lb : Array Value) (P : Int → Bool) (v : Value) (zs : List Int) (w : World) (eg : ∀ args w, (callFunc g args).run Tryz.prog w = .ok (.enter g args) w) (hr : Row w w.heap.size v zs) (hl : zs.length ≤ 1048576) (ht : Tests w g lb P) :
  Calls Tryz.prog 141 #[v, .func (.func g) #[] lb] w (Says w (zs.any P)) := by
 have Hc := hid (Zl0 g lb P v zs w eg hr hl ht)
 obtain ⟨A, c, rfl, _⟩ := hr
 clear ht eg
 go_enter Tryz.func141, Tryz.ntmps141
 go_wp2_with fail
 refine (Hc.out).mono ?_
 rintro e w1 ⟨r, rfl, hf, hb⟩
 have Hf := hid (Zk8 hf)
 clear hf
 by_cases h0 : 0 ≤ r
 ·go_wp2
  go_ret
  refine ⟨?_, hb⟩
  rw [← Hf.out, decide_eq_true h0]
  rfl
 ·have h0' : r < 0 := by omega
  go_wp2
  go_ret
  refine ⟨?_, hb⟩
  rw [← Hf.out, decide_eq_false (by omega)]
  rfl
theorem H8_ (g : Nat) (lb : Array Value) (P : List Int → Bool) (v : Value) (pp : List (List Int)) (w : World) (eg : ∀ args w, (callFunc g args).run Tryz.prog w = .ok (.enter g args) w) (hr : Rows2 w w.heap.size v pp) (hl : pp.length ≤ 1048576) (ht : Zk9 w g lb P) :
  Calls Tryz.prog 139 #[v, .func (.func g) #[] lb] w (Says w (pp.any P)) := by
 have Hc := hid (Yd7 g lb P v pp w eg hr hl ht)
 obtain ⟨A, c, rfl, _⟩ := hr
 clear ht eg
 go_enter Tryz.func139, Tryz.ntmps139
 go_wp2_with fail
 refine (Hc.out).mono ?_
 rintro e w1 ⟨r, rfl, hf, hb⟩
 have Hf := hid (Zk8 hf)
 clear hf
 by_cases h0 : 0 ≤ r
 ·go_wp2
  go_ret
  refine ⟨?_, hb⟩
  rw [← Hf.out, decide_eq_true h0]
  rfl
 ·have h0' : r < 0 := by omega
  go_wp2
  go_ret
  refine ⟨?_, hb⟩
  rw [← Hf.out, decide_eq_false (by omega)]
  rfl
open Go.RowKit
theorem Xp0 (below x : Int) (B : Nat) (W : World) (hc : W.cell? ⟨B, 0, none⟩ = some (.int .i64 below)) :
  Calls Tryz.prog 174 #[.int .i64 x, .pointer (some ⟨B, 0, none⟩)] W fun e W' => e = .returned (.bool (outB below x)) ∧ Below W.heap.size W W' := by
 unfold outB
 by_cases h1 : x < 0
 ·rw [decide_eq_true (Or.inl h1)]
  go_enter Tryz.func174, Tryz.ntmps174
  go_wp2
  go_ret
  exact ⟨rfl, Below.refl _ _⟩
 ·have h1' : 0 ≤ x := by omega
  rw [show decide (x < 0 ∨ below ≤ x) = decide (below ≤ x) from decide_eq_decide.2 ⟨fun h => h.resolve_left h1, .inr⟩]
  clear h1
  go_enter Tryz.func174, Tryz.ntmps174
  go_wp2
  go_ret
  refine ⟨?_, Below.refl _ _⟩
  show Ending.returned (.bool (decide (x < 0) || decide (below ≤ x))) = _
  rw [decide_eq_false (show ¬ x < 0 by omega), Bool.false_or]
theorem Xp1 (below : Int) (B : Nat) (w : World) (hB : B < w.heap.size) (hc : w.cell? ⟨B, 0, none⟩ = some (.int .i64 below)) : Tests w 174 #[.pointer (some ⟨B, 0, none⟩)] (outB below) :=
 fun x W hW => Xp0 below x B W ((hW.cell (p := ⟨B, 0, none⟩) hB).trans hc)
theorem B8_ (many below : Int) (v : Value) (zs : List Int) (w : World) (hr : Row w w.heap.size v zs) (hm : many ≤ 1048576) :
  Calls Tryz.prog 170 #[v, .int .i64 many, .int .i64 below] w (Says w (numsB zs many below)) := by
 unfold numsB
 have Hb0 := hid (show Below w.heap.size w (w.alloc (.cells #[.int .i64 below] 3)) from (Below.refl _ _).alloc (Nat.le_refl _) _)
 by_cases hl : (zs.length : Int) = many
 ·have hru := (hr.below Hb0.out).mono Hb0.out.size
  have Hc := hid (K3_ 174 #[.pointer (some ⟨w.heap.size, 0, none⟩)] (outB below) v zs (w.alloc (.cells #[.int .i64 below] 3)) (enters_of Tryz.func174 (by kernel_rfl) rfl) hru (by omega) (Xp1 below w.heap.size _ (by simp) (by simp [go_sem])))
  obtain ⟨A, c, rfl, _⟩ := hr
  rw [decide_eq_true hl, Bool.true_and]
  generalize zs.any (outB below) = b at *
  have hne : ((zs.length : Int) == many) = true := by simp [hl]
  clear hl hru
  go_enter Tryz.func170, Tryz.ntmps170
  go_wp2_with fail
  refine (Hc.out).mono ?_
  rintro e w1 ⟨rfl, hb1⟩
  go_wp2
  go_ret
  refine ⟨?_, Hb0.out.trans (hb1.mono Hb0.out.size)⟩
  rfl
 ·rw [decide_eq_false hl, Bool.false_and]
  obtain ⟨A, c, rfl, _⟩ := hr
  have hne : ((zs.length : Int) == many) = false := by simpa using hl
  clear hl
  go_enter Tryz.func170, Tryz.ntmps170
  go_wp2
  go_ret
  exact ⟨rfl, Hb0.out⟩
theorem Xq0 (A : Int) (B : Nat) (v : Value) (zs : List Int) (W : World) (hc : W.cell? ⟨B, 2, none⟩ = some (.int .i64 A)) (hr : Row W W.heap.size v zs) :
  Calls Tryz.prog 169 #[v, .pointer (some ⟨B, 0, none⟩)] W (Says W (edgeB A zs)) := by
 have Hc := hid (B8_ 2 A v zs W hr (by decide))
 unfold edgeB
 obtain ⟨A0, c, rfl, _⟩ := hr
 generalize numsB zs 2 A = b at *
 go_enter Tryz.func169, Tryz.ntmps169
 go_wp2_with fail
 refine (Hc.out).mono ?_
 rintro e w1 ⟨rfl, hb1⟩
 go_wp2
 go_ret
 exact ⟨rfl, hb1⟩
open Go.RowKit
theorem wrong_any (p x : Int) (B : Nat) (W : World) (hc : W.cell? ⟨B, 0, none⟩ = some (.int .i64 p)) :
  Calls Tryz.prog 138 #[.int .i64 x, .pointer (some ⟨B, 0, none⟩)] W fun e W' => e = .returned (.bool (wrongB p x)) ∧ Below W.heap.size W W' := by
 unfold wrongB
 by_cases h1 : x < 0
 ·rw [decide_eq_true (Or.inl h1)]
  go_enter Tryz.func138, Tryz.ntmps138
  go_wp2
  go_ret
  exact ⟨rfl, Below.refl _ _⟩
 ·have h1' : 0 ≤ x := by omega
  rw [show decide (x < 0 ∨ p ≤ x) = decide (p ≤ x) from decide_eq_decide.2 ⟨fun h => h.resolve_left h1, .inr⟩]
  clear h1
  go_enter Tryz.func138, Tryz.ntmps138
  go_wp2
  go_ret
  refine ⟨?_, Below.refl _ _⟩
  show Ending.returned (.bool (decide (x < 0) || decide (p ≤ x))) = _
  rw [decide_eq_false (show ¬ x < 0 by omega), Bool.false_or]
theorem wrongtest (p : Int) (B : Nat) (w : World) (hB : B < w.heap.size) (hc : w.cell? ⟨B, 0, none⟩ = some (.int .i64 p)) : Tests w 138 #[.pointer (some ⟨B, 0, none⟩)] (wrongB p) :=
 fun x W hW => wrong_any p x B W ((hW.cell (p := ⟨B, 0, none⟩) hB).trans hc)
theorem badrow_any (p rows : Int) (bp br bw : Nat) (v : Value) (zs : List Int) (w : World) (hbp : bp < w.heap.size) (hp : w.cell? ⟨bp, 0, none⟩ = some (.int .i64 p)) (hrows : w.cell? ⟨br, 0, none⟩ = some (.int .i64 rows))
  (hw : w.cell? ⟨bw, 0, none⟩ = some (.func (.func 138) #[] #[.pointer (some ⟨bp, 0, none⟩)])) (hr : Row w w.heap.size v zs) (h64 : rows ≤ 64) :
  Calls Tryz.prog 140 #[v, .pointer (some ⟨br, 0, none⟩), .pointer (some ⟨bw, 0, none⟩)] w fun e w' => e = .returned (.bool (badRow p rows zs)) ∧ Below w.heap.size w w' := by
 unfold badRow
 by_cases hl : (zs.length : Int) = rows
 ·have Hc := hid (K3_ 138 #[.pointer (some ⟨bp, 0, none⟩)] (wrongB p) v zs w (enters_of Tryz.func138 (by kernel_rfl) rfl) hr (by omega) (wrongtest p bp w hbp hp))
  obtain ⟨A, c, rfl, _⟩ := hr
  rw [decide_eq_false (by omega), Bool.false_or]
  generalize zs.any (wrongB p) = b at *
  have hne : ((zs.length : Int) != rows) = false := by simp [hl]
  clear hl hp
  go_enter Tryz.func140, Tryz.ntmps140
  go_wp2_with fail
  refine (Hc.out).mono ?_
  rintro e w1 ⟨rfl, hb1⟩
  go_wp2
  go_ret
  refine ⟨?_, hb1⟩
  rfl
 ·rw [decide_eq_true hl, Bool.true_or]
  obtain ⟨A, c, rfl, _⟩ := hr
  have hne : ((zs.length : Int) != rows) = true := by simpa using hl
  clear hl hp
  go_enter Tryz.func140, Tryz.ntmps140
  go_wp2
  go_ret
  exact ⟨rfl, Below.refl _ _⟩
theorem badtest (p rows : Int) (bp br bw : Nat) (w : World) (hbp : bp < w.heap.size) (hbr : br < w.heap.size) (hbw : bw < w.heap.size) (hp : w.cell? ⟨bp, 0, none⟩ = some (.int .i64 p)) (hrows : w.cell? ⟨br, 0, none⟩ = some (.int .i64 rows))
  (hw : w.cell? ⟨bw, 0, none⟩ = some (.func (.func 138) #[] #[.pointer (some ⟨bp, 0, none⟩)])) (h64 : rows ≤ 64) :
  Zk9 w 140 #[.pointer (some ⟨br, 0, none⟩), .pointer (some ⟨bw, 0, none⟩)] (badRow p rows) :=
 fun u zs W hW hu => badrow_any p rows bp br bw u zs W (Nat.lt_of_lt_of_le hbp hW.size) ((hW.cell (p := ⟨bp, 0, none⟩) hbp).trans hp) ((hW.cell (p := ⟨br, 0, none⟩) hbr).trans hrows) ((hW.cell (p := ⟨bw, 0, none⟩) hbw).trans hw) hu h64
theorem prime_is (p : Int) (b : Bool) (h : prB p = b) (w : World) (hM : Met w) : Calls Tryz.prog 137 #[.int .i64 p] w (Gets w (.bool b)) := by
 subst h
 exact N8_ p w hM
theorem below_two (w : World) (o1 o2 : Obj) : Below w.heap.size w ((w.alloc o1).alloc o2) := ((Below.refl _ w).alloc (Nat.le_refl _) _).alloc (by simp) _
theorem Xq1 (p rows : Int) (v : Value) (cols : List (List Int)) (w : World) (hM : Met w) (hr : Rows2 w w.heap.size v cols) :
  Calls Tryz.prog 113 #[.int .i64 p, .int .i64 rows, v] w (Says w (elimB p rows cols)) := by
 have Hr := hid hr
 have HM := hid hM
 obtain ⟨A, c, rfl, hn, _⟩ := hr
 have hlm : (cols.length : Int) ≤ 9223372036854775807 := by have := hn.1; have := hn.2.1; unfold maxLen at *; omega
 have Hb0 := hid (below_two w (.cells #[.int .i64 p] 3) (.cells #[.int .i64 rows] 3))
 clear hn hM
 unfold elimB
 rcases hp : prB p with _ | _
 ·simp only [Bool.false_and]
  have HP := hid hp
  clear hp
  go_enter Tryz.func113, Tryz.ntmps113
  go_wp2_with fail
  refine (prime_is p false HP.out _ (HM.out.up Hb0.out)).mono ?_
  rintro e w1 ⟨rfl, hb1⟩
  have Hb1 := hid (Z0_ Hb0.out (Nat.le_refl _) hb1)
  clear hb1
  go_wp2
  go_ret
  exact ⟨rfl, Hb1.out⟩
 ·simp only [Bool.true_and]
  have HP := hid hp
  clear hp
  by_cases h1 : rows < 0
  ·rw [decide_eq_false (show ¬ (0 ≤ rows ∧ rows ≤ 64) by omega)]
   simp only [Bool.false_and]
   go_enter Tryz.func113, Tryz.ntmps113
   go_wp2_with fail
   refine (prime_is p true HP.out _ (HM.out.up Hb0.out)).mono ?_
   rintro e w1 ⟨rfl, hb1⟩
   have c0 : w1.cell? ⟨w.heap.size, 0, none⟩ = some (.int .i64 p) := (hb1.cell (p := ⟨w.heap.size, 0, none⟩) (by simp; omega)).trans (by simp [go_sem])
   have c1 : w1.cell? ⟨w.heap.size + 1, 0, none⟩ = some (.int .i64 rows) := (hb1.cell (p := ⟨w.heap.size + 1, 0, none⟩) (by simp)).trans (by simp [go_sem])
   have Hb1 := hid (Z0_ Hb0.out (Nat.le_refl _) hb1)
   have Hs1 : Hid (w.heap.size + 1 < w1.heap.size) := by
    have := hb1.size
    show _ < _
    simp at this
    omega
   clear hb1
   go_wp2
   go_ret
   exact ⟨rfl, Hb1.out⟩
  ·have h1' : 0 ≤ rows := by omega
   clear h1
   by_cases h2 : 64 < rows
   ·rw [decide_eq_false (show ¬ (0 ≤ rows ∧ rows ≤ 64) by omega)]
    simp only [Bool.false_and]
    go_enter Tryz.func113, Tryz.ntmps113
    go_wp2_with fail
    refine (prime_is p true HP.out _ (HM.out.up Hb0.out)).mono ?_
    rintro e w1 ⟨rfl, hb1⟩
    have c0 : w1.cell? ⟨w.heap.size, 0, none⟩ = some (.int .i64 p) := (hb1.cell (p := ⟨w.heap.size, 0, none⟩) (by simp; omega)).trans (by simp [go_sem])
    have c1 : w1.cell? ⟨w.heap.size + 1, 0, none⟩ = some (.int .i64 rows) := (hb1.cell (p := ⟨w.heap.size + 1, 0, none⟩) (by simp)).trans (by simp [go_sem])
    have Hb1 := hid (Z0_ Hb0.out (Nat.le_refl _) hb1)
    have Hs1 : Hid (w.heap.size + 1 < w1.heap.size) := by
     have := hb1.size
     show _ < _
     simp at this
     omega
    clear hb1
    go_wp2
    go_ret
    exact ⟨rfl, Hb1.out⟩
   ·have h2' : rows ≤ 64 := by omega
    rw [decide_eq_true (show 0 ≤ rows ∧ rows ≤ 64 from ⟨h1', h2'⟩), Bool.true_and]
    clear h2
    by_cases h3 : cols.length ≤ 64
    ·rw [decide_eq_true h3, Bool.true_and]
     have h3' : (cols.length : Int) ≤ 64 := by omega
     generalize hcb : cols.any (badRow p rows) = cb
     have Hcb := hid hcb
     have H3 := hid h3
     clear hcb h3
     go_enter Tryz.func113, Tryz.ntmps113
     go_wp2_with fail
     refine (prime_is p true HP.out _ (HM.out.up Hb0.out)).mono ?_
     rintro e w1 ⟨rfl, hb1⟩
     have c0 : w1.cell? ⟨w.heap.size, 0, none⟩ = some (.int .i64 p) := (hb1.cell (p := ⟨w.heap.size, 0, none⟩) (by simp; omega)).trans (by simp [go_sem])
     have c1 : w1.cell? ⟨w.heap.size + 1, 0, none⟩ = some (.int .i64 rows) := (hb1.cell (p := ⟨w.heap.size + 1, 0, none⟩) (by simp)).trans (by simp [go_sem])
     have Hb1 := hid (Z0_ Hb0.out (Nat.le_refl _) hb1)
     have Hs1 : Hid (w.heap.size + 1 < w1.heap.size) := by
      have := hb1.size
      show _ < _
      simp at this
      omega
     clear hb1
     have Hd : Hid (Below w.heap.size w (w1.alloc (.cells #[.func (.func 138) #[] #[.pointer (some ⟨w.heap.size, 0, none⟩)]] 60))) := Hb1.out.alloc Hb1.out.size _
     go_wp2_with fail
     refine (H8_ 140 _ (badRow p rows) _ cols _ (enters_of Tryz.func140 (by kernel_rfl) rfl) (Hr.out.up Hd.out) (by have := H3.out; omega) (badtest p rows w.heap.size (w.heap.size + 1) w1.heap.size _ (by have := Hs1.out; simp; omega) (by have := Hs1.out; simp; omega) (by simp) ?_ ?_ ?_ h2')).mono ?_
     ·rw [World.cell?_alloc_lt]
      ·exact c0
      ·have := Hs1.out
       show w.heap.size < _
       omega
     ·rw [World.cell?_alloc_lt]
      ·exact c1
      ·exact Hs1.out
     ·exact (Blk.new w1 _ _).cell 0
     rintro e w2 ⟨rfl, hb2⟩
     rw [Hcb.out]
     have Hb2 := hid (Z0_ Hd.out (Nat.le_refl _) hb2)
     clear hb2
     go_wp2
     go_ret
     exact ⟨rfl, Hb2.out⟩
    ·rw [decide_eq_false h3, Bool.false_and]
     have h3' : 64 < (cols.length : Int) := by omega
     clear h3
     go_enter Tryz.func113, Tryz.ntmps113
     go_wp2_with fail
     refine (prime_is p true HP.out _ (HM.out.up Hb0.out)).mono ?_
     rintro e w1 ⟨rfl, hb1⟩
     have c0 : w1.cell? ⟨w.heap.size, 0, none⟩ = some (.int .i64 p) := (hb1.cell (p := ⟨w.heap.size, 0, none⟩) (by simp; omega)).trans (by simp [go_sem])
     have c1 : w1.cell? ⟨w.heap.size + 1, 0, none⟩ = some (.int .i64 rows) := (hb1.cell (p := ⟨w.heap.size + 1, 0, none⟩) (by simp)).trans (by simp [go_sem])
     have Hb1 := hid (Z0_ Hb0.out (Nat.le_refl _) hb1)
     have Hs1 : Hid (w.heap.size + 1 < w1.heap.size) := by
      have := hb1.size
      show _ < _
      simp at this
      omega
     clear hb1
     go_wp2
     go_ret
     exact ⟨rfl, Hb1.out⟩
end Wp
end Go.Proofs.YtgadbnbhgpehjaaGreatDoor
