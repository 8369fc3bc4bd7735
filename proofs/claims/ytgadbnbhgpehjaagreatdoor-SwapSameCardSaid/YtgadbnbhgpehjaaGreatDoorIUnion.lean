/- The program's sort and union of sets, walked. -/
import Derived.Test.YtgadbnbhgpehjaaGreatDoorZA
import Derived.Test.YtgadbnbhgpehjaaGreatDoorMShelf2
import Derived.Test.YtgadbnbhgpehjaaGreatDoorIGrow
import Derived.Sort.OwnSortedInts
import Derived.Lib.OwnBridge
import Derived.LoopN
set_option maxHeartbeats 4000000
set_option maxRecDepth 100000
open Go.Lib (hid)
namespace Go.Proofs
open Go.RowKit Go.Sort Go.Lib
namespace YtgadbnbhgpehjaaGreatDoor.Wp
theorem Xb4 (base : Nat) (v : Value) (zs : List Int) (w : World) (hown : w.ownsRow base 3 1 v zs.length (ints zs)) (hz : zs.length ≤ 2097152) :
  Calls Tryz.prog 57 #[v] w fun e w' => e = .returned (.tuple #[]) ∧ w'.ownsRow base 3 1 v zs.length (ints (zs.mergeSort fun x y => decide (x ≤ y))) ∧ w.grownBy w' v.ownBlock := by
 rcases hown.2 with ⟨rfl, h0⟩ | ⟨g, cap, cur, rfl, hbase, hb, h1, h2, h3, h4⟩
 ·have hzs : zs = [] := List.eq_nil_of_length_eq_zero h0
  subst hzs
  refine (Tryz.slices_Sort_int_none none 0 w).mono ?_
  rintro e w' ⟨rfl, rfl⟩
  refine ⟨rfl, ?_, ⟨rfl, rfl, rfl, Nat.le_refl _, fun _ _ _ => rfl⟩⟩
  have e : ([] : List Int).mergeSort (fun x y => decide (x ≤ y)) = [] := by simp
  rw [e]
  exact hown
 ·have hH := holds_of_blockI (ss := zs) hb (by simpa [ints] using h4)
  refine (Tryz.slices_Sort_int g 0 cap zs w hH (Array.getElem?_eq_some_iff.1 hb).1 (by omega)).mono ?_
  rintro e w' ⟨rfl, nn, os, rfl⟩
  refine ⟨rfl, ?_, grownBy_sortedI _⟩
  have h := ownsRow_sortedI (n := nn) (os := os) (ss := zs) (ts := zs.mergeSort fun x y => decide (x ≤ y)) (by simp) hbase hb h1 h2 h3
  simpa [ints] using h
theorem Zu3 (base : Nat) (v : Value) (zs : List Int) (w : World) (hown : w.ownsRow base 3 1 v zs.length (ints zs)) (hz : zs.length ≤ 2097152) :
  Calls Tryz.prog 58 #[v] w fun e w' => ∃ v', e = .returned v' ∧ w'.ownsRow base 3 1 v' (Lib.compact zs).length (ints (Lib.compact zs)) ∧ w.grownBy w' v.ownBlock := by
 rcases hown.2 with ⟨rfl, h0⟩ | ⟨g, cap, cur, rfl, hbase, hb, h1, h2, h3, h4⟩
 ·have hzs : zs = [] := List.eq_nil_of_length_eq_zero h0
  subst hzs
  refine (Tryz.slices_Compact_int_empty none 0 w).mono ?_
  rintro e w' ⟨rfl, rfl⟩
  refine ⟨_, rfl, ?_, ⟨rfl, rfl, rfl, Nat.le_refl _, fun _ _ _ => rfl⟩⟩
  have e : Lib.compact ([] : List Int) = [] := by simp [Lib.compact, Lib.compactUpTo]
  rw [e]
  exact hown
 ·have hH := holds_of_blockI (ss := zs) hb (by simpa [ints] using h4)
  refine (Tryz.slices_Compact_int g 0 cap zs w hH (by omega) h1).mono ?_
  rintro e w' ⟨rfl, q, rfl⟩
  have hc : (Lib.compact zs).length ≤ zs.length := Lib.compact_length_le zs
  refine ⟨_, rfl, ?_, ?_⟩
  ·have h := Lib.ownsRow_putRow (q := q) (k := (Lib.compact zs).length) (ys := Lib.compact zs ++ List.replicate (zs.length - (Lib.compact zs).length) 0) (enc := Value.int .i64) (zs := zs) hown (by simp; omega) hc
   simpa [ints] using h
  ·exact ⟨rfl, rfl, rfl, by simp [putRow, mapBlock, Sort.ahead], fun k hk hne => by
    have : g ≠ k := by intro e; exact hne (by rw [e]; rfl)
    simp [putRow, mapBlock, Sort.ahead, Array.getElem?_modify, this]⟩
def G4_ (l : List Int) (k : Nat) : List Int := (l.take k).filter fun x => decide (Fit x)
theorem Ye5 (l : List Int) (k : Nat) (h : k < l.length) (hf : Fit (l.getD k 0)) : G4_ l (k + 1) = G4_ l k ++ [l.getD k 0] := by
 unfold G4_
 rw [List.take_succ_eq_append_getElem h, List.filter_append]
 have e : l[k] = l.getD k 0 := by simp [List.getD, h]
 rw [e]
 congr 1
 rw [List.filter_cons, if_pos (by simpa using hf)]
 rfl
theorem Yp4 (l : List Int) (k : Nat) (h : k < l.length) (hf : ¬ Fit (l.getD k 0)) : G4_ l (k + 1) = G4_ l k := by
 unfold G4_
 rw [List.take_succ_eq_append_getElem h, List.filter_append]
 have e : l[k] = l.getD k 0 := by simp [List.getD, h]
 rw [e, List.filter_cons, if_neg (by simpa using hf)]
 simp
theorem P2_ (l : List Int) (k : Nat) : (G4_ l k).length ≤ l.length := by
 unfold G4_
 refine Nat.le_trans (List.length_filter_le _ _) ?_
 simp
 omega
theorem Ye6 (l : List Int) : Lib.compact ((G4_ l l.length).mergeSort fun x y => decide (x ≤ y)) = sortL l := by
 unfold G4_
 rw [List.take_length]
 exact Zd6 l
theorem W5_ (v : Value) (l : List Int) (w : World) (hr : Row w w.heap.size v l) (hl : l.length ≤ 2097152) : Calls Tryz.prog 38 #[v] w (Gives w (sortL l)) := by
 obtain ⟨A, c, rfl, _, hcell⟩ := hr
 have Hcell := hid hcell
 clear hcell
 have hl' : (l.length : Int) ≤ 2097152 := by omega
 obtain ⟨i0, hi, hz0, hz1, hz2⟩ := info_parts info3
 have Hall := hid (Ye6 l)
 go_enter Tryz.func38, Tryz.ntmps38
 go_wp2
 go_loopw [3, 8] (fun vs vk wr => ∃ k : Nat, vk = .int .i64 k ∧ k ≤ l.length ∧ wr.ownsRow w.heap.size 3 1 vs (G4_ l k).length (ints (G4_ l k)) ∧ Below w.heap.size w wr) (fun _ vk _ => l.length - (intOf vk).toNat)
 case atStart => exact ⟨0, rfl, Nat.zero_le _, World.ownsRow_nil _ _ _ _, Below.refl _ _⟩
 case round =>
  obtain ⟨k, rfl, hk, hown, hbr⟩ := hrel
  by_cases hlt : k < l.length
  ·obtain ⟨ad, hA, hab, hc⟩ := Hcell.out k hlt
   subst hA
   have g1 : wr.cell? (ad.add k) = some (.int .i64 (l.getD k 0)) := (hbr.cell (by rw [Z2_]; exact hab)).trans hc
   clear hc
   have hfl := P2_ l k
   have Hyes := hid (Ye5 l k hlt)
   have Hno := hid (Yp4 l k hlt)
   generalize l.getD k 0 = x at g1 Hyes Hno
   by_cases hx : Fit x
   ·have hfx := R1_ x true (by simp [hx])
    have Hx := hid (Hyes.out hx)
    clear Hyes Hno
    go_wp2_with (first
     | (go_at_call 56; refine (hfx _).mono ?_; rintro e w' ⟨rfl, rfl⟩)
     | (at_builtin; refine wpList_append_own _ rfl _ _ 26 rfl w.heap.size 3 i0 (.int .i64 0) 1 8 (by kernel_rfl) hi hz0 hz1 hz2 rfl (by decide) _ _ _ rfl (hown.alloc _) ⟨w'.heap.size, 0, none⟩ 1 1 [Value.int .i64 x] rfl rfl ?c1 ?c2 ?c3 ?c4 ?c5 ?_))
    case c1 => exact Yy5 _ _ _
    case c2 => exact Xl7 x
    case c3 => unfold maxLen; omega
    case c4 => omega
    case c5 => have := hbr.size; simp; omega
    intro v' w4 hown' hgrow _
    have hB4 : Below w.heap.size w w4 := (hbr.alloc hbr.size _).grown hgrow (by have := hbr.size; simp; omega) (fun i hi => (hown.lt i hi).1)
    go_wp2
    go_roundw
    case rel => exact ⟨k + 1, by go_num, by omega, by rw [Hx.out, V6_, List.length_append]; exact hown', hB4⟩
    case measure => simp [intOf]; omega
   ·have hfx := R1_ x false (by simp [hx])
    have Hx := hid (Hno.out hx)
    clear Hyes Hno
    go_wp2_with (go_at_call 56; refine (hfx _).mono ?_; rintro e w' ⟨rfl, rfl⟩)
    go_roundw
    case rel => exact ⟨k + 1, by go_num, by omega, by rw [Hx.out]; exact hown, hbr⟩
    case measure => simp [intOf]; omega
  ·have hke : k = l.length := by omega
   subst hke
   have hfl := P2_ l l.length
   generalize G4_ l l.length = zs at hown Hall hfl
   go_wp2_with fail
   refine (Xb4 w.heap.size _ zs _ hown (by omega)).mono ?_
   rintro e w2 ⟨rfl, hown2, hg2⟩
   have hb2 : Below w.heap.size w w2 := hbr.grown hg2 hbr.size (fun i hi => (hown.lt i hi).1)
   have hsl : (zs.mergeSort fun x y => decide (x ≤ y)).length = zs.length := by simp
   rw [← hsl] at hown2
   generalize (zs.mergeSort fun x y => decide (x ≤ y)) = ss at hown2 Hall hsl
   go_wp2_with fail
   refine (Zu3 w.heap.size _ ss _ hown2 (by omega)).mono ?_
   rintro e w3 ⟨v3, rfl, hown3, hg3⟩
   have hb3 : Below w.heap.size w w3 := hb2.grown hg3 hb2.size (fun i hi => (hown2.lt i hi).1)
   rw [Hall.out] at hown3
   go_wp2
   go_ret
   exact ⟨_, rfl, Row.of_own hown3 rfl, hb3⟩
end YtgadbnbhgpehjaaGreatDoor.Wp
end Go.Proofs
namespace Go.Proofs.YtgadbnbhgpehjaaGreatDoor
open Go.RowKit
namespace Wp
theorem Xb5 (n : Nat) (w : World) (hn : n ≤ 4194304) :
  Calls Tryz.prog 73 #[.slice none 0 0, .int .i64 n] w fun e w' => ∃ v, e = .returned v ∧ w'.ownsRow w.heap.size 3 1 v 0 [] ∧ Below w.heap.size w w' := by
 by_cases h0 : n = 0
 ·subst h0
  refine (Any8.slices_Grow_room Tryz.growI none 0 0 0 w (by omega) (by omega) (by omega) (by omega)).mono ?_
  rintro e w' ⟨rfl, rfl⟩
  exact ⟨_, rfl, World.ownsRow_nil _ _ _ _, Below.refl _ _⟩
 ·obtain ⟨i0, hi, hz0, hz1, hz2⟩ := info_parts info3
  refine (Any8.slices_Grow_grow Tryz.growI i0 (.int .i64 0) hi hz0 (by omega) none 0 0 n [] w (by omega) (by omega) (by rw [hz2]; omega) (by omega) (by simp) (fun _ => rfl) (fun a h => by cases h)).mono ?_
  rintro e w' ⟨rfl, rfl⟩
  refine ⟨_, rfl, ?_, ((Below.refl _ w).drew).alloc (Nat.le_refl _) _⟩
  have hG : 0 + n ≤ grownCap w (0 + n) 0 3 := grownCap_ge w _ _ _
  have hM : grownCap w (0 + n) 0 3 ≤ maxLen := grownCap_le_maxLen w _ _ _ (by unfold maxLen; omega)
  refine World.ownsRow_made w.drew _ _ (Nat.le_refl _) hM ?_
  show (Array.size (_ ++ _ ++ _)) = _
  have hz : (Value.int IntKind.i64 0).cells.size = 1 := rfl
  rw [Array.size_append, Array.size_append, size_zeroCells, size_zeroCells, hz]
  show 0 + _ + _ = _
  change 0 + (0 + n - 0) * 1 + (grownCap w (0 + n) 0 3 - (0 + n)) * 1 = grownCap w (0 + n) 0 3 * 1
  omega
theorem Ye7 (g : Nat) (va vb : Value) (a b : List Int) (w : World) (hg : Blk w g 26 #[va, vb]) (ha : Row w w.heap.size va a) (hb : Row w w.heap.size vb b) (hla : a.length ≤ 1048576) (hlb : b.length ≤ 1048576) :
  Calls Tryz.prog 59 #[.slice (some ⟨g, 0, none⟩) 2 2] w (Gives w (a ++ b)) := by
 have Ha := hid ha
 have Hb := hid hb
 obtain ⟨A1, c1, rfl, _⟩ := ha
 obtain ⟨A2, c2, rfl, _⟩ := hb
 have hgl := hg.lt
 have q0 := hg.cell 0
 have q1 := hg.cell 1
 simp only [List.getElem?_toArray, List.getElem?_cons_zero, List.getElem?_cons_succ] at q0 q1
 have hla' : (a.length : Int) ≤ 1048576 := by omega
 have hlb' : (b.length : Int) ≤ 1048576 := by omega
 obtain ⟨n, hn⟩ : ∃ n : Nat, n = a.length + b.length := ⟨_, rfl⟩
 have hs : (a.length : Int) + (b.length : Int) = (n : Int) := by omega
 have hn' : (n : Int) ≤ 2097152 := by omega
 have Hn := hid hn
 clear hn
 have Hg := hid hg
 clear hg
 go_enter Tryz.func59, Tryz.ntmps59
 go_wp2
 refine wp_loop_rounds 3 ?_
 rw [rounds_succ]
 go_wp2
 rw [rounds_succ]
 go_wp2
 rw [rounds_succ]
 go_wp2_with fail
 refine (Xb5 n w (by omega)).mono ?_
 rintro e w1 ⟨v1, rfl, hown1, hb1⟩
 have Ha1 := hid (Ha.out.below hb1)
 have Hb1 := hid (Hb.out.below hb1)
 have p0 : w1.cell? ⟨g, 0, none⟩ = some (.slice A1 a.length c1) := (hb1.cell hgl).trans q0
 clear q0
 go_wp2
 refine wp_loop_rounds 3 ?_
 rw [rounds_succ]
 go_wp2_with (at_builtin; refine Z4_ rfl _ _ rfl w.heap.size w.heap.size _ _ [] a rfl rfl hown1 Ha1.out (by simp) (by omega) hb1.size ?_)
 intro v2 w2 hown2 hg2
 have hb2 : Below w.heap.size w w2 := hb1.grown hg2 hb1.size (fun i hi => (hown1.lt i hi).1)
 have Hb2 := hid (Hb.out.below hb2)
 have p1 : w2.cell? ⟨g, 1, none⟩ = some (.slice A2 b.length c2) := (hb2.cell hgl).trans q1
 clear q1 p0
 go_wp2
 rw [rounds_succ]
 go_wp2_with (at_builtin; refine Z4_ rfl _ _ rfl w.heap.size w.heap.size _ _ a b rfl rfl hown2 Hb2.out (by omega) (by omega) hb2.size ?_)
 intro v3 w3 hown3 hg3
 have hb3 : Below w.heap.size w w3 := hb2.grown hg3 hb2.size (fun i hi => (hown2.lt i hi).1)
 go_wp2
 rw [rounds_succ]
 go_wp2
 go_ret
 exact ⟨_, rfl, Row.of_own hown3 (by simp), hb3⟩
theorem Zv6 (va vb : Value) (a b : List Int) (w : World) (ha : Row w w.heap.size va a) (hb : Row w w.heap.size vb b) (hla : a.length ≤ 1048576) (hlb : b.length ≤ 1048576) :
  Calls Tryz.prog 40 #[va, vb] w (Gives w (Y2_ a b)) := by
 have Ha := hid ha
 have Hb := hid hb
 obtain ⟨A1, c1, rfl, _⟩ := ha
 obtain ⟨A2, c2, rfl, _⟩ := hb
 rcases hma : mayB a with _ | _
 ·have Hr := hid (Zh6 (b := b) hma)
  go_enter Tryz.func40, Tryz.ntmps40
  go_wp2_with fail
  refine (may_any _ a w Ha.out (by omega)).mono ?_
  rintro e w1 ⟨rfl, hb1⟩
  rw [hma]
  go_wp2
  go_ret
  exact C5_ w hb1 Hr.out
 ·rcases hmb : mayB b with _ | _
  ·have Hr := hid (Zh7 (a := a) hmb)
   go_enter Tryz.func40, Tryz.ntmps40
   go_wp2_with fail
   refine (may_any _ a w Ha.out (by omega)).mono ?_
   rintro e w1 ⟨rfl, hb1⟩
   rw [hma]
   go_wp2_with fail
   refine (may_any _ b w1 ((Hb.out.below hb1).mono hb1.size) (by omega)).mono ?_
   rintro e w2 ⟨rfl, hb2⟩
   rw [hmb]
   go_wp2
   go_ret
   exact C5_ w (hb1.trans (hb2.mono hb1.size)) Hr.out
  ·have Hr := hid (Zh5 hma hmb)
   go_enter Tryz.func40, Tryz.ntmps40
   go_wp2_with fail
   refine (may_any _ a w Ha.out (by omega)).mono ?_
   rintro e w1 ⟨rfl, hb1⟩
   rw [hma]
   go_wp2_with fail
   refine (may_any _ b w1 ((Hb.out.below hb1).mono hb1.size) (by omega)).mono ?_
   rintro e w2 ⟨rfl, hb2⟩
   rw [hmb]
   have hB2 : Below w.heap.size w w2 := hb1.trans (hb2.mono hb1.size)
   clear hb1 hb2
   have hB3 := hB2.alloc hB2.size (.cells #[.slice A1 a.length c1, .slice A2 b.length c2] 26)
   go_wp2_with fail
   have hz3 : w.heap.size ≤ (w2.alloc (.cells #[.slice A1 a.length c1, .slice A2 b.length c2] 26)).heap.size := hB3.size
   refine (Ye7 _ _ _ a b _ (Blk.new w2 _ _) ((Ha.out.below hB3).mono hz3) ((Hb.out.below hB3).mono hz3) hla hlb).mono ?_
   rintro e w3 ⟨v3, rfl, hr3, hb3⟩
   have hB4 : Below w.heap.size w w3 := hB3.trans (hb3.mono hz3)
   clear hb3 hB3 hz3
   go_wp2_with fail
   refine (W5_ v3 (a ++ b) w3 hr3 (by rw [List.length_append]; omega)).mono ?_
   rintro e w4 ⟨v4, rfl, hr4, hb4⟩
   go_wp2
   go_ret
   exact ⟨_, rfl, by rw [Hr.out]; exact hr4, hB4.trans (hb4.mono hB4.size)⟩
end Wp
end Go.Proofs.YtgadbnbhgpehjaaGreatDoor
