/- The document's helper that compares two lists, walked. What the laws of what is greedy lean on: a list's numbers one by one, a dual written out, the document's Sub, walked. The program's Has and the document's, walked (VHas). -/
import Derived.Test.YtgadbnbhgpehjaaGreatDoorZA
import Derived.BigQuiet
import Derived.Deep.QuietTactic
import Derived.Test.YtgadbnbhgpehjaaGreatDoorZF
import Derived.Test.YtgadbnbhgpehjaaGreatDoorIUnion
import Derived.Test.YtgadbnbhgpehjaaGreatDoorMShelf2
import Derived.Test.YtgadbnbhgpehjaaGreatDoorIJRef
set_option maxHeartbeats 2000000
set_option maxRecDepth 100000
open Go.Lib (hid)
namespace Go.Proofs.YtgadbnbhgpehjaaGreatDoor
open Go.RowKit
namespace Wp
def sameB (a b : List Int) : Bool := decide (a = b)
theorem Xf0 (va vb : Value) (a b : List Int) (w : World) (ha : Row w w.heap.size va a) (hb : Row w w.heap.size vb b) (hla : a.length ≤ 1048576) (_hlb : b.length ≤ 1048576) :
  Calls Tryz.prog 16 #[va, vb] w fun e w' => e = .returned (.bool (sameB a b)) ∧ ∃ q, w' = w.drewN q := by
 obtain ⟨A, ca, rfl, _, hca⟩ := ha
 obtain ⟨A', cb, rfl, _, hcb⟩ := hb
 have Hca := hid hca
 have Hcb := hid hcb
 clear hca hcb
 by_cases hl : a.length = b.length
 ·have hle : ((a.length : Int) != (b.length : Int)) = false := by rw [hl]; simp
  have Hl := hid hl
  clear hl
  go_enter Tryz.func16, Tryz.ntmps16
  go_wp2
  go_loopw [5] (fun vk wr => ∃ k q : Nat, vk = .int .i64 k ∧ wr = w.drewN q ∧ k ≤ a.length ∧ a.take k = b.take k) (fun vk _ => a.length - (intOf vk).toNat)
  case atStart => exact ⟨0, 0, rfl, rfl, Nat.zero_le _, rfl⟩
  case round =>
   obtain ⟨k, q, rfl, hwr, hk, htk⟩ := hrel
   have Hwr := hid hwr
   clear hwr
   have Htk := hid htk
   clear htk
   by_cases hlt : k < a.length
   ·have hlt' : k < b.length := by have := Hl.out; omega
    obtain ⟨ad, hA, _, hc1⟩ := Hca.out k hlt
    obtain ⟨ad', hA', _, hc2⟩ := Hcb.out k hlt'
    subst hA hA'
    have d1 : wr.cell? (ad.add k) = some (.int .i64 (a.getD k 0)) := by rw [Hwr.out]; exact hc1
    have d2 : wr.cell? (ad'.add k) = some (.int .i64 (b.getD k 0)) := by rw [Hwr.out]; exact hc2
    have i1 : (k : Int) < (a.length : Int) := by omega
    have i2 : (k : Int) < (b.length : Int) := by omega
    have htk1 : ∀ l : List Int, k < l.length → l.take (k + 1) = l.take k ++ [l.getD k 0] := by
     intro l h
     rw [List.take_succ_eq_append_getElem h]
     simp [List.getD, h]
    have Hta := hid (htk1 a hlt)
    have Htb := hid (htk1 b hlt')
    clear htk1 hc1 hc2 Hca Hcb
    generalize a.getD k 0 = x at *
    generalize b.getD k 0 = y at *
    by_cases hxy : x = y
    ·subst hxy
     go_wp2
     go_quiet (fail)
     go_wp2
     go_roundw
     case rel => exact ⟨k + 1, q + nq, by go_num, by rw [Hwr.out, World.drewN_drewN], by omega, by rw [Hta.out, Htb.out, Htk.out]⟩
     case measure => simp [intOf]; omega
    ·have hne : (x != y) = true := by simpa using hxy
     have Hfin : Hid (sameB a b = false) := by
      show sameB a b = false
      unfold sameB
      rw [decide_eq_false_iff_not]
      intro h
      have h2 : a.take (k + 1) = b.take (k + 1) := by rw [h]
      rw [Hta.out, Htb.out, Htk.out] at h2
      have h3 := List.append_cancel_left h2
      simp at h3
      exact hxy h3
     clear hxy
     go_wp2
     go_quiet (fail)
     go_wp2
     go_ret
     refine ⟨?_, q + nq, by rw [Hwr.out, World.drewN_drewN]⟩
     rw [Hfin.out]
     rfl
   ·have hke : k = a.length := by omega
    have Hfin : Hid (sameB a b = true) := by
     show sameB a b = true
     unfold sameB
     rw [decide_eq_true_iff]
     have h := Htk.out
     rw [hke, List.take_length] at h
     rw [h, Hl.out, List.take_length]
    subst hke
    go_wp2
    go_ret
    refine ⟨?_, q, Hwr.out⟩
    rw [Hfin.out]
    rfl
 ·have hle : ((a.length : Int) != (b.length : Int)) = true := by
   rw [bne_iff_ne]; omega
  have Hfin : Hid (sameB a b = false) := by
   show sameB a b = false
   unfold sameB
   rw [decide_eq_false_iff_not]
   intro h
   exact hl (by rw [h])
  clear hl
  go_enter Tryz.func16, Tryz.ntmps16
  go_wp2
  go_ret
  refine ⟨?_, 0, rfl⟩
  rw [Hfin.out]
  rfl
theorem Yu0 (va vb : Value) (a b : List Int) (w : World) (ha : Row w w.heap.size va a) (hb : Row w w.heap.size vb b) (hla : a.length ≤ 1048576) (hlb : b.length ≤ 1048576) :
  Calls Tryz.prog 16 #[va, vb] w (Says w (sameB a b)) :=
 (Xf0 va vb a b w ha hb hla hlb).mono fun _ _ ⟨h1, q, h2⟩ => ⟨h1, by rw [h2]; exact Y0_ (Below.refl _ _) q⟩
theorem Xt2 (va vb : Value) (a b : List Int) (w : World) (ha : Row w w.heap.size va a) (hb : Row w w.heap.size vb b) (hla : a.length ≤ 1048576) (hlb : b.length ≤ 1048576) {x : Bool} (h : sameB a b = x) :
  Calls Tryz.prog 16 #[va, vb] w (Says w x) := by
 subst h
 exact Yu0 va vb a b w ha hb hla hlb
open Go.RowKit
theorem Row.nth {w : World} {B : Nat} {A : Option Addr} {n c : Nat} {l : List Int} (h : Row w B (.slice A n c) l) {k : Nat} (hk : k < l.length) : ∃ ad, A = some ad ∧ ∀ W, Below B w W → W.cell? (ad.add k) = some (.int .i64 (l.getD k 0)) := by
 obtain ⟨A', c', he, _, hc⟩ := h
 injection he with e1 e2 e3
 subst e1 e2 e3
 obtain ⟨ad, rfl, hab, hcl⟩ := hc k hk
 exact ⟨ad, rfl, fun W hW => (hW.cell (by rw [Z2_]; exact hab)).trans hcl⟩
open Go.RowKit
theorem Zg4 (v : Value) (l : List Int) (x : Int) (B : Nat) (w : World) (hr : Row w B v l) (hl : l.length ≤ 1048576) :
  Calls Tryz.prog 68 #[v, .int .i64 x] w fun e w' => e = .returned (.bool (l.contains x)) ∧ w' = w := by
 obtain ⟨A, c, rfl, _, hk⟩ := hr
 rcases l with _ | ⟨y, r⟩
 ·exact Tryz.slices_Contains_int_empty A c x w
 ·obtain ⟨ad, rfl, hab, hc⟩ := hk 0 (by simp)
  obtain ⟨b, off, spot⟩ := ad
  have hspot : spot = none := by simpa [Addr.add] using World.cell?_spot hc
  subst hspot
  have h := Tryz.slices_Contains_int b off (y :: r).length c (y :: r) x w (Nat.le_refl _) (by omega) (fun j hj => by
   obtain ⟨ad', hA, _, hc'⟩ := hk j hj
   injection hA with hA
   subst hA
   rw [← hc']
   congr 1
   unfold Addr.add
   split
   ·simp
   ·rfl)
  rw [List.take_length] at h
  exact h
theorem Xk3 {l : List Int} {x : Int} (h : mayB l = false) : hasB l x = false := by unfold hasB; rw [h]; rfl
theorem Yu1 {l : List Int} {x : Int} (h : mayB l = true) : hasB l x = l.contains x := by unfold hasB; rw [h]; rfl
theorem Yu2 (v : Value) (l : List Int) (x : Int) (w : World) (hr : Row w w.heap.size v l) (hl : l.length ≤ 1048576) :
  Calls Tryz.prog 54 #[v, .int .i64 x] w (Says w (hasB l x)) := by
 have Hr := hid hr
 clear hr
 rcases hm : mayB l with _ | _
 ·have Hf := hid (Xk3 (x := x) hm)
  go_enter Tryz.func54, Tryz.ntmps54
  go_wp2_with fail
  refine (may_any v l w Hr.out (by omega)).mono ?_
  rintro e w1 ⟨rfl, hb1⟩
  rw [hm]
  go_wp2
  go_ret
  exact Y8_ Hf.out rfl hb1
 ·have Hf := hid (Yu1 (x := x) hm)
  obtain ⟨bx, hbx⟩ : ∃ bx, bx = l.contains x := ⟨_, rfl⟩
  have Hc := hid (Zg4 v l x w.heap.size)
  rw [← hbx] at Hf Hc
  clear hbx
  go_enter Tryz.func54, Tryz.ntmps54
  go_wp2_with fail
  refine (may_any v l w Hr.out (by omega)).mono ?_
  rintro e w1 ⟨rfl, hb1⟩
  rw [hm]
  go_wp2_with fail
  refine (Hc.out w1 (Hr.out.below hb1) hl).mono ?_
  rintro e w2 ⟨rfl, rfl⟩
  go_wp2
  go_ret
  exact Y8_ Hf.out rfl hb1
theorem Zc1 (v : Value) (l : List Int) (x : Int) (w : World) (hr : Row w w.heap.size v l) (hl : l.length ≤ 1048576) :
  Calls Tryz.prog 28 #[v, .int .i64 x] w (Says w (hasB l x)) := by
 have Hr := hid hr
 clear hr
 rcases hm : mayB l with _ | _
 ·have Hf := hid (Xk3 (x := x) hm)
  go_enter Tryz.func28, Tryz.ntmps28
  go_wp2_with fail
  refine (R3_ v l w Hr.out (by omega)).mono ?_
  rintro e w1 ⟨rfl, hb1⟩
  rw [hm]
  go_wp2
  go_ret
  exact Y8_ Hf.out rfl hb1
 ·have Hf := hid (Yu1 (x := x) hm)
  obtain ⟨bx, hbx⟩ : ∃ bx, bx = l.contains x := ⟨_, rfl⟩
  have Hc := hid (Yk7 v l x w.heap.size)
  rw [← hbx] at Hf Hc
  clear hbx
  go_enter Tryz.func28, Tryz.ntmps28
  go_wp2_with fail
  refine (R3_ v l w Hr.out (by omega)).mono ?_
  rintro e w1 ⟨rfl, hb1⟩
  rw [hm]
  go_wp2_with fail
  refine (Hc.out w1 (Hr.out.below hb1) (by omega)).mono ?_
  rintro e w2 ⟨rfl, rfl⟩
  go_wp2
  go_ret
  exact Y8_ Hf.out rfl hb1
theorem Fam.bel {w w' : World} {B : Nat} {vs : List Value} {pp : List (List Int)} (h : Fam w B vs pp) (hb : Below w.heap.size w w') : Fam w' B vs pp := h.new (Z9_ hb none)
end Wp
end Go.Proofs.YtgadbnbhgpehjaaGreatDoor
