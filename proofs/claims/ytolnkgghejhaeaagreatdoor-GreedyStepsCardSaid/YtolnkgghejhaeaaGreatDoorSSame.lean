/- The document's helper that compares two lists, walked. -/
import Derived.Test.YtolnkgghejhaeaaGreatDoorZA
import Derived.BigQuiet
import Derived.Deep.QuietTactic
namespace Go.Proofs.YtolnkgghejhaeaaGreatDoor
open Go.RowKit
namespace Wp

/-- Are two lists the same? -/
def sameB (a b : List Int) : Bool := decide (a = b)

set_option maxHeartbeats 1000000 in
set_option maxRecDepth 100000 in
theorem same_any (va vb : Value) (a b : List Int) (w : World) (ha : Row w w.heap.size va a) (hb : Row w w.heap.size vb b) (hla : a.length ≤ 1048576) (_hlb : b.length ≤ 1048576) :
    Calls Tryz.prog 11 #[va, vb] w fun e w' => e = .returned (.bool (sameB a b)) ∧ ∃ q, w' = w.drewN q := by
  obtain ⟨A, ca, rfl, _, hca⟩ := ha
  obtain ⟨A', cb, rfl, _, hcb⟩ := hb
  have Hca := Lib.hid hca
  have Hcb := Lib.hid hcb
  clear hca hcb
  by_cases hl : a.length = b.length
  · have hle : ((a.length : Int) != (b.length : Int)) = false := by rw [hl]; simp
    have Hl := Lib.hid hl
    clear hl
    go_enter Tryz.func11, Tryz.ntmps11
    go_wp2
    go_loopw [5] (fun vk wr => ∃ k q : Nat, vk = .int .i64 k ∧ wr = w.drewN q ∧ k ≤ a.length ∧ a.take k = b.take k) (fun vk _ => a.length - (intOf vk).toNat)
    case atStart => exact ⟨0, 0, rfl, rfl, Nat.zero_le _, rfl⟩
    case round =>
      obtain ⟨k, q, rfl, hwr, hk, htk⟩ := hrel
      have Hwr := Lib.hid hwr
      clear hwr
      have Htk := Lib.hid htk
      clear htk
      by_cases hlt : k < a.length
      · have hlt' : k < b.length := by have := Hl.out; omega
        obtain ⟨ad, hA, _, hc1⟩ := Hca.out k hlt
        obtain ⟨ad', hA', _, hc2⟩ := Hcb.out k hlt'
        subst hA hA'
        have d1 : wr.cell? (ad.add k) = some (.int .i64 (a.getD k 0)) := by rw [Hwr.out]; exact hc1
        have d2 : wr.cell? (ad'.add k) = some (.int .i64 (b.getD k 0)) := by rw [Hwr.out]; exact hc2
        have i1 : (k : Int) < (a.length : Int) := by omega
        have i2 : (k : Int) < (b.length : Int) := by omega
        have htk1 : ∀ l : List Int, k < l.length → l.take (k + 1) = l.take k ++ [l.getD k 0] := by
          intro l h
          rw [List.take_succ_eq_append_getElem h]
          simp [List.getD, h]
        have Hta := Lib.hid (htk1 a hlt)
        have Htb := Lib.hid (htk1 b hlt')
        clear htk1 hc1 hc2 Hca Hcb
        generalize a.getD k 0 = x at *
        generalize b.getD k 0 = y at *
        by_cases hxy : x = y
        · subst hxy
          go_wp2
          go_quiet (fail)
          go_wp2
          go_roundw
          case rel => exact ⟨k + 1, q + nq, by go_num, by rw [Hwr.out, World.drewN_drewN], by omega, by rw [Hta.out, Htb.out, Htk.out]⟩
          case measure => simp [intOf]; omega
        · have hne : (x != y) = true := by simpa using hxy
          have Hfin : Hid (sameB a b = false) := by
            show sameB a b = false
            unfold sameB
            rw [decide_eq_false_iff_not]
            intro h
            have h2 : a.take (k + 1) = b.take (k + 1) := by rw [h]
            rw [Hta.out, Htb.out, Htk.out] at h2
            have h3 := List.append_cancel_left h2
            simp at h3
            exact hxy h3
          clear hxy
          go_wp2
          go_quiet (fail)
          go_wp2
          go_ret
          refine ⟨?_, q + nq, by rw [Hwr.out, World.drewN_drewN]⟩
          rw [Hfin.out]
          rfl
      · have hke : k = a.length := by omega
        have Hfin : Hid (sameB a b = true) := by
          show sameB a b = true
          unfold sameB
          rw [decide_eq_true_iff]
          have h := Htk.out
          rw [hke, List.take_length] at h
          rw [h, Hl.out, List.take_length]
        subst hke
        go_wp2
        go_ret
        refine ⟨?_, q, Hwr.out⟩
        rw [Hfin.out]
        rfl
  · have hle : ((a.length : Int) != (b.length : Int)) = true := by
      rw [bne_iff_ne]; omega
    have Hfin : Hid (sameB a b = false) := by
      show sameB a b = false
      unfold sameB
      rw [decide_eq_false_iff_not]
      intro h
      exact hl (by rw [h])
    clear hl
    go_enter Tryz.func11, Tryz.ntmps11
    go_wp2
    go_ret
    refine ⟨?_, 0, rfl⟩
    rw [Hfin.out]
    rfl

theorem same_says (va vb : Value) (a b : List Int) (w : World) (ha : Row w w.heap.size va a) (hb : Row w w.heap.size vb b) (hla : a.length ≤ 1048576) (hlb : b.length ≤ 1048576) :
    Calls Tryz.prog 11 #[va, vb] w (Says w (sameB a b)) :=
  (same_any va vb a b w ha hb hla hlb).mono fun _ _ ⟨h1, q, h2⟩ => ⟨h1, by rw [h2]; exact below_drewN (Below.refl _ _) q⟩
theorem same_is (va vb : Value) (a b : List Int) (w : World) (ha : Row w w.heap.size va a) (hb : Row w w.heap.size vb b) (hla : a.length ≤ 1048576) (hlb : b.length ≤ 1048576) {x : Bool} (h : sameB a b = x) :
    Calls Tryz.prog 11 #[va, vb] w (Says w x) := by
  subst h
  exact same_says va vb a b w ha hb hla hlb

theorem same_true {a b : List Int} (h : a = b) : sameB a b = true := by simp [sameB, h]

end Wp
end Go.Proofs.YtolnkgghejhaeaaGreatDoor
