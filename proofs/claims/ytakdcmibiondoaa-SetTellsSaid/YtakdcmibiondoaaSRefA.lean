/- The document's answers on sets: is a number in a list, in a set; all below n; is one in the other: walked. -/
import Derived.Test.YtakdcmibiondoaaSLaw
namespace Go.Proofs.Ytakdcmibiondoaa
open Go.RowKit
namespace Wp

theorem not_in_step {l : List Int} {x : Int} {k : Nat} (hk : k < l.length) (h : x ∉ l.take k) (hx : (l.getD k 0 == x) = false) : x ∉ l.take (k + 1) := by
  rw [List.take_succ_eq_append_getElem hk, List.mem_append, List.mem_singleton]
  rintro (e | e)
  · exact h e
  · simp [List.getD, hk] at hx
    exact hx e.symm
theorem in_step {l : List Int} {x : Int} {k : Nat} (hk : k < l.length) (hx : l.getD k 0 = x) : l.contains x = true := by
  rw [List.contains_iff_mem, ← hx]
  simp [List.getD, hk]
theorem not_in_all {l : List Int} {x : Int} {k : Nat} (hk : k = l.length) (h : x ∉ l.take k) : l.contains x = false := by
  subst hk
  rw [List.take_length] at h
  rw [← Bool.not_eq_true, List.contains_iff_mem]
  exact h

set_option maxHeartbeats 2000000 in
set_option maxRecDepth 100000 in
theorem refin_is (v : Value) (l : List Int) (x : Int) (B : Nat) (w : World) (hr : Row w B v l) (hl : l.length ≤ 4194304) {b : Bool} (hb : l.contains x = b) :
    Calls Try.prog 28 #[v, .int .i64 x] w fun e w' => e = .returned (.bool b) ∧ w' = w := by
  obtain ⟨A, c, rfl, _, hcell⟩ := hr
  have Hcell := Lib.hid hcell
  clear hcell
  have Hb := Lib.hid hb
  clear hb
  have hl' : (l.length : Int) ≤ 4194304 := by omega
  go_enter Try.func28, Try.ntmps28
  go_wp2
  go_loopw [5] (fun vk wr => ∃ k : Nat, vk = .int .i64 k ∧ k ≤ l.length ∧ wr = w ∧ x ∉ l.take k) (fun vk _ => l.length - (intOf vk).toNat)
  case atStart => exact ⟨0, rfl, Nat.zero_le _, rfl, by simp⟩
  case round =>
    obtain ⟨k, rfl, hk, rfl, hni⟩ := hrel
    by_cases hlt : k < l.length
    · obtain ⟨ad, hA, hab, g1⟩ := Hcell.out k hlt
      subst hA
      have hkl : (k : Int) < (l.length : Int) := by omega
      have Hst := Lib.hid (fun h => not_in_step hlt hni h)
      have Hin := Lib.hid (fun h => in_step (x := x) hlt h)
      clear hni
      generalize l.getD k 0 = y at g1 Hst Hin
      by_cases hyx : y = x
      · have Hc := Lib.hid (Hin.out hyx)
        subst hyx
        go_wp2
        go_ret
        exact ⟨by rw [← Hb.out, Hc.out]; rfl, rfl⟩
      · have hyx' : (y == x) = false := by simp [hyx]
        go_wp2
        go_roundw
        case rel => exact ⟨k + 1, by go_num, by omega, trivial, Hst.out hyx'⟩
        case measure => simp [intOf]; omega
    · have hke : k = l.length := by omega
      have Hc := Lib.hid (not_in_all hke hni)
      subst hke
      go_wp2
      go_ret
      exact ⟨by rw [← Hb.out, Hc.out]; rfl, rfl⟩

theorem refin_any (v : Value) (l : List Int) (x : Int) (B : Nat) (w : World) (hr : Row w B v l) (hl : l.length ≤ 4194304) :
    Calls Try.prog 28 #[v, .int .i64 x] w fun e w' => e = .returned (.bool (l.contains x)) ∧ w' = w := refin_is v l x B w hr hl rfl

set_option maxHeartbeats 2000000 in
set_option maxRecDepth 100000 in
theorem refhas_any (v : Value) (l : List Int) (x : Int) (w : World) (hr : Row w w.heap.size v l) (hl : l.length ≤ 1048576) :
    Calls Try.prog 12 #[v, .int .i64 x] w (Says w (hasB l x)) := by
  have Hr := Lib.hid hr
  clear hr
  rcases hm : mayB l with _ | _
  · have Hf := Lib.hid (has_no (x := x) hm)
    go_enter Try.func12, Try.ntmps12
    go_wp2_with fail
    refine (refmay_any v l w Hr.out hl).mono ?_
    rintro e w1 ⟨rfl, hb1⟩
    rw [hm]
    go_wp2
    go_ret
    exact says_mk Hf.out rfl hb1
  · have Hf := Lib.hid (has_yes (x := x) hm)
    obtain ⟨bx, hbx⟩ : ∃ bx, bx = l.contains x := ⟨_, rfl⟩
    have Hc := Lib.hid (refin_any v l x w.heap.size)
    rw [← hbx] at Hf Hc
    clear hbx
    go_enter Try.func12, Try.ntmps12
    go_wp2_with fail
    refine (refmay_any v l w Hr.out hl).mono ?_
    rintro e w1 ⟨rfl, hb1⟩
    rw [hm]
    go_wp2_with fail
    refine (Hc.out w1 (Hr.out.below hb1) (by omega)).mono ?_
    rintro e w2 ⟨rfl, rfl⟩
    go_wp2
    go_ret
    exact says_mk Hf.out rfl hb1

set_option maxHeartbeats 2000000 in
set_option maxRecDepth 100000 in
theorem refall_in (n : Nat) (w : World) (h1 : 1 ≤ n) (h2 : n ≤ 100000) :
    Calls Try.prog 19 #[.int .i64 n] w (Gives w (allL n)) := by
  have Hall := Lib.hid (all_yes h1 h2)
  have h2' : (n : Int) ≤ 100000 := by omega
  go_enter Try.func19, Try.ntmps19
  have hown0 : (w.alloc (.cells #[] 3)).ownsRow w.heap.size 3 1 (.slice (some ⟨w.heap.size, 0, none⟩) 0 0) 0 [] :=
    World.ownsRow_made w #[] 0 (Nat.le_refl _) (by unfold maxLen; omega) rfl
  have hB0 : Below w.heap.size w (w.alloc (.cells #[] 3)) := (Below.refl _ w).alloc (Nat.le_refl _) _
  go_wp2
  go_loopw [3, 4] (fun vl vk wr => ∃ k : Nat, vk = .int .i64 k ∧ k ≤ n ∧ wr.ownsRow w.heap.size 3 1 vl (upTo k).length (ints (upTo k)) ∧ Below w.heap.size w wr) (fun _ vk _ => n - (intOf vk).toNat)
  case atStart => exact ⟨0, rfl, Nat.zero_le _, hown0, hB0⟩
  case round =>
    obtain ⟨k, rfl, hk, hown, hbr⟩ := hrel
    by_cases hlt : k < n
    · have hul := upTo_length k
      have Hs := Lib.hid (upTo_succ k)
      go_wp2_with (at_builtin; refine wpList_append_row rfl _ _ rfl w.heap.size _ _ _ (upTo k) [(k : Int)] rfl rfl (hown.alloc _) (Row.lit1 _ (k : Int)) (by omega) (by simp) (by have := hbr.size; simp; omega) ?_)
      intro v' w4 hown' hgrow
      have hb4 : Below w.heap.size wr w4 := ((Below.refl _ wr).alloc hbr.size _).grown hgrow (by have := hbr.size; simp; omega) (fun i hi => (hown.lt i hi).1)
      go_wp2
      go_roundw
      case rel => exact ⟨k + 1, by go_num, by omega, by rw [Hs.out, List.length_append, upTo_length]; exact hown', hbr.trans hb4⟩
      case measure => simp [intOf]; omega
    · have hke : k = n := by omega
      subst hke
      go_wp2
      go_ret
      exact ⟨_, rfl, by rw [Hall.out]; exact Row.of_own hown rfl, hbr⟩

set_option maxHeartbeats 2000000 in
set_option maxRecDepth 100000 in
theorem refall_any (n : Int) (w : World) : Calls Try.prog 19 #[.int .i64 n] w (Gives w (allL n)) := by
  by_cases h : n < 1 ∨ 100000 < n
  · have Hf := Lib.hid (all_no h)
    have hout : ∀ w' : World, Below w.heap.size w w' → Gives w (allL n) (.returned (.slice (some ⟨w.heap.size, 0, none⟩) 0 0)) w' := fun w' hb => ⟨_, rfl, by rw [Hf.out]; exact ⟨_, 0, rfl, ⟨Nat.le_refl _, by decide, fun e => by cases e⟩, fun k hk => absurd hk (by simp)⟩, hb⟩
    have Hout := Lib.hid hout
    clear hout
    have hB0 : Below w.heap.size w (w.alloc (.cells #[] 3)) := (Below.refl _ w).alloc (Nat.le_refl _) _
    by_cases h1 : n < 1
    · have h1' : ¬ (0 < n) := by omega
      clear h h1
      go_enter Try.func19, Try.ntmps19
      go_wp2
      refine wp_loop_rounds 1 ?_
      rw [rounds_succ]
      go_wp2
      go_ret
      exact Hout.out _ hB0
    · have h2 : ¬ (n ≤ 100000) := by omega
      have h0 : 0 < n := by omega
      clear h h1
      go_enter Try.func19, Try.ntmps19
      go_wp2
      refine wp_loop_rounds 1 ?_
      rw [rounds_succ]
      go_wp2
      go_ret
      exact Hout.out _ hB0
  · obtain ⟨m, rfl⟩ : ∃ m : Nat, n = (m : Int) := ⟨n.toNat, by omega⟩
    exact refall_in m w (by omega) (by omega)

end Wp
end Go.Proofs.Ytakdcmibiondoaa
