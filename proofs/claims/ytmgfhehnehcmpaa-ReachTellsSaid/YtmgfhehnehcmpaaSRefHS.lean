/- The document's answers on sets where the package set itself is not all there: is a number in a set; all below n; is one in the other: walked. -/
import Derived.Test.YtmgfhehnehcmpaaSRefMeet
namespace Go.Proofs.Ytmgfhehnehcmpaa
open Go.RowKit
namespace Wp

theorem has_no {l : List Int} {x : Int} (h : mayB l = false) : hasB l x = false := by unfold hasB; rw [h]; rfl
theorem has_yes {l : List Int} {x : Int} (h : mayB l = true) : hasB l x = l.contains x := by unfold hasB; rw [h]; rfl
/-- The first k numbers. -/
def upTo (k : Nat) : List Int := (List.range k).map Int.ofNat
theorem upTo_succ (k : Nat) : upTo (k + 1) = upTo k ++ [(k : Int)] := by
  unfold upTo
  rw [List.range_succ, List.map_append]
  rfl
theorem upTo_length (k : Nat) : (upTo k).length = k := by simp [upTo]
theorem all_no {n : Int} (h : n < 1 ∨ 100000 < n) : allL n = [] := if_pos h
theorem all_yes {n : Nat} (h1 : 1 ≤ n) (h2 : n ≤ 100000) : allL n = upTo n := by
  unfold allL upTo
  rw [if_neg (by omega)]
  rfl

set_option maxHeartbeats 2000000 in
set_option maxRecDepth 100000 in
theorem refhas_any (v : Value) (l : List Int) (x : Int) (w : World) (hr : Row w w.heap.size v l) (hl : l.length ≤ 1048576) :
    Calls Try.prog 24 #[v, .int .i64 x] w (Says w (hasB l x)) := by
  have Hr := Lib.hid hr
  clear hr
  rcases hm : mayB l with _ | _
  · have Hf := Lib.hid (has_no (x := x) hm)
    go_enter Try.func24, Try.ntmps24
    go_wp2_with fail
    refine (refmay_any v l w Hr.out (by omega)).mono ?_
    rintro e w1 ⟨rfl, hb1⟩
    rw [hm]
    go_wp2
    go_ret
    exact says_mk Hf.out rfl hb1
  · have Hf := Lib.hid (has_yes (x := x) hm)
    obtain ⟨bx, hbx⟩ : ∃ bx, bx = l.contains x := ⟨_, rfl⟩
    have Hc := Lib.hid (refin_any v l x w.heap.size)
    rw [← hbx] at Hf Hc
    clear hbx
    go_enter Try.func24, Try.ntmps24
    go_wp2_with fail
    refine (refmay_any v l w Hr.out (by omega)).mono ?_
    rintro e w1 ⟨rfl, hb1⟩
    rw [hm]
    go_wp2_with fail
    refine (Hc.out w1 (Hr.out.below hb1) (by omega)).mono ?_
    rintro e w2 ⟨rfl, rfl⟩
    go_wp2
    go_ret
    exact says_mk Hf.out rfl hb1

set_option maxHeartbeats 2000000 in
set_option maxRecDepth 100000 in
theorem refall_in (n : Nat) (w : World) (h1 : 1 ≤ n) (h2 : n ≤ 100000) :
    Calls Try.prog 22 #[.int .i64 n] w (Gives w (allL n)) := by
  have Hall := Lib.hid (all_yes h1 h2)
  have h2' : (n : Int) ≤ 100000 := by omega
  go_enter Try.func22, Try.ntmps22
  have hown0 : (w.alloc (.cells #[] 3)).ownsRow w.heap.size 3 1 (.slice (some ⟨w.heap.size, 0, none⟩) 0 0) 0 [] :=
    World.ownsRow_made w #[] 0 (Nat.le_refl _) (by unfold maxLen; omega) rfl
  have hB0 : Below w.heap.size w (w.alloc (.cells #[] 3)) := (Below.refl _ w).alloc (Nat.le_refl _) _
  go_wp2
  go_loopw [3, 4] (fun vl vk wr => ∃ k : Nat, vk = .int .i64 k ∧ k ≤ n ∧ wr.ownsRow w.heap.size 3 1 vl (upTo k).length (ints (upTo k)) ∧ Below w.heap.size w wr) (fun _ vk _ => n - (intOf vk).toNat)
  case atStart => exact ⟨0, rfl, Nat.zero_le _, hown0, hB0⟩
  case round =>
    obtain ⟨k, rfl, hk, hown, hbr⟩ := hrel
    by_cases hlt : k < n
    · have hul := upTo_length k
      have Hs := Lib.hid (upTo_succ k)
      go_wp2_with (at_builtin; refine wpList_append_row rfl _ _ rfl w.heap.size _ _ _ (upTo k) [(k : Int)] rfl rfl (hown.alloc _) (Row.lit1 _ (k : Int)) (by omega) (by simp) (by have := hbr.size; simp; omega) ?_)
      intro v' w4 hown' hgrow
      have hb4 : Below w.heap.size wr w4 := ((Below.refl _ wr).alloc hbr.size _).grown hgrow (by have := hbr.size; simp; omega) (fun i hi => (hown.lt i hi).1)
      go_wp2
      go_roundw
      case rel => exact ⟨k + 1, by go_num, by omega, by rw [Hs.out, List.length_append, upTo_length]; exact hown', hbr.trans hb4⟩
      case measure => simp [intOf]; omega
    · have hke : k = n := by omega
      subst hke
      go_wp2
      go_ret
      exact ⟨_, rfl, by rw [Hall.out]; exact Row.of_own hown rfl, hbr⟩

set_option maxHeartbeats 2000000 in
set_option maxRecDepth 100000 in
theorem refall_any (n : Int) (w : World) : Calls Try.prog 22 #[.int .i64 n] w (Gives w (allL n)) := by
  by_cases h : n < 1 ∨ 100000 < n
  · have Hf := Lib.hid (all_no h)
    have hout : ∀ w' : World, Below w.heap.size w w' → Gives w (allL n) (.returned (.slice (some ⟨w.heap.size, 0, none⟩) 0 0)) w' := fun w' hb => ⟨_, rfl, by rw [Hf.out]; exact ⟨_, 0, rfl, ⟨Nat.le_refl _, by decide, fun e => by cases e⟩, fun k hk => absurd hk (by simp)⟩, hb⟩
    have Hout := Lib.hid hout
    clear hout
    have hB0 : Below w.heap.size w (w.alloc (.cells #[] 3)) := (Below.refl _ w).alloc (Nat.le_refl _) _
    by_cases h1 : n < 1
    · have h1' : ¬ (0 < n) := by omega
      clear h h1
      go_enter Try.func22, Try.ntmps22
      go_wp2
      refine wp_loop_rounds 1 ?_
      rw [rounds_succ]
      go_wp2
      go_ret
      exact Hout.out _ hB0
    · have h2 : ¬ (n ≤ 100000) := by omega
      have h0 : 0 < n := by omega
      clear h h1
      go_enter Try.func22, Try.ntmps22
      go_wp2
      refine wp_loop_rounds 1 ?_
      rw [rounds_succ]
      go_wp2
      go_ret
      exact Hout.out _ hB0
  · obtain ⟨m, rfl⟩ : ∃ m : Nat, n = (m : Int) := ⟨n.toNat, by omega⟩
    exact refall_in m w (by omega) (by omega)

theorem sub_false {a b : List Int} {k : Nat} (hk : k < a.length) (h : b.contains (a.getD k 0) = false) : subB a b = false := by
  rw [← Bool.not_eq_true]
  intro hs
  have hm : mayB a = true ∧ mayB b = true := by
    unfold subB at hs
    simp at hs
    exact hs.1
  have h1 := (sub_iff (mayB_iff.1 hm.1) (mayB_iff.1 hm.2)).1 hs (a.getD k 0) (by simp [List.getD, hk])
  rw [← Bool.not_eq_true, List.contains_iff_mem] at h
  exact h h1
theorem sub_end {a b : List Int} {k : Nat} (hk : k = a.length) (h : ∀ z ∈ a.take k, z ∈ b) : subB a b = (mayB a && mayB b) := by
  subst hk
  rw [List.take_length] at h
  rcases ha : mayB a with _ | _
  · rw [sub_no1 ha]; rfl
  · rcases hb : mayB b with _ | _
    · rw [sub_no2 hb]; rfl
    · exact (sub_iff (mayB_iff.1 ha) (mayB_iff.1 hb)).2 h
theorem sub_step {a b : List Int} {k : Nat} (hk : k < a.length) (h : ∀ z ∈ a.take k, z ∈ b) (hx : b.contains (a.getD k 0) = true) : ∀ z ∈ a.take (k + 1), z ∈ b := by
  intro z hz
  rw [List.take_succ_eq_append_getElem hk, List.mem_append, List.mem_singleton] at hz
  rcases hz with hz | hz
  · exact h z hz
  · rw [List.contains_iff_mem] at hx
    rw [hz]
    simpa [List.getD, hk] using hx

set_option maxHeartbeats 2000000 in
set_option maxRecDepth 100000 in
theorem refsub_any (va vb : Value) (a b : List Int) (w : World) (ha : Row w w.heap.size va a) (hb : Row w w.heap.size vb b) (hla : a.length ≤ 9223372036854775807) (hlb : b.length ≤ 1048576) :
    Calls Try.prog 21 #[va, vb] w (Says w (subB a b)) := by
  have Ha := Lib.hid ha
  have Hb := Lib.hid hb
  obtain ⟨A1, c1, rfl, _, hcell⟩ := ha
  obtain ⟨A2, c2, rfl, _⟩ := hb
  have Hcell := Lib.hid hcell
  clear hcell
  go_enter Try.func21, Try.ntmps21
  go_wp2
  go_loopw [5] (fun vk wr => ∃ k : Nat, vk = .int .i64 k ∧ k ≤ a.length ∧ wr = w ∧ ∀ z ∈ a.take k, z ∈ b) (fun vk _ => a.length - (intOf vk).toNat)
  case atStart => exact ⟨0, rfl, Nat.zero_le _, rfl, by simp⟩
  case round =>
    obtain ⟨k, rfl, hk, rfl, hall⟩ := hrel
    by_cases hlt : k < a.length
    · obtain ⟨ad, hA, hab, g1⟩ := Hcell.out k hlt
      subst hA
      have hkl : (k : Int) < (a.length : Int) := by omega
      have Hst := Lib.hid (sub_step hlt hall)
      have Hfa := Lib.hid (sub_false (b := b) hlt)
      clear hall
      generalize a.getD k 0 = y at g1 Hst Hfa
      rcases hc : b.contains y with _ | _
      · have Hf := Lib.hid (Hfa.out hc)
        have Hc := Lib.hid hc
        clear hc
        go_wp2_with fail
        refine (refin_is _ b y _ wr Hb.out (by omega) Hc.out).mono ?_
        rintro e w2 ⟨rfl, rfl⟩
        go_wp2
        go_ret
        exact says_mk Hf.out rfl (Below.refl _ _)
      · have Hf := Lib.hid (Hst.out hc)
        have Hc := Lib.hid hc
        clear hc
        go_wp2_with fail
        refine (refin_is _ b y _ wr Hb.out (by omega) Hc.out).mono ?_
        rintro e w2 ⟨rfl, rfl⟩
        go_wp2
        go_roundw
        case rel => exact ⟨k + 1, by go_num, by omega, trivial, Hf.out⟩
        case measure => simp [intOf]; omega
    · have hke : k = a.length := by omega
      have Hf := Lib.hid (sub_end hke hall)
      clear hall
      subst hke
      rcases hma : mayB a with _ | _
      · have Hr : Hid (subB a b = false) := by
          show subB a b = false
          rw [Hf.out, hma]; rfl
        go_wp2_with fail
        refine (refmay_any _ a wr Ha.out (by omega)).mono ?_
        rintro e w1 ⟨rfl, hb1⟩
        rw [hma]
        go_wp2
        go_ret
        exact says_mk Hr.out rfl hb1
      · rcases hmb : mayB b with _ | _
        all_goals
          obtain ⟨bv, hbv⟩ : ∃ bv, bv = mayB b := ⟨_, rfl⟩
          have Hr : Hid (subB a b = bv) := by
            show subB a b = bv
            rw [Hf.out, hma, ← hbv]; rfl
          go_wp2_with fail
          refine (refmay_any _ a wr Ha.out (by omega)).mono ?_
          rintro e w1 ⟨rfl, hb1⟩
          rw [hma]
          go_wp2_with fail
          refine (refmay_any _ b w1 ((Hb.out.below hb1).mono hb1.size) (by omega)).mono ?_
          rintro e w2 ⟨rfl, hb2⟩
          rw [← hbv]
          rw [hmb] at hbv
          subst hbv
          go_wp2
          go_ret
          exact says_mk Hr.out rfl (hb1.trans (hb2.mono hb1.size))

end Wp
end Go.Proofs.Ytmgfhehnehcmpaa
