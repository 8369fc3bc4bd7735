/- What the laws of what is greedy lean on: a list's numbers one by one, a dual written out, the document's Sub, walked. -/
import Derived.Test.YtolnkgghejhaeaaGreatDoorZF
import Derived.Test.YtolnkgghejhaeaaGreatDoorZA
namespace Go.Proofs.YtolnkgghejhaeaaGreatDoor
open Go.RowKit
namespace Wp

/-- One of a list's numbers, in each world above. -/
theorem Row.nth {w : World} {B : Nat} {A : Option Addr} {n c : Nat} {l : List Int} (h : Row w B (.slice A n c) l) {k : Nat} (hk : k < l.length) : ∃ ad, A = some ad ∧ ∀ W, Below B w W → W.cell? (ad.add k) = some (.int .i64 (l.getD k 0)) := by
  obtain ⟨A', c', he, _, hc⟩ := h
  injection he with e1 e2 e3
  subst e1 e2 e3
  obtain ⟨ad, rfl, hab, hcl⟩ := hc k hk
  exact ⟨ad, rfl, fun W hW => (hW.cell (by rw [add_block]; exact hab)).trans hcl⟩

theorem sub_false {a b : List Int} {k : Nat} (hk : k < a.length) (h : b.contains (a.getD k 0) = false) : subB a b = false := by
  rw [← Bool.not_eq_true]
  intro hs
  have hm : mayB a = true ∧ mayB b = true := by
    unfold subB at hs
    simp at hs
    exact hs.1
  have h1 := (sub_iff (mayB_iff.1 hm.1) (mayB_iff.1 hm.2)).1 hs (a.getD k 0) (by simp [List.getD, hk])
  rw [← Bool.not_eq_true, List.contains_iff_mem] at h
  exact h h1
theorem sub_end {a b : List Int} {k : Nat} (hk : k = a.length) (h : ∀ z ∈ a.take k, z ∈ b) : subB a b = (mayB a && mayB b) := by
  subst hk
  rw [List.take_length] at h
  rcases ha : mayB a with _ | _
  · rw [sub_no1 ha]; rfl
  · rcases hb : mayB b with _ | _
    · rw [sub_no2 hb]; rfl
    · exact (sub_iff (mayB_iff.1 ha) (mayB_iff.1 hb)).2 h
theorem sub_step {a b : List Int} {k : Nat} (hk : k < a.length) (h : ∀ z ∈ a.take k, z ∈ b) (hx : b.contains (a.getD k 0) = true) : ∀ z ∈ a.take (k + 1), z ∈ b := by
  intro z hz
  rw [List.take_succ_eq_append_getElem hk, List.mem_append, List.mem_singleton] at hz
  rcases hz with hz | hz
  · exact h z hz
  · rw [List.contains_iff_mem] at hx
    rw [hz]
    simpa [List.getD, hk] using hx

set_option maxHeartbeats 2000000 in
set_option maxRecDepth 100000 in
theorem refsub_any (va vb : Value) (a b : List Int) (w : World) (ha : Row w w.heap.size va a) (hb : Row w w.heap.size vb b) (hla : a.length ≤ 1048576) (hlb : b.length ≤ 1048576) :
    Calls Tryz.prog 10 #[va, vb] w (Says w (subB a b)) := by
  have Ha := Lib.hid ha
  have Hb := Lib.hid hb
  obtain ⟨A1, c1, rfl, _, hcell⟩ := ha
  obtain ⟨A2, c2, rfl, _⟩ := hb
  have Hcell := Lib.hid hcell
  clear hcell
  go_enter Tryz.func10, Tryz.ntmps10
  go_wp2
  go_loopw [5] (fun vk wr => ∃ k : Nat, vk = .int .i64 k ∧ k ≤ a.length ∧ wr = w ∧ ∀ z ∈ a.take k, z ∈ b) (fun vk _ => a.length - (intOf vk).toNat)
  case atStart => exact ⟨0, rfl, Nat.zero_le _, rfl, by simp⟩
  case round =>
    obtain ⟨k, rfl, hk, rfl, hall⟩ := hrel
    by_cases hlt : k < a.length
    · obtain ⟨ad, hA, hab, g1⟩ := Hcell.out k hlt
      subst hA
      have hkl : (k : Int) < (a.length : Int) := by omega
      have Hst := Lib.hid (sub_step hlt hall)
      have Hfa := Lib.hid (sub_false (b := b) hlt)
      clear hall
      generalize a.getD k 0 = y at g1 Hst Hfa
      rcases hc : b.contains y with _ | _
      · have Hf := Lib.hid (Hfa.out hc)
        have Hc := Lib.hid hc
        clear hc
        go_wp2_with fail
        refine (refin_is _ b y _ wr Hb.out (by omega) Hc.out).mono ?_
        rintro e w2 ⟨rfl, rfl⟩
        go_wp2
        go_ret
        exact says_mk Hf.out rfl (Below.refl _ _)
      · have Hf := Lib.hid (Hst.out hc)
        have Hc := Lib.hid hc
        clear hc
        go_wp2_with fail
        refine (refin_is _ b y _ wr Hb.out (by omega) Hc.out).mono ?_
        rintro e w2 ⟨rfl, rfl⟩
        go_wp2
        go_roundw
        case rel => exact ⟨k + 1, by go_num, by omega, trivial, Hf.out⟩
        case measure => simp [intOf]; omega
    · have hke : k = a.length := by omega
      have Hf := Lib.hid (sub_end hke hall)
      clear hall
      subst hke
      rcases hma : mayB a with _ | _
      · have Hr : Hid (subB a b = false) := by
          show subB a b = false
          rw [Hf.out, hma]; rfl
        go_wp2_with fail
        refine (refmay_any _ a wr Ha.out (by omega)).mono ?_
        rintro e w1 ⟨rfl, hb1⟩
        rw [hma]
        go_wp2
        go_ret
        exact says_mk Hr.out rfl hb1
      · rcases hmb : mayB b with _ | _
        all_goals
          obtain ⟨bv, hbv⟩ : ∃ bv, bv = mayB b := ⟨_, rfl⟩
          have Hr : Hid (subB a b = bv) := by
            show subB a b = bv
            rw [Hf.out, hma, ← hbv]; rfl
          go_wp2_with fail
          refine (refmay_any _ a wr Ha.out (by omega)).mono ?_
          rintro e w1 ⟨rfl, hb1⟩
          rw [hma]
          go_wp2_with fail
          refine (refmay_any _ b w1 ((Hb.out.below hb1).mono hb1.size) (by omega)).mono ?_
          rintro e w2 ⟨rfl, hb2⟩
          rw [← hbv]
          rw [hmb] at hbv
          subst hbv
          go_wp2
          go_ret
          exact says_mk Hr.out rfl (hb1.trans (hb2.mono hb1.size))

end Wp
end Go.Proofs.YtolnkgghejhaeaaGreatDoor
