/- The program's Base, and the rank of all, walked. -/
import Derived.Test.YtbjngggcpojefaaGreatDoorNKit
namespace Go.Proofs.YtbjngggcpojefaaGreatDoor
open Go.RowKit
namespace Wp

theorem grown_len (s : List Int) (x : Int) : (grownL s x).length ≤ s.length + 1 := by
  have := sortOf_length (s ++ [x]) (s ++ [x]).length
  rw [sortOf_all] at this
  unfold grownL
  simpa using this
theorem baseK_no {m : Mat} {s : List Int} {k : Nat} (h : indT m (grownL (baseK m s k) (s.getD k 0)) = false) : baseK m s (k + 1) = baseK m s k := by rw [baseK, h]; rfl
theorem baseK_yes {m : Mat} {s : List Int} {k : Nat} (h : indT m (grownL (baseK m s k) (s.getD k 0)) = true) : baseK m s (k + 1) = grownL (baseK m s k) (s.getD k 0) := by rw [baseK, h]; rfl

set_option maxHeartbeats 8000000 in
set_option maxRecDepth 100000 in
theorem base_any (E : Nat → Addr) (m : Mat) (v sv : Value) (s : List Int) (w : World) (hv : MatV w w.heap.size v m) (hs : Sml m) (hr : Row w w.heap.size sv s) (hsl : s.length ≤ 1048576) (hE : Env E w) : Calls Tryz.prog 25 #[v, sv] w (Gives w (baseT m s)) := by
  have Hs := Lib.hid hs
  obtain ⟨lv, iv, hve, hl2, hi2⟩ := hv.open
  obtain ⟨As, cs, rfl, _⟩ := id hr
  have Hb0 := Lib.hid (boxed_below w m lv iv)
  have HV := Lib.hid (hv.up Hb0.out)
  have HR := Lib.hid (hr.up Hb0.out)
  have HE := Lib.hid (hE.up Hb0.out)
  have Hblk := Lib.hid (boxed_blk w m lv iv)
  obtain ⟨Al, cl, rfl, _⟩ := hl2
  obtain ⟨Ai, ci, rfl, _⟩ := hi2
  have k0 := Hblk.out.cell 0
  have k1 := Hblk.out.cell 1
  have k2 := Hblk.out.cell 2
  have k3 := Hblk.out.cell 3
  have k4 := Hblk.out.cell 4
  have k5 := Hblk.out.cell 5
  subst hve
  unfold boxed at *
  rcases hm : mayI m s with _ | _
  · have Hm := Lib.hid hm
    rw [show baseT m s = [] from by unfold baseT; rw [hm]; rfl]
    clear hv hs hr hE hm
    go_enter Tryz.func25, Tryz.ntmps25
    go_wp2_with fail
    refine (imay_any E m _ _ s _ HV.out Hs.out HR.out hsl HE.out).mono ?_
    rintro e w1 ⟨rfl, hb1⟩
    rw [Hm.out]
    have Hb1 := Lib.hid (below_next Hb0.out (Nat.le_refl _) hb1)
    clear hb1 k0 k1 k2 k3 k4 k5
    go_wp2
    go_ret
    exact ⟨_, rfl, Row.nil_ _ _, Hb1.out⟩
  · have Hm := Lib.hid hm
    rw [show baseT m s = baseK m s s.length from by unfold baseT; rw [hm]; rfl]
    have hc := (mayI_iff.1 hm).1
    have Hin := Lib.hid (fun k => base_in (s := s) hc k)
    have Hlen : Hid (∀ k, (baseK m s k).length ≤ 64) := Lib.hid fun k => by have := inN_len (base_in (s := s) hc k); have := (nN_cast hc).2; omega
    have Hno := Lib.hid (fun k h => baseK_no (m := m) (s := s) (k := k) h)
    have Hyes := Lib.hid (fun k h => baseK_yes (m := m) (s := s) (k := k) h)
    have hslI : (s.length : Int) ≤ 1048576 := by omega
    clear hv hs hr hE hm hc
    go_enter Tryz.func25, Tryz.ntmps25
    go_wp2_with fail
    refine (imay_any E m _ _ s _ HV.out Hs.out HR.out hsl HE.out).mono ?_
    rintro e w1 ⟨rfl, hb1⟩
    rw [Hm.out]
    replace HV := Lib.hid (HV.out.up hb1)
    replace HR := Lib.hid (HR.out.up hb1)
    replace HE := Lib.hid (HE.out.up hb1)
    replace Hblk := Lib.hid (Hblk.out.below hb1 Hblk.out.lt)
    replace Hb0 := Lib.hid (below_next Hb0.out (Nat.le_refl _) hb1)
    clear hb1 k0 k1 k2 k3 k4 k5
    go_wp2
    go_loopw [5, 15] (fun v5 vk wr => ∃ k : Nat, vk = .int .i64 k ∧ k ≤ s.length ∧ Row wr wr.heap.size v5 (baseK m s k) ∧ Below w1.heap.size w1 wr) (fun _ vk _ => s.length - (intOf vk).toNat)
    case atStart => exact ⟨0, rfl, Nat.zero_le _, Row.nil_ _ _, Below.refl _ _⟩
    case round =>
      obtain ⟨k, rfl, hk, hrow, hbr⟩ := hrel
      have Hrow := Lib.hid hrow
      have Hbr := Lib.hid hbr
      clear hrow hbr
      by_cases hlt : k < s.length
      · have hltI : (k : Int) < (s.length : Int) := by omega
        obtain ⟨ad, hA, hcl⟩ := Row.nth HR.out hlt
        subst hA
        have g1 := hcl wr Hbr.out
        obtain ⟨x, hx⟩ : ∃ x, s.getD k 0 = x := ⟨_, rfl⟩
        rw [hx] at g1
        have Hno' := Lib.hid (Hno.out k)
        have Hyes' := Lib.hid (Hyes.out k)
        have Hl := Lib.hid (Hlen.out k)
        rw [hx] at Hno' Hyes'
        clear hcl hx
        generalize baseK m s k = b at *
        obtain ⟨z, hz⟩ : ∃ z, indT m (grownL b x) = z := ⟨_, rfl⟩
        rw [hz] at Hno' Hyes'
        have Hz := Lib.hid hz
        have Hgl := Lib.hid (grown_len b x)
        clear hz
        go_wp2_with fail
        refine (grown_any u5 b x _ Hrow.out (by have := Hl.out; omega)).mono ?_
        rintro e w2 ⟨v2, rfl, hr2, hb2⟩
        have Hr2 := Lib.hid hr2
        have HB2 := Lib.hid (below_next Hbr.out (Nat.le_refl _) hb2)
        have Hrow2 := Lib.hid (Hrow.out.up hb2)
        have K := Hblk.out.below HB2.out Hblk.out.lt
        have k0 := K.cell 0
        have k1 := K.cell 1
        have k2 := K.cell 2
        have k3 := K.cell 3
        have k4 := K.cell 4
        have k5 := K.cell 5
        clear K hr2 hb2 g1 Hrow Hbr
        go_wp2_with fail
        refine (indep_any E m _ v2 _ _ (HV.out.up HB2.out) Hs.out Hr2.out (by have := Hl.out; have := Hgl.out; omega) (HE.out.up HB2.out)).mono ?_
        rintro e w3 ⟨rfl, hb3⟩
        rw [Hz.out]
        have Hr3 := Lib.hid (Hr2.out.up hb3)
        have HB3 := Lib.hid (below_next HB2.out (Nat.le_refl _) hb3)
        have Hrow3 := Lib.hid (Hrow2.out.up hb3)
        clear hb3 k0 k1 k2 k3 k4 k5 Hr2 HB2 Hrow2
        cases z
        · have e3 := Hno'.out rfl
          rw [← e3] at Hrow3
          clear e3
          go_wp2
          go_roundw
          case rel => exact ⟨k + 1, by go_num, by omega, Hrow3.out, HB3.out⟩
          case measure => simp [intOf]; omega
        · have e3 := Hyes'.out rfl
          rw [← e3] at Hr3
          clear e3
          go_wp2
          go_roundw
          case rel => exact ⟨k + 1, by go_num, by omega, Hr3.out, HB3.out⟩
          case measure => simp [intOf]; omega
      · have hke : k = s.length := by omega
        subst hke
        go_wp2
        go_ret
        exact ⟨_, rfl, Hrow.out, below_next Hb0.out (Nat.le_refl _) Hbr.out⟩

end Wp
end Go.Proofs.YtbjngggcpojefaaGreatDoor
