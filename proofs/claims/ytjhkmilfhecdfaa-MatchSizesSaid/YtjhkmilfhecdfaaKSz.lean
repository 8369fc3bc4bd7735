/- How great the greatest matching is, by the document: its Size, walked. -/
import Derived.Test.YtjhkmilfhecdfaaKSzP
import Derived.Lib.RabinKarpLaws
namespace Go.Proofs.Ytjhkmilfhecdfaa
open Go.RowKit
namespace Wp

theorem odd_bit {n k : Nat} (hn : n < 9223372036854775808) (h : n / 2 ^ k % 2 = 1) : (bits BinOp.and IntKind.i64 ((n : Int) / 2 ^ k) 1 == 1) = true := by
  have e : ((n : Int) / 2 ^ k) = ((n / 2 ^ k : Nat) : Int) := by simp
  rw [e, and_one _ (Nat.lt_of_le_of_lt (Nat.div_le_self _ _) hn), h]
  rfl
theorem even_bit {n k : Nat} (hn : n < 9223372036854775808) (h : n / 2 ^ k % 2 = 0) : (bits BinOp.and IntKind.i64 ((n : Int) / 2 ^ k) 1 == 1) = false := by
  have e : ((n : Int) / 2 ^ k) = ((n / 2 ^ k : Nat) : Int) := by simp
  rw [e, and_one _ (Nat.lt_of_le_of_lt (Nat.div_le_self _ _) hn), h]
  rfl
theorem bit_yes {n k : Nat} (hn : n < 9223372036854775808) (h : n.testBit k = true) : (bits BinOp.and IntKind.i64 ((n : Int) / 2 ^ k) 1 == 1) = true := by
  rw [Nat.testBit_eq_decide_div_mod_eq, decide_eq_true_iff] at h
  exact odd_bit hn h
theorem bit_no {n k : Nat} (hn : n < 9223372036854775808) (h : n.testBit k = false) : (bits BinOp.and IntKind.i64 ((n : Int) / 2 ^ k) 1 == 1) = false := by
  rw [Nat.testBit_eq_decide_div_mod_eq, decide_eq_false_iff_not] at h
  exact even_bit hn (by omega)
theorem near_yes {adj : List (List Int)} {s k : Nat} (h : s.testBit k = true) : nearL adj s (k + 1) = unionL (nearL adj s k) (adj.getD k []) := if_pos h
theorem near_no {adj : List (List Int)} {s k : Nat} (h : s.testBit k = false) : nearL adj s (k + 1) = nearL adj s k := if_neg (by rw [h]; decide)
theorem out_yes {s k : Nat} (h : s.testBit k = true) : outN s (k + 1) = outN s k := by unfold outN; rw [cntP_succ, h]; rfl
theorem out_no {s k : Nat} (h : s.testBit k = false) : outN s (k + 1) = outN s k + 1 := by unfold outN; rw [cntP_succ, h]; rfl
theorem nearle {right : Int} {adj : List (List Int)} (h : mayM right adj = true) (s k : Nat) : (nearL adj s k).length ≤ 64 := by
  rw [near_len h]
  have := cntP_le (fun r : Nat => decide ((r : Int) ∈ nearL adj s k)) right.toNat
  have := may_bounds h
  omega
theorem bestle (adj : List (List Int)) : ∀ k, bestN adj k ≤ adj.length
  | 0 => Nat.le_refl _
  | k + 1 => by
    have := bestle adj k
    unfold bestN
    omega

set_option maxHeartbeats 4000000 in
set_option maxRecDepth 100000 in
theorem size_any (right : Int) (v : Value) (adj : List (List Int)) (hmay : mayM right adj = true) (hn : adj.length ≤ 10) (w : World) (hr : Rows2 w w.heap.size v adj) :
    Calls Try.prog 18 #[.int .i64 right, v] w fun e w' => e = .returned (.int .i64 (bestN adj (2 ^ adj.length) : Nat)) ∧ Below w.heap.size w w' := by
  obtain ⟨A, c, rfl, hcap, hcell⟩ := hr
  have Hcell := Lib.hid hcell
  have Hset := Lib.hid (may_set hmay)
  have Hlen := Lib.hid (may_len hmay)
  have Hmay := Lib.hid hmay
  clear hcell hmay
  obtain ⟨P, hP⟩ : ∃ P : Nat, 2 ^ adj.length = P := ⟨_, rfl⟩
  have hPle : P ≤ 1024 := by rw [← hP]; exact Nat.pow_le_pow_right (n := 2) (by omega) hn
  have hw : wrap64 ((2 : Int) ^ adj.length) = (P : Int) := by
    have e : ((2 : Int) ^ adj.length) = (P : Int) := by rw [← hP]; simp
    rw [e]
    unfold wrap64
    omega
  rw [hP]
  go_enter Try.func18, Try.ntmps18
  go_wp2
  go_loopw [5, 6] (fun vb vs wr => ∃ s : Nat, vs = .int .i64 s ∧ vb = .int .i64 (bestN adj s : Nat) ∧ s ≤ P ∧ Below w.heap.size w wr) (fun _ vs _ => P - (intOf vs).toNat)
  case atStart => exact ⟨0, rfl, rfl, Nat.zero_le _, Below.refl _ _⟩
  case round =>
    obtain ⟨s, rfl, rfl, hs, hbr⟩ := hrel
    have Hbr := Lib.hid hbr
    by_cases hlt : s < P
    · have hsI : (s : Int) < (P : Int) := by omega
      have HB1 := Lib.hid (hbr.alloc hbr.size (.cells #[] 3))
      have HR1 := Lib.hid (Row.lit0 wr).here
      have Hbest := Lib.hid (show bestN adj (s + 1) = min (bestN adj s) (costN adj s) from rfl)
      have Hb0 : Hid (bestN adj s ≤ 10) := Lib.hid (Nat.le_trans (bestle adj s) hn)
      generalize bestN adj s = q at *
      clear hbr Hbr
      go_wp2
      try rw [hw]
      go_loopw [7, 8, 9] (fun vo vu vi wx => ∃ i : Nat, vi = .int .i64 i ∧ vo = .int .i64 (outN s i : Nat) ∧ i ≤ adj.length ∧ Row wx wx.heap.size vu (nearL adj s i) ∧ Below w.heap.size w wx) (fun _ _ vi _ => adj.length - (intOf vi).toNat)
      case atStart => exact ⟨0, rfl, rfl, Nat.zero_le _, HR1.out, HB1.out⟩
      case round =>
        clear HR1 HB1
        obtain ⟨i, rfl, rfl, hi, hu, hbx⟩ := hrel
        have Hu := Lib.hid hu
        have Hbx := Lib.hid hbx
        clear hu hbx
        by_cases hlt2 : i < adj.length
        · have hiI : (i : Int) < (adj.length : Int) := by omega
          have ho := cntP_le (fun j => !s.testBit j) i
          rw [show cntP i (fun j => !s.testBit j) = outN s i from rfl] at ho
          have hs63 : s < 9223372036854775808 := by omega
          rcases hbit : s.testBit i with _ | _
          · have hbt := bit_no hs63 hbit
            have Hn := Lib.hid (near_no (adj := adj) hbit)
            have Ho := Lib.hid (out_no hbit)
            clear hbit
            generalize outN s i = o at *
            go_wp2
            go_roundw
            case rel => exact ⟨i + 1, by go_num, by rw [Ho.out]; go_num, by omega, by rw [Hn.out]; exact Hu.out, Hbx.out⟩
            case measure => simp [intOf]; omega
          · have hbt := bit_yes hs63 hbit
            have Hn := Lib.hid (near_yes (adj := adj) hbit)
            have Ho := Lib.hid (out_yes hbit)
            have Hul := Lib.hid (nearle Hmay.out s i)
            have Hl := Lib.hid (Hlen.out i)
            obtain ⟨ad, u, hA, hab, hcu, hru⟩ := Hcell.out i hlt2
            subst hA
            have g1 := (Hbx.out.cell (p := ad.add i) (by rw [add_block]; exact hab)).trans hcu
            have Hru := Lib.hid ((hru.below Hbx.out).mono Hbx.out.size)
            clear hbit hcu hru
            generalize outN s i = o at *
            generalize nearL adj s i = nu at *
            go_wp2_with fail
            refine (refunion_any _ _ nu (adj.getD i []) _ Hu.out Hru.out (by have := Hul.out; omega) (by have := Hl.out; omega)).mono ?_
            rintro e w4 ⟨v4, rfl, hr4, hb4⟩
            have Hr4 := Lib.hid hr4
            have Hb4 := Lib.hid (Hbx.out.trans (hb4.mono Hbx.out.size))
            clear hr4 hb4 g1 Hru Hu
            go_wp2
            go_roundw
            case rel => exact ⟨i + 1, by go_num, by rw [Ho.out], by omega, by rw [Hn.out]; exact Hr4.out, Hb4.out⟩
            case measure => simp [intOf]; omega
        · have hie : i = adj.length := by omega
          subst hie
          have ho := cntP_le (fun j => !s.testBit j) adj.length
          rw [show cntP adj.length (fun j => !s.testBit j) = outN s adj.length from rfl] at ho
          have Hul := Lib.hid (nearle Hmay.out s adj.length)
          have hbest := Hbest.out
          unfold costN at hbest
          have Hbe := Lib.hid hbest
          clear hbest Hbest
          generalize outN s adj.length = o at *
          generalize nearL adj s adj.length = nu at *
          obtain ⟨Au, cu, rfl, -⟩ := id Hu.out
          obtain ⟨L, hL⟩ : ∃ L, nu.length = L := ⟨_, rfl⟩
          have hL64 : L ≤ 64 := by rw [← hL]; exact Hul.out
          rw [hL]
          have Hbe2 : Hid (bestN adj (s + 1) = min q (o + L)) := Lib.hid (by rw [Hbe.out, hL])
          clear Hbe Hul hL
          go_wp2
          go_roundw
          case rel => exact ⟨s + 1, by go_num, by rw [Hbe2.out]; congr 1; omega, by omega, Hbx.out⟩
          case measure => simp [intOf]; omega
    · have hse : s = P := by omega
      subst hse
      go_wp2
      go_ret
      exact ⟨rfl, Hbr.out⟩

end Wp
end Go.Proofs.Ytjhkmilfhecdfaa
