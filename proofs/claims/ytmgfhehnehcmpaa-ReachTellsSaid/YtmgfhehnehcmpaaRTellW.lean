/- The document's near, steps and least, walked. -/
import Derived.Test.YtmgfhehnehcmpaaRTellP
import Derived.Test.YtmgfhehnehcmpaaSRefMeet
namespace Go.Proofs.Ytmgfhehnehcmpaa
open Go Go.RowKit
namespace Wp

theorem Rows2.read {w : World} {B : Nat} {A : Option Addr} {n c : Nat} {adj : List (List Int)} (h : Rows2 w B (.slice A n c) adj) (x : Nat) (hx : x < adj.length) : ∃ (ada : Addr) (ua : Value), A = some ada ∧ w.cell? (ada.add x) = some ua ∧ Row w B ua (adj.getD x []) := by
  obtain ⟨A3, c3, e6, _, hka⟩ := h
  injection e6 with e7 e8 e9
  subst e7
  obtain ⟨ada, ua, hAa, _, hca, hru⟩ := hka x hx
  exact ⟨ada, ua, hAa, hca, hru⟩
theorem Row.readl {w : World} {B : Nat} {A : Option Addr} {n c : Nat} {l : List Int} (h : Row w B (.slice A n c) l) (k : Nat) (hk : k < l.length) : ∃ ad : Addr, A = some ad ∧ w.cell? (ad.add k) = some (.int .i64 (l.getD k 0)) := by
  obtain ⟨A', c', e, _, hc⟩ := h
  injection e with e1 e2 e3
  subst e1
  obtain ⟨ad, h1, _, h2⟩ := hc k hk
  exact ⟨ad, h1, h2⟩
theorem pts_at {n : Nat} {l : List Int} (h : Pts n l) {k : Nat} (hk : k < l.length) : ∃ x : Nat, l.getD k 0 = (x : Int) ∧ x < n := by
  have hm : l.getD k 0 ∈ l := by
    rw [show l.getD k 0 = l[k] by simp [List.getD, hk]]
    exact List.getElem_mem hk
  have := h.pt _ hm
  exact ⟨(l.getD k 0).toNat, by omega, by omega⟩

section
variable {adj : List (List Int)} (hd : digB adj = true)
include hd
theorem arcs_len (x : Nat) : (adj.getD x []).length ≤ 4096 := by
  have := pts_len (n := adj.length) ⟨(digB_dig hd).1.up x, (digB_dig hd).1.pt x⟩
  have := (digB_dig hd).2
  omega
set_option maxHeartbeats 8000000 in
set_option maxRecDepth 1000000 in
theorem r7near_any (v vl : Value) (l : List Int) (hl : Pts adj.length l) (w : World) (hr : Rows2 w w.heap.size v adj) (hf : Row w w.heap.size vl l) :
    Calls Try.prog 40 #[v, vl] w (Gives w (nearL adj l)) := by
  have HR := Lib.hid hr
  have HF := Lib.hid hf
  have HD := Lib.hid hd
  have HL := Lib.hid hl
  have HN := Lib.hid (digB_dig hd).2
  have hlen := pts_len hl
  have hn4 := (digB_dig hd).2
  obtain ⟨A, c, rfl, _⟩ := hr
  obtain ⟨Al, cl, rfl, _⟩ := hf
  clear hd hl
  go_enter Try.func40, Try.ntmps40
  go_wp2
  go_loopw [5, 6] (fun vo vi wr => ∃ k : Nat, vi = .int .i64 (k : Int) ∧ k ≤ l.length ∧ Hid (Row wr wr.heap.size vo (nearK adj l k) ∧ Below w.heap.size w wr)) (fun _ vi _ => l.length - (intOf vi).toNat)
  case atStart => exact ⟨0, rfl, Nat.zero_le _, HF.out, Below.refl _ _⟩
  case round =>
    obtain ⟨k, rfl, hk, HS⟩ := hrel
    by_cases hlt : k < l.length
    · have hkI : (k : Int) < (l.length : Int) := by omega
      obtain ⟨x, hx, hxn⟩ := pts_at HL.out hlt
      have hxI : (x : Int) < (adj.length : Int) := by omega
      obtain ⟨ad, hA, hc⟩ := (HF.out.up HS.out.2).readl k hlt
      obtain ⟨ada, ua, hAa, hca, hru⟩ := (HR.out.up HS.out.2).read x hxn
      subst hA hAa
      rw [hx] at hc
      have HX := Lib.hid hx
      have HRU := Lib.hid hru
      have HL1 : Hid ((nearK adj l k).length ≤ 1048576) := Lib.hid (by
        have := pts_len (nearK_ok HD.out HL.out k hk).1
        omega)
      have HL2 : Hid ((adj.getD x []).length ≤ 1048576) := Lib.hid (by have := arcs_len HD.out x; omega)
      clear hx hru
      go_wp2_with fail
      refine (refunion_any _ _ (nearK adj l k) (adj.getD x []) _ HS.out.1 HRU.out HL1.out HL2.out).mono ?_
      rintro e w5 ⟨v5, rfl, hr5, hb5⟩
      have H5 := Lib.hid hr5
      have HB5 := Lib.hid (below_next HS.out.2 (Nat.le_refl _) hb5)
      clear hr5 hb5
      go_wp2
      go_roundw
      case rel => exact ⟨k + 1, by go_num, by omega, by unfold nearK; rw [HX.out, Int.toNat_natCast]; exact H5.out, HB5.out⟩
      case measure => simp [intOf]; omega
    · have hke : k = l.length := by omega
      clear hlt hk
      subst hke
      go_wp2
      go_ret
      exact ⟨_, rfl, HS.out.1, HS.out.2⟩

set_option maxHeartbeats 8000000 in
set_option maxRecDepth 1000000 in
theorem r7steps_any (v vt : Value) (dst : List Int) (ht : okL adj.length dst = true) (x : Nat) (hx : x < adj.length) (w : World) (hr : Rows2 w w.heap.size v adj) (hf : Row w w.heap.size vt dst) :
    Calls Try.prog 53 #[v, .int .i64 (x : Int), vt] w fun e w' => ∃ s : Int, e = .returned (.int .i64 s) ∧ StepsIs adj dst (x : Int) s ∧ Below w.heap.size w w' := by
  have HR := Lib.hid hr
  have HF := Lib.hid hf
  have HD := Lib.hid hd
  have HT := Lib.hid ht
  have hn4 := (digB_dig hd).2
  have hp1 : Pts adj.length [(x : Int)] := ⟨by simp, fun y hy => by rw [List.mem_singleton] at hy; rw [hy]; omega⟩
  have HP1 := Lib.hid hp1
  have HDL : Hid (dst.length ≤ 1048576) := Lib.hid (by have := pts_len (ok_pts ht); omega)
  have HM : Hid (∀ k, (0 < (meetL (itL adj [(x : Int)] k) dst).length) ↔ Near adj dst k (x : Int)) := Lib.hid (fun k => by
    have hset : IsSet (itL adj [(x : Int)] k) := ok_set (pts_ok hn4 (itL_ok hd hp1 k))
    have h1 := itL_near hd (dst := dst) k [(x : Int)] hp1
    constructor
    · intro h
      obtain ⟨z, hz⟩ := List.exists_mem_of_length_pos h
      obtain ⟨a1, a2⟩ := (mem_meet hset (ok_set ht) z).1 hz
      obtain ⟨y, hy, hn⟩ := h1.1 ⟨z, a1, a2⟩
      rw [List.mem_singleton] at hy
      rw [← hy]
      exact hn
    · intro h
      obtain ⟨z, a1, a2⟩ := h1.2 ⟨_, by simp, h⟩
      exact List.length_pos_of_mem ((mem_meet hset (ok_set ht) z).2 ⟨a1, a2⟩))
  have HB : Hid (∀ k, Near adj dst k (x : Int) → ∃ m, m ≤ adj.length ∧ Near adj dst m (x : Int)) := Lib.hid (fun k hk => by
    obtain ⟨m, h1, _, h2⟩ := near_bound hd ht (v := (x : Int)) (by omega) hk
    exact ⟨m, h1, h2⟩)
  have HL0 : Hid (Row (w.alloc (.cells #[.int .i64 (x : Int)] 3)) (w.alloc (.cells #[.int .i64 (x : Int)] 3)).heap.size (.slice (some ⟨w.heap.size, 0, none⟩) 1 1) [(x : Int)]) := Lib.hid (Row.lit1 w (x : Int)).here
  have HB0 : Hid (Below w.heap.size w (w.alloc (.cells #[.int .i64 (x : Int)] 3))) := Lib.hid ((Below.refl _ w).alloc (Nat.le_refl _) _)
  obtain ⟨A, c, rfl, _⟩ := hr
  obtain ⟨At, ct, rfl, _⟩ := hf
  clear hd ht hp1
  go_enter Try.func53, Try.ntmps53
  go_wp2
  go_loopw [7, 8] (fun vo vi wr => ∃ k : Nat, vi = .int .i64 (k : Int) ∧ k ≤ adj.length + 1 ∧ Hid (Row wr wr.heap.size vo (itL adj [(x : Int)] k) ∧ Below w.heap.size w wr ∧ ∀ m, m < k → ¬ Near adj dst m (x : Int))) (fun _ vi _ => adj.length + 1 - (intOf vi).toNat)
  case atStart => exact ⟨0, rfl, Nat.zero_le _, HL0.out, HB0.out, fun m hm => by omega⟩
  case round =>
    obtain ⟨k, rfl, hk, HS⟩ := hrel
    by_cases hlt : k ≤ adj.length
    · have hkI : (k : Int) ≤ (adj.length : Int) := by omega
      have HL1 : Hid ((itL adj [(x : Int)] k).length ≤ 1048576) := Lib.hid (by
        have := pts_len (itL_ok HD.out HP1.out k)
        omega)
      go_wp2_with fail
      refine (refmeet_any _ _ (itL adj [(x : Int)] k) dst _ HS.out.1 (HF.out.up HS.out.2.1) HL1.out HDL.out).mono ?_
      rintro e w5 ⟨v5, rfl, hr5, hb5⟩
      obtain ⟨A5, c5, rfl, -⟩ := hr5
      have HO5 := Lib.hid (HS.out.1.up hb5)
      have HB5 := Lib.hid (below_next HS.out.2.1 (Nat.le_refl _) hb5)
      have hm := HM.out k
      obtain ⟨L, hL⟩ : ∃ L, (meetL (itL adj [(x : Int)] k) dst).length = L := ⟨_, rfl⟩
      rw [hL] at hm ⊢
      clear hb5 hL
      by_cases h0 : 0 < L
      · have hn := Lib.hid (hm.1 h0)
        have h0I : (0 : Int) < (L : Int) := by omega
        clear hm
        go_wp2
        go_ret
        exact ⟨_, rfl, .inl ⟨k, rfl, hn.out, HS.out.2.2⟩, HB5.out⟩
      · have hn := Lib.hid (fun h => h0 (hm.2 h))
        have h0I : ¬ (0 : Int) < (L : Int) := by omega
        clear hm
        go_wp2_with fail
        refine (r7near_any HD.out _ _ (itL adj [(x : Int)] k) (itL_ok HD.out HP1.out k) _ (HR.out.up HB5.out) HO5.out).mono ?_
        rintro e w6 ⟨v6, rfl, hr6, hb6⟩
        have H6 := Lib.hid hr6
        have HB6 := Lib.hid (below_next HB5.out (Nat.le_refl _) hb6)
        clear hr6 hb6
        go_wp2
        go_roundw
        case rel =>
          refine ⟨k + 1, by go_num, by omega, H6.out, HB6.out, fun m hm => ?_⟩
          by_cases e : m = k
          · rw [e]; exact hn.out
          · exact HS.out.2.2 m (by omega)
        case measure => simp [intOf]; omega
    · have hkI : ¬ (k : Int) ≤ (adj.length : Int) := by omega
      go_wp2
      go_ret
      exact ⟨_, rfl, .inr ⟨rfl, fun m hm => by
        obtain ⟨m', h1, h2⟩ := HB.out m hm
        exact HS.out.2.2 m' (by omega) h2⟩, HS.out.2.1⟩
end

end Wp
end Go.Proofs.Ytmgfhehnehcmpaa
