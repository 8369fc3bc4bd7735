/- The document's All, Minus and Check, walked. -/
import Derived.Test.YtimmmfppehmfcaaDoorSRefIn
import Derived.Test.YtimmmfppehmfcaaDoorQAll
import Derived.Test.YtimmmfppehmfcaaDoorQTC
namespace Go.Proofs.YtimmmfppehmfcaaDoor
open Go.RowKit
namespace Wp

set_option maxHeartbeats 2000000 in
set_option maxRecDepth 100000 in
theorem refall_in (n : Nat) (w : World) (h1 : 1 ≤ n) (h2 : n ≤ 100000) :
    Calls Tryd.prog 25 #[.int .i64 n] w (Gives w (allL n)) := by
  have Hall := Lib.hid (all_yes h1 h2)
  have h2' : (n : Int) ≤ 100000 := by omega
  go_enter Tryd.func25, Tryd.ntmps25
  have hown0 : (w.alloc (.cells #[] 3)).ownsRow w.heap.size 3 1 (.slice (some ⟨w.heap.size, 0, none⟩) 0 0) 0 [] :=
    World.ownsRow_made w #[] 0 (Nat.le_refl _) (by unfold maxLen; omega) rfl
  have hB0 : Below w.heap.size w (w.alloc (.cells #[] 3)) := (Below.refl _ w).alloc (Nat.le_refl _) _
  go_wp2
  go_loopw [3, 4] (fun vl vk wr => ∃ k : Nat, vk = .int .i64 k ∧ k ≤ n ∧ wr.ownsRow w.heap.size 3 1 vl (upTo k).length (ints (upTo k)) ∧ Below w.heap.size w wr) (fun _ vk _ => n - (intOf vk).toNat)
  case atStart => exact ⟨0, rfl, Nat.zero_le _, hown0, hB0⟩
  case round =>
    obtain ⟨k, rfl, hk, hown, hbr⟩ := hrel
    by_cases hlt : k < n
    · have hul := upTo_length k
      have Hs := Lib.hid (upTo_succ k)
      go_wp2_with (at_builtin; refine wpList_append_row rfl _ _ rfl w.heap.size _ _ _ (upTo k) [(k : Int)] rfl rfl (hown.alloc _) (Row.lit1 _ (k : Int)) (by omega) (by simp) (by have := hbr.size; simp; omega) ?_)
      intro v' w4 hown' hgrow
      have hb4 : Below w.heap.size wr w4 := ((Below.refl _ wr).alloc hbr.size _).grown hgrow (by have := hbr.size; simp; omega) (fun i hi => (hown.lt i hi).1)
      go_wp2
      go_roundw
      case rel => exact ⟨k + 1, by go_num, by omega, by rw [Hs.out, List.length_append, upTo_length]; exact hown', hbr.trans hb4⟩
      case measure => simp [intOf]; omega
    · have hke : k = n := by omega
      subst hke
      go_wp2
      go_ret
      exact ⟨_, rfl, by rw [Hall.out]; exact Row.of_own hown rfl, hbr⟩

set_option maxHeartbeats 2000000 in
set_option maxRecDepth 100000 in
theorem refall_any (n : Int) (w : World) : Calls Tryd.prog 25 #[.int .i64 n] w (Gives w (allL n)) := by
  by_cases h : n < 1 ∨ 100000 < n
  · have Hf := Lib.hid (all_no h)
    have hout : ∀ w' : World, Below w.heap.size w w' → Gives w (allL n) (.returned (.slice (some ⟨w.heap.size, 0, none⟩) 0 0)) w' := fun w' hb => ⟨_, rfl, by rw [Hf.out]; exact ⟨_, 0, rfl, ⟨Nat.le_refl _, by decide, fun e => by cases e⟩, fun k hk => absurd hk (by simp)⟩, hb⟩
    have Hout := Lib.hid hout
    clear hout
    have hB0 : Below w.heap.size w (w.alloc (.cells #[] 3)) := (Below.refl _ w).alloc (Nat.le_refl _) _
    by_cases h1 : n < 1
    · have h1' : ¬ (0 < n) := by omega
      clear h h1
      go_enter Tryd.func25, Tryd.ntmps25
      go_wp2
      refine wp_loop_rounds 1 ?_
      rw [rounds_succ]
      go_wp2
      go_ret
      exact Hout.out _ hB0
    · have h2 : ¬ (n ≤ 100000) := by omega
      have h0 : 0 < n := by omega
      clear h h1
      go_enter Tryd.func25, Tryd.ntmps25
      go_wp2
      refine wp_loop_rounds 1 ?_
      rw [rounds_succ]
      go_wp2
      go_ret
      exact Hout.out _ hB0
  · obtain ⟨m, rfl⟩ : ∃ m : Nat, n = (m : Int) := ⟨n.toNat, by omega⟩
    exact refall_in m w (by omega) (by omega)

set_option maxHeartbeats 4000000 in
set_option maxRecDepth 100000 in
theorem refminus_in (va vb : Value) (a b : List Int) (w : World) (ha : Row w w.heap.size va a) (hb : Row w w.heap.size vb b) (hla : a.length ≤ 1048576) (hlb : b.length ≤ 1048576) (hma : mayB a = true) (hmb : mayB b = true) :
    Calls Tryd.prog 24 #[va, vb] w (Gives w (minusL a b)) := by
  have Ha := Lib.hid ha
  have Hb := Lib.hid hb
  obtain ⟨A1, c1, rfl, _, hcell⟩ := ha
  obtain ⟨A2, c2, rfl, _⟩ := hb
  have Hcell := Lib.hid hcell
  clear hcell
  have Hall := Lib.hid (partOf_all a b false hma hmb)
  change Hid (_ = minusL a b) at Hall
  have Hma := Lib.hid hma
  have Hmb := Lib.hid hmb
  clear hma hmb
  have hown0 : (w.alloc (.cells #[] 3)).ownsRow w.heap.size 3 1 (.slice (some ⟨w.heap.size, 0, none⟩) 0 0) 0 [] :=
    World.ownsRow_made w #[] 0 (Nat.le_refl _) (by unfold maxLen; omega) rfl
  have hB0 : Below w.heap.size w (w.alloc (.cells #[] 3)) := (Below.refl _ w).alloc (Nat.le_refl _) _
  go_enter Tryd.func24, Tryd.ntmps24
  go_wp2
  go_loopw [5, 6] (fun vl vk wr => ∃ k : Nat, vk = .int .i64 k ∧ k ≤ a.length ∧ wr.ownsRow w.heap.size 3 1 vl (partOf a b false k).length (ints (partOf a b false k)) ∧ Below w.heap.size w wr) (fun _ vk _ => a.length - (intOf vk).toNat)
  case atStart => exact ⟨0, rfl, Nat.zero_le _, hown0, hB0⟩
  case round =>
    obtain ⟨k, rfl, hk, hown, hbr⟩ := hrel
    by_cases hlt : k < a.length
    · obtain ⟨ad, hA, hab, hg⟩ := Hcell.out k hlt
      subst hA
      have hkl : (k : Int) < (a.length : Int) := by omega
      have hpl := partOf_length a b false k
      have Hyes := Lib.hid (partOf_yes a b false k hlt)
      have Hno := Lib.hid (partOf_no a b false k hlt)
      clear hown0 hB0
      generalize a.getD k 0 = x at hg Hyes Hno
      have Hg := Lib.hid hg
      clear hg
      rcases hc : b.contains x with _ | _
      · have Hc := Lib.hid hc
        clear hc
        go_wp2_with fail
        refine (refmay_is _ a wr (Ha.out.below hbr |>.mono hbr.size) (by omega) Hma.out).mono ?_
        rintro e w2 ⟨rfl, hb2⟩
        have hB2 := hbr.trans (hb2.mono hbr.size)
        have hown2 := hown.kept (row := none) (only_of_below hb2 _) (by cases hv : Value.ownBlock _ <;> simp)
        clear hb2
        go_wp2_with fail
        refine (refmay_is _ b w2 (Hb.out.below hB2 |>.mono hB2.size) (by omega) Hmb.out).mono ?_
        rintro e w3 ⟨rfl, hb3⟩
        have hB3 := hB2.trans (hb3.mono hB2.size)
        have hown3 := hown2.kept (row := none) (only_of_below hb3 _) (by cases hv : Value.ownBlock _ <;> simp)
        clear hb3 hB2 hown2 hown hbr
        have g1 : w3.cell? (ad.add k) = some (.int .i64 x) := (hB3.cell (by rw [add_block]; exact hab)).trans Hg.out
        go_wp2_with fail
        refine (refin_is _ b x _ w3 (Hb.out.below hB3) (by omega) Hc.out).mono ?_
        rintro e w5 ⟨rfl, rfl⟩
        have Hx := Lib.hid (Hyes.out (by rw [Hc.out]))
        clear Hyes Hno
        go_wp2_with (at_builtin; refine wpList_append_row rfl _ _ rfl w.heap.size _ _ _ (partOf a b false k) [x] rfl rfl (hown3.alloc _) (Row.lit1 _ x) (by omega) (by simp) (by have := hB3.size; simp; omega) ?_)
        intro v' w4 hown' hgrow
        have hb4 : Below w.heap.size w5 w4 := ((Below.refl _ w5).alloc hB3.size _).grown hgrow (by have := hB3.size; simp; omega) (fun i hi => (hown3.lt i hi).1)
        go_wp2
        go_roundw
        case rel => exact ⟨k + 1, by go_num, by omega, by rw [Hx.out, List.length_append]; exact hown', hB3.trans hb4⟩
        case measure => simp [intOf]; omega
      · have Hc := Lib.hid hc
        clear hc
        go_wp2_with fail
        refine (refmay_is _ a wr (Ha.out.below hbr |>.mono hbr.size) (by omega) Hma.out).mono ?_
        rintro e w2 ⟨rfl, hb2⟩
        have hB2 := hbr.trans (hb2.mono hbr.size)
        have hown2 := hown.kept (row := none) (only_of_below hb2 _) (by cases hv : Value.ownBlock _ <;> simp)
        clear hb2
        go_wp2_with fail
        refine (refmay_is _ b w2 (Hb.out.below hB2 |>.mono hB2.size) (by omega) Hmb.out).mono ?_
        rintro e w3 ⟨rfl, hb3⟩
        have hB3 := hB2.trans (hb3.mono hB2.size)
        have hown3 := hown2.kept (row := none) (only_of_below hb3 _) (by cases hv : Value.ownBlock _ <;> simp)
        clear hb3 hB2 hown2 hown hbr
        have g1 : w3.cell? (ad.add k) = some (.int .i64 x) := (hB3.cell (by rw [add_block]; exact hab)).trans Hg.out
        go_wp2_with fail
        refine (refin_is _ b x _ w3 (Hb.out.below hB3) (by omega) Hc.out).mono ?_
        rintro e w5 ⟨rfl, rfl⟩
        have Hx := Lib.hid (Hno.out (by rw [Hc.out]; decide))
        clear Hyes Hno
        go_wp2
        go_roundw
        case rel => exact ⟨k + 1, by go_num, by omega, by rw [Hx.out]; exact hown3, hB3⟩
        case measure => simp [intOf]; omega
    · have hke : k = a.length := by omega
      subst hke
      rw [Hall.out] at hown
      go_wp2
      go_ret
      exact ⟨_, rfl, Row.of_own hown rfl, hbr⟩

set_option maxHeartbeats 2000000 in
set_option maxRecDepth 100000 in
theorem refminus_bad (va vb : Value) (a b : List Int) (w : World) (ha : Row w w.heap.size va a) (hb : Row w w.heap.size vb b) (hla : a.length ≤ 1048576) (hlb : b.length ≤ 1048576) (h : mayB a = false ∨ (mayB a = true ∧ mayB b = false)) :
    Calls Tryd.prog 24 #[va, vb] w (Gives w (minusL a b)) := by
  have Ha := Lib.hid ha
  have Hb := Lib.hid hb
  obtain ⟨A1, c1, rfl, _, hcell⟩ := ha
  obtain ⟨A2, c2, rfl, _⟩ := hb
  have Hcell := Lib.hid hcell
  clear hcell
  have hr : minusL a b = [] := by
    rcases h with h | h
    · exact part_no1 h
    · exact part_no2 h.2
  have hout : ∀ w' : World, Below w.heap.size w w' → Gives w (minusL a b) (.returned (.slice (some ⟨w.heap.size, 0, none⟩) 0 0)) w' := fun w' hb => ⟨_, rfl, by rw [hr]; exact ⟨_, 0, rfl, ⟨Nat.le_refl _, by decide, fun e => by cases e⟩, fun k hk => absurd hk (by simp)⟩, hb⟩
  have Hout := Lib.hid hout
  clear hout hr
  have hB0 : Below w.heap.size w (w.alloc (.cells #[] 3)) := (Below.refl _ w).alloc (Nat.le_refl _) _
  by_cases h0 : 0 < a.length
  · have h0' : (0 : Int) < (a.length : Int) := by omega
    rcases h with hma | ⟨hma, hmb⟩
    · have Hma := Lib.hid hma
      clear hma h0
      go_enter Tryd.func24, Tryd.ntmps24
      go_wp2
      refine wp_loop_rounds 1 ?_
      rw [rounds_succ]
      go_wp2_with fail
      refine (refmay_is _ a _ ((Ha.out.below hB0).mono hB0.size) (by omega) Hma.out).mono ?_
      rintro e w1 ⟨rfl, hb1⟩
      have hB1 := hB0.trans (hb1.mono hB0.size)
      go_wp2
      go_ret
      exact Hout.out _ hB1
    · have Hma := Lib.hid hma
      have Hmb := Lib.hid hmb
      clear hma hmb h0
      go_enter Tryd.func24, Tryd.ntmps24
      go_wp2
      refine wp_loop_rounds 1 ?_
      rw [rounds_succ]
      go_wp2_with fail
      refine (refmay_is _ a _ ((Ha.out.below hB0).mono hB0.size) (by omega) Hma.out).mono ?_
      rintro e w1 ⟨rfl, hb1⟩
      have hB1 := hB0.trans (hb1.mono hB0.size)
      clear hb1
      go_wp2_with fail
      refine (refmay_is _ b _ ((Hb.out.below hB1).mono hB1.size) (by omega) Hmb.out).mono ?_
      rintro e w2 ⟨rfl, hb2⟩
      have hB2 := hB1.trans (hb2.mono hB1.size)
      go_wp2
      go_ret
      exact Hout.out _ hB2
  · have h0' : (a.length : Int) = 0 := by omega
    clear h h0
    go_enter Tryd.func24, Tryd.ntmps24
    go_wp2
    refine wp_loop_rounds 1 ?_
    rw [rounds_succ]
    go_wp2
    go_ret
    exact Hout.out _ hB0

theorem refminus_any (va vb : Value) (a b : List Int) (w : World) (ha : Row w w.heap.size va a) (hb : Row w w.heap.size vb b) (hla : a.length ≤ 1048576) (hlb : b.length ≤ 1048576) :
    Calls Tryd.prog 24 #[va, vb] w (Gives w (minusL a b)) := by
  rcases hma : mayB a with _ | _
  · exact refminus_bad va vb a b w ha hb hla hlb (.inl hma)
  · rcases hmb : mayB b with _ | _
    · exact refminus_bad va vb a b w ha hb hla hlb (.inr ⟨hma, hmb⟩)
    · exact refminus_in va vb a b w ha hb hla hlb hma hmb

end Wp
end Go.Proofs.YtimmmfppehmfcaaDoor

namespace Go.Proofs.YtimmmfppehmfcaaDoor
open Go.RowKit
namespace Wp

theorem own_block {w : World} {base B : Nat} {e : TypeId} {size k : Nat} {v : Value} {vs : List Value} (h : w.ownsRow base e size v k vs) (hB : B ≤ base) : ∀ (A : Addr) (n c : Nat), v = .slice (some A) n c → B ≤ A.block := fun A n c hv => by
  subst hv
  exact Nat.le_trans hB (World.ownsRow.lt h A.block rfl).1

set_option maxHeartbeats 8000000 in
set_option maxRecDepth 100000 in
theorem rcheck_any (m : Mat) (v : Value) (w : World) (hv : MatV w w.heap.size v m) (hs : Sml m) : Calls Tryd.prog 13 #[v] w (Tells w (chk m)) := by
  have Hs := Lib.hid hs
  obtain ⟨lv, iv, hve, _, _⟩ := hv.open
  have Hb0 := Lib.hid (boxed_below w m lv iv)
  have Hv0 := Lib.hid (hv.up Hb0.out)
  have Hblk0 := Lib.hid (boxed_blk w m lv iv)
  have g0 := Hblk0.out.cell 0
  have g1 := Hblk0.out.cell 1
  have g2 := Hblk0.out.cell 2
  have g3 := Hblk0.out.cell 3
  have g4 := Hblk0.out.cell 4
  have g5 := Hblk0.out.cell 5
  subst hve
  unfold boxed at *
  have h5 := dp_le 4 m
  obtain ⟨D, hD⟩ : ∃ D : Nat, dp 4 m = D := ⟨_, rfl⟩
  have HD : Hid (deepI m = (D : Int)) := Lib.hid (by unfold deepI; rw [hD])
  have HD0 := Lib.hid hD
  rw [hD] at h5
  clear hv hs hD
  by_cases h : D = 5
  · have e : chk m = 91 := if_pos (HD0.out.trans h)
    rw [e]
    have h5' : ((D : Int) == 5) = true := by simp; omega
    clear e h h5
    go_enter Tryd.func13, Tryd.ntmps13
    go_wp2_with fail
    refine (rDeep_any m _ _ Hv0.out Hs.out).mono ?_
    rintro e w1 ⟨rfl, hb1⟩
    rw [HD.out]
    have Hb1 := Lib.hid (below_next Hb0.out (Nat.le_refl _) hb1)
    clear hb1 g0 g1 g2 g3 g4 g5
    go_wp2
    go_ret
    exact ⟨rfl, Hb1.out⟩
  · have h5' : ((D : Int) == 5) = false := by simp; omega
    obtain ⟨b0, hb0⟩ : ∃ b0, ok 4 m = b0 := ⟨_, rfl⟩
    have e : chk m = if b0 = true then 0 else 90 := by rw [← hb0]; exact if_neg (by rw [HD0.out]; exact h)
    obtain ⟨R, hR⟩ : ∃ R : Int, R = if b0 = true then 0 else 90 := ⟨_, rfl⟩
    rw [e, ← hR]
    have HR := Lib.hid hR
    have Hmay := Lib.hid (fun (v : Value) (W : World) (hv : MatV W W.heap.size v m) => rmay_all 4 m v W hv Hs.out (by rw [HD0.out]; omega))
    rw [hb0] at Hmay
    clear e h h5 hb0 hR
    go_enter Tryd.func13, Tryd.ntmps13
    go_wp2_with fail
    refine (rDeep_any m _ _ Hv0.out Hs.out).mono ?_
    rintro e w1 ⟨rfl, hb1⟩
    rw [HD.out]
    have Hb1 := Lib.hid (below_next Hb0.out (Nat.le_refl _) hb1)
    have Hv1 := Lib.hid (Hv0.out.up hb1)
    have Hblk1 := Lib.hid (Hblk0.out.below hb1 Hblk0.out.lt)
    clear hb1 g0 g1 g2 g3 g4 g5
    have g0 := Hblk1.out.cell 0
    have g1 := Hblk1.out.cell 1
    have g2 := Hblk1.out.cell 2
    have g3 := Hblk1.out.cell 3
    have g4 := Hblk1.out.cell 4
    have g5 := Hblk1.out.cell 5
    go_wp2_with fail
    refine (Hmay.out _ _ Hv1.out).mono ?_
    rintro e w2 ⟨rfl, hb2⟩
    have Hb2 := Lib.hid (below_next Hb1.out (Nat.le_refl _) hb2)
    clear hb2 g0 g1 g2 g3 g4 g5
    cases b0
    · have e90 : R = 90 := HR.out
      subst e90
      go_wp2
      go_ret
      exact ⟨rfl, Hb2.out⟩
    · have e0 : R = 0 := HR.out
      subst e0
      go_wp2
      go_ret
      exact ⟨rfl, Hb2.out⟩

end Wp
end Go.Proofs.YtimmmfppehmfcaaDoor
