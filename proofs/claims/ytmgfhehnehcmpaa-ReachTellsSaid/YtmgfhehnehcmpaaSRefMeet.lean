/- The document's answer: what both sets have: walked. -/
import Derived.Test.YtmgfhehnehcmpaaSRefIn
namespace Go.Proofs.Ytmgfhehnehcmpaa
open Go.RowKit
namespace Wp

set_option maxHeartbeats 4000000 in
set_option maxRecDepth 100000 in
theorem refmeet_in (va vb : Value) (a b : List Int) (w : World) (ha : Row w w.heap.size va a) (hb : Row w w.heap.size vb b) (hla : a.length ≤ 1048576) (hlb : b.length ≤ 1048576) (hma : mayB a = true) (hmb : mayB b = true) :
    Calls Try.prog 23 #[va, vb] w (Gives w (meetL a b)) := by
  have Ha := Lib.hid ha
  have Hb := Lib.hid hb
  obtain ⟨A1, c1, rfl, _, hcell⟩ := ha
  obtain ⟨A2, c2, rfl, _⟩ := hb
  have Hcell := Lib.hid hcell
  clear hcell
  have Hall := Lib.hid (partOf_all a b true hma hmb)
  change Hid (_ = meetL a b) at Hall
  have Hma := Lib.hid hma
  have Hmb := Lib.hid hmb
  clear hma hmb
  have hown0 : (w.alloc (.cells #[] 3)).ownsRow w.heap.size 3 1 (.slice (some ⟨w.heap.size, 0, none⟩) 0 0) 0 [] :=
    World.ownsRow_made w #[] 0 (Nat.le_refl _) (by unfold maxLen; omega) rfl
  have hB0 : Below w.heap.size w (w.alloc (.cells #[] 3)) := (Below.refl _ w).alloc (Nat.le_refl _) _
  go_enter Try.func23, Try.ntmps23
  go_wp2
  go_loopw [5, 6] (fun vl vk wr => ∃ k : Nat, vk = .int .i64 k ∧ k ≤ a.length ∧ wr.ownsRow w.heap.size 3 1 vl (partOf a b true k).length (ints (partOf a b true k)) ∧ Below w.heap.size w wr) (fun _ vk _ => a.length - (intOf vk).toNat)
  case atStart => exact ⟨0, rfl, Nat.zero_le _, hown0, hB0⟩
  case round =>
    obtain ⟨k, rfl, hk, hown, hbr⟩ := hrel
    by_cases hlt : k < a.length
    · obtain ⟨ad, hA, hab, hg⟩ := Hcell.out k hlt
      subst hA
      have hkl : (k : Int) < (a.length : Int) := by omega
      have hpl := partOf_length a b true k
      have Hyes := Lib.hid (partOf_yes a b true k hlt)
      have Hno := Lib.hid (partOf_no a b true k hlt)
      clear hown0 hB0
      generalize a.getD k 0 = x at hg Hyes Hno
      have Hg := Lib.hid hg
      clear hg
      rcases hc : b.contains x with _ | _
      · have Hc := Lib.hid hc
        clear hc
        go_wp2_with fail
        refine (refmay_is _ a wr (Ha.out.below hbr |>.mono hbr.size) (by omega) Hma.out).mono ?_
        rintro e w2 ⟨rfl, hb2⟩
        have hB2 := hbr.trans (hb2.mono hbr.size)
        have hown2 := hown.kept (row := none) (only_of_below hb2 _) (by cases hv : Value.ownBlock _ <;> simp)
        clear hb2
        go_wp2_with fail
        refine (refmay_is _ b w2 (Hb.out.below hB2 |>.mono hB2.size) (by omega) Hmb.out).mono ?_
        rintro e w3 ⟨rfl, hb3⟩
        have hB3 := hB2.trans (hb3.mono hB2.size)
        have hown3 := hown2.kept (row := none) (only_of_below hb3 _) (by cases hv : Value.ownBlock _ <;> simp)
        clear hb3 hB2 hown2 hown hbr
        have g1 : w3.cell? (ad.add k) = some (.int .i64 x) := (hB3.cell (by rw [add_block]; exact hab)).trans Hg.out
        go_wp2_with fail
        refine (refin_is _ b x _ w3 (Hb.out.below hB3) (by omega) Hc.out).mono ?_
        rintro e w5 ⟨rfl, rfl⟩
        have Hx := Lib.hid (Hno.out (by rw [Hc.out]; decide))
        clear Hyes Hno
        go_wp2
        go_roundw
        case rel => exact ⟨k + 1, by go_num, by omega, by rw [Hx.out]; exact hown3, hB3⟩
        case measure => simp [intOf]; omega
      · have Hc := Lib.hid hc
        clear hc
        go_wp2_with fail
        refine (refmay_is _ a wr (Ha.out.below hbr |>.mono hbr.size) (by omega) Hma.out).mono ?_
        rintro e w2 ⟨rfl, hb2⟩
        have hB2 := hbr.trans (hb2.mono hbr.size)
        have hown2 := hown.kept (row := none) (only_of_below hb2 _) (by cases hv : Value.ownBlock _ <;> simp)
        clear hb2
        go_wp2_with fail
        refine (refmay_is _ b w2 (Hb.out.below hB2 |>.mono hB2.size) (by omega) Hmb.out).mono ?_
        rintro e w3 ⟨rfl, hb3⟩
        have hB3 := hB2.trans (hb3.mono hB2.size)
        have hown3 := hown2.kept (row := none) (only_of_below hb3 _) (by cases hv : Value.ownBlock _ <;> simp)
        clear hb3 hB2 hown2 hown hbr
        have g1 : w3.cell? (ad.add k) = some (.int .i64 x) := (hB3.cell (by rw [add_block]; exact hab)).trans Hg.out
        go_wp2_with fail
        refine (refin_is _ b x _ w3 (Hb.out.below hB3) (by omega) Hc.out).mono ?_
        rintro e w5 ⟨rfl, rfl⟩
        have Hx := Lib.hid (Hyes.out (by rw [Hc.out]))
        clear Hyes Hno
        go_wp2_with (at_builtin; refine wpList_append_row rfl _ _ rfl w.heap.size _ _ _ (partOf a b true k) [x] rfl rfl (hown3.alloc _) (Row.lit1 _ x) (by omega) (by simp) (by have := hB3.size; simp; omega) ?_)
        intro v' w4 hown' hgrow
        have hb4 : Below w.heap.size w5 w4 := ((Below.refl _ w5).alloc hB3.size _).grown hgrow (by have := hB3.size; simp; omega) (fun i hi => (hown3.lt i hi).1)
        go_wp2
        go_roundw
        case rel => exact ⟨k + 1, by go_num, by omega, by rw [Hx.out, List.length_append]; exact hown', hB3.trans hb4⟩
        case measure => simp [intOf]; omega
    · have hke : k = a.length := by omega
      subst hke
      rw [Hall.out] at hown
      go_wp2
      go_ret
      exact ⟨_, rfl, Row.of_own hown rfl, hbr⟩

set_option maxHeartbeats 2000000 in
set_option maxRecDepth 100000 in
theorem refmeet_bad (va vb : Value) (a b : List Int) (w : World) (ha : Row w w.heap.size va a) (hb : Row w w.heap.size vb b) (hla : a.length ≤ 1048576) (hlb : b.length ≤ 1048576) (h : mayB a = false ∨ (mayB a = true ∧ mayB b = false)) :
    Calls Try.prog 23 #[va, vb] w (Gives w (meetL a b)) := by
  have Ha := Lib.hid ha
  have Hb := Lib.hid hb
  obtain ⟨A1, c1, rfl, _, hcell⟩ := ha
  obtain ⟨A2, c2, rfl, _⟩ := hb
  have Hcell := Lib.hid hcell
  clear hcell
  have hr : meetL a b = [] := by
    rcases h with h | h
    · exact part_no1 h
    · exact part_no2 h.2
  have hout : ∀ w' : World, Below w.heap.size w w' → Gives w (meetL a b) (.returned (.slice (some ⟨w.heap.size, 0, none⟩) 0 0)) w' := fun w' hb => ⟨_, rfl, by rw [hr]; exact ⟨_, 0, rfl, ⟨Nat.le_refl _, by decide, fun e => by cases e⟩, fun k hk => absurd hk (by simp)⟩, hb⟩
  have Hout := Lib.hid hout
  clear hout hr
  have hB0 : Below w.heap.size w (w.alloc (.cells #[] 3)) := (Below.refl _ w).alloc (Nat.le_refl _) _
  by_cases h0 : 0 < a.length
  · have h0' : (0 : Int) < (a.length : Int) := by omega
    rcases h with hma | ⟨hma, hmb⟩
    · have Hma := Lib.hid hma
      clear hma h0
      go_enter Try.func23, Try.ntmps23
      go_wp2
      refine wp_loop_rounds 1 ?_
      rw [rounds_succ]
      go_wp2_with fail
      refine (refmay_is _ a _ ((Ha.out.below hB0).mono hB0.size) (by omega) Hma.out).mono ?_
      rintro e w1 ⟨rfl, hb1⟩
      have hB1 := hB0.trans (hb1.mono hB0.size)
      go_wp2
      go_ret
      exact Hout.out _ hB1
    · have Hma := Lib.hid hma
      have Hmb := Lib.hid hmb
      clear hma hmb h0
      go_enter Try.func23, Try.ntmps23
      go_wp2
      refine wp_loop_rounds 1 ?_
      rw [rounds_succ]
      go_wp2_with fail
      refine (refmay_is _ a _ ((Ha.out.below hB0).mono hB0.size) (by omega) Hma.out).mono ?_
      rintro e w1 ⟨rfl, hb1⟩
      have hB1 := hB0.trans (hb1.mono hB0.size)
      clear hb1
      go_wp2_with fail
      refine (refmay_is _ b _ ((Hb.out.below hB1).mono hB1.size) (by omega) Hmb.out).mono ?_
      rintro e w2 ⟨rfl, hb2⟩
      have hB2 := hB1.trans (hb2.mono hB1.size)
      go_wp2
      go_ret
      exact Hout.out _ hB2
  · have h0' : (a.length : Int) = 0 := by omega
    clear h h0
    go_enter Try.func23, Try.ntmps23
    go_wp2
    refine wp_loop_rounds 1 ?_
    rw [rounds_succ]
    go_wp2
    go_ret
    exact Hout.out _ hB0

theorem refmeet_any (va vb : Value) (a b : List Int) (w : World) (ha : Row w w.heap.size va a) (hb : Row w w.heap.size vb b) (hla : a.length ≤ 1048576) (hlb : b.length ≤ 1048576) :
    Calls Try.prog 23 #[va, vb] w (Gives w (meetL a b)) := by
  rcases hma : mayB a with _ | _
  · exact refmeet_bad va vb a b w ha hb hla hlb (.inl hma)
  · rcases hmb : mayB b with _ | _
    · exact refmeet_bad va vb a b w ha hb hla hlb (.inr ⟨hma, hmb⟩)
    · exact refmeet_in va vb a b w ha hb hla hlb hma hmb

end Wp
end Go.Proofs.Ytmgfhehnehcmpaa
