/- The program's Union, walked: two lists put together, and sorted. -/
import Derived.Test.YtakdcmibiondoaaSSort
import Derived.LoopN
namespace Go.Proofs.Ytakdcmibiondoaa
open Go.RowKit
namespace Wp

set_option maxRecDepth 100000 in
/-- Room for n more, of the nil slice. -/
theorem grow_any (n : Nat) (w : World) (hn : n ≤ 4194304) :
    Calls Try.prog 36 #[.slice none 0 0, .int .i64 n] w fun e w' => ∃ v, e = .returned v ∧ w'.ownsRow w.heap.size 3 1 v 0 [] ∧ Below w.heap.size w w' := by
  by_cases h0 : n = 0
  · subst h0
    refine (Any8.slices_Grow_room Try.growI none 0 0 0 w (by omega) (by omega) (by omega) (by omega)).mono ?_
    rintro e w' ⟨rfl, rfl⟩
    exact ⟨_, rfl, World.ownsRow_nil _ _ _ _, Below.refl _ _⟩
  · obtain ⟨i0, hi, hz0, hz1, hz2⟩ := info_parts info3
    refine (Any8.slices_Grow_grow Try.growI i0 (.int .i64 0) hi hz0 (by omega) none 0 0 n [] w (by omega) (by omega) (by rw [hz2]; omega) (by omega) (by simp) (fun _ => rfl) (fun a h => by cases h)).mono ?_
    rintro e w' ⟨rfl, rfl⟩
    refine ⟨_, rfl, ?_, ((Below.refl _ w).drew).alloc (Nat.le_refl _) _⟩
    have hG : 0 + n ≤ grownCap w (0 + n) 0 3 := grownCap_ge w _ _ _
    have hM : grownCap w (0 + n) 0 3 ≤ maxLen := grownCap_le_maxLen w _ _ _ (by unfold maxLen; omega)
    refine World.ownsRow_made w.drew _ _ (Nat.le_refl _) hM ?_
    show (Array.size (_ ++ _ ++ _)) = _
    have hz : (Value.int IntKind.i64 0).cells.size = 1 := rfl
    rw [Array.size_append, Array.size_append, size_zeroCells, size_zeroCells, hz]
    show 0 + _ + _ = _
    change 0 + (0 + n - 0) * 1 + (grownCap w (0 + n) 0 3 - (0 + n)) * 1 = grownCap w (0 + n) 0 3 * 1
    omega

set_option maxHeartbeats 4000000 in
set_option maxRecDepth 100000 in
theorem concat_any (g : Nat) (va vb : Value) (a b : List Int) (w : World) (hg : Blk w g 22 #[va, vb]) (ha : Row w w.heap.size va a) (hb : Row w w.heap.size vb b) (hla : a.length ≤ 1048576) (hlb : b.length ≤ 1048576) :
    Calls Try.prog 31 #[.slice (some ⟨g, 0, none⟩) 2 2] w (Gives w (a ++ b)) := by
  have Ha := Lib.hid ha
  have Hb := Lib.hid hb
  obtain ⟨A1, c1, rfl, _⟩ := ha
  obtain ⟨A2, c2, rfl, _⟩ := hb
  have hgl := hg.lt
  have q0 := hg.cell 0
  have q1 := hg.cell 1
  simp only [List.getElem?_toArray, List.getElem?_cons_zero, List.getElem?_cons_succ] at q0 q1
  have hla' : (a.length : Int) ≤ 1048576 := by omega
  have hlb' : (b.length : Int) ≤ 1048576 := by omega
  obtain ⟨n, hn⟩ : ∃ n : Nat, n = a.length + b.length := ⟨_, rfl⟩
  have hs : (a.length : Int) + (b.length : Int) = (n : Int) := by omega
  have hn' : (n : Int) ≤ 2097152 := by omega
  have Hn := Lib.hid hn
  clear hn
  have Hg := Lib.hid hg
  clear hg
  go_enter Try.func31, Try.ntmps31
  go_wp2
  refine wp_loop_rounds 3 ?_
  rw [rounds_succ]
  go_wp2
  rw [rounds_succ]
  go_wp2
  rw [rounds_succ]
  go_wp2_with fail
  refine (grow_any n w (by omega)).mono ?_
  rintro e w1 ⟨v1, rfl, hown1, hb1⟩
  have Ha1 := Lib.hid (Ha.out.below hb1)
  have Hb1 := Lib.hid (Hb.out.below hb1)
  have p0 : w1.cell? ⟨g, 0, none⟩ = some (.slice A1 a.length c1) := (hb1.cell hgl).trans q0
  clear q0
  go_wp2
  refine wp_loop_rounds 3 ?_
  rw [rounds_succ]
  go_wp2_with (at_builtin; refine wpList_append_row rfl _ _ rfl w.heap.size w.heap.size _ _ [] a rfl rfl hown1 Ha1.out (by simp) (by omega) hb1.size ?_)
  intro v2 w2 hown2 hg2
  have hb2 : Below w.heap.size w w2 := hb1.grown hg2 hb1.size (fun i hi => (hown1.lt i hi).1)
  have Hb2 := Lib.hid (Hb.out.below hb2)
  have p1 : w2.cell? ⟨g, 1, none⟩ = some (.slice A2 b.length c2) := (hb2.cell hgl).trans q1
  clear q1 p0
  go_wp2
  rw [rounds_succ]
  go_wp2_with (at_builtin; refine wpList_append_row rfl _ _ rfl w.heap.size w.heap.size _ _ a b rfl rfl hown2 Hb2.out (by omega) (by omega) hb2.size ?_)
  intro v3 w3 hown3 hg3
  have hb3 : Below w.heap.size w w3 := hb2.grown hg3 hb2.size (fun i hi => (hown2.lt i hi).1)
  go_wp2
  rw [rounds_succ]
  go_wp2
  go_ret
  exact ⟨_, rfl, Row.of_own hown3 (by simp), hb3⟩

theorem gives_nil (w : World) {w' : World} (h : Below w.heap.size w w') {r : List Int} (hr : r = []) : Gives w r (.returned (.slice none 0 0)) w' := ⟨_, rfl, by rw [hr]; exact Row.nil_ _ _, h⟩
theorem union_yes {a b : List Int} (ha : mayB a = true) (hb : mayB b = true) : unionL a b = sortL (a ++ b) := by unfold unionL; rw [ha, hb]; rfl
theorem union_no1 {a b : List Int} (ha : mayB a = false) : unionL a b = [] := by unfold unionL; rw [ha]; rfl
theorem union_no2 {a b : List Int} (hb : mayB b = false) : unionL a b = [] := by unfold unionL; rw [hb, Bool.and_false]; rfl

set_option maxHeartbeats 4000000 in
set_option maxRecDepth 100000 in
theorem union_any (va vb : Value) (a b : List Int) (w : World) (ha : Row w w.heap.size va a) (hb : Row w w.heap.size vb b) (hla : a.length ≤ 1048576) (hlb : b.length ≤ 1048576) :
    Calls Try.prog 20 #[va, vb] w (Gives w (unionL a b)) := by
  have Ha := Lib.hid ha
  have Hb := Lib.hid hb
  obtain ⟨A1, c1, rfl, _⟩ := ha
  obtain ⟨A2, c2, rfl, _⟩ := hb
  rcases hma : mayB a with _ | _
  · have Hr := Lib.hid (union_no1 (b := b) hma)
    go_enter Try.func20, Try.ntmps20
    go_wp2_with fail
    refine (may_any _ a w Ha.out hla).mono ?_
    rintro e w1 ⟨rfl, hb1⟩
    rw [hma]
    go_wp2
    go_ret
    exact gives_nil w hb1 Hr.out
  · rcases hmb : mayB b with _ | _
    · have Hr := Lib.hid (union_no2 (a := a) hmb)
      go_enter Try.func20, Try.ntmps20
      go_wp2_with fail
      refine (may_any _ a w Ha.out hla).mono ?_
      rintro e w1 ⟨rfl, hb1⟩
      rw [hma]
      go_wp2_with fail
      refine (may_any _ b w1 ((Hb.out.below hb1).mono hb1.size) hlb).mono ?_
      rintro e w2 ⟨rfl, hb2⟩
      rw [hmb]
      go_wp2
      go_ret
      exact gives_nil w (hb1.trans (hb2.mono hb1.size)) Hr.out
    · have Hr := Lib.hid (union_yes hma hmb)
      go_enter Try.func20, Try.ntmps20
      go_wp2_with fail
      refine (may_any _ a w Ha.out hla).mono ?_
      rintro e w1 ⟨rfl, hb1⟩
      rw [hma]
      go_wp2_with fail
      refine (may_any _ b w1 ((Hb.out.below hb1).mono hb1.size) hlb).mono ?_
      rintro e w2 ⟨rfl, hb2⟩
      rw [hmb]
      have hB2 : Below w.heap.size w w2 := hb1.trans (hb2.mono hb1.size)
      clear hb1 hb2
      have hB3 := hB2.alloc hB2.size (.cells #[.slice A1 a.length c1, .slice A2 b.length c2] 22)
      go_wp2_with fail
      have hz3 : w.heap.size ≤ (w2.alloc (.cells #[.slice A1 a.length c1, .slice A2 b.length c2] 22)).heap.size := hB3.size
      refine (concat_any _ _ _ a b _ (Blk.new w2 _ _) ((Ha.out.below hB3).mono hz3) ((Hb.out.below hB3).mono hz3) hla hlb).mono ?_
      rintro e w3 ⟨v3, rfl, hr3, hb3⟩
      have hB4 : Below w.heap.size w w3 := hB3.trans (hb3.mono hz3)
      clear hb3 hB3 hz3
      go_wp2_with fail
      refine (sort_any v3 (a ++ b) w3 hr3 (by rw [List.length_append]; omega)).mono ?_
      rintro e w4 ⟨v4, rfl, hr4, hb4⟩
      go_wp2
      go_ret
      exact ⟨_, rfl, by rw [Hr.out]; exact hr4, hB4.trans (hb4.mono hB4.size)⟩

end Wp
end Go.Proofs.Ytakdcmibiondoaa
