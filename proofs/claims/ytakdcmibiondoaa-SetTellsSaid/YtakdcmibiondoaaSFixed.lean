/- The calls whose answers the document fixes, walked: they are as it fixes them. -/
import Derived.Test.YtakdcmibiondoaaSHas
import Derived.Test.YtakdcmibiondoaaSSame
namespace Go.Proofs.Ytakdcmibiondoaa
open Go.RowKit
namespace Wp

/-- A law answers true, and what was there before is as it was. -/
def Truly (w : World) (e : Ending) (w' : World) : Prop := e = .returned (.bool true) ∧ Below w.heap.size w w'

theorem same_says (va vb : Value) (a b : List Int) (w : World) (ha : Row w w.heap.size va a) (hb : Row w w.heap.size vb b) (hla : a.length ≤ 1048576) (hlb : b.length ≤ 1048576) :
    Calls Try.prog 15 #[va, vb] w (Says w (sameB a b)) :=
  (same_any va vb a b w ha hb hla hlb).mono fun _ _ ⟨h1, q, h2⟩ => ⟨h1, by rw [h2]; exact below_drewN (Below.refl _ _) q⟩
theorem same_true {a b : List Int} (h : a = b) : sameB a b = true := by simp [sameB, h]

theorem Row.up {w w' : World} {v : Value} {l : List Int} (h : Row w w.heap.size v l) (hb : Below w.heap.size w w') : Row w' w'.heap.size v l := (h.below hb).mono hb.size
theorem below_next {B : Nat} {a b c : World} (h : Below B a b) (hB : B ≤ a.heap.size) (k : Below b.heap.size b c) : Below B a c := h.trans (k.mono (Nat.le_trans hB h.size))

theorem Row.here {w : World} {o : Obj} {v : Value} {l : List Int} (h : Row (w.alloc o) (w.heap.size + 1) v l) : Row (w.alloc o) (w.alloc o).heap.size v l := by
  have e : (w.alloc o).heap.size = w.heap.size + 1 := by simp
  rw [e]; exact h
theorem Row.upA {w : World} {v : Value} {l : List Int} (h : Row w w.heap.size v l) (o : Obj) : Row (w.alloc o) (w.alloc o).heap.size v l := h.up ((Below.refl _ w).alloc (Nat.le_refl _) o)

set_option maxHeartbeats 8000000 in
set_option maxRecDepth 100000 in
theorem fixed_any (w : World) : Calls Try.prog 8 #[] w (Truly w) := by
  go_enter Try.func8, Try.ntmps8
  go_wp2_with fail
  have ha1 : Row ((w.alloc (.cells #[.int .i64 0, .int .i64 2, .int .i64 5] 3)).alloc (.cells #[.int .i64 2] 3)) ((w.alloc (.cells #[.int .i64 0, .int .i64 2, .int .i64 5] 3)).alloc (.cells #[.int .i64 2] 3)).heap.size (.slice (some ⟨w.heap.size, 0, none⟩) 3 3) [0, 2, 5] := (Row.lit3 _ 0 2 5).here.upA _
  have hc1 : Row ((w.alloc (.cells #[.int .i64 0, .int .i64 2, .int .i64 5] 3)).alloc (.cells #[.int .i64 2] 3)) ((w.alloc (.cells #[.int .i64 0, .int .i64 2, .int .i64 5] 3)).alloc (.cells #[.int .i64 2] 3)).heap.size (.slice (some ⟨w.heap.size + 1, 0, none⟩) 1 1) [2] := by
    have h := (Row.lit1 (w.alloc (.cells #[.int .i64 0, .int .i64 2, .int .i64 5] 3)) 2).here
    rw [show (w.alloc (.cells #[.int .i64 0, .int .i64 2, .int .i64 5] 3)).heap.size = w.heap.size + 1 from by simp] at h
    exact h
  refine (minus_any _ _ [0, 2, 5] [2] _ ha1 hc1 (by decide) (by decide)).mono ?_
  rintro e w1 ⟨v1, rfl, hr1, hb1⟩
  have hB1 : Below w.heap.size w w1 := below_next (((Below.refl w.heap.size w).alloc (Nat.le_refl _) (.cells #[.int .i64 0, .int .i64 2, .int .i64 5] 3)).alloc (by simp) (.cells #[.int .i64 2] 3)) (Nat.le_refl _) hb1
  rw [show minusL [0, 2, 5] [2] = [0, 5] from by decide] at hr1
  clear ha1 hc1 hb1
  go_wp2_with fail
  refine (same_says _ _ [0, 5] [0, 5] _ (hr1.upA _) (Row.lit2 _ 0 5).here (by decide) (by decide)).mono ?_
  rintro e w2 ⟨rfl, hb2⟩
  have hB2 : Below w.heap.size w w2 := below_next (hB1.alloc hB1.size _) (Nat.le_refl _) hb2
  rw [same_true rfl]
  clear hr1 hb2 hB1
  go_wp2_with fail
  have ha3 : Row ((w2.alloc (.cells #[.int .i64 0, .int .i64 5] 3)).alloc (.cells #[.int .i64 2, .int .i64 5] 3)) ((w2.alloc (.cells #[.int .i64 0, .int .i64 5] 3)).alloc (.cells #[.int .i64 2, .int .i64 5] 3)).heap.size (.slice (some ⟨w2.heap.size, 0, none⟩) 2 2) [0, 5] := (Row.lit2 _ 0 5).here.upA _
  have hc3 : Row ((w2.alloc (.cells #[.int .i64 0, .int .i64 5] 3)).alloc (.cells #[.int .i64 2, .int .i64 5] 3)) ((w2.alloc (.cells #[.int .i64 0, .int .i64 5] 3)).alloc (.cells #[.int .i64 2, .int .i64 5] 3)).heap.size (.slice (some ⟨w2.heap.size + 1, 0, none⟩) 2 2) [2, 5] := by
    have h := (Row.lit2 (w2.alloc (.cells #[.int .i64 0, .int .i64 5] 3)) 2 5).here
    rw [show (w2.alloc (.cells #[.int .i64 0, .int .i64 5] 3)).heap.size = w2.heap.size + 1 from by simp] at h
    exact h
  refine (union_any _ _ [0, 5] [2, 5] _ ha3 hc3 (by decide) (by decide)).mono ?_
  rintro e w3 ⟨v3, rfl, hr3, hb3⟩
  have hB3 : Below w.heap.size w w3 := below_next ((hB2.alloc hB2.size (.cells #[.int .i64 0, .int .i64 5] 3)).alloc (by have := hB2.size; simp; omega) (.cells #[.int .i64 2, .int .i64 5] 3)) (Nat.le_refl _) hb3
  rw [show unionL [0, 5] [2, 5] = [0, 2, 5] from by decide] at hr3
  clear ha3 hc3 hb3 hB2
  go_wp2_with fail
  refine (same_says _ _ [0, 2, 5] [0, 2, 5] _ (hr3.upA _) (Row.lit3 _ 0 2 5).here (by decide) (by decide)).mono ?_
  rintro e w4 ⟨rfl, hb4⟩
  have hB4 : Below w.heap.size w w4 := below_next (hB3.alloc hB3.size _) (Nat.le_refl _) hb4
  rw [same_true rfl]
  clear hr3 hb4 hB3
  go_wp2_with fail
  have ha5 : Row ((w4.alloc (.cells #[.int .i64 0, .int .i64 5] 3)).alloc (.cells #[.int .i64 2, .int .i64 5] 3)) ((w4.alloc (.cells #[.int .i64 0, .int .i64 5] 3)).alloc (.cells #[.int .i64 2, .int .i64 5] 3)).heap.size (.slice (some ⟨w4.heap.size, 0, none⟩) 2 2) [0, 5] := (Row.lit2 _ 0 5).here.upA _
  have hc5 : Row ((w4.alloc (.cells #[.int .i64 0, .int .i64 5] 3)).alloc (.cells #[.int .i64 2, .int .i64 5] 3)) ((w4.alloc (.cells #[.int .i64 0, .int .i64 5] 3)).alloc (.cells #[.int .i64 2, .int .i64 5] 3)).heap.size (.slice (some ⟨w4.heap.size + 1, 0, none⟩) 2 2) [2, 5] := by
    have h := (Row.lit2 (w4.alloc (.cells #[.int .i64 0, .int .i64 5] 3)) 2 5).here
    rw [show (w4.alloc (.cells #[.int .i64 0, .int .i64 5] 3)).heap.size = w4.heap.size + 1 from by simp] at h
    exact h
  refine (meet_any _ _ [0, 5] [2, 5] _ ha5 hc5 (by decide) (by decide)).mono ?_
  rintro e w5 ⟨v5, rfl, hr5, hb5⟩
  have hB5 : Below w.heap.size w w5 := below_next ((hB4.alloc hB4.size (.cells #[.int .i64 0, .int .i64 5] 3)).alloc (by have := hB4.size; simp; omega) (.cells #[.int .i64 2, .int .i64 5] 3)) (Nat.le_refl _) hb5
  rw [show meetL [0, 5] [2, 5] = [5] from by decide] at hr5
  clear ha5 hc5 hb5 hB4
  go_wp2_with fail
  refine (same_says _ _ [5] [5] _ (hr5.upA _) (Row.lit1 _ 5).here (by decide) (by decide)).mono ?_
  rintro e w6 ⟨rfl, hb6⟩
  have hB6 : Below w.heap.size w w6 := below_next (hB5.alloc hB5.size _) (Nat.le_refl _) hb6
  rw [same_true rfl]
  clear hr5 hb6 hB5
  go_wp2_with fail
  refine (has_any _ [0, 5] 5 _ (Row.lit2 _ 0 5).here (by decide)).mono ?_
  rintro e w7 ⟨rfl, hb7⟩
  have hB7 : Below w.heap.size w w7 := below_next (hB6.alloc hB6.size _) (Nat.le_refl _) hb7
  rw [show hasB [0, 5] 5 = true from by decide]
  clear hb7 hB6
  go_wp2_with fail
  refine (has_any _ [0, 5] 4 _ (Row.lit2 _ 0 5).here (by decide)).mono ?_
  rintro e w8 ⟨rfl, hb8⟩
  have hB8 : Below w.heap.size w w8 := below_next (hB7.alloc hB7.size _) (Nat.le_refl _) hb8
  rw [show hasB [0, 5] 4 = false from by decide]
  clear hb8 hB7
  go_wp2_with fail
  refine (may_any _ [] _ (Row.nil_ _ _) (by decide)).mono ?_
  rintro e w9 ⟨rfl, hb9⟩
  have hB9 : Below w.heap.size w w9 := below_next hB8 (Nat.le_refl _) hb9
  rw [show mayB [] = true from by decide]
  clear hb9 hB8
  go_wp2_with fail
  refine (may_any _ [1, 1] _ (Row.lit2 _ 1 1).here (by decide)).mono ?_
  rintro e w10 ⟨rfl, hb10⟩
  have hB10 : Below w.heap.size w w10 := below_next (hB9.alloc hB9.size _) (Nat.le_refl _) hb10
  rw [show mayB [1, 1] = false from by decide]
  clear hb10 hB9
  go_wp2_with fail
  refine (all_any 3 _).mono ?_
  rintro e w11 ⟨v11, rfl, hr11, hb11⟩
  have hB11 : Below w.heap.size w w11 := below_next hB10 (Nat.le_refl _) hb11
  rw [show allL 3 = [0, 1, 2] from by decide] at hr11
  clear hb11 hB10
  go_wp2_with fail
  refine (same_says _ _ [0, 1, 2] [0, 1, 2] _ (hr11.upA _) (Row.lit3 _ 0 1 2).here (by decide) (by decide)).mono ?_
  rintro e w12 ⟨rfl, hb12⟩
  have hB12 : Below w.heap.size w w12 := below_next (hB11.alloc hB11.size _) (Nat.le_refl _) hb12
  rw [same_true rfl]
  clear hr11 hb12 hB11
  go_wp2_with fail
  refine (sub_any _ _ [] [1] _ (Row.nil_ _ _) (Row.lit1 _ 1).here (by decide) (by decide)).mono ?_
  rintro e w13 ⟨rfl, hb13⟩
  have hB13 : Below w.heap.size w w13 := below_next (hB12.alloc hB12.size _) (Nat.le_refl _) hb13
  rw [show subB [] [1] = true from by decide]
  clear hb13 hB12
  go_wp2_with fail
  refine (sub_any _ _ [1] [] _ (Row.lit1 _ 1).here (Row.nil_ _ _) (by decide) (by decide)).mono ?_
  rintro e w14 ⟨rfl, hb14⟩
  have hB14 : Below w.heap.size w w14 := below_next (hB13.alloc hB13.size _) (Nat.le_refl _) hb14
  rw [show subB [1] [] = false from by decide]
  clear hb14 hB13
  go_wp2_with fail
  refine (sort_any _ [5, -1, 2, 5] _ (Row.lit4 _ 5 (-1) 2 5).here (by decide)).mono ?_
  rintro e w15 ⟨v15, rfl, hr15, hb15⟩
  have hB15 : Below w.heap.size w w15 := below_next (hB14.alloc hB14.size _) (Nat.le_refl _) hb15
  rw [show sortL [5, -1, 2, 5] = [2, 5] from by decide] at hr15
  clear hb15 hB14
  go_wp2_with fail
  refine (same_says _ _ [2, 5] [2, 5] _ (hr15.upA _) (Row.lit2 _ 2 5).here (by decide) (by decide)).mono ?_
  rintro e w16 ⟨rfl, hb16⟩
  have hB16 : Below w.heap.size w w16 := below_next (hB15.alloc hB15.size _) (Nat.le_refl _) hb16
  rw [same_true rfl]
  clear hr15 hb16 hB15
  go_wp2_with fail
  refine (union_any _ _ [2, 1] [] _ (Row.lit2 _ 2 1).here (Row.nil_ _ _) (by decide) (by decide)).mono ?_
  rintro e w17 ⟨v17, rfl, hr17, hb17⟩
  have hB17 : Below w.heap.size w w17 := below_next (hB16.alloc hB16.size _) (Nat.le_refl _) hb17
  rw [show unionL [2, 1] [] = [] from by decide] at hr17
  clear hb17 hB16
  obtain ⟨A, c, rfl, _⟩ := hr17
  go_wp2
  go_ret
  exact ⟨rfl, hB17⟩

end Wp
end Go.Proofs.Ytakdcmibiondoaa
