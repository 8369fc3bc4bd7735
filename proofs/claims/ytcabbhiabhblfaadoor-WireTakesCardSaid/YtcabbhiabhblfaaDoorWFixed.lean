/- The calls whose answers the document fixes, walked: they are as it fixes them. -/
import Derived.Test.YtcabbhiabhblfaaDoorWSame
import Derived.Test.YtcabbhiabhblfaaDoorWList
import Derived.Test.YtcabbhiabhblfaaDoorWEnd
namespace Go.Proofs.YtcabbhiabhblfaaDoor
open Go.RowKit
namespace Wp

theorem numB_300 : numB 300 = ⟨#[172, 2]⟩ := by
  unfold numB
  rw [if_neg (by decide)]
  show (⟨(Lib.uvarint 300).toArray⟩ : ByteArray) = _
  rw [Lib.uvarint_big (by decide), Lib.uvarint_small (by decide)]
  rfl
theorem numB_small (n : Nat) (h : n < 128) : numB n = ⟨#[n.toUInt8]⟩ := by
  unfold numB
  rw [if_neg (by omega)]
  show (⟨(Lib.uvarint n).toArray⟩ : ByteArray) = _
  rw [Lib.uvarint_small h]
theorem numB_neg : numB (-1) = ⟨#[]⟩ := if_pos (.inl (by decide))
theorem intB_neg1 : intB (-1) = ⟨#[1]⟩ := by
  unfold intB
  rw [if_neg (by decide), if_pos (by decide)]
  exact numB_small 1 (by decide)
theorem intB_5 : intB 5 = ⟨#[10]⟩ := by
  unfold intB
  rw [if_neg (by decide), if_neg (by decide)]
  exact numB_small 10 (by decide)
theorem intB_neg5 : intB (-5) = ⟨#[9]⟩ := by
  unfold intB
  rw [if_neg (by decide), if_pos (by decide)]
  exact numB_small 9 (by decide)
theorem ints_lit : rowB intB [5, -5] = ⟨#[2, 10, 9]⟩ := by
  have h := numB_small 2 (by decide)
  have e : (([5, -5] : List Int).length : Int) = ((2 : Nat) : Int) := rfl
  unfold rowB
  rw [e, h]
  simp [rowL, intB_5, intB_neg5]
theorem nums_lit : rowB numB [1, 2, 3] = ⟨#[3, 1, 2, 3]⟩ := by
  have h := numB_small 3 (by decide)
  have h1 := numB_small 1 (by decide)
  have h2 := numB_small 2 (by decide)
  have e : (([1, 2, 3] : List Int).length : Int) = ((3 : Nat) : Int) := rfl
  unfold rowB
  rw [e, h]
  have e1 : (1 : Int) = ((1 : Nat) : Int) := rfl
  have e2 : (2 : Int) = ((2 : Nat) : Int) := rfl
  have e3 : (3 : Int) = ((3 : Nat) : Int) := rfl
  rw [e1, e2, e3]
  simp only [rowL, h, h1, h2]
  rfl

/-- The bytes of the document's example. -/
def exT : ByteArray := ⟨#[172, 2, 1, 2, 10, 9, 128, 0]⟩
def exS : ByteArray := ⟨#[3, 1, 2, 3]⟩
theorem ex_cat : ((⟨#[172, 2]⟩ ++ ⟨#[1]⟩ ++ ⟨#[2, 10, 9]⟩ ++ ⟨#[128, 0]⟩ : ByteArray)) = exT := by decide
theorem ex1 : stepN exT.data.toList (0, none) = (300, (2, none)) := by decide
theorem ex2 : stepI exT.data.toList (2, none) = (-1, (3, none)) := by decide
theorem ex3 : listS stepI exT.data.toList 2 (3, none) = (some [5, -5], (6, none)) := by decide
theorem ex4 : stepN exT.data.toList (6, none) = (0, (6, some (6, 2))) := by decide
theorem ex5 : endS exT.data.toList (6, some (6, 2)) = (11, 6) := by decide
theorem ex6 : listS stepNI exS.data.toList 2 (0, none) = (none, (1, some (0, 3))) := by decide
theorem ex7 : endS exS.data.toList (1, some (0, 3)) = (12, 0) := by decide

theorem Row.lit2 (W : World) (x y : Int) : Row (W.alloc (.cells #[.int .i64 x, .int .i64 y] 3)) (W.heap.size + 1) (.slice (some ⟨W.heap.size, 0, none⟩) 2 2) [x, y] := by
  refine ⟨_, 2, rfl, fun k hk => ⟨⟨W.heap.size, 0, none⟩, rfl, by show W.heap.size < _; omega, ?_⟩⟩
  have hb := Blk.new W 3 #[.int .i64 x, .int .i64 y]
  match k, hk with
  | 0, _ => exact hb.cell 0
  | 1, _ => exact hb.cell 1
theorem Row.lit3 (W : World) (x y z : Int) : Row (W.alloc (.cells #[.int .i64 x, .int .i64 y, .int .i64 z] 3)) (W.heap.size + 1) (.slice (some ⟨W.heap.size, 0, none⟩) 3 3) [x, y, z] := by
  refine ⟨_, 3, rfl, fun k hk => ⟨⟨W.heap.size, 0, none⟩, rfl, by show W.heap.size < _; omega, ?_⟩⟩
  have hb := Blk.new W 3 #[.int .i64 x, .int .i64 y, .int .i64 z]
  match k, hk with
  | 0, _ => exact hb.cell 0
  | 1, _ => exact hb.cell 1
  | 2, _ => exact hb.cell 2

set_option maxHeartbeats 4000000 in
set_option maxRecDepth 100000 in
theorem fixed_any (E : Nat → Addr) (w : World) (hM : Met E w.heap.size w) :
    Calls Tryd.prog 10 #[] w fun e w' => e = .returned (.bool true) ∧ Below w.heap.size w w' := by
  go_enter Tryd.func10, Tryd.ntmps10
  go_wp2_with fail
  refine (num_any _ _).mono ?_
  rintro e w1 ⟨rfl, hb1⟩
  rw [numB_300]
  go_wp2_with fail
  refine (int_any _ _).mono ?_
  rintro e w2 ⟨rfl, hb2⟩
  rw [intB_neg1]
  have hb2' : Below w.heap.size w w2 := hb1.trans (hb2.mono hb1.size)
  clear hb1 hb2
  go_wp2_with fail
  refine (ints_any _ [5, -5] _ (by decide) (by have h := Row.lit2 w2 5 (-5); simpa using h)).mono ?_
  rintro e w3 ⟨rfl, hb3⟩
  rw [ints_lit]
  have hb3' : Below w.heap.size w w3 := (hb2'.alloc hb2'.size _).trans (hb3.mono (by have := hb2'.size; simp; omega))
  clear hb2' hb3
  go_wp2_with fail
  refine (read_any _ _).mono ?_
  rintro e w4 ⟨rfl, hw4⟩
  rw [ex_cat] at hw4
  have hrd : Rd E exT w3.heap.size (0, none) w4 := by rw [← hw4]; exact Blk.new _ _ _
  have hb4 : Below w.heap.size w w4 := by rw [← hw4]; exact hb3'.alloc hb3'.size _
  have hBb : w.heap.size ≤ w3.heap.size := hb3'.size
  clear hw4 hb3'
  generalize w3.heap.size = b at *
  clear w3
  have hTb : exT.size ≤ 1099511627776 := by decide
  have hM4 := hM.below hb4
  have c5 := rnum_any E w.heap.size exT b (0, none) w4 hM4 hrd (by decide) hTb
  rw [ex1] at c5
  have c5' : Calls Tryd.prog 23 #[.pointer (some ⟨b, 0, none⟩)] w4 (Took E w.heap.size exT b 300 (2, none) w4) := c5
  clear c5 hrd
  go_wp2_with fail
  refine c5'.mono ?_
  rintro e w5 ⟨rfl, hl5⟩
  clear c5' hM4
  have hb5 := hb4.trans (only_below hl5.only hb4.size hBb)
  clear hb4
  have hM5 := hM.below hb5
  have c6 := rint_any E w.heap.size exT b (2, none) w5 hM5 hl5.rd (by decide) hTb
  rw [ex2] at c6
  have C6 := Lib.hid c6
  clear c6
  go_wp2_with fail
  refine C6.out.mono ?_
  rintro e w6 ⟨rfl, hl6⟩
  have hb6 := hb5.trans (only_below hl6.only hb5.size hBb)
  clear C6 hM5 hl5 hb5
  have hM6 := hM.below hb6
  have c7 := rints_any E w.heap.size exT b 2 (3, none) w6 hM6 hBb hl6.rd (by decide) hTb
  rw [ex3] at c7
  have C7 := Lib.hid c7
  clear c7
  go_wp2_with fail
  refine C7.out.mono ?_
  rintro e w7 ⟨v, rfl, hown, hl7⟩
  have hb7 := hb6.trans (only_below hl7.only hb6.size hBb)
  have hne7 : v.ownBlock ≠ some b := fun h => by have h1 := (hown.lt b h).1; have h2 := hl6.rd.lt; omega
  have Hown7 := Lib.hid hown
  clear C7 hM6 hl6 hb6 hown
  have hM7 := hM.below hb7
  have c8 := rnum_any E w.heap.size exT b (6, none) w7 hM7 hl7.rd (by decide) hTb
  rw [ex4] at c8
  have C8 : Hid (Calls Tryd.prog 23 #[.pointer (some ⟨b, 0, none⟩)] w7 (Took E w.heap.size exT b 0 (6, some (6, 2)) w7)) := c8
  clear c8
  go_wp2_with fail
  refine C8.out.mono ?_
  rintro e w8 ⟨rfl, hl8⟩
  have hb8 := hb7.trans (only_below hl8.only hb7.size hBb)
  have Hown8 := Lib.hid (Hown7.out.kept hl8.only (.inr hne7))
  clear C8 hM7 hl7 hb7 Hown7 hne7
  have hM8 := hM.below hb8
  have c9 := end_any E w.heap.size exT b (6, some (6, 2)) (fun x hx => by cases hx; decide) (by decide) hTb w8 hM8 hBb hl8.rd
  rw [ex5] at c9
  have C9 : Hid (Calls Tryd.prog 27 #[.pointer (some ⟨b, 0, none⟩)] w8 fun e w' => e = .returned (.tuple #[.int .i64 11, .int .i64 6]) ∧ Below w8.heap.size w8 w') := c9
  clear c9
  go_wp2_with fail
  refine C9.out.mono ?_
  rintro e w9 ⟨rfl, hb9⟩
  have hb9' := hb8.trans (hb9.mono hb8.size)
  have Hown9 := Lib.hid (Hown8.out.kept (only_of_below hb9 none) (by cases v.ownBlock <;> simp))
  clear C9 hM8 hl8 hb8 Hown8 hb9 hBb
  go_wp2_with fail
  refine (nums_any _ [1, 2, 3] _ (by decide) (by have h := Row.lit3 w9 1 2 3; simpa using h)).mono ?_
  rintro e w10 ⟨rfl, hb10⟩
  rw [nums_lit]
  have Hown10 := Lib.hid ((Hown9.out.alloc (.cells #[.int .i64 1, .int .i64 2, .int .i64 3] 3)).kept (only_of_below hb10 none) (by cases v.ownBlock <;> simp))
  have hb10' : Below w.heap.size w w10 := (hb9'.alloc hb9'.size _).trans (hb10.mono (by have := hb9'.size; simp; omega))
  clear hb9' hb10 Hown9
  go_wp2_with fail
  refine (read_any _ _).mono ?_
  rintro e w11 ⟨rfl, hw11⟩
  have hrd : Rd E exS w10.heap.size (0, none) w11 := by rw [← hw11]; exact Blk.new _ _ _
  have hb11 : Below w.heap.size w w11 := by rw [← hw11]; exact hb10'.alloc hb10'.size _
  have Hown11 := Lib.hid (show w11.ownsRow _ _ _ _ _ _ by rw [← hw11]; exact Hown10.out.alloc _)
  have hBd : w.heap.size ≤ w10.heap.size := hb10'.size
  have hne11 : v.ownBlock ≠ some w10.heap.size := fun h => by have h1 := (Hown10.out.lt _ h).2; omega
  clear hw11 hb10' Hown10
  generalize w10.heap.size = d at *
  clear w10
  have hTd : exS.size ≤ 1099511627776 := by decide
  have hM11 := hM.below hb11
  have c12 := rnums_any E w.heap.size exS d 2 (0, none) w11 hM11 hBd hrd (by decide) hTd
  rw [ex6] at c12
  have C12 := Lib.hid c12
  clear c12
  go_wp2_with fail
  refine C12.out.mono ?_
  rintro e w12 ⟨m, rfl, hm, hl12⟩
  have hm' : m = .slice none 0 0 := hm
  subst hm'
  have hb12 := hb11.trans (only_below hl12.only hb11.size hBd)
  have Hown12 := Lib.hid (Hown11.out.kept hl12.only (.inr hne11))
  clear C12 hM11 hb11 Hown11 hne11 hm hrd
  have hM12 := hM.below hb12
  have c13 := end_any E w.heap.size exS d (1, some (0, 3)) (fun x hx => by cases hx; decide) (by decide) hTd w12 hM12 hBd hl12.rd
  rw [ex7] at c13
  have C13 : Hid (Calls Tryd.prog 27 #[.pointer (some ⟨d, 0, none⟩)] w12 fun e w' => e = .returned (.tuple #[.int .i64 12, .int .i64 0]) ∧ Below w12.heap.size w12 w') := c13
  clear c13
  go_wp2_with fail
  refine C13.out.mono ?_
  rintro e w13 ⟨rfl, hb13⟩
  have hb13' := hb12.trans (hb13.mono hb12.size)
  have Hown13 := Lib.hid (Hown12.out.kept (only_of_below hb13 none) (by cases v.ownBlock <;> simp))
  clear C13 hM12 hl12 hb12 Hown12 hb13 hBd
  go_wp2_with fail
  refine (end_nil _).mono ?_
  rintro e w14 ⟨rfl, rfl⟩
  go_wp2_with fail
  refine (num_any _ _).mono ?_
  rintro e w15 ⟨rfl, hb15⟩
  rw [numB_300]
  have hb15' := hb13'.trans (hb15.mono hb13'.size)
  have Hown15 := Lib.hid (Hown13.out.kept (only_of_below hb15 none) (by cases v.ownBlock <;> simp))
  clear hb13' hb15 Hown13
  go_wp2_with fail
  refine (int_any _ _).mono ?_
  rintro e w16 ⟨rfl, hb16⟩
  rw [intB_neg1]
  have hb16' := hb15'.trans (hb16.mono hb15'.size)
  have Hown16 := Lib.hid (Hown15.out.kept (only_of_below hb16 none) (by cases v.ownBlock <;> simp))
  clear hb15' hb16 Hown15
  go_wp2_with fail
  refine (num_any _ _).mono ?_
  rintro e w17 ⟨rfl, hb17⟩
  rw [numB_neg]
  have hb17' := hb16'.trans (hb17.mono hb16'.size)
  have Hown17 := Lib.hid (Hown16.out.kept (only_of_below hb17 none) (by cases v.ownBlock <;> simp))
  clear hb16' hb17 Hown16
  go_wp2_with fail
  have hl : Row (w17.alloc (.cells #[.int .i64 5, .int .i64 (-5)] 3)) (w17.alloc (.cells #[.int .i64 5, .int .i64 (-5)] 3)).heap.size v [5, -5] := Row.of_own (Hown17.out.alloc _) rfl
  have hr : Row (w17.alloc (.cells #[.int .i64 5, .int .i64 (-5)] 3)) (w17.alloc (.cells #[.int .i64 5, .int .i64 (-5)] 3)).heap.size (.slice (some ⟨w17.heap.size, 0, none⟩) 2 2) [5, -5] := by
    have h := Row.lit2 w17 5 (-5); simpa using h
  have hs := same_any v _ [5, -5] [5, -5] _ hl hr (by decide) (by decide)
  have es : sameB [5, -5] [5, -5] = true := by decide
  rw [es] at hs
  have hb18 := hb17'.alloc hb17'.size (.cells #[.int .i64 5, .int .i64 (-5)] 3)
  have Hs := Lib.hid hs
  clear hs hl hr es Hown17 hb17'
  refine Hs.out.mono ?_
  rintro e w18 ⟨rfl, q, hq⟩
  have hb18' : Below w.heap.size w w18 := by rw [hq]; exact below_drewN hb18 q
  clear Hs hb18 hq
  go_wp2_with fail
  refine (rnum_nil _).mono ?_
  rintro e w19 ⟨rfl, rfl⟩
  go_wp2
  go_ret
  exact ⟨rfl, hb18'⟩

end Wp
end Go.Proofs.YtcabbhiabhblfaaDoor
