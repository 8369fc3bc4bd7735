/- The program's part (Meet, Minus), walked: both lists rise, and one goes along the other. -/
import Derived.Test.YtimmmfppehmfcaaGreatDoorSMay
import Derived.Lib.OwnBridge
import Derived.Maps.AppendAt
import Derived.DataElems
namespace Go.Proofs.YtimmmfppehmfcaaGreatDoor
open Go.RowKit
namespace Wp

/-- Those of a set that are no less than x. -/
def from_ (x : Int) : List Int → List Int
  | [] => []
  | y :: r => if y < x then from_ x r else y :: r
theorem from_lt {x y : Int} {r : List Int} (h : y < x) : from_ x (y :: r) = from_ x r := by rw [from_, if_pos h]
theorem from_ge {x y : Int} {r : List Int} (h : ¬ y < x) : from_ x (y :: r) = y :: r := by rw [from_, if_neg h]
theorem from_sub (x : Int) : ∀ l, (from_ x l).Sublist l
  | [] => List.Sublist.refl _
  | y :: r => by
    unfold from_
    split
    · exact (from_sub x r).cons y
    · exact List.Sublist.refl _
theorem mem_from (x z : Int) (hz : x ≤ z) : ∀ l, (z ∈ from_ x l ↔ z ∈ l)
  | [] => Iff.rfl
  | y :: r => by
    unfold from_
    split
    · rw [mem_from x z hz r, List.mem_cons]
      constructor
      · exact .inr
      · rintro (e | h)
        · omega
        · exact h
    · exact Iff.rfl
/-- The least that is left is x just if x is among them. -/
theorem head_from (x : Int) (l : List Int) (h : l.Pairwise (· < ·)) (y : Int) (r : List Int) (he : l = y :: r) (hy : ¬ y < x) : (x ∈ l ↔ y = x) := by
  subst he
  rw [List.pairwise_cons] at h
  rw [List.mem_cons]
  constructor
  · rintro (e | hx)
    · exact e.symm
    · have := h.1 x hx; omega
  · intro e; exact .inl e.symm

/-- What is left of b serves for all of a that is to come. -/
def Serves (a b b' : List Int) (k : Nat) : Prop := b'.Pairwise (· < ·) ∧ b'.length ≤ b.length ∧ ∀ i, k ≤ i → i < a.length → (a.getD i 0 ∈ b ↔ a.getD i 0 ∈ b')
theorem serves_start {a b : List Int} (hb : IsSet b) : Serves a b b 0 := ⟨hb.1, Nat.le_refl _, fun _ _ _ => Iff.rfl⟩
theorem serves_from {a b b' : List Int} {k : Nat} (ha : IsSet a) (hk : k < a.length) (h : Serves a b b' k) : Serves a b (from_ (a.getD k 0) b') k := by
  have hs := from_sub (a.getD k 0) b'
  refine ⟨h.1.sublist hs, Nat.le_trans hs.length_le h.2.1, fun i hi hil => ?_⟩
  rw [h.2.2 i hi hil, mem_from _ _ ?_]
  rcases Nat.lt_or_ge k i with hlt | hge
  · have := List.pairwise_iff_getElem.1 ha.1 k i hk hil hlt
    simp [List.getD, hk, hil]
    omega
  · have : i = k := by omega
    subst this
    exact Int.le_refl _
theorem serves_next {a b b' : List Int} {k : Nat} (h : Serves a b b' k) : Serves a b b' (k + 1) := ⟨h.1, h.2.1, fun i hi => h.2.2 i (by omega)⟩
/-- Nothing is left: the number isn't in b. -/
theorem serves_nil {a b : List Int} {k : Nat} (hk : k < a.length) (h : Serves a b [] k) : b.contains (a.getD k 0) = false := by
  have := h.2.2 k (Nat.le_refl _) hk
  rw [← Bool.not_eq_true, List.contains_iff_mem, this]
  simp
theorem serves_cons {a b : List Int} {k : Nat} {y : Int} {r : List Int} (hk : k < a.length) (h : Serves a b (y :: r) k) (hy : ¬ y < a.getD k 0) : b.contains (a.getD k 0) = decide (y = a.getD k 0) := by
  have h1 := h.2.2 k (Nat.le_refl _) hk
  rw [head_from _ _ h.1 y r rfl hy] at h1
  rw [Bool.eq_iff_iff, List.contains_iff_mem, h1, decide_eq_true_iff]

/-- A row without its first. -/
theorem Row.tail {w : World} {B : Nat} {v : Value} {y : Int} {r : List Int} (h : Row w B v (y :: r)) : ∃ ad c, v = .slice (some ad) (r.length + 1) (c + 1) ∧ w.cell? ad = some (.int .i64 y) ∧ ad.block < B ∧ r.length ≤ c ∧ c + 1 ≤ maxLen ∧ ∀ A' : Option Addr, (A' = some (ad.add 1) ∨ (c = 0 ∧ A' = some ad)) → Row w B (.slice A' r.length c) r := by
  obtain ⟨A, c, rfl, ⟨h1, h2, h3⟩, hk⟩ := h
  obtain ⟨ad, rfl, hab, hc⟩ := hk 0 (by simp)
  rw [add_zero] at hc
  obtain ⟨c', rfl⟩ : ∃ c', c = c' + 1 := ⟨c - 1, by simp at h1; omega⟩
  refine ⟨ad, c', by simp, by simpa using hc, hab, by simpa using h1, h2, fun A' hA => ⟨A', c', rfl, ⟨by simpa using h1, by omega, fun e => by rcases hA with h | ⟨_, h⟩ <;> rw [e] at h <;> cases h⟩, fun k hkl => ?_⟩⟩
  rcases hA with rfl | ⟨h0, _⟩
  · obtain ⟨ad', hA', hab', hc'⟩ := hk (k + 1) (by simp; omega)
    injection hA' with hA'
    subst hA'
    refine ⟨_, rfl, by rw [add_block]; exact hab, ?_⟩
    have e : (ad.add 1).add k = ad.add (k + 1) := by rw [Addr.add_add, Nat.add_comm]
    rw [e, hc']
    simp
  · simp at h1; omega

set_option maxHeartbeats 8000000 in
set_option maxRecDepth 100000 in
theorem part_in (va vb : Value) (a b : List Int) (within : Bool) (w : World) (ha : Row w w.heap.size va a) (hb : Row w w.heap.size vb b) (hla : a.length ≤ 1048576) (hlb : b.length ≤ 1048576) (hma : mayB a = true) (hmb : mayB b = true) :
    Calls Tryz.prog 70 #[va, vb, .bool within] w (Gives w (partL a b within)) := by
  have Ha := Lib.hid ha
  have Hb := Lib.hid hb
  obtain ⟨A1, c1, rfl, _, hcell⟩ := ha
  obtain ⟨A2, c2, rfl, _⟩ := hb
  have Hcell := Lib.hid hcell
  clear hcell
  have Hall := Lib.hid (partOf_all a b within hma hmb)
  have Hsa := Lib.hid (mayB_iff.1 hma)
  have Hsb := Lib.hid (mayB_iff.1 hmb)
  go_enter Tryz.func70, Tryz.ntmps70
  go_wp2_with fail
  refine (may_any _ a w Ha.out (Nat.le_trans hla (by decide))).mono ?_
  rintro e w1 ⟨rfl, hb1⟩
  rw [hma]
  go_wp2_with fail
  refine (may_any _ b w1 ((Hb.out.below hb1).mono hb1.size) (Nat.le_trans hlb (by decide))).mono ?_
  rintro e w2 ⟨rfl, hb2⟩
  rw [hmb]
  have hB2 : Below w.heap.size w w2 := hb1.trans (hb2.mono hb1.size)
  clear hb1 hb2 hma hmb
  go_wp2
  go_loopw [1, 7, 21] (fun vb' vl vk wr => ∃ (k : Nat) (b' : List Int), vk = .int .i64 k ∧ k ≤ a.length ∧ Row wr w.heap.size vb' b' ∧ Serves a b b' k ∧ wr.ownsRow w.heap.size 3 1 vl (partOf a b within k).length (ints (partOf a b within k)) ∧ Below w.heap.size w wr) (fun _ _ vk _ => a.length - (intOf vk).toNat)
  case atStart => exact ⟨0, b, rfl, Nat.zero_le _, Hb.out.below hB2, serves_start Hsb.out, World.ownsRow_nil _ _ _ _, hB2⟩
  case round =>
    obtain ⟨k, b', rfl, hk, hrb, hsv, hown, hbr⟩ := hrel
    by_cases hlt : k < a.length
    · obtain ⟨ad, hA, hab, hc⟩ := Hcell.out k hlt
      subst hA
      have g1 : wr.cell? (ad.add k) = some (.int .i64 (a.getD k 0)) := (hbr.cell (by rw [add_block]; exact hab)).trans hc
      clear hc
      have hpl := partOf_length a b within k
      have Hyes := Lib.hid (partOf_yes a b within k hlt)
      have Hno := Lib.hid (partOf_no a b within k hlt)
      have Hsv := Lib.hid (serves_from Hsa.out hlt hsv)
      have Hsn := Lib.hid (fun h => serves_nil (a := a) (b := b) hlt h)
      have Hsc := Lib.hid (fun y r h => serves_cons (a := a) (b := b) (y := y) (r := r) hlt h)
      clear hsv
      generalize a.getD k 0 = x at g1 Hyes Hno Hsv Hsn Hsc
      go_wp2
      go_loopw [1] (fun vr wr2 => ∃ r : List Int, wr2 = wr ∧ Row wr w.heap.size vr r ∧ from_ x b' = from_ x r) (fun vr _ => lenOf vr)
      case atStart => exact ⟨b', rfl, hrb, rfl⟩
      case round =>
        obtain ⟨r, rfl, hrr, hfr⟩ := hrel
        have Hsv0 := Hsv
        rw [hfr] at Hsv
        have Hfr := Lib.hid hfr
        clear hfr hrb
        cases r with
        | nil =>
          clear Hsv0 Hfr
          have Hc := Lib.hid (Hsn.out Hsv.out)
          have Hrr := Lib.hid hrr
          obtain ⟨A3, c3, rfl, _⟩ := hrr
          cases within
          ·
            have Hx := Lib.hid (Hyes.out (by rw [Hc.out]))
            clear Hyes Hno
            go_wp2_with (at_builtin; refine wpList_append_row rfl _ _ rfl w.heap.size _ _ _ (partOf a b false k) [x] rfl rfl (hown.alloc _) (Row.lit1 _ x) (by omega) (by simp) (by have := hbr.size; simp; omega) ?_)
            intro v' w4 hown' hgrow
            have hb4 : Below w.heap.size wr w4 := ((Below.refl _ wr).alloc hbr.size _).grown hgrow (by have := hbr.size; simp; omega) (fun i hi => (hown.lt i hi).1)
            go_wp2
            go_roundw
            case rel => exact ⟨k + 1, [], by go_num, by omega, Hrr.out.below hb4, serves_next Hsv.out, by rw [Hx.out, List.length_append]; exact hown', hbr.trans hb4⟩
            case measure => simp [intOf]; omega
          ·
            have Hx := Lib.hid (Hno.out (by rw [Hc.out]; decide))
            clear Hyes Hno
            go_wp2
            go_roundw
            case rel => exact ⟨k + 1, [], by go_num, by omega, Hrr.out, serves_next Hsv.out, by rw [Hx.out]; exact hown, hbr⟩
            case measure => simp [intOf]; omega
        | cons y r =>
          have Hrr := Lib.hid hrr
          obtain ⟨ad2, c3, rfl, g2, hab2, hc3, hcm, htail⟩ := hrr.tail
          have Htail := Lib.hid htail
          clear htail hrr
          have hrl : (r.length : Int) ≤ (c3 : Int) := by omega
          have hcm' : (c3 : Int) ≤ 9223372036854775806 := by unfold maxLen at hcm; omega
          by_cases hyx : y < x
          · rw [from_lt hyx] at Hfr
            clear Hsv Hsv0
            go_wp2
            go_roundw
            case rel =>
              refine ⟨r, trivial, Htail.out _ ?_, Hfr.out⟩
              by_cases h0 : c3 = 0
              · rw [if_pos h0]; exact .inr ⟨h0, rfl⟩
              · rw [if_neg h0]; exact .inl (by simp [Addr.add])
            case measure => simp [lenOf]
          · rw [from_ge hyx] at Hsv
            clear Hsv0 Hfr
            have Hc0 := Lib.hid (Hsc.out y r Hsv.out (by omega))
            have hyx' : decide (y < x) = false := by simp; omega
            by_cases hxy : y = x
            · subst hxy
              have Hc : Hid (b.contains y = true) := by
                show b.contains y = true
                rw [Hc0.out]; simp
              clear Hc0
              cases within
              ·
                have Hx := Lib.hid (Hno.out (by rw [Hc.out]; decide))
                clear Hyes Hno
                go_wp2
                go_roundw
                case rel => exact ⟨k + 1, y :: r, by go_num, by omega, Hrr.out, serves_next Hsv.out, by rw [Hx.out]; exact hown, hbr⟩
                case measure => simp [intOf]; omega
              ·
                have Hx := Lib.hid (Hyes.out (by rw [Hc.out]))
                clear Hyes Hno
                go_wp2_with (at_builtin; refine wpList_append_row rfl _ _ rfl w.heap.size _ _ _ (partOf a b true k) [y] rfl rfl (hown.alloc _) (Row.lit1 _ y) (by omega) (by simp) (by have := hbr.size; simp; omega) ?_)
                intro v' w4 hown' hgrow
                have hb4 : Below w.heap.size wr w4 := ((Below.refl _ wr).alloc hbr.size _).grown hgrow (by have := hbr.size; simp; omega) (fun i hi => (hown.lt i hi).1)
                go_wp2
                go_roundw
                case rel => exact ⟨k + 1, y :: r, by go_num, by omega, Hrr.out.below hb4, serves_next Hsv.out, by rw [Hx.out, List.length_append]; exact hown', hbr.trans hb4⟩
                case measure => simp [intOf]; omega
            · have Hc : Hid (b.contains x = false) := by
                show b.contains x = false
                rw [Hc0.out]; simp [hxy]
              have hxy' : (y == x) = false := by simp [hxy]
              clear Hc0
              cases within
              ·
                have Hx := Lib.hid (Hyes.out (by rw [Hc.out]))
                clear Hyes Hno
                go_wp2_with (at_builtin; refine wpList_append_row rfl _ _ rfl w.heap.size _ _ _ (partOf a b false k) [x] rfl rfl (hown.alloc _) (Row.lit1 _ x) (by omega) (by simp) (by have := hbr.size; simp; omega) ?_)
                intro v' w4 hown' hgrow
                have hb4 : Below w.heap.size wr w4 := ((Below.refl _ wr).alloc hbr.size _).grown hgrow (by have := hbr.size; simp; omega) (fun i hi => (hown.lt i hi).1)
                go_wp2
                go_roundw
                case rel => exact ⟨k + 1, y :: r, by go_num, by omega, Hrr.out.below hb4, serves_next Hsv.out, by rw [Hx.out, List.length_append]; exact hown', hbr.trans hb4⟩
                case measure => simp [intOf]; omega
              ·
                have Hx := Lib.hid (Hno.out (by rw [Hc.out]; decide))
                clear Hyes Hno
                go_wp2
                go_roundw
                case rel => exact ⟨k + 1, y :: r, by go_num, by omega, Hrr.out, serves_next Hsv.out, by rw [Hx.out]; exact hown, hbr⟩
                case measure => simp [intOf]; omega
    · have hke : k = a.length := by omega
      subst hke
      rw [Hall.out] at hown
      go_wp2
      go_ret
      exact ⟨_, rfl, Row.of_own hown rfl, hbr⟩

set_option maxHeartbeats 2000000 in
set_option maxRecDepth 100000 in
theorem part_any (va vb : Value) (a b : List Int) (within : Bool) (w : World) (ha : Row w w.heap.size va a) (hb : Row w w.heap.size vb b) (hla : a.length ≤ 1048576) (hlb : b.length ≤ 1048576) :
    Calls Tryz.prog 70 #[va, vb, .bool within] w (Gives w (partL a b within)) := by
  rcases hma : mayB a with _ | _
  · have Ha := Lib.hid ha
    clear ha hb
    have Hr := Lib.hid (part_no1 (b := b) (w := within) hma)
    go_enter Tryz.func70, Tryz.ntmps70
    go_wp2_with fail
    refine (may_any va a w Ha.out (Nat.le_trans hla (by decide))).mono ?_
    rintro e w1 ⟨rfl, hb1⟩
    rw [hma]
    go_wp2
    go_ret
    exact gives_nil w hb1 Hr.out
  · rcases hmb : mayB b with _ | _
    · have Ha := Lib.hid ha
      have Hb := Lib.hid hb
      clear ha hb
      have Hr := Lib.hid (part_no2 (a := a) (w := within) hmb)
      go_enter Tryz.func70, Tryz.ntmps70
      go_wp2_with fail
      refine (may_any va a w Ha.out (Nat.le_trans hla (by decide))).mono ?_
      rintro e w1 ⟨rfl, hb1⟩
      rw [hma]
      go_wp2_with fail
      refine (may_any vb b w1 ((Hb.out.below hb1).mono hb1.size) (Nat.le_trans hlb (by decide))).mono ?_
      rintro e w2 ⟨rfl, hb2⟩
      rw [hmb]
      go_wp2
      go_ret
      exact gives_nil w (hb1.trans (hb2.mono hb1.size)) Hr.out
    · exact part_in va vb a b within w ha hb hla hlb hma hmb

set_option maxRecDepth 100000 in
theorem minus_any (va vb : Value) (a b : List Int) (w : World) (ha : Row w w.heap.size va a) (hb : Row w w.heap.size vb b) (hla : a.length ≤ 1048576) (hlb : b.length ≤ 1048576) :
    Calls Tryz.prog 53 #[va, vb] w (Gives w (minusL a b)) := by
  have Hp := Lib.hid (part_any va vb a b false w ha hb hla hlb)
  clear ha hb
  go_enter Tryz.func53, Tryz.ntmps53
  go_wp2_with fail
  refine Hp.out.mono ?_
  rintro e w1 ⟨v1, rfl, hr1, hb1⟩
  go_wp2
  go_ret
  exact ⟨_, rfl, hr1, hb1⟩

set_option maxHeartbeats 2000000 in
set_option maxRecDepth 100000 in
theorem sub_any (va vb : Value) (a b : List Int) (w : World) (ha : Row w w.heap.size va a) (hb : Row w w.heap.size vb b) (hla : a.length ≤ 1048576) (hlb : b.length ≤ 1048576) :
    Calls Tryz.prog 35 #[va, vb] w (Says w (subB a b)) := by
  have Ha := Lib.hid ha
  have Hb := Lib.hid hb
  clear ha hb
  rcases hma : mayB a with _ | _
  · have Hr := Lib.hid (sub_no1 (b := b) hma)
    go_enter Tryz.func35, Tryz.ntmps35
    go_wp2_with fail
    refine (may_any va a w Ha.out (Nat.le_trans hla (by decide))).mono ?_
    rintro e w1 ⟨rfl, hb1⟩
    rw [hma]
    go_wp2
    go_ret
    exact says_mk Hr.out rfl hb1
  · rcases hmb : mayB b with _ | _
    · have Hr := Lib.hid (sub_no2 (a := a) hmb)
      go_enter Tryz.func35, Tryz.ntmps35
      go_wp2_with fail
      refine (may_any va a w Ha.out (Nat.le_trans hla (by decide))).mono ?_
      rintro e w1 ⟨rfl, hb1⟩
      rw [hma]
      go_wp2_with fail
      refine (may_any vb b w1 ((Hb.out.below hb1).mono hb1.size) (Nat.le_trans hlb (by decide))).mono ?_
      rintro e w2 ⟨rfl, hb2⟩
      rw [hmb]
      go_wp2
      go_ret
      exact says_mk Hr.out rfl (hb1.trans (hb2.mono hb1.size))
    · have Hr := Lib.hid (sub_yes hma hmb)
      go_enter Tryz.func35, Tryz.ntmps35
      go_wp2_with fail
      refine (may_any va a w Ha.out (Nat.le_trans hla (by decide))).mono ?_
      rintro e w1 ⟨rfl, hb1⟩
      rw [hma]
      go_wp2_with fail
      refine (may_any vb b w1 ((Hb.out.below hb1).mono hb1.size) (Nat.le_trans hlb (by decide))).mono ?_
      rintro e w2 ⟨rfl, hb2⟩
      rw [hmb]
      have hB2 : Below w.heap.size w w2 := hb1.trans (hb2.mono hb1.size)
      clear hb1 hb2
      go_wp2_with fail
      refine (minus_any va vb a b w2 ((Ha.out.below hB2).mono hB2.size) ((Hb.out.below hB2).mono hB2.size) hla hlb).mono ?_
      rintro e w3 ⟨v3, rfl, hr3, hb3⟩
      have hB3 := hB2.trans (hb3.mono hB2.size)
      have hm := part_length a b false
      change (minusL a b).length ≤ _ at hm
      generalize minusL a b = m at Hr hr3 hm
      obtain ⟨A3, c3, rfl, _⟩ := hr3
      cases m with
      | nil =>
        go_wp2
        go_ret
        exact says_mk Hr.out rfl hB3
      | cons y r =>
        have hne : ((r.length : Int) + 1 == 0) = false := by simp; omega
        go_wp2
        go_ret
        exact says_mk Hr.out rfl hB3

end Wp
end Go.Proofs.YtimmmfppehmfcaaGreatDoor
