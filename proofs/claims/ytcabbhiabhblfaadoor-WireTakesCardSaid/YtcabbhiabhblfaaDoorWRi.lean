/- The document's own reader, walked: lists of signed numbers, and the end. -/
import Derived.Test.YtcabbhiabhblfaaDoorWRl
import Derived.Test.YtcabbhiabhblfaaDoorWRow
import Derived.Deep.Onto
namespace Go.Proofs.YtcabbhiabhblfaaDoor
open Go.RowKit
namespace Wp

/-! ### What a list that is taken holds -/
def unzI (z : Int) : Int := unz z.toNat

theorem takeL_signed (T : List UInt8) : ∀ (k : Nat) (st : St) (acc : List Int),
    takeL stepI T k st (acc.map unzI) = ((takeL stepNI T k st acc).1.map (List.map unzI), (takeL stepNI T k st acc).2) := by
  intro k
  induction k with
  | zero => intro st acc; rfl
  | succ k ih =>
    intro st acc
    have e : (stepI T st).2.2 = (stepNI T st).2.2 := rfl
    rw [takeL, takeL, e]
    cases h : (stepNI T st).2.2 with
    | some x => rfl
    | none =>
      simp only
      have e2 : acc.map unzI ++ [(stepI T st).1] = (acc ++ [(stepNI T st).1]).map unzI := by
        rw [List.map_append]; rfl
      rw [e2]
      exact ih _ _

theorem listS_signed (T : List UInt8) (most : Int) (st : St) : listS stepI T most st = ((listS stepNI T most st).1.map (List.map unzI), (listS stepNI T most st).2) := by
  unfold listS
  cases st.2 with
  | some x => rfl
  | none =>
    cases (stepN T st).2.2 with
    | some x => rfl
    | none =>
      by_cases h : most < ((stepN T st).1 : Nat)
      · simp only [if_pos h]; rfl
      · simp only [if_neg h]; exact takeL_signed T _ _ []

/-- A number that a reader takes. -/
def Num1 (z : Int) : Prop := ∃ m : Nat, z = m ∧ m ≤ 1125899906842624

theorem takeL_in (T : List UInt8) : ∀ (k : Nat) (st : St) (acc : List Int), st.1 ≤ T.length → acc.length ≤ st.1 → (∀ z ∈ acc, Num1 z) →
    (takeL stepNI T k st acc).2.1 ≤ T.length ∧ ∀ l, (takeL stepNI T k st acc).1 = some l → l.length ≤ T.length ∧ ∀ z ∈ l, Num1 z := by
  intro k
  induction k with
  | zero =>
    intro st acc h1 h2 h3
    refine ⟨h1, fun l hl => ?_⟩
    have e : some acc = some l := hl
    injection e with e
    subst e
    exact ⟨by omega, h3⟩
  | succ k ih =>
    intro st acc h1 h2 h3
    have hin := stepN_in T st h1
    have hmore := stepN_more T st h1
    rw [takeL]
    cases h : (stepNI T st).2.2 with
    | some x => exact ⟨hin.1, fun l hl => by simp at hl⟩
    | none =>
      refine ih _ _ hin.1 ?_ ?_
      · rw [List.length_append]
        have := hmore h
        show acc.length + 1 ≤ (stepN T st).2.1
        omega
      · intro z hz
        rcases List.mem_append.1 hz with hz | hz
        · exact h3 z hz
        · have : z = (stepNI T st).1 := by simpa using hz
          exact ⟨_, this, hin.2.2⟩

theorem listS_in (T : List UInt8) (most : Int) (st : St) (h : st.1 ≤ T.length) :
    (listS stepNI T most st).2.1 ≤ T.length ∧ ∀ l, (listS stepNI T most st).1 = some l → l.length ≤ T.length ∧ ∀ z ∈ l, Num1 z := by
  unfold listS
  cases st.2 with
  | some x => exact ⟨h, fun l hl => by simp at hl⟩
  | none =>
    have hin := stepN_in T st h
    cases (stepN T st).2.2 with
    | some x => exact ⟨hin.1, fun l hl => by simp at hl⟩
    | none =>
      by_cases hm : most < ((stepN T st).1 : Nat)
      · simp only [if_pos hm]; exact ⟨hin.1, fun l hl => by simp at hl⟩
      · simp only [if_neg hm]; exact takeL_in T _ _ [] hin.1 (Nat.zero_le _) (fun z hz => by simp at hz)

/-! ### The list of what is told -/
def listO (r : Option (List Int)) : List Int := r.getD []

theorem told_own {base : Nat} {r : Option (List Int)} {v : Value} {w : World} (h : Told base r v w) : w.ownsRow base 3 1 v (listO r).length ((listO r).map (Value.int .i64)) := by
  cases r with
  | none =>
    have e : v = .slice none 0 0 := h
    subst e
    exact World.ownsRow_nil _ _ _ _
  | some l => exact h

/-- So many of a list, signed. -/
def signs (l : List Int) (k : Nat) : List Value := ((l.take k).map unzI).map (Value.int .i64)
theorem signs_succ (l : List Int) (k : Nat) (h : k < l.length) : signs l (k + 1) = signs l k ++ [Value.int .i64 (unzI (l.getD k 0))] := by
  unfold signs
  have e : l.getD k 0 = l[k] := by simp [List.getD, h]
  rw [List.take_succ_eq_append_getElem h, e, List.map_append, List.map_append]
  rfl
theorem signs_full (l : List Int) : signs l l.length = (l.map unzI).map (Value.int .i64) := by
  unfold signs
  rw [List.take_length]

/-- What a call of the document's Nums or Ints comes to, for one that reads the list. -/
def ROwn (T : ByteArray) (c : Nat) (l : List Int) (s : Nat × Nat) (w : World) (e : Ending) (w' : World) : Prop :=
  ∃ v, e = .returned v ∧ w'.ownsRow w.heap.size 3 1 v l.length (l.map (Value.int .i64)) ∧ w.grownBy w' (some c) ∧ RRd T c s w'

theorem refnums_own (T : ByteArray) (c : Nat) (most : Int) (st : St) (w : World) (hr : RRd T c (rst st) w) (hp : st.1 ≤ T.size) (hT : T.size ≤ 1099511627776) :
    Calls Tryd.prog 30 #[.pointer (some ⟨c, 0, none⟩), .int .i64 most] w (ROwn T c (listO (listS stepNI T.data.toList most st).1) (rst (listS stepNI T.data.toList most st).2) w) :=
  (refnums_any T c most st w hr hp hT).mono fun _ _ ⟨v, he, ht, hg, hr'⟩ => ⟨v, he, told_own ht, hg, hr'⟩

set_option maxHeartbeats 1000000 in
set_option maxRecDepth 100000 in
theorem refints_own (T : ByteArray) (c : Nat) (most : Int) (st : St) (w : World) (hr : RRd T c (rst st) w) (hp : st.1 ≤ T.size) (hT : T.size ≤ 1099511627776) :
    Calls Tryd.prog 31 #[.pointer (some ⟨c, 0, none⟩), .int .i64 most] w (ROwn T c (listO (listS stepI T.data.toList most st).1) (rst (listS stepI T.data.toList most st).2) w) := by
  have hc := refnums_own T c most st w hr hp hT
  have hin := (listS_in T.data.toList most st (by rw [size_len]; exact hp)).2
  have hl : (listO (listS stepNI T.data.toList most st).1).length ≤ 1099511627776 ∧ ∀ z ∈ listO (listS stepNI T.data.toList most st).1, Num1 z := by
    cases h : (listS stepNI T.data.toList most st).1 with
    | none => exact ⟨by simp [listO], fun z hz => by simp [listO] at hz⟩
    | some l =>
      have := hin l h
      rw [size_len] at this
      exact ⟨by show l.length ≤ _; omega, this.2⟩
  have e : listO (listS stepI T.data.toList most st).1 = (listO (listS stepNI T.data.toList most st).1).map unzI ∧ (listS stepI T.data.toList most st).2 = (listS stepNI T.data.toList most st).2 := by
    rw [listS_signed]
    refine ⟨?_, rfl⟩
    cases (listS stepNI T.data.toList most st).1 <;> rfl
  rw [e.1, e.2]
  clear e hin
  generalize listO (listS stepNI T.data.toList most st).1 = l at *
  generalize (listS stepNI T.data.toList most st).2 = st' at *
  obtain ⟨hll, hz⟩ := hl
  have Hc := Lib.hid hc
  have Hz := Lib.hid hz
  have hwc : c < w.heap.size := hr.lt
  clear hc hz
  obtain ⟨i0, hi, hz0, hz1, hz2⟩ := info_parts info3
  go_enter Tryd.func31, Tryd.ntmps31
  go_wp2_with fail
  refine Hc.out.mono ?_
  rintro e w1 ⟨v, rfl, hown, hg1, hr1⟩
  have hrow := Row.of_own hown rfl
  obtain ⟨A, cp, rfl, hcell⟩ := hrow
  have Hcell := Lib.hid hcell
  clear hcell
  have hown0 : (w1.alloc (.cells #[] 3)).ownsRow w1.heap.size 3 1 (.slice (some ⟨w1.heap.size, 0, none⟩) 0 0) 0 [] :=
    World.ownsRow_made w1 #[] 0 (Nat.le_refl _) (by unfold maxLen; omega) rfl
  have hB0 : Below w1.heap.size w1 (w1.alloc (.cells #[] 3)) := (Below.refl _ w1).alloc (Nat.le_refl _) _
  go_wp2
  go_loopw [6, 7] (fun vm vk wr => ∃ k : Nat, vk = .int .i64 k ∧ k ≤ l.length ∧ wr.ownsRow w1.heap.size 3 1 vm k (signs l k) ∧ Below w1.heap.size w1 wr)
    (fun _ vk _ => l.length - (intOf vk).toNat)
  case atStart => exact ⟨0, rfl, Nat.zero_le _, hown0, hB0⟩
  case round =>
    obtain ⟨k, rfl, hk, hownr, hBr⟩ := hrel
    by_cases hlt : k < l.length
    · obtain ⟨ad, hA, hab, hc⟩ := Hcell.out k hlt
      subst hA
      have hcr : wr.cell? (ad.add k) = some (.int .i64 (l.getD k 0)) := (hBr.cell (by rw [add_block]; exact hab)).trans hc
      have hmem : l.getD k 0 ∈ l := by
        rw [List.getD_eq_getElem?_getD, List.getElem?_eq_getElem hlt]
        exact List.getElem_mem hlt
      obtain ⟨m, hme, hm⟩ := Hz.out _ hmem
      have Hs := Lib.hid (signs_succ l k hlt)
      rw [hme] at hcr Hs
      have Hu : Hid (unzI (m : Int) = unz m) := by show unz _ = _; rw [Int.toNat_natCast]
      clear hc hmem hme
      go_wp2_with fail
      refine (signed_any m hm wr).mono ?_
      rintro e w3 ⟨rfl, rfl⟩
      go_wp2_with (at_builtin; refine wpList_append_own _ rfl _ _ 22 rfl w1.heap.size 3 i0 (.int .i64 0) 1 8 (by kernel_rfl) hi hz0 hz1 hz2 rfl (by decide) _ _ _ rfl (hownr.alloc _) ⟨w3.heap.size, 0, none⟩ 1 1 [Value.int .i64 (unz m)] rfl rfl ?c1 ?c2 ?c3 ?c4 ?c5 ?_)
      case c1 =>
        intro j u hj
        match j, hj with
        | 0, hj => simp at hj; subst hj; simp [Addr.add]
      case c2 => intro u hu; simp at hu; subst hu; rfl
      case c3 => unfold maxLen; omega
      case c4 => omega
      case c5 => have := hBr.size; simp; omega
      intro v' w4 hown' hgrow _
      have hB4 : Below w1.heap.size w1 w4 := (hBr.alloc hBr.size _).grown hgrow (by have := hBr.size; simp; omega) (fun i hi => (hownr.lt i hi).1)
      go_wp2
      go_roundw
      case rel =>
        refine ⟨k + 1, by go_num, by omega, ?_, hB4⟩
        rw [Hs.out, Hu.out]
        exact hown'
      case measure => simp [intOf]; omega
    · have hke : k = l.length := by omega
      subst hke
      go_wp2
      go_ret
      rw [signs_full] at hownr
      refine ⟨_, rfl, ?_, only_trans hg1 (only_of_below hBr _), Blk.below hr1 hBr (Blk.lt hr1)⟩
      rw [List.length_map]
      exact hownr.mono hg1.size

/-- How the document's reader ends. -/
theorem refend_any (T : ByteArray) (c : Nat) (st : St) (hp : st.1 ≤ T.size) (_hT : T.size ≤ 1099511627776) (w : World) (hr : RRd T c (rst st) w) :
    Calls Tryd.prog 32 #[.pointer (some ⟨c, 0, none⟩)] w fun e w' => e = .returned (.tuple #[.int .i64 ((endS T.data.toList st).1 : Nat), .int .i64 ((endS T.data.toList st).2 : Nat)]) ∧ Below w.heap.size w w' := by
  obtain ⟨q, x⟩ := st
  cases x with
  | some x =>
    obtain ⟨p, k⟩ := x
    have hr' : RRd T c (p, 9 + k) w := hr
    clear hr
    have c1 : w.cell? ⟨c, 1, none⟩ = some (.int .i64 (p : Nat)) := hr'.cell 1
    have c2 : w.cell? ⟨c, 2, none⟩ = some (.int .i64 ((9 + k : Nat) : Int)) := hr'.cell 2
    have hne : (((9 + k : Nat) : Int) == 0) = false := by rw [beq_eq_false_iff_ne]; omega
    show Calls _ _ _ _ (fun e w' => e = .returned (.tuple #[.int .i64 ((9 + k : Nat) : Int), .int .i64 ((p : Nat) : Int)]) ∧ Below w.heap.size w w')
    generalize ((9 + k : Nat) : Int) = z at c2 hne ⊢
    go_enter Tryd.func32, Tryd.ntmps32
    go_wp2
    go_quiet (fail)
    go_wp2
    go_quiet (fail)
    go_wp2
    go_ret2
    exact ⟨rfl, below_drewN (below_drewN (Below.refl _ _) _) _⟩
  | none =>
    have hr' : RRd T c (q, 0) w := hr
    clear hr
    have hp' : q ≤ T.size := hp
    have c0 : w.cell? ⟨c, 0, none⟩ = some (.string T) := hr'.cell 0
    have c1 : w.cell? ⟨c, 1, none⟩ = some (.int .i64 (q : Nat)) := hr'.cell 1
    have c2 : w.cell? ⟨c, 2, none⟩ = some (.int .i64 0) := hr'.cell 2
    by_cases h : q < T.size
    · have e : endS T.data.toList (q, none) = (13, q) := by
        simp only [endS]
        rw [if_pos (by rw [size_len]; omega)]
      rw [e]
      clear e
      show Calls _ _ _ _ (fun e w' => e = .returned (.tuple #[.int .i64 13, .int .i64 ((q : Nat) : Int)]) ∧ Below w.heap.size w w')
      go_enter Tryd.func32, Tryd.ntmps32
      go_wp2
      go_quiet (fail)
      go_wp2
      go_quiet (fail)
      go_wp2
      go_ret2
      exact ⟨rfl, below_drewN (below_drewN (Below.refl _ _) _) _⟩
    · have e : endS T.data.toList (q, none) = (0, q) := by
        simp only [endS]
        rw [if_neg (by rw [size_len]; omega)]
      rw [e]
      clear e
      show Calls _ _ _ _ (fun e w' => e = .returned (.tuple #[.int .i64 0, .int .i64 ((q : Nat) : Int)]) ∧ Below w.heap.size w w')
      go_enter Tryd.func32, Tryd.ntmps32
      go_wp2
      go_quiet (fail)
      go_wp2
      go_quiet (fail)
      go_wp2
      go_ret2
      exact ⟨rfl, below_drewN (below_drewN (Below.refl _ _) _) _⟩
end Wp
end Go.Proofs.YtcabbhiabhblfaaDoor
