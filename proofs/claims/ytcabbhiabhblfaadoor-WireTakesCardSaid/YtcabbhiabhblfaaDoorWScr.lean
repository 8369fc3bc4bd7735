/- The law's two scripts, walked: what is asked of the program's reader, and of the document's, one by one. -/
import Derived.Test.YtcabbhiabhblfaaDoorWRi
import Derived.Test.YtcabbhiabhblfaaDoorWMany
import Derived.Laws.AppendOwnNone
namespace Go.Proofs.YtcabbhiabhblfaaDoor
open Go.RowKit
namespace Wp

/-! ### What a script comes to -/
def doStep (T : List UInt8) (most d : Int) (st : St) : List Int × St :=
  if d = 0 then ([(stepNI T st).1], (stepNI T st).2) else if d = 1 then ([(stepI T st).1], (stepI T st).2)
  else if d = 2 then (listO (listS stepNI T most st).1, (listS stepNI T most st).2) else if d = 3 then (listO (listS stepI T most st).1, (listS stepI T most st).2) else ([], st)
def doS (T : List UInt8) (most : Int) : List Int → St → List Int → List Int × St
  | [], st, acc => (acc, st)
  | d :: r, st, acc => doS T most r (doStep T most d st).2 (acc ++ (doStep T most d st).1)
def scriptL (T : List UInt8) (most : Int) (zs : List Int) : List Int :=
  (doS T most zs (0, none) []).1 ++ [((endS T (doS T most zs (0, none) []).2).1 : Int), ((endS T (doS T most zs (0, none) []).2).2 : Int)]

/-- The error that a reader has is one of four. -/
def Kin (st : St) : Prop := ∀ x, st.2 = some x → 1 ≤ x.2 ∧ x.2 ≤ 4
theorem stepN_kin (T : List UInt8) (st : St) (h : Kin st) : Kin (stepN T st).2 := by
  obtain ⟨p, x⟩ := st
  cases x with
  | some x => exact h
  | none =>
    rcases dec_kinds 8 0 0 (T.drop p) with ⟨v, sz, e, _⟩ | e | e
    · rw [stepN_ok _ _ _ _ e]; intro x hx; simp at hx
    · rw [stepN_bad _ _ 0 e]; intro x hx; simp only [Option.some.injEq] at hx; subst hx; exact ⟨by simp, by simp⟩
    · rw [stepN_bad _ _ 1 e]; intro x hx; simp only [Option.some.injEq] at hx; subst hx; exact ⟨by simp, by simp⟩
theorem takeL_kin (T : List UInt8) : ∀ (k : Nat) (st : St) (acc : List Int), Kin st → Kin (takeL stepNI T k st acc).2 := by
  intro k
  induction k with
  | zero => intro st acc h; exact h
  | succ k ih =>
    intro st acc h
    rw [takeL]
    cases e : (stepNI T st).2.2 with
    | some x => exact stepN_kin T st h
    | none => exact ih _ _ (stepN_kin T st h)
theorem listS_kin (T : List UInt8) (most : Int) (st : St) (h : Kin st) : Kin (listS stepNI T most st).2 := by
  unfold listS
  cases e0 : st.2 with
  | some x => exact h
  | none =>
    cases e : (stepN T st).2.2 with
    | some x => exact stepN_kin T st h
    | none =>
      by_cases hm : most < ((stepN T st).1 : Nat)
      · simp only [if_pos hm]; intro x hx; simp only [Option.some.injEq] at hx; subst hx; exact ⟨by simp, by simp⟩
      · simp only [if_neg hm]; exact takeL_kin T _ _ [] (stepN_kin T st h)
theorem doStep_in (T : List UInt8) (most d : Int) (st : St) (h : st.1 ≤ T.length) (hk : Kin st) :
    (doStep T most d st).2.1 ≤ T.length ∧ Kin (doStep T most d st).2 ∧ (doStep T most d st).1.length ≤ T.length + 1 := by
  have h1 := (stepN_in T st h).1
  have h2 := stepN_kin T st hk
  have h3 := listS_in T most st h
  have h4 := listS_kin T most st hk
  have hlen : ∀ r : Option (List Int), (∀ l, r = some l → l.length ≤ T.length) → (listO r).length ≤ T.length + 1 := by
    intro r hr
    cases r with
    | none => exact Nat.zero_le _
    | some l => have := hr l rfl; show l.length ≤ _; omega
  unfold doStep
  by_cases e0 : d = 0
  · rw [if_pos e0]; exact ⟨h1, h2, by show 1 ≤ _; omega⟩
  rw [if_neg e0]
  by_cases e1 : d = 1
  · rw [if_pos e1]; exact ⟨h1, h2, by show 1 ≤ _; omega⟩
  rw [if_neg e1]
  by_cases e2 : d = 2
  · rw [if_pos e2]; exact ⟨h3.1, h4, hlen _ (fun l hl => (h3.2 l hl).1)⟩
  rw [if_neg e2]
  by_cases e3 : d = 3
  · rw [if_pos e3, listS_signed]
    refine ⟨h3.1, h4, hlen _ (fun l hl => ?_)⟩
    simp only [Option.map_eq_some_iff] at hl
    obtain ⟨l0, hl0, rfl⟩ := hl
    rw [List.length_map]
    exact (h3.2 l0 hl0).1
  rw [if_neg e3]
  exact ⟨h, hk, Nat.zero_le _⟩

theorem info22 : (Tryd.prog.info? 3).map (fun i => (i.zero, i.size, i.bytes)) = some (some (.int .i64 0), 1, 8) := info3

/-- What a call that takes one number comes to; R tells the reader's state. -/
def GNum (R : St → World → Prop) (b : Nat) (n : Int) (st : St) (w : World) (e : Ending) (w' : World) : Prop :=
  e = .returned (.int .i64 n) ∧ w.grownBy w' (some b) ∧ R st w'
/-- What a call that takes a list comes to. -/
def GOwn (R : St → World → Prop) (b : Nat) (l : List Int) (st : St) (w : World) (e : Ending) (w' : World) : Prop :=
  ∃ v, e = .returned v ∧ w'.ownsRow w.heap.size 3 1 v l.length (l.map (Value.int .i64)) ∧ w.grownBy w' (some b) ∧ R st w'

theorem own_cut {w : World} {base n : Nat} {v : Value} {xs : List Value} (h : w.ownsRow base 3 1 v n xs) :
    (v = .slice none 0 0 ∧ n = 0) ∨ ∃ g cap, v = .slice (some ⟨g, 0, none⟩) n cap ∧ base ≤ g ∧ ∀ j u, xs[j]? = some u → w.cell? ((⟨g, 0, none⟩ : Addr).add j) = some u := by
  have h' := h
  rcases h.2 with ⟨rfl, h0⟩ | ⟨g, cap, cur, rfl, hb, hg, _⟩
  · exact .inl ⟨rfl, h0⟩
  · exact .inr ⟨g, cap, rfl, (h'.lt g rfl).1, h'.cells (g := g) rfl⟩

theorem s_num (E : Nat → Addr) (B : Nat) (T : ByteArray) (b : Nat) (st : St) (w : World) (hM : Met E B w) (hr : Rd E T b st w) (hp : st.1 ≤ T.size) (hT : T.size ≤ 500) :
    Calls Tryd.prog 23 #[.pointer (some ⟨b, 0, none⟩)] w (GNum (fun s x => Rd E T b s x) b (stepNI T.data.toList st).1 (stepNI T.data.toList st).2 w) :=
  (rnum_any E B T b st w hM hr hp (by omega)).mono fun _ _ ⟨h1, h2⟩ => ⟨h1, h2.only, h2.rd⟩
theorem s_int (E : Nat → Addr) (B : Nat) (T : ByteArray) (b : Nat) (st : St) (w : World) (hM : Met E B w) (hr : Rd E T b st w) (hp : st.1 ≤ T.size) (hT : T.size ≤ 500) :
    Calls Tryd.prog 24 #[.pointer (some ⟨b, 0, none⟩)] w (GNum (fun s x => Rd E T b s x) b (stepI T.data.toList st).1 (stepI T.data.toList st).2 w) :=
  (rint_any E B T b st w hM hr hp (by omega)).mono fun _ _ ⟨h1, h2⟩ => ⟨h1, h2.only, h2.rd⟩
theorem s_nums (E : Nat → Addr) (B : Nat) (T : ByteArray) (b : Nat) (most : Int) (st : St) (w : World) (hM : Met E B w) (hB : B ≤ b) (hr : Rd E T b st w) (hp : st.1 ≤ T.size) (hT : T.size ≤ 500) :
    Calls Tryd.prog 25 #[.pointer (some ⟨b, 0, none⟩), .int .i64 most] w (GOwn (fun s x => Rd E T b s x) b (listO (listS stepNI T.data.toList most st).1) (listS stepNI T.data.toList most st).2 w) :=
  (rnums_any E B T b most st w hM hB hr hp (by omega)).mono fun _ _ ⟨v, h1, h2, h3⟩ => ⟨v, h1, told_own h2, h3.only, h3.rd⟩
theorem s_ints (E : Nat → Addr) (B : Nat) (T : ByteArray) (b : Nat) (most : Int) (st : St) (w : World) (hM : Met E B w) (hB : B ≤ b) (hr : Rd E T b st w) (hp : st.1 ≤ T.size) (hT : T.size ≤ 500) :
    Calls Tryd.prog 26 #[.pointer (some ⟨b, 0, none⟩), .int .i64 most] w (GOwn (fun s x => Rd E T b s x) b (listO (listS stepI T.data.toList most st).1) (listS stepI T.data.toList most st).2 w) :=
  (rints_any E B T b most st w hM hB hr hp (by omega)).mono fun _ _ ⟨v, h1, h2, h3⟩ => ⟨v, h1, told_own h2, h3.only, h3.rd⟩

set_option maxHeartbeats 8000000 in
set_option maxRecDepth 100000 in
theorem script_any (T : ByteArray) (v : Value) (zs : List Int) (most : Int) (w : World) (E : Nat → Addr) (hM : Met E w.heap.size w) (hT : T.size ≤ 500) (hz : zs.length ≤ 20) (hr : Row w w.heap.size v zs) :
    Calls Tryd.prog 12 #[.string T, v, .int .i64 most] w fun e w' => ∃ v', e = .returned v' ∧ w'.ownsRow w.heap.size 3 1 v' (scriptL T.data.toList most zs).length ((scriptL T.data.toList most zs).map (Value.int .i64)) ∧ (scriptL T.data.toList most zs).length ≤ 12000 ∧ Below w.heap.size w w' := by
  obtain ⟨A, cp, rfl, hcell⟩ := hr
  have Hcell := Lib.hid hcell
  clear hcell
  obtain ⟨i0, hi, hz0, hz1i, hz2⟩ := info_parts info22
  go_enter Tryd.func12, Tryd.ntmps12
  go_wp2_with fail
  refine (read_any _ _).mono ?_
  rintro e w1 ⟨rfl, hw1⟩
  have hr1 : Rd E T w.heap.size (0, none) w1 := by rw [← hw1]; exact Blk.new _ _ _
  have hB1 : Below w.heap.size w w1 := by rw [← hw1]; exact (Below.refl _ w).alloc (Nat.le_refl _) _
  have hz1 : w1.heap.size = w.heap.size + 1 := by rw [← hw1]; simp
  clear hw1
  have hown0 : (w1.alloc (.cells #[] 3)).ownsRow (w.heap.size + 1) 3 1 (.slice (some ⟨w1.heap.size, 0, none⟩) 0 0) 0 [] :=
    World.ownsRow_made w1 #[] 0 (by omega) (by unfold maxLen; omega) rfl
  clear hz1
  have hB0 : Below w.heap.size w (w1.alloc (.cells #[] 3)) := hB1.alloc hB1.size _
  have hr0 : Rd E T w.heap.size (0, none) (w1.alloc (.cells #[] 3)) := hr1.alloc _
  go_wp2
  go_loopw [8, 9] (fun vm vk wr => ∃ (k : Nat) (st : St) (acc : List Int), vk = .int .i64 k ∧ k ≤ zs.length ∧ wr.ownsRow (w.heap.size + 1) 3 1 vm acc.length (acc.map (Value.int .i64)) ∧ Below w.heap.size w wr ∧ Rd E T w.heap.size st wr ∧ st.1 ≤ T.size ∧ Kin st ∧ acc.length ≤ 501 * k
      ∧ doS T.data.toList most zs (0, none) [] = doS T.data.toList most (zs.drop k) st acc)
    (fun _ vk _ => zs.length - (intOf vk).toNat)
  case atStart => exact ⟨0, (0, none), [], rfl, Nat.zero_le _, hown0, hB0, hr0, Nat.zero_le _, fun x hx => by simp at hx, Nat.zero_le _, rfl⟩
  case round =>
    obtain ⟨k, st, acc, rfl, hk, hown, hBr, hrd, hst, hkin, hal, hdo⟩ := hrel
    have Hdo := Lib.hid hdo
    clear hdo hown0 hB0 hr0 hr1 hB1
    by_cases hlt : k < zs.length
    · obtain ⟨ad, hA, hab, hc⟩ := Hcell.out k hlt
      subst hA
      have hcr : wr.cell? (ad.add k) = some (.int .i64 (zs.getD k 0)) := (hBr.cell (by rw [add_block]; exact hab)).trans hc
      have hdrop : zs.drop k = zs.getD k 0 :: zs.drop (k + 1) := by
        rw [List.drop_eq_getElem_cons hlt]
        simp [List.getD, hlt]
      have Hnx : Hid (doS T.data.toList most zs (0, none) [] = doS T.data.toList most (zs.drop (k + 1)) (doStep T.data.toList most (zs.getD k 0) st).2 (acc ++ (doStep T.data.toList most (zs.getD k 0) st).1)) := by
        show _ = _
        rw [Hdo.out, hdrop, doS]
      have hin := doStep_in T.data.toList most (zs.getD k 0) st (by rw [size_len]; exact hst) hkin
      rw [size_len] at hin
      clear hc hdrop
      generalize zs.getD k 0 = d at *
      have hbw : w.heap.size ≤ wr.heap.size := hBr.size
      by_cases h0 : d = 0
      · subst h0
        have e : doStep T.data.toList most 0 st = ([(stepNI T.data.toList st).1], (stepNI T.data.toList st).2) := by rw [doStep, if_pos rfl]
        rw [e] at hin
        have Hnx' : Hid (doS T.data.toList most zs (0, none) [] = doS T.data.toList most (zs.drop (k + 1)) (stepNI T.data.toList st).2 (acc ++ [(stepNI T.data.toList st).1])) := by
          have h := Hnx.out
          rw [e] at h
          exact h
        have hcall := s_num E w.heap.size T w.heap.size st wr (hM.below hBr) hrd hst hT
        clear e Hnx
        generalize (stepNI T.data.toList st).1 = l at *
        generalize (stepNI T.data.toList st).2 = st' at *
        simp only at hin
        obtain ⟨hst', hkin', hlen⟩ := hin
        go_wp2_with fail
        refine hcall.mono ?_
        rintro e w3 ⟨rfl, hg3, hr3⟩
        have hB3 : Below w.heap.size w w3 := hBr.grown hg3 hBr.size (fun i hi => by injection hi with hi; omega)
        have hown3 : w3.ownsRow (w.heap.size + 1) 3 1 u8 acc.length (acc.map (Value.int .i64)) := hown.kept hg3 (.inr (fun h => by have := (hown.lt _ h).1; omega))
        have hz3 : w.heap.size + 1 ≤ w3.heap.size := by have := hr3.lt; omega
        go_wp2_with (at_builtin; refine wpList_append_own _ rfl _ _ 22 rfl (w.heap.size + 1) 3 i0 (.int .i64 0) 1 8 (by kernel_rfl) hi hz0 hz1i hz2 rfl (by decide) _ _ _ rfl (hown3.alloc _) ⟨w3.heap.size, 0, none⟩ 1 1 [Value.int .i64 l] rfl rfl ?c1 ?c2 ?c3 ?c4 ?c5 ?_)
        case c1 =>
          intro j u hj
          match j, hj with
          | 0, hj => simp at hj; subst hj; simp [Addr.add]
        case c2 => intro u hu; simp at hu; subst hu; rfl
        case c3 => unfold maxLen; omega
        case c4 => omega
        case c5 => simp; omega
        intro v' w4 hown' hgrow _
        have hB4 : Below w.heap.size w w4 := (hB3.alloc hB3.size _).grown hgrow (by simp; omega) (fun i hi => by have := (hown3.lt i hi).1; omega)
        have hrd4 : Rd E T w.heap.size st' w4 := (hr3.alloc _).grown hgrow (fun h => by have := (hown3.lt _ h.symm).1; omega)
        go_wp2
        go_roundw
        case rel =>
          refine ⟨k + 1, st', acc ++ [l], by go_num, by omega, ?_, hB4, hrd4, hst', hkin', by rw [List.length_append]; show acc.length + 1 ≤ _; omega, Hnx'.out⟩
          rw [List.length_append, List.map_append]; exact hown'
        case measure => simp [intOf]; omega
      have b0 : (d == 0) = false := by rw [beq_eq_false_iff_ne]; exact h0
      by_cases h1 : d = 1
      · subst h1
        have e : doStep T.data.toList most 1 st = ([(stepI T.data.toList st).1], (stepI T.data.toList st).2) := by rw [doStep, if_neg (by omega), if_pos rfl]
        rw [e] at hin
        have Hnx' : Hid (doS T.data.toList most zs (0, none) [] = doS T.data.toList most (zs.drop (k + 1)) (stepI T.data.toList st).2 (acc ++ [(stepI T.data.toList st).1])) := by
          have h := Hnx.out
          rw [e] at h
          exact h
        have hcall := s_int E w.heap.size T w.heap.size st wr (hM.below hBr) hrd hst hT
        clear e Hnx
        generalize (stepI T.data.toList st).1 = l at *
        generalize (stepI T.data.toList st).2 = st' at *
        simp only at hin
        obtain ⟨hst', hkin', hlen⟩ := hin
        go_wp2_with fail
        refine hcall.mono ?_
        rintro e w3 ⟨rfl, hg3, hr3⟩
        have hB3 : Below w.heap.size w w3 := hBr.grown hg3 hBr.size (fun i hi => by injection hi with hi; omega)
        have hown3 : w3.ownsRow (w.heap.size + 1) 3 1 u8 acc.length (acc.map (Value.int .i64)) := hown.kept hg3 (.inr (fun h => by have := (hown.lt _ h).1; omega))
        have hz3 : w.heap.size + 1 ≤ w3.heap.size := by have := hr3.lt; omega
        go_wp2_with (at_builtin; refine wpList_append_own _ rfl _ _ 22 rfl (w.heap.size + 1) 3 i0 (.int .i64 0) 1 8 (by kernel_rfl) hi hz0 hz1i hz2 rfl (by decide) _ _ _ rfl (hown3.alloc _) ⟨w3.heap.size, 0, none⟩ 1 1 [Value.int .i64 l] rfl rfl ?c1 ?c2 ?c3 ?c4 ?c5 ?_)
        case c1 =>
          intro j u hj
          match j, hj with
          | 0, hj => simp at hj; subst hj; simp [Addr.add]
        case c2 => intro u hu; simp at hu; subst hu; rfl
        case c3 => unfold maxLen; omega
        case c4 => omega
        case c5 => simp; omega
        intro v' w4 hown' hgrow _
        have hB4 : Below w.heap.size w w4 := (hB3.alloc hB3.size _).grown hgrow (by simp; omega) (fun i hi => by have := (hown3.lt i hi).1; omega)
        have hrd4 : Rd E T w.heap.size st' w4 := (hr3.alloc _).grown hgrow (fun h => by have := (hown3.lt _ h.symm).1; omega)
        go_wp2
        go_roundw
        case rel =>
          refine ⟨k + 1, st', acc ++ [l], by go_num, by omega, ?_, hB4, hrd4, hst', hkin', by rw [List.length_append]; show acc.length + 1 ≤ _; omega, Hnx'.out⟩
          rw [List.length_append, List.map_append]; exact hown'
        case measure => simp [intOf]; omega
      have b1 : (d == 1) = false := by rw [beq_eq_false_iff_ne]; exact h1
      by_cases h2 : d = 2
      · subst h2
        have e : doStep T.data.toList most 2 st = (listO (listS stepNI T.data.toList most st).1, (listS stepNI T.data.toList most st).2) := by rw [doStep, if_neg (by omega), if_neg (by omega), if_pos rfl]
        rw [e] at hin
        have Hnx' : Hid (doS T.data.toList most zs (0, none) [] = doS T.data.toList most (zs.drop (k + 1)) (listS stepNI T.data.toList most st).2 (acc ++ listO (listS stepNI T.data.toList most st).1)) := by
          have h := Hnx.out
          rw [e] at h
          exact h
        have hcall := s_nums E w.heap.size T w.heap.size most st wr (hM.below hBr) (Nat.le_refl _) hrd hst hT
        clear e Hnx
        generalize listO (listS stepNI T.data.toList most st).1 = l at *
        generalize (listS stepNI T.data.toList most st).2 = st' at *
        simp only at hin
        obtain ⟨hst', hkin', hlen⟩ := hin
        go_wp2_with fail
        refine hcall.mono ?_
        rintro e w3 ⟨vl, rfl, hownl, hg3, hr3⟩
        have hB3 : Below w.heap.size w w3 := hBr.grown hg3 hBr.size (fun i hi => by injection hi with hi; omega)
        have hown3 : w3.ownsRow (w.heap.size + 1) 3 1 u8 acc.length (acc.map (Value.int .i64)) := hown.kept hg3 (.inr (fun h => by have := (hown.lt _ h).1; omega))
        have hz3 : w.heap.size + 1 ≤ w3.heap.size := by have := hr3.lt; omega
        rcases own_cut hownl with ⟨rfl, hl0⟩ | ⟨g, cap, rfl, hgb, hgc⟩
        · have hle : l = [] := List.eq_nil_of_length_eq_zero hl0
          subst hle
          go_wp2_with (at_builtin; refine wpList_append_own_none rfl _ _ 22 rfl (w.heap.size + 1) 3 i0 1 (by kernel_rfl) hi _ _ _ rfl hown3 rfl ?_)
          go_wp2
          go_roundw
          case rel =>
            refine ⟨k + 1, st', acc ++ [], by go_num, by omega, ?_, hB3, hr3, hst', hkin', by rw [List.append_nil]; omega, Hnx'.out⟩
            rw [List.append_nil]; exact hown3
          case measure => simp [intOf]; omega
        · go_wp2_with (at_builtin; refine wpList_append_own _ rfl _ _ 22 rfl (w.heap.size + 1) 3 i0 (.int .i64 0) 1 8 (by kernel_rfl) hi hz0 hz1i hz2 rfl (by decide) _ _ _ rfl hown3 ⟨g, 0, none⟩ l.length cap (l.map (Value.int .i64)) rfl (by simp) ?c1 ?c2 ?c3 ?c4 ?c5 ?_)
          case c1 => exact hgc
          case c2 =>
            intro u hu
            obtain ⟨z, _, rfl⟩ := List.mem_map.1 hu
            rfl
          case c3 => unfold maxLen; omega
          case c4 => omega
          case c5 => exact hz3
          intro v' w4 hown' hgrow _
          have hB4 : Below w.heap.size w w4 := hB3.grown hgrow (by omega) (fun i hi => by have := (hown3.lt i hi).1; omega)
          have hrd4 : Rd E T w.heap.size st' w4 := hr3.grown hgrow (fun h => by have := (hown3.lt _ h.symm).1; omega)
          go_wp2
          go_roundw
          case rel =>
            refine ⟨k + 1, st', acc ++ l, by go_num, by omega, ?_, hB4, hrd4, hst', hkin', by rw [List.length_append]; omega, Hnx'.out⟩
            rw [List.length_append, List.map_append]; exact hown'
          case measure => simp [intOf]; omega
      have b2 : (d == 2) = false := by rw [beq_eq_false_iff_ne]; exact h2
      by_cases h3 : d = 3
      · subst h3
        have e : doStep T.data.toList most 3 st = (listO (listS stepI T.data.toList most st).1, (listS stepI T.data.toList most st).2) := by rw [doStep, if_neg (by omega), if_neg (by omega), if_neg (by omega), if_pos rfl]
        rw [e] at hin
        have Hnx' : Hid (doS T.data.toList most zs (0, none) [] = doS T.data.toList most (zs.drop (k + 1)) (listS stepI T.data.toList most st).2 (acc ++ listO (listS stepI T.data.toList most st).1)) := by
          have h := Hnx.out
          rw [e] at h
          exact h
        have hcall := s_ints E w.heap.size T w.heap.size most st wr (hM.below hBr) (Nat.le_refl _) hrd hst hT
        clear e Hnx
        generalize listO (listS stepI T.data.toList most st).1 = l at *
        generalize (listS stepI T.data.toList most st).2 = st' at *
        simp only at hin
        obtain ⟨hst', hkin', hlen⟩ := hin
        go_wp2_with fail
        refine hcall.mono ?_
        rintro e w3 ⟨vl, rfl, hownl, hg3, hr3⟩
        have hB3 : Below w.heap.size w w3 := hBr.grown hg3 hBr.size (fun i hi => by injection hi with hi; omega)
        have hown3 : w3.ownsRow (w.heap.size + 1) 3 1 u8 acc.length (acc.map (Value.int .i64)) := hown.kept hg3 (.inr (fun h => by have := (hown.lt _ h).1; omega))
        have hz3 : w.heap.size + 1 ≤ w3.heap.size := by have := hr3.lt; omega
        rcases own_cut hownl with ⟨rfl, hl0⟩ | ⟨g, cap, rfl, hgb, hgc⟩
        · have hle : l = [] := List.eq_nil_of_length_eq_zero hl0
          subst hle
          go_wp2_with (at_builtin; refine wpList_append_own_none rfl _ _ 22 rfl (w.heap.size + 1) 3 i0 1 (by kernel_rfl) hi _ _ _ rfl hown3 rfl ?_)
          go_wp2
          go_roundw
          case rel =>
            refine ⟨k + 1, st', acc ++ [], by go_num, by omega, ?_, hB3, hr3, hst', hkin', by rw [List.append_nil]; omega, Hnx'.out⟩
            rw [List.append_nil]; exact hown3
          case measure => simp [intOf]; omega
        · go_wp2_with (at_builtin; refine wpList_append_own _ rfl _ _ 22 rfl (w.heap.size + 1) 3 i0 (.int .i64 0) 1 8 (by kernel_rfl) hi hz0 hz1i hz2 rfl (by decide) _ _ _ rfl hown3 ⟨g, 0, none⟩ l.length cap (l.map (Value.int .i64)) rfl (by simp) ?c1 ?c2 ?c3 ?c4 ?c5 ?_)
          case c1 => exact hgc
          case c2 =>
            intro u hu
            obtain ⟨z, _, rfl⟩ := List.mem_map.1 hu
            rfl
          case c3 => unfold maxLen; omega
          case c4 => omega
          case c5 => exact hz3
          intro v' w4 hown' hgrow _
          have hB4 : Below w.heap.size w w4 := hB3.grown hgrow (by omega) (fun i hi => by have := (hown3.lt i hi).1; omega)
          have hrd4 : Rd E T w.heap.size st' w4 := hr3.grown hgrow (fun h => by have := (hown3.lt _ h.symm).1; omega)
          go_wp2
          go_roundw
          case rel =>
            refine ⟨k + 1, st', acc ++ l, by go_num, by omega, ?_, hB4, hrd4, hst', hkin', by rw [List.length_append]; omega, Hnx'.out⟩
            rw [List.length_append, List.map_append]; exact hown'
          case measure => simp [intOf]; omega
      have b3 : (d == 3) = false := by rw [beq_eq_false_iff_ne]; exact h3
      have e : doStep T.data.toList most d st = ([], st) := by rw [doStep, if_neg h0, if_neg h1, if_neg h2, if_neg h3]
      have Hnx' : Hid (doS T.data.toList most zs (0, none) [] = doS T.data.toList most (zs.drop (k + 1)) st acc) := by
        have h := Hnx.out
        rw [e, List.append_nil] at h
        exact h
      clear e Hnx hin h0 h1 h2 h3
      go_wp2
      go_roundw
      case rel => exact ⟨k + 1, st, acc, by go_num, by omega, hown, hBr, hrd, hst, hkin, by omega, Hnx'.out⟩
      case measure => simp [intOf]; omega
    · have hke : k = zs.length := by omega
      have Hfin : Hid (doS T.data.toList most zs (0, none) [] = (acc, st)) := by
        show _ = _
        rw [Hdo.out, hke, List.drop_length]; rfl
      have Hsl : Hid (scriptL T.data.toList most zs = acc ++ [((endS T.data.toList st).1 : Int), ((endS T.data.toList st).2 : Int)]) := by
        show _ = _
        unfold scriptL
        rw [Hfin.out]
      clear Hdo Hfin
      subst hke
      have hend := end_any E w.heap.size T w.heap.size st hkin hst (by omega) wr (hM.below hBr) (Nat.le_refl _) hrd
      have hz3 : w.heap.size + 1 ≤ wr.heap.size := by have := hrd.lt; omega
      generalize (endS T.data.toList st).1 = e1 at *
      generalize (endS T.data.toList st).2 = e2 at *
      go_wp2_with fail
      refine hend.mono ?_
      rintro e w3 ⟨rfl, hb3⟩
      have hB3 : Below w.heap.size w w3 := hBr.trans (hb3.mono (by omega))
      have hown3 : w3.ownsRow (w.heap.size + 1) 3 1 u8 acc.length (acc.map (Value.int .i64)) := hown.kept (row := none) (only_of_below hb3 _) (by cases hv : u8.ownBlock <;> simp)
      have hz4 : w.heap.size + 1 ≤ w3.heap.size := by have := hb3.size; omega
      go_wp2_with (at_builtin; refine wpList_append_own _ rfl _ _ 22 rfl (w.heap.size + 1) 3 i0 (.int .i64 0) 1 8 (by kernel_rfl) hi hz0 hz1i hz2 rfl (by decide) _ _ _ rfl (hown3.alloc _) ⟨w3.heap.size, 0, none⟩ 2 2 [Value.int .i64 (e1 : Nat), Value.int .i64 (e2 : Nat)] rfl rfl ?c1 ?c2 ?c3 ?c4 ?c5 ?_)
      case c1 =>
        intro j u hj
        match j, hj with
        | 0, hj => simp at hj; subst hj; simp [Addr.add]
        | 1, hj => simp at hj; subst hj; simp [Addr.add]
      case c2 => intro u hu; simp at hu; rcases hu with rfl | rfl <;> rfl
      case c3 => unfold maxLen; omega
      case c4 => omega
      case c5 => simp; omega
      intro v' w4 hown' hgrow _
      have hB4 : Below w.heap.size w w4 := (hB3.alloc hB3.size _).grown hgrow (by simp; omega) (fun i hi => by have := (hown3.lt i hi).1; omega)
      go_wp2
      go_ret
      rw [Hsl.out]
      refine ⟨_, rfl, ?_, by rw [List.length_append]; show acc.length + 2 ≤ _; omega, hB4⟩
      rw [List.length_append, List.map_append]
      exact hown'.mono (by omega)

theorem m_num (T : ByteArray) (b : Nat) (st : St) (w : World) (hr : RRd T b (rst st) w) (hp : st.1 ≤ T.size) (hT : T.size ≤ 500) :
    Calls Tryd.prog 28 #[.pointer (some ⟨b, 0, none⟩)] w (GNum (fun s x => RRd T b (rst s) x) b (stepNI T.data.toList st).1 (stepNI T.data.toList st).2 w) :=
  refnum_any T b st w hr hp (by omega)
theorem m_int (T : ByteArray) (b : Nat) (st : St) (w : World) (hr : RRd T b (rst st) w) (hp : st.1 ≤ T.size) (hT : T.size ≤ 500) :
    Calls Tryd.prog 29 #[.pointer (some ⟨b, 0, none⟩)] w (GNum (fun s x => RRd T b (rst s) x) b (stepI T.data.toList st).1 (stepI T.data.toList st).2 w) :=
  refint_any T b st w hr hp (by omega)
theorem m_nums (T : ByteArray) (b : Nat) (most : Int) (st : St) (w : World) (hr : RRd T b (rst st) w) (hp : st.1 ≤ T.size) (hT : T.size ≤ 500) :
    Calls Tryd.prog 30 #[.pointer (some ⟨b, 0, none⟩), .int .i64 most] w (GOwn (fun s x => RRd T b (rst s) x) b (listO (listS stepNI T.data.toList most st).1) (listS stepNI T.data.toList most st).2 w) :=
  refnums_own T b most st w hr hp (by omega)
theorem m_ints (T : ByteArray) (b : Nat) (most : Int) (st : St) (w : World) (hr : RRd T b (rst st) w) (hp : st.1 ≤ T.size) (hT : T.size ≤ 500) :
    Calls Tryd.prog 31 #[.pointer (some ⟨b, 0, none⟩), .int .i64 most] w (GOwn (fun s x => RRd T b (rst s) x) b (listO (listS stepI T.data.toList most st).1) (listS stepI T.data.toList most st).2 w) :=
  refints_own T b most st w hr hp (by omega)

set_option maxHeartbeats 8000000 in
set_option maxRecDepth 100000 in
theorem model_any (T : ByteArray) (v : Value) (zs : List Int) (most : Int) (w : World) (hT : T.size ≤ 500) (hz : zs.length ≤ 20) (hr : Row w w.heap.size v zs) :
    Calls Tryd.prog 13 #[.string T, v, .int .i64 most] w fun e w' => ∃ v', e = .returned v' ∧ w'.ownsRow w.heap.size 3 1 v' (scriptL T.data.toList most zs).length ((scriptL T.data.toList most zs).map (Value.int .i64)) ∧ (scriptL T.data.toList most zs).length ≤ 12000 ∧ Below w.heap.size w w' := by
  obtain ⟨A, cp, rfl, hcell⟩ := hr
  have Hcell := Lib.hid hcell
  clear hcell
  obtain ⟨i0, hi, hz0, hz1i, hz2⟩ := info_parts info22
  go_enter Tryd.func13, Tryd.ntmps13
  have hr1 : RRd T w.heap.size (rst (0, none)) (w.alloc (.cells #[.string T, .int .i64 0, .int .i64 0] 43)) := Blk.new _ _ _
  have hB1 : Below w.heap.size w (w.alloc (.cells #[.string T, .int .i64 0, .int .i64 0] 43)) := (Below.refl _ w).alloc (Nat.le_refl _) _
  have hz1 : (w.alloc (.cells #[.string T, .int .i64 0, .int .i64 0] 43)).heap.size = w.heap.size + 1 := by simp
  generalize hw1 : w.alloc (.cells #[.string T, .int .i64 0, .int .i64 0] 43) = w1 at hr1 hB1 hz1
  have hown0 : (w1.alloc (.cells #[] 3)).ownsRow (w.heap.size + 1) 3 1 (.slice (some ⟨w1.heap.size, 0, none⟩) 0 0) 0 [] :=
    World.ownsRow_made w1 #[] 0 (by omega) (by unfold maxLen; omega) rfl
  clear hz1
  have hB0 : Below w.heap.size w (w1.alloc (.cells #[] 3)) := hB1.alloc hB1.size _
  have hr0 : RRd T w.heap.size (rst (0, none)) (w1.alloc (.cells #[] 3)) := hr1.alloc _
  go_wp2
  clear hw1
  go_loopw [8, 9] (fun vm vk wr => ∃ (k : Nat) (st : St) (acc : List Int), vk = .int .i64 k ∧ k ≤ zs.length ∧ wr.ownsRow (w.heap.size + 1) 3 1 vm acc.length (acc.map (Value.int .i64)) ∧ Below w.heap.size w wr ∧ RRd T w.heap.size (rst st) wr ∧ st.1 ≤ T.size ∧ Kin st ∧ acc.length ≤ 501 * k
      ∧ doS T.data.toList most zs (0, none) [] = doS T.data.toList most (zs.drop k) st acc)
    (fun _ vk _ => zs.length - (intOf vk).toNat)
  case atStart => exact ⟨0, (0, none), [], rfl, Nat.zero_le _, hown0, hB0, hr0, Nat.zero_le _, fun x hx => by simp at hx, Nat.zero_le _, rfl⟩
  case round =>
    obtain ⟨k, st, acc, rfl, hk, hown, hBr, hrd, hst, hkin, hal, hdo⟩ := hrel
    have Hdo := Lib.hid hdo
    clear hdo hown0 hB0 hr0 hr1 hB1
    by_cases hlt : k < zs.length
    · obtain ⟨ad, hA, hab, hc⟩ := Hcell.out k hlt
      subst hA
      have hcr : wr.cell? (ad.add k) = some (.int .i64 (zs.getD k 0)) := (hBr.cell (by rw [add_block]; exact hab)).trans hc
      have hdrop : zs.drop k = zs.getD k 0 :: zs.drop (k + 1) := by
        rw [List.drop_eq_getElem_cons hlt]
        simp [List.getD, hlt]
      have Hnx : Hid (doS T.data.toList most zs (0, none) [] = doS T.data.toList most (zs.drop (k + 1)) (doStep T.data.toList most (zs.getD k 0) st).2 (acc ++ (doStep T.data.toList most (zs.getD k 0) st).1)) := by
        show _ = _
        rw [Hdo.out, hdrop, doS]
      have hin := doStep_in T.data.toList most (zs.getD k 0) st (by rw [size_len]; exact hst) hkin
      rw [size_len] at hin
      clear hc hdrop
      generalize zs.getD k 0 = d at *
      have hbw : w.heap.size ≤ wr.heap.size := hBr.size
      by_cases h0 : d = 0
      · subst h0
        have e : doStep T.data.toList most 0 st = ([(stepNI T.data.toList st).1], (stepNI T.data.toList st).2) := by rw [doStep, if_pos rfl]
        rw [e] at hin
        have Hnx' : Hid (doS T.data.toList most zs (0, none) [] = doS T.data.toList most (zs.drop (k + 1)) (stepNI T.data.toList st).2 (acc ++ [(stepNI T.data.toList st).1])) := by
          have h := Hnx.out
          rw [e] at h
          exact h
        have hcall := m_num T w.heap.size st wr hrd hst hT
        clear e Hnx
        generalize (stepNI T.data.toList st).1 = l at *
        generalize (stepNI T.data.toList st).2 = st' at *
        simp only at hin
        obtain ⟨hst', hkin', hlen⟩ := hin
        go_wp2_with fail
        refine hcall.mono ?_
        rintro e w3 ⟨rfl, hg3, hr3⟩
        have hB3 : Below w.heap.size w w3 := hBr.grown hg3 hBr.size (fun i hi => by injection hi with hi; omega)
        have hown3 : w3.ownsRow (w.heap.size + 1) 3 1 u8 acc.length (acc.map (Value.int .i64)) := hown.kept hg3 (.inr (fun h => by have := (hown.lt _ h).1; omega))
        have hz3 : w.heap.size + 1 ≤ w3.heap.size := by have := hr3.lt; omega
        go_wp2_with (at_builtin; refine wpList_append_own _ rfl _ _ 22 rfl (w.heap.size + 1) 3 i0 (.int .i64 0) 1 8 (by kernel_rfl) hi hz0 hz1i hz2 rfl (by decide) _ _ _ rfl (hown3.alloc _) ⟨w3.heap.size, 0, none⟩ 1 1 [Value.int .i64 l] rfl rfl ?c1 ?c2 ?c3 ?c4 ?c5 ?_)
        case c1 =>
          intro j u hj
          match j, hj with
          | 0, hj => simp at hj; subst hj; simp [Addr.add]
        case c2 => intro u hu; simp at hu; subst hu; rfl
        case c3 => unfold maxLen; omega
        case c4 => omega
        case c5 => simp; omega
        intro v' w4 hown' hgrow _
        have hB4 : Below w.heap.size w w4 := (hB3.alloc hB3.size _).grown hgrow (by simp; omega) (fun i hi => by have := (hown3.lt i hi).1; omega)
        have hrd4 : RRd T w.heap.size (rst st') w4 := (hr3.alloc _).grown hgrow (fun h => by have := (hown3.lt _ h.symm).1; omega)
        go_wp2
        go_roundw
        case rel =>
          refine ⟨k + 1, st', acc ++ [l], by go_num, by omega, ?_, hB4, hrd4, hst', hkin', by rw [List.length_append]; show acc.length + 1 ≤ _; omega, Hnx'.out⟩
          rw [List.length_append, List.map_append]; exact hown'
        case measure => simp [intOf]; omega
      have b0 : (d == 0) = false := by rw [beq_eq_false_iff_ne]; exact h0
      by_cases h1 : d = 1
      · subst h1
        have e : doStep T.data.toList most 1 st = ([(stepI T.data.toList st).1], (stepI T.data.toList st).2) := by rw [doStep, if_neg (by omega), if_pos rfl]
        rw [e] at hin
        have Hnx' : Hid (doS T.data.toList most zs (0, none) [] = doS T.data.toList most (zs.drop (k + 1)) (stepI T.data.toList st).2 (acc ++ [(stepI T.data.toList st).1])) := by
          have h := Hnx.out
          rw [e] at h
          exact h
        have hcall := m_int T w.heap.size st wr hrd hst hT
        clear e Hnx
        generalize (stepI T.data.toList st).1 = l at *
        generalize (stepI T.data.toList st).2 = st' at *
        simp only at hin
        obtain ⟨hst', hkin', hlen⟩ := hin
        go_wp2_with fail
        refine hcall.mono ?_
        rintro e w3 ⟨rfl, hg3, hr3⟩
        have hB3 : Below w.heap.size w w3 := hBr.grown hg3 hBr.size (fun i hi => by injection hi with hi; omega)
        have hown3 : w3.ownsRow (w.heap.size + 1) 3 1 u8 acc.length (acc.map (Value.int .i64)) := hown.kept hg3 (.inr (fun h => by have := (hown.lt _ h).1; omega))
        have hz3 : w.heap.size + 1 ≤ w3.heap.size := by have := hr3.lt; omega
        go_wp2_with (at_builtin; refine wpList_append_own _ rfl _ _ 22 rfl (w.heap.size + 1) 3 i0 (.int .i64 0) 1 8 (by kernel_rfl) hi hz0 hz1i hz2 rfl (by decide) _ _ _ rfl (hown3.alloc _) ⟨w3.heap.size, 0, none⟩ 1 1 [Value.int .i64 l] rfl rfl ?c1 ?c2 ?c3 ?c4 ?c5 ?_)
        case c1 =>
          intro j u hj
          match j, hj with
          | 0, hj => simp at hj; subst hj; simp [Addr.add]
        case c2 => intro u hu; simp at hu; subst hu; rfl
        case c3 => unfold maxLen; omega
        case c4 => omega
        case c5 => simp; omega
        intro v' w4 hown' hgrow _
        have hB4 : Below w.heap.size w w4 := (hB3.alloc hB3.size _).grown hgrow (by simp; omega) (fun i hi => by have := (hown3.lt i hi).1; omega)
        have hrd4 : RRd T w.heap.size (rst st') w4 := (hr3.alloc _).grown hgrow (fun h => by have := (hown3.lt _ h.symm).1; omega)
        go_wp2
        go_roundw
        case rel =>
          refine ⟨k + 1, st', acc ++ [l], by go_num, by omega, ?_, hB4, hrd4, hst', hkin', by rw [List.length_append]; show acc.length + 1 ≤ _; omega, Hnx'.out⟩
          rw [List.length_append, List.map_append]; exact hown'
        case measure => simp [intOf]; omega
      have b1 : (d == 1) = false := by rw [beq_eq_false_iff_ne]; exact h1
      by_cases h2 : d = 2
      · subst h2
        have e : doStep T.data.toList most 2 st = (listO (listS stepNI T.data.toList most st).1, (listS stepNI T.data.toList most st).2) := by rw [doStep, if_neg (by omega), if_neg (by omega), if_pos rfl]
        rw [e] at hin
        have Hnx' : Hid (doS T.data.toList most zs (0, none) [] = doS T.data.toList most (zs.drop (k + 1)) (listS stepNI T.data.toList most st).2 (acc ++ listO (listS stepNI T.data.toList most st).1)) := by
          have h := Hnx.out
          rw [e] at h
          exact h
        have hcall := m_nums T w.heap.size most st wr hrd hst hT
        clear e Hnx
        generalize listO (listS stepNI T.data.toList most st).1 = l at *
        generalize (listS stepNI T.data.toList most st).2 = st' at *
        simp only at hin
        obtain ⟨hst', hkin', hlen⟩ := hin
        go_wp2_with fail
        refine hcall.mono ?_
        rintro e w3 ⟨vl, rfl, hownl, hg3, hr3⟩
        have hB3 : Below w.heap.size w w3 := hBr.grown hg3 hBr.size (fun i hi => by injection hi with hi; omega)
        have hown3 : w3.ownsRow (w.heap.size + 1) 3 1 u8 acc.length (acc.map (Value.int .i64)) := hown.kept hg3 (.inr (fun h => by have := (hown.lt _ h).1; omega))
        have hz3 : w.heap.size + 1 ≤ w3.heap.size := by have := hr3.lt; omega
        rcases own_cut hownl with ⟨rfl, hl0⟩ | ⟨g, cap, rfl, hgb, hgc⟩
        · have hle : l = [] := List.eq_nil_of_length_eq_zero hl0
          subst hle
          go_wp2_with (at_builtin; refine wpList_append_own_none rfl _ _ 22 rfl (w.heap.size + 1) 3 i0 1 (by kernel_rfl) hi _ _ _ rfl hown3 rfl ?_)
          go_wp2
          go_roundw
          case rel =>
            refine ⟨k + 1, st', acc ++ [], by go_num, by omega, ?_, hB3, hr3, hst', hkin', by rw [List.append_nil]; omega, Hnx'.out⟩
            rw [List.append_nil]; exact hown3
          case measure => simp [intOf]; omega
        · go_wp2_with (at_builtin; refine wpList_append_own _ rfl _ _ 22 rfl (w.heap.size + 1) 3 i0 (.int .i64 0) 1 8 (by kernel_rfl) hi hz0 hz1i hz2 rfl (by decide) _ _ _ rfl hown3 ⟨g, 0, none⟩ l.length cap (l.map (Value.int .i64)) rfl (by simp) ?c1 ?c2 ?c3 ?c4 ?c5 ?_)
          case c1 => exact hgc
          case c2 =>
            intro u hu
            obtain ⟨z, _, rfl⟩ := List.mem_map.1 hu
            rfl
          case c3 => unfold maxLen; omega
          case c4 => omega
          case c5 => exact hz3
          intro v' w4 hown' hgrow _
          have hB4 : Below w.heap.size w w4 := hB3.grown hgrow (by omega) (fun i hi => by have := (hown3.lt i hi).1; omega)
          have hrd4 : RRd T w.heap.size (rst st') w4 := hr3.grown hgrow (fun h => by have := (hown3.lt _ h.symm).1; omega)
          go_wp2
          go_roundw
          case rel =>
            refine ⟨k + 1, st', acc ++ l, by go_num, by omega, ?_, hB4, hrd4, hst', hkin', by rw [List.length_append]; omega, Hnx'.out⟩
            rw [List.length_append, List.map_append]; exact hown'
          case measure => simp [intOf]; omega
      have b2 : (d == 2) = false := by rw [beq_eq_false_iff_ne]; exact h2
      by_cases h3 : d = 3
      · subst h3
        have e : doStep T.data.toList most 3 st = (listO (listS stepI T.data.toList most st).1, (listS stepI T.data.toList most st).2) := by rw [doStep, if_neg (by omega), if_neg (by omega), if_neg (by omega), if_pos rfl]
        rw [e] at hin
        have Hnx' : Hid (doS T.data.toList most zs (0, none) [] = doS T.data.toList most (zs.drop (k + 1)) (listS stepI T.data.toList most st).2 (acc ++ listO (listS stepI T.data.toList most st).1)) := by
          have h := Hnx.out
          rw [e] at h
          exact h
        have hcall := m_ints T w.heap.size most st wr hrd hst hT
        clear e Hnx
        generalize listO (listS stepI T.data.toList most st).1 = l at *
        generalize (listS stepI T.data.toList most st).2 = st' at *
        simp only at hin
        obtain ⟨hst', hkin', hlen⟩ := hin
        go_wp2_with fail
        refine hcall.mono ?_
        rintro e w3 ⟨vl, rfl, hownl, hg3, hr3⟩
        have hB3 : Below w.heap.size w w3 := hBr.grown hg3 hBr.size (fun i hi => by injection hi with hi; omega)
        have hown3 : w3.ownsRow (w.heap.size + 1) 3 1 u8 acc.length (acc.map (Value.int .i64)) := hown.kept hg3 (.inr (fun h => by have := (hown.lt _ h).1; omega))
        have hz3 : w.heap.size + 1 ≤ w3.heap.size := by have := hr3.lt; omega
        rcases own_cut hownl with ⟨rfl, hl0⟩ | ⟨g, cap, rfl, hgb, hgc⟩
        · have hle : l = [] := List.eq_nil_of_length_eq_zero hl0
          subst hle
          go_wp2_with (at_builtin; refine wpList_append_own_none rfl _ _ 22 rfl (w.heap.size + 1) 3 i0 1 (by kernel_rfl) hi _ _ _ rfl hown3 rfl ?_)
          go_wp2
          go_roundw
          case rel =>
            refine ⟨k + 1, st', acc ++ [], by go_num, by omega, ?_, hB3, hr3, hst', hkin', by rw [List.append_nil]; omega, Hnx'.out⟩
            rw [List.append_nil]; exact hown3
          case measure => simp [intOf]; omega
        · go_wp2_with (at_builtin; refine wpList_append_own _ rfl _ _ 22 rfl (w.heap.size + 1) 3 i0 (.int .i64 0) 1 8 (by kernel_rfl) hi hz0 hz1i hz2 rfl (by decide) _ _ _ rfl hown3 ⟨g, 0, none⟩ l.length cap (l.map (Value.int .i64)) rfl (by simp) ?c1 ?c2 ?c3 ?c4 ?c5 ?_)
          case c1 => exact hgc
          case c2 =>
            intro u hu
            obtain ⟨z, _, rfl⟩ := List.mem_map.1 hu
            rfl
          case c3 => unfold maxLen; omega
          case c4 => omega
          case c5 => exact hz3
          intro v' w4 hown' hgrow _
          have hB4 : Below w.heap.size w w4 := hB3.grown hgrow (by omega) (fun i hi => by have := (hown3.lt i hi).1; omega)
          have hrd4 : RRd T w.heap.size (rst st') w4 := hr3.grown hgrow (fun h => by have := (hown3.lt _ h.symm).1; omega)
          go_wp2
          go_roundw
          case rel =>
            refine ⟨k + 1, st', acc ++ l, by go_num, by omega, ?_, hB4, hrd4, hst', hkin', by rw [List.length_append]; omega, Hnx'.out⟩
            rw [List.length_append, List.map_append]; exact hown'
          case measure => simp [intOf]; omega
      have b3 : (d == 3) = false := by rw [beq_eq_false_iff_ne]; exact h3
      have e : doStep T.data.toList most d st = ([], st) := by rw [doStep, if_neg h0, if_neg h1, if_neg h2, if_neg h3]
      have Hnx' : Hid (doS T.data.toList most zs (0, none) [] = doS T.data.toList most (zs.drop (k + 1)) st acc) := by
        have h := Hnx.out
        rw [e, List.append_nil] at h
        exact h
      clear e Hnx hin h0 h1 h2 h3
      go_wp2
      go_roundw
      case rel => exact ⟨k + 1, st, acc, by go_num, by omega, hown, hBr, hrd, hst, hkin, by omega, Hnx'.out⟩
      case measure => simp [intOf]; omega
    · have hke : k = zs.length := by omega
      have Hfin : Hid (doS T.data.toList most zs (0, none) [] = (acc, st)) := by
        show _ = _
        rw [Hdo.out, hke, List.drop_length]; rfl
      have Hsl : Hid (scriptL T.data.toList most zs = acc ++ [((endS T.data.toList st).1 : Int), ((endS T.data.toList st).2 : Int)]) := by
        show _ = _
        unfold scriptL
        rw [Hfin.out]
      clear Hdo Hfin
      subst hke
      have hend := refend_any T w.heap.size st hst (by omega) wr hrd
      have hz3 : w.heap.size + 1 ≤ wr.heap.size := by have := hrd.lt; omega
      generalize (endS T.data.toList st).1 = e1 at *
      generalize (endS T.data.toList st).2 = e2 at *
      go_wp2_with fail
      refine hend.mono ?_
      rintro e w3 ⟨rfl, hb3⟩
      have hB3 : Below w.heap.size w w3 := hBr.trans (hb3.mono (by omega))
      have hown3 : w3.ownsRow (w.heap.size + 1) 3 1 u8 acc.length (acc.map (Value.int .i64)) := hown.kept (row := none) (only_of_below hb3 _) (by cases hv : u8.ownBlock <;> simp)
      have hz4 : w.heap.size + 1 ≤ w3.heap.size := by have := hb3.size; omega
      go_wp2_with (at_builtin; refine wpList_append_own _ rfl _ _ 22 rfl (w.heap.size + 1) 3 i0 (.int .i64 0) 1 8 (by kernel_rfl) hi hz0 hz1i hz2 rfl (by decide) _ _ _ rfl (hown3.alloc _) ⟨w3.heap.size, 0, none⟩ 2 2 [Value.int .i64 (e1 : Nat), Value.int .i64 (e2 : Nat)] rfl rfl ?c1 ?c2 ?c3 ?c4 ?c5 ?_)
      case c1 =>
        intro j u hj
        match j, hj with
        | 0, hj => simp at hj; subst hj; simp [Addr.add]
        | 1, hj => simp at hj; subst hj; simp [Addr.add]
      case c2 => intro u hu; simp at hu; rcases hu with rfl | rfl <;> rfl
      case c3 => unfold maxLen; omega
      case c4 => omega
      case c5 => simp; omega
      intro v' w4 hown' hgrow _
      have hB4 : Below w.heap.size w w4 := (hB3.alloc hB3.size _).grown hgrow (by simp; omega) (fun i hi => by have := (hown3.lt i hi).1; omega)
      go_wp2
      go_ret
      rw [Hsl.out]
      refine ⟨_, rfl, ?_, by rw [List.length_append]; show acc.length + 2 ≤ _; omega, hB4⟩
      rw [List.length_append, List.map_append]
      exact hown'.mono (by omega)

end Wp
end Go.Proofs.YtcabbhiabhblfaaDoor
