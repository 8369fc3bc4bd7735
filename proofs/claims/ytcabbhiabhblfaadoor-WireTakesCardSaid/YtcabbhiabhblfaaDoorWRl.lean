/- The document's own reader, walked: signed numbers, lists, the end. -/
import Derived.Test.YtcabbhiabhblfaaDoorWRd
import Derived.Test.YtcabbhiabhblfaaDoorWEnd
namespace Go.Proofs.YtcabbhiabhblfaaDoor
open Go.RowKit
namespace Wp

theorem refnum_any (T : ByteArray) (c : Nat) (st : St) (w : World) (hr : RRd T c (rst st) w) (hp : st.1 ≤ T.size) (hT : T.size ≤ 1099511627776) :
    Calls Tryd.prog 28 #[.pointer (some ⟨c, 0, none⟩)] w (RTook T c ((stepN T.data.toList st).1 : Nat) (rst (stepN T.data.toList st).2) w) := by
  obtain ⟨p, x⟩ := st
  cases x with
  | none => exact refnum_ok T c p w hr hp hT
  | some x =>
    obtain ⟨q, k⟩ := x
    rw [stepN_err]
    have hr' : RRd T c (q, 9 + k) w := hr
    have c2 : w.cell? ⟨c, 2, none⟩ = some (.int .i64 ((9 + k : Nat) : Int)) := hr'.cell 2
    have hne : (((9 + k : Nat) : Int) != 0) = true := by rw [bne_iff_ne]; omega
    clear hr
    generalize ((9 + k : Nat) : Int) = z at c2 hne
    go_enter Tryd.func28, Tryd.ntmps28
    go_wp2
    go_ret
    exact ⟨rfl, World.grownBy.refl _ _, hr'⟩

theorem refint_any (T : ByteArray) (c : Nat) (st : St) (w : World) (hr : RRd T c (rst st) w) (hp : st.1 ≤ T.size) (hT : T.size ≤ 1099511627776) :
    Calls Tryd.prog 29 #[.pointer (some ⟨c, 0, none⟩)] w (RTook T c (stepI T.data.toList st).1 (rst (stepI T.data.toList st).2) w) := by
  have hn := (stepN_in T.data.toList st (by simpa using hp)).2.2
  have hc := refnum_any T c st w hr hp hT
  unfold stepI
  show Calls _ _ _ _ (RTook T c (unz (stepN T.data.toList st).1) (rst (stepN T.data.toList st).2) w)
  generalize (stepN T.data.toList st).1 = n at *
  generalize (stepN T.data.toList st).2 = st' at *
  have Hc := Lib.hid hc
  clear hc
  go_enter Tryd.func29, Tryd.ntmps29
  go_wp2_with fail
  refine Hc.out.mono ?_
  rintro e w1 ⟨rfl, hg, hr1⟩
  go_wp2_with fail
  refine (signed_any n hn w1).mono ?_
  rintro e w2 ⟨rfl, rfl⟩
  go_wp2
  go_ret
  exact ⟨rfl, hg, hr1⟩

/-- What a call of Nums or Ints of the document's reader comes to. -/
def RListed (T : ByteArray) (c : Nat) (r : Option (List Int) × St) (w : World) (e : Ending) (w' : World) : Prop :=
  ∃ v, e = .returned v ∧ Told w.heap.size r.1 v w' ∧ w.grownBy w' (some c) ∧ RRd T c (rst r.2) w'

theorem RRd.grown {T : ByteArray} {c : Nat} {s : Nat × Nat} {w w' : World} {row : Option Nat} (h : RRd T c s w) (hg : w.grownBy w' row) (hne : some c ≠ row) : RRd T c s w' := Blk.grown h hg hne
theorem RRd.alloc {T : ByteArray} {c : Nat} {s : Nat × Nat} {w : World} (h : RRd T c s w) (o : Obj) : RRd T c s (w.alloc o) := Blk.alloc h o

/-- The loop of the document's Nums, from a state whose count is taken. -/
theorem refnums_err (T : ByteArray) (c : Nat) (q k : Nat) (p : Nat) (most : Int) (w : World) (hr : RRd T c (rst (p, some (q, k))) w) :
    Calls Tryd.prog 30 #[.pointer (some ⟨c, 0, none⟩), .int .i64 most] w (RListed T c (none, (p, some (q, k))) w) := by
  have hr' : RRd T c (q, 9 + k) w := hr
  have c1 : w.cell? ⟨c, 1, none⟩ = some (.int .i64 (q : Nat)) := hr'.cell 1
  have c2 : w.cell? ⟨c, 2, none⟩ = some (.int .i64 ((9 + k : Nat) : Int)) := hr'.cell 2
  have hc : Calls Tryd.prog 28 #[.pointer (some ⟨c, 0, none⟩)] w (fun e w' => e = .returned (.int .i64 0) ∧ w' = w) := by
    have hne : (((9 + k : Nat) : Int) != 0) = true := by rw [bne_iff_ne]; omega
    clear hr hr' c1
    generalize ((9 + k : Nat) : Int) = z at c2 hne
    go_enter Tryd.func28, Tryd.ntmps28
    go_wp2
    go_ret
    exact ⟨rfl, rfl⟩
  have Hc := Lib.hid hc
  clear hc hr
  have hne : (((9 + k : Nat) : Int) == 0) = false := by rw [beq_eq_false_iff_ne]; omega
  have hne2 : (((9 + k : Nat) : Int) != 0) = true := by rw [bne_iff_ne]; omega
  generalize ((9 + k : Nat) : Int) = z at c2 hne hne2
  have hra : RRd T c (q, 9 + k) (w.alloc (.cells #[] 3)) := hr'.alloc _
  have hga : w.grownBy (w.alloc (.cells #[] 3)) (some c) := only_alloc (World.grownBy.refl w _) _
  have ha2 : (w.alloc (.cells #[] 3)).cell? ⟨c, 2, none⟩ = some (.int .i64 z) := by
    have h : (w.alloc (.cells #[] 3)).cell? ⟨c, 2, none⟩ = w.cell? ⟨c, 2, none⟩ := (Below.refl w.heap.size w).alloc (Nat.le_refl _) _ |>.cell (by exact hr'.lt)
    rw [h]; exact c2
  go_enter Tryd.func30, Tryd.ntmps30
  go_wp2_with fail
  refine Hc.out.mono ?_
  rintro e w1 ⟨rfl, rfl⟩
  go_wp2
  go_loopw [7, 8] (fun vm vk wr => vk = .int .i64 0 ∧ wr = w1.alloc (.cells #[] 3)) (fun _ _ _ => 0)
  case atStart => exact ⟨rfl, rfl⟩
  case round =>
    obtain ⟨rfl, rfl⟩ := hrel
    go_wp2
    go_ret
    exact ⟨_, rfl, rfl, hga, hra⟩

theorem refnums_bad (T : ByteArray) (c p k : Nat) (most : Int) (w : World) (hr : RRd T c (p, 0) w) (hp : p ≤ T.size) (hT : T.size ≤ 1099511627776)
    (hd : dec 8 0 0 (T.data.toList.drop p) = (0, 0, k + 1)) :
    Calls Tryd.prog 30 #[.pointer (some ⟨c, 0, none⟩), .int .i64 most] w (RListed T c (none, (p, some (p, k + 1))) w) := by
  have hc := refnum_ok T c p w hr hp hT
  rw [stepN_bad _ _ k hd] at hc
  have Hc := Lib.hid hc
  clear hc hd
  have c1 : w.cell? ⟨c, 1, none⟩ = some (.int .i64 (p : Nat)) := hr.cell 1
  go_enter Tryd.func30, Tryd.ntmps30
  go_wp2_with fail
  refine Hc.out.mono ?_
  rintro e w1 ⟨rfl, hg1, hr1⟩
  have hr1' : RRd T c (p, 9 + (k + 1)) w1 := hr1
  clear hr1
  have hne : (((9 + (k + 1) : Nat) : Int) == 0) = false := by rw [beq_eq_false_iff_ne]; omega
  have hne2 : (((9 + (k + 1) : Nat) : Int) != 0) = true := by rw [bne_iff_ne]; omega
  have c2 : w1.cell? ⟨c, 2, none⟩ = some (.int .i64 ((9 + (k + 1) : Nat) : Int)) := hr1'.cell 2
  generalize ((9 + (k + 1) : Nat) : Int) = z at c2 hne hne2
  have hra : RRd T c (p, 9 + (k + 1)) (w1.alloc (.cells #[] 3)) := hr1'.alloc _
  have hga : w.grownBy (w1.alloc (.cells #[] 3)) (some c) := only_alloc hg1 _
  have ha2 : (w1.alloc (.cells #[] 3)).cell? ⟨c, 2, none⟩ = some (.int .i64 z) := by
    have h : (w1.alloc (.cells #[] 3)).cell? ⟨c, 2, none⟩ = w1.cell? ⟨c, 2, none⟩ := (Below.refl w1.heap.size w1).alloc (Nat.le_refl _) _ |>.cell (by exact hr1'.lt)
    rw [h]; exact c2
  go_wp2
  go_loopw [7, 8] (fun vm vk wr => vk = .int .i64 0 ∧ wr = w1.alloc (.cells #[] 3)) (fun _ _ _ => 0)
  case atStart => exact ⟨rfl, rfl⟩
  case round =>
    obtain ⟨rfl, rfl⟩ := hrel
    go_wp2
    go_ret
    exact ⟨_, rfl, rfl, hga, hra⟩

theorem refnums_many (T : ByteArray) (c p n sz : Nat) (most : Int) (w : World) (hr : RRd T c (p, 0) w) (hp : p ≤ T.size) (hT : T.size ≤ 1099511627776)
    (hd : dec 8 0 0 (T.data.toList.drop p) = (n, sz, 0)) (hmost : most < (n : Int)) :
    Calls Tryd.prog 30 #[.pointer (some ⟨c, 0, none⟩), .int .i64 most] w (RListed T c (none, (p + sz, some (p, 3))) w) := by
  have hc := refnum_ok T c p w hr hp hT
  rw [stepN_ok _ _ _ _ hd] at hc
  have Hc := Lib.hid hc
  clear hc hd
  have c1 : w.cell? ⟨c, 1, none⟩ = some (.int .i64 (p : Nat)) := hr.cell 1
  go_enter Tryd.func30, Tryd.ntmps30
  go_wp2_with fail
  refine Hc.out.mono ?_
  rintro e w1 ⟨rfl, hg1, hr1⟩
  have hr1' : RRd T c (p + sz, 0) w1 := hr1
  clear hr1
  have c2 : w1.cell? ⟨c, 2, none⟩ = some (.int .i64 0) := hr1'.cell 2
  have c1' : w1.cell? ⟨c, 1, none⟩ = some (.int .i64 ((p + sz : Nat) : Int)) := hr1'.cell 1
  have f1 : w1.frozen? ⟨c, 1, none⟩ = false := hr1'.frozen 1
  have hr2 : RRd T c (p, 12) ((w1.setCell ⟨c, 1, none⟩ (.int .i64 p)).setCell ⟨c, 2, none⟩ (.int .i64 12)) := (hr1'.set_ 1 _).set_ 2 _
  have f2 : (w1.setCell ⟨c, 1, none⟩ (.int .i64 p)).frozen? ⟨c, 2, none⟩ = false := (hr1'.set_ 1 _).frozen 2
  have hg2 : w.grownBy ((w1.setCell ⟨c, 1, none⟩ (.int .i64 p)).setCell ⟨c, 2, none⟩ (.int .i64 12)) (some c) := only_setCell (only_setCell hg1 (.inl rfl) _) (.inl rfl) _
  have c2' : (w1.setCell ⟨c, 1, none⟩ (.int .i64 p)).cell? ⟨c, 2, none⟩ = some (.int .i64 0) := (hr1'.set_ 1 _).cell 2
  have hra : RRd T c (p, 12) (((w1.setCell ⟨c, 1, none⟩ (.int .i64 p)).setCell ⟨c, 2, none⟩ (.int .i64 12)).alloc (.cells #[] 3)) := hr2.alloc _
  have hga : w.grownBy (((w1.setCell ⟨c, 1, none⟩ (.int .i64 p)).setCell ⟨c, 2, none⟩ (.int .i64 12)).alloc (.cells #[] 3)) (some c) := only_alloc hg2 _
  have ha2 : (((w1.setCell ⟨c, 1, none⟩ (.int .i64 p)).setCell ⟨c, 2, none⟩ (.int .i64 12)).alloc (.cells #[] 3)).cell? ⟨c, 2, none⟩ = some (.int .i64 12) := hra.cell 2
  have hn0 : (0 : Int) ≤ n := by omega
  go_wp2
  go_loopw [7, 8] (fun vm vk wr => vk = .int .i64 0 ∧ wr = (((w1.setCell ⟨c, 1, none⟩ (.int .i64 p)).setCell ⟨c, 2, none⟩ (.int .i64 12)).alloc (.cells #[] 3))) (fun _ _ _ => 0)
  case atStart => exact ⟨rfl, rfl⟩
  case round =>
    obtain ⟨rfl, rfl⟩ := hrel
    by_cases h0 : (0 : Int) < n
    · go_wp2
      go_ret
      exact ⟨_, rfl, rfl, hga, hra⟩
    · go_wp2
      go_ret
      exact ⟨_, rfl, rfl, hga, hra⟩

set_option maxHeartbeats 2000000 in
set_option maxRecDepth 100000 in
theorem refnums_go (T : ByteArray) (c p n sz : Nat) (most : Int) (w : World) (hr : RRd T c (p, 0) w) (hp : p ≤ T.size) (hT : T.size ≤ 1099511627776)
    (hd : dec 8 0 0 (T.data.toList.drop p) = (n, sz, 0)) (hmost : ¬ most < (n : Int)) (hn : n ≤ 1125899906842624) (hsz : p + sz ≤ T.size) :
    Calls Tryd.prog 30 #[.pointer (some ⟨c, 0, none⟩), .int .i64 most] w (RListed T c (takeL stepNI T.data.toList n (p + sz, none) []) w) := by
  have hc := refnum_ok T c p w hr hp hT
  rw [stepN_ok _ _ _ _ hd] at hc
  have Hc := Lib.hid hc
  clear hc hd
  have c1 : w.cell? ⟨c, 1, none⟩ = some (.int .i64 (p : Nat)) := hr.cell 1
  have hwc : c < w.heap.size := hr.lt
  obtain ⟨i0, hi, hz0, hz1, hz2⟩ := info_parts info3
  go_enter Tryd.func30, Tryd.ntmps30
  go_wp2_with fail
  refine Hc.out.mono ?_
  rintro e w1 ⟨rfl, hg1, hr1⟩
  have hr1' : RRd T c (p + sz, 0) w1 := hr1
  clear hr1
  have c2 : w1.cell? ⟨c, 2, none⟩ = some (.int .i64 0) := hr1'.cell 2
  have hra : RRd T c (rst (p + sz, none)) (w1.alloc (.cells #[] 3)) := hr1'.alloc _
  have hga : w.grownBy (w1.alloc (.cells #[] 3)) (some c) := only_alloc hg1 _
  have hown0 : (w1.alloc (.cells #[] 3)).ownsRow w.heap.size 3 1 (.slice (some ⟨w1.heap.size, 0, none⟩) 0 0) 0 [] :=
    World.ownsRow_made w1 #[] 0 hg1.size (by unfold maxLen; omega) rfl
  go_wp2
  go_loopw [7, 8] (fun vm vk wr => ∃ (k : Nat) (st : St) (acc : List Int), vk = .int .i64 k ∧ k ≤ n ∧ wr.ownsRow w.heap.size 3 1 vm k (acc.map (Value.int .i64)) ∧ w.grownBy wr (some c) ∧ RRd T c (rst st) wr ∧ st.1 ≤ T.size ∧ acc.length = k
      ∧ ((st.2 = none ∧ k ≤ st.1 ∧ takeL stepNI T.data.toList n (p + sz, none) [] = takeL stepNI T.data.toList (n - k) st acc)
        ∨ (st.2 ≠ none ∧ takeL stepNI T.data.toList n (p + sz, none) [] = (none, st))))
    (fun _ vk _ => n - (intOf vk).toNat)
  case atStart => exact ⟨0, (p + sz, none), [], rfl, Nat.zero_le _, hown0, hga, hra, hsz, rfl, .inl ⟨rfl, Nat.zero_le _, rfl⟩⟩
  case round =>
    obtain ⟨k, st, acc, rfl, hkn, hown, hgr, hrd, hst, hacc, hor⟩ := hrel
    have Hacc := Lib.hid hacc
    clear hacc
    rcases hor with ⟨hst2, hks, htk⟩ | ⟨hst2, htk⟩
    · have Htk := Lib.hid htk
      clear htk
      obtain ⟨q, x⟩ := st
      simp only at hst2
      subst hst2
      have hst' : q ≤ T.size := hst
      have hks' : k ≤ q := hks
      clear hst hks
      have hrd' : RRd T c (q, 0) wr := hrd
      clear hrd
      have d2 : wr.cell? ⟨c, 2, none⟩ = some (.int .i64 0) := hrd'.cell 2
      by_cases hlt : k < n
      · have hcall := refnum_ok T c q wr hrd' hst' hT
        have hin := (stepN_in T.data.toList (q, none) (by simpa using hst')).1
        have hmore := stepN_more T.data.toList (q, none) (by simpa using hst')
        obtain ⟨r, hrf⟩ : ∃ r, stepN T.data.toList (q, none) = r := ⟨_, rfl⟩
        rw [hrf] at hcall hin hmore
        obtain ⟨m, q', x⟩ := r
        have Hr : Hid (stepNI T.data.toList (q, none) = ((m : Int), (q', x))) := by
          show _ = _
          rw [stepNI, hrf]
        clear hrf
        simp only at hcall hin hmore
        rw [size_len] at hin
        have htn : ∃ j, n - k = j + 1 := ⟨n - k - 1, by omega⟩
        obtain ⟨j, hj⟩ := htn
        have Hj := Lib.hid hj
        clear hj
        have hk1 : k ≤ 1099511627776 := by omega
        go_wp2_with fail
        refine hcall.mono ?_
        rintro e w3 ⟨rfl, hg3, hr3⟩
        have hgr3 : w.grownBy w3 (some c) := only_trans hgr hg3
        have hown3 : w3.ownsRow w.heap.size 3 1 u7 k (acc.map (Value.int .i64)) := hown.kept hg3 (.inr (fun h => by have := (hown.lt c h).1; omega))
        go_wp2_with (at_builtin; refine wpList_append_own _ rfl _ _ 22 rfl w.heap.size 3 i0 (.int .i64 0) 1 8 (by kernel_rfl) hi hz0 hz1 hz2 rfl (by decide) _ _ _ rfl (hown3.alloc _) ⟨w3.heap.size, 0, none⟩ 1 1 [Value.int .i64 m] rfl rfl ?c1 ?c2 ?c3 ?c4 ?c5 ?_)
        case c1 =>
          intro j u hj
          match j, hj with
          | 0, hj => simp at hj; subst hj; simp [Addr.add]
        case c2 => intro u hu; simp at hu; subst hu; rfl
        case c3 => unfold maxLen; omega
        case c4 => omega
        case c5 => have := hgr3.size; simp; omega
        intro v' w4 hown' hgrow _
        have hgr4 : w.grownBy w4 (some c) := only_grown (only_alloc hgr3 _) hgrow (fun i hi => (hown3.lt i hi).1)
        have hrd4 : RRd T c (rst (q', x)) w4 := (hr3.alloc _).grown hgrow (fun h => by have := (hown3.lt c h.symm).1; omega)
        go_wp2
        go_roundw
        case rel =>
          refine ⟨k + 1, (q', x), acc ++ [(m : Int)], by go_num, by omega, ?_, hgr4, hrd4, hin, by rw [List.length_append, Hacc.out]; rfl, ?_⟩
          · rw [List.map_append]; exact hown'
          · cases x with
            | none =>
              have := hmore rfl
              exact .inl ⟨rfl, by show k + 1 ≤ q'; omega, by rw [Htk.out, Hj.out, takeL, Hr.out, show n - (k + 1) = j from by have := Hj.out; omega]⟩
            | some x => exact .inr ⟨by simp, by rw [Htk.out, Hj.out, takeL, Hr.out]⟩
        case measure => simp [intOf]; omega
      · have hke : k = n := by omega
        subst hke
        go_wp2
        go_ret
        refine ⟨_, rfl, ?_, ?_⟩
        · rw [Htk.out, Nat.sub_self, takeL]
          show wr.ownsRow _ _ _ _ _ _
          rw [Hacc.out]
          exact hown
        · rw [Htk.out, Nat.sub_self, takeL]
          exact ⟨hgr, hrd'⟩
    · have Htk := Lib.hid htk
      clear htk
      obtain ⟨q, x⟩ := st
      cases x with
      | none => exact absurd rfl hst2
      | some x =>
        obtain ⟨q2, k2⟩ := x
        have hrd' : RRd T c (q2, 9 + k2) wr := hrd
        have d2 : wr.cell? ⟨c, 2, none⟩ = some (.int .i64 ((9 + k2 : Nat) : Int)) := hrd'.cell 2
        have hne : (((9 + k2 : Nat) : Int) == 0) = false := by rw [beq_eq_false_iff_ne]; omega
        have hne2 : (((9 + k2 : Nat) : Int) != 0) = true := by rw [bne_iff_ne]; omega
        generalize ((9 + k2 : Nat) : Int) = z at d2 hne hne2
        by_cases hlt : k < n
        · go_wp2
          go_ret
          refine ⟨_, rfl, ?_, ?_⟩
          · rw [Htk.out]; exact rfl
          · rw [Htk.out]; exact ⟨hgr, hrd⟩
        · go_wp2
          go_ret
          refine ⟨_, rfl, ?_, ?_⟩
          · rw [Htk.out]; exact rfl
          · rw [Htk.out]; exact ⟨hgr, hrd⟩

theorem refnums_any (T : ByteArray) (c : Nat) (most : Int) (st : St) (w : World) (hr : RRd T c (rst st) w) (hp : st.1 ≤ T.size) (hT : T.size ≤ 1099511627776) :
    Calls Tryd.prog 30 #[.pointer (some ⟨c, 0, none⟩), .int .i64 most] w (RListed T c (listS stepNI T.data.toList most st) w) := by
  obtain ⟨p, x⟩ := st
  cases x with
  | some x => exact refnums_err T c x.1 x.2 p most w hr
  | none =>
    have hp' : p ≤ T.size := hp
    rcases dec_kinds 8 0 0 (T.data.toList.drop p) with ⟨v, sz, h, h1, h2, h3, h4⟩ | h | h
    · have hsz : p + sz ≤ T.size := by
        rw [List.length_drop] at h2
        have e : T.data.toList.length = T.size := by simp
        omega
      by_cases hm : most < (v : Int)
      · have e : listS stepNI T.data.toList most (p, none) = (none, (p + sz, some (p, 3))) := by
          simp only [listS]
          rw [stepN_ok _ _ _ _ h]
          simp only
          rw [if_pos hm]
        rw [e]
        exact refnums_many T c p v sz most w hr hp' hT h hm
      · have e : listS stepNI T.data.toList most (p, none) = takeL stepNI T.data.toList v (p + sz, none) [] := by
          simp only [listS]
          rw [stepN_ok _ _ _ _ h]
          simp only
          rw [if_neg hm]
        rw [e]
        exact refnums_go T c p v sz most w hr hp' hT h hm h4 hsz
    · have e : listS stepNI T.data.toList most (p, none) = (none, (p, some (p, 0 + 1))) := by
        simp only [listS]
        rw [stepN_bad _ _ 0 h]
      rw [e]
      exact refnums_bad T c p 0 most w hr hp' hT h
    · have e : listS stepNI T.data.toList most (p, none) = (none, (p, some (p, 1 + 1))) := by
        simp only [listS]
        rw [stepN_bad _ _ 1 h]
      rw [e]
      exact refnums_bad T c p 1 most w hr hp' hT h
end Wp
end Go.Proofs.YtcabbhiabhblfaaDoor
