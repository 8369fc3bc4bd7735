/- The stage's theorem on bytes, walked: what is written is taken, a number, a signed one, a list of each, one behind the other, and nothing is left. -/
import Derived.Test.YtcabbhiabhblfaaDoorWMany
namespace Go.Proofs.YtcabbhiabhblfaaDoor
open Go.RowKit
namespace Wp

/-- A signed number is taken, told by what it comes to. -/
theorem int_as (E : Nat → Addr) (B : Nat) (T : ByteArray) (b : Nat) (st st' : St) (n : Nat) (m : Int) (w : World) (hM : Met E B w) (hr : Rd E T b st w) (hp : st.1 ≤ T.size) (hT : T.size ≤ 1099511627776)
    (h : stepN T.data.toList st = (n, st')) (hm : unz n = m) : Calls Tryd.prog 24 #[.pointer (some ⟨b, 0, none⟩)] w (Took E B T b m st' w) := by
  have hc := rint_any E B T b st w hM hr hp hT
  unfold stepI at hc
  rw [h] at hc
  subst hm
  exact hc

/-- The first k numbers, each without its sign turned, as cells. -/
def negs (zs : List Int) (k : Nat) : List Value := ((zs.take k).map (fun z => -z)).map (Value.int .i64)
theorem negs_succ (zs : List Int) (k : Nat) (h : k < zs.length) : negs zs (k + 1) = negs zs k ++ [Value.int .i64 (-(zs.getD k 0))] := by
  unfold negs
  rw [List.take_succ_eq_append_getElem h, List.map_append, List.map_append]
  simp [List.getD, h]
theorem negs_full (zs : List Int) : negs zs zs.length = (zs.map (fun z => -z)).map (Value.int .i64) := by
  unfold negs
  rw [List.take_length]

theorem zz_back (ms : List Int) : (ms.map zz).map unz = ms := by
  rw [List.map_map]
  have h : (unz ∘ zz) = id := by
    funext x
    exact unz_zz x
  rw [h, List.map_id]

set_option maxHeartbeats 2000000 in
set_option maxRecDepth 100000 in
theorem back_out (E : Nat → Addr) (n : Int) (v : Value) (zs : List Int) (w : World) (hM : Met E w.heap.size w) (hr : Row w w.heap.size v zs) (h : 100 < zs.length ∨ n < 0 ∨ 562949953421312 < n) :
    Calls Tryd.prog 5 #[.int .i64 n, v] w (Truly w) := by
  obtain ⟨A, c, rfl, _⟩ := hr
  by_cases h2 : 100 < zs.length
  · have hc : (100 : Int) < (zs.length : Int) := by omega
    clear h h2
    go_enter Tryd.func5, Tryd.ntmps5
    go_wp2_with fail
    refine (fixed_any E w hM).mono ?_
    rintro e w1 ⟨rfl, hb⟩
    go_wp2_with fail
    refine (twice_fixed E w w1 hM hb).mono ?_
    rintro e w2 ⟨rfl, hb2⟩
    go_wp2
    go_ret
    exact ⟨rfl, hb2⟩
  have h2' : (zs.length : Int) ≤ 100 := by omega
  by_cases h3 : n < 0
  · clear h h2
    go_enter Tryd.func5, Tryd.ntmps5
    go_wp2_with fail
    refine (fixed_any E w hM).mono ?_
    rintro e w1 ⟨rfl, hb⟩
    go_wp2_with fail
    refine (twice_fixed E w w1 hM hb).mono ?_
    rintro e w2 ⟨rfl, hb2⟩
    go_wp2
    go_ret
    exact ⟨rfl, hb2⟩
  have h3' : 0 ≤ n := by omega
  have h4 : 562949953421312 < n := by omega
  clear h h2 h3
  ·
    go_enter Tryd.func5, Tryd.ntmps5
    go_wp2_with fail
    refine (fixed_any E w hM).mono ?_
    rintro e w1 ⟨rfl, hb⟩
    go_wp2_with fail
    refine (twice_fixed E w w1 hM hb).mono ?_
    rintro e w2 ⟨rfl, hb2⟩
    go_wp2
    go_ret
    exact ⟨rfl, hb2⟩

set_option maxHeartbeats 8000000 in
set_option maxRecDepth 100000 in
theorem back_in (E : Nat → Addr) (n : Nat) (v : Value) (zs : List Int) (w : World) (hM : Met E w.heap.size w) (hr : Row w w.heap.size v zs) (h2 : zs.length ≤ 100) (hn : n ≤ 562949953421312) :
    Calls Tryd.prog 5 #[.int .i64 n, v] w (Truly w) := by
  have h2' : (zs.length : Int) ≤ 100 := by omega
  have hn' : (n : Int) ≤ 562949953421312 := by omega
  obtain ⟨i0, hi, hz0, hz1, hz2⟩ := info_parts info3
  have hv : ∃ A c, v = .slice A zs.length c := by
    obtain ⟨A, c, hv, _⟩ := hr
    exact ⟨A, c, hv⟩
  obtain ⟨A, c, rfl⟩ := hv
  have Hr := Lib.hid hr
  clear hr
  go_enter Tryd.func5, Tryd.ntmps5
  go_wp2_with fail
  refine (fixed_any E w hM).mono ?_
  rintro e w1 ⟨rfl, hB1⟩
  have hown0 : (w1.alloc (.cells #[] 3)).ownsRow w.heap.size 3 1 (.slice (some ⟨w1.heap.size, 0, none⟩) 0 0) 0 [] :=
    World.ownsRow_made w1 #[] 0 hB1.size (by unfold maxLen; omega) rfl
  have hB1a : Below w.heap.size w (w1.alloc (.cells #[] 3)) := hB1.alloc hB1.size _
  clear hB1
  go_wp2
  go_loopw [5, 6] (fun vm vk wr => ∃ k : Nat, vk = .int .i64 k ∧ k ≤ zs.length ∧ wr.ownsRow w.heap.size 3 1 vm k (negs zs k) ∧ Below w.heap.size w wr ∧ ∀ j, j < k → 0 ≤ zs.getD j 0 ∧ zs.getD j 0 ≤ 562949953421312)
    (fun _ vk _ => zs.length - (intOf vk).toNat)
  case atStart => exact ⟨0, rfl, Nat.zero_le _, hown0, hB1a, fun j hj => absurd hj (by omega)⟩
  case round =>
    obtain ⟨k, rfl, hk, hown, hBr, hall⟩ := hrel
    have Hall := Lib.hid hall
    clear hall hown0 hB1a
    by_cases hlt : k < zs.length
    · obtain ⟨A', c', hv, hcell⟩ := (Hr.out.below hBr)
      have hA : A' = A := by injection hv with e1; exact e1.symm
      subst hA
      obtain ⟨ad, hA, hab, hc⟩ := hcell k hlt
      subst hA
      clear hcell hv
      have Hnext : Hid (0 ≤ zs.getD k 0 ∧ zs.getD k 0 ≤ 562949953421312 → ∀ j, j < k + 1 → 0 ≤ zs.getD j 0 ∧ zs.getD j 0 ≤ 562949953421312) := by
        intro hx j hj
        by_cases e : j = k
        · rw [e]; exact hx
        · exact Hall.out j (by omega)
      have Htk := Lib.hid (negs_succ zs k hlt)
      generalize zs.getD k 0 = x at hc Hnext Htk
      by_cases hx0 : x < 0
      · go_wp2
        go_ret
        exact ⟨rfl, hBr⟩
      have hx0' : 0 ≤ x := by omega
      clear hx0
      by_cases hx1 : 562949953421312 < x
      · go_wp2
        go_ret
        exact ⟨rfl, hBr⟩
      have hx1' : x ≤ 562949953421312 := by omega
      clear hx1
      go_wp2_with (at_builtin; refine wpList_append_own _ rfl _ _ 22 rfl w.heap.size 3 i0 (.int .i64 0) 1 8 (by kernel_rfl) hi hz0 hz1 hz2 rfl (by decide) _ _ _ rfl (hown.alloc _) ⟨wr.heap.size, 0, none⟩ 1 1 [Value.int .i64 (-x)] rfl rfl ?c1 ?c2 ?c3 ?c4 ?c5 ?_)
      case c1 =>
        intro j u hj
        match j, hj with
        | 0, hj => simp at hj; subst hj; simp [Addr.add]
      case c2 => intro u hu; simp at hu; subst hu; rfl
      case c3 => unfold maxLen; omega
      case c4 => omega
      case c5 => have := hBr.size; simp; omega
      intro v' w4 hown' hgrow _
      have hB4 : Below w.heap.size w w4 := (hBr.alloc hBr.size _).grown hgrow (by have := hBr.size; simp; omega) (fun i hi => (hown.lt i hi).1)
      go_wp2
      go_roundw
      case rel => exact ⟨k + 1, by go_num, by omega, by rw [Htk.out]; exact hown', hB4, Hnext.out ⟨hx0', hx1'⟩⟩
      case measure => simp [intOf]; omega
    · have hke : k = zs.length := by omega
      subst hke
      rw [negs_full] at hown
      obtain ⟨ms, hms⟩ : ∃ ms, ms = zs.map (fun z => -z) := ⟨_, rfl⟩
      rw [← hms] at hown
      have hall : ∀ z ∈ zs, 0 ≤ z ∧ z ≤ 562949953421312 := by
        intro z hz
        obtain ⟨j, hj, rfl⟩ := List.mem_iff_getElem.1 hz
        have h := Hall.out j hj
        simpa [List.getD, hj] using h
      have hml : ms.length = zs.length := by rw [hms]; simp
      have hmall : ∀ m ∈ ms, -562949953421312 ≤ m ∧ m ≤ 562949953421312 := by
        intro m hm
        rw [hms] at hm
        obtain ⟨z, hz, rfl⟩ := List.mem_map.1 hm
        have := hall z hz
        omega
      have hback := nat_back zs (fun z hz => (hall z hz).1)
      have hns : ∀ m ∈ zs.map Int.toNat, m ≤ 1125899906842624 := by
        intro m hm
        obtain ⟨z, hz, rfl⟩ := List.mem_map.1 hm
        have := hall z hz
        omega
      have hmz : ∀ m ∈ ms.map zz, m ≤ 1125899906842624 := by
        intro m hm
        obtain ⟨y, hy, rfl⟩ := List.mem_map.1 hm
        have := hmall y hy
        exact zz_le (by omega) (by omega)
      have hnl : (zs.map Int.toNat).length = zs.length := by simp
      have hmzl : (ms.map zz).length = zs.length := by simp [hml]
      have hrow := rowB_enc numB Int.toNat zs (by omega) (fun z hz => numB_list (hall z hz).1 (by have := hall z hz; omega))
      have hrowm := rowB_enc intB zz ms (by omega) (fun m hm => intB_list (by have := hmall m hm; omega) (by have := hmall m hm; omega))
      have hnum := numB_list (x := (n : Int)) (by omega) (by omega)
      rw [Int.toNat_natCast] at hnum
      have him := intB_list (x := -(n : Int)) (by omega) (by omega)
      have hip := intB_list (x := (n : Int)) (by omega) (by omega)
      have hzm : zz (-(n : Int)) ≤ 1125899906842624 := zz_le (by omega) (by omega)
      have hzp : zz (n : Int) ≤ 1125899906842624 := zz_le (by omega) (by omega)
      have hrown : Row wr wr.heap.size u5 ms := Row.of_own (zs := ms) hown (by omega)
      have Hrm := Lib.hid hrown
      clear hown hrown Hall hk hlt
      obtain ⟨U, hU⟩ : ∃ U, U = Lib.uvarint n := ⟨_, rfl⟩
      obtain ⟨V, hV⟩ : ∃ V, V = Lib.uvarint (zz (-(n : Int))) := ⟨_, rfl⟩
      obtain ⟨X, hX⟩ : ∃ X, X = Lib.uvarint (zz (n : Int)) := ⟨_, rfl⟩
      obtain ⟨L, hLe⟩ : ∃ L, L = Lib.uvarint (zs.map Int.toNat).length := ⟨_, rfl⟩
      obtain ⟨M, hMe⟩ : ∃ M, M = Lib.uvarint (ms.map zz).length := ⟨_, rfl⟩
      obtain ⟨C, hC⟩ : ∃ C, C = encs (zs.map Int.toNat) := ⟨_, rfl⟩
      obtain ⟨D, hD⟩ : ∃ D, D = encs (ms.map zz) := ⟨_, rfl⟩
      have lU : U.length ≤ 8 := by rw [hU]; exact enc_len (by omega)
      have lV : V.length ≤ 8 := by rw [hV]; exact enc_len hzm
      have lX : X.length ≤ 8 := by rw [hX]; exact enc_len hzp
      have lL : L.length ≤ 8 := by rw [hLe]; exact enc_len (by omega)
      have lM : M.length ≤ 8 := by rw [hMe]; exact enc_len (by omega)
      have lC : C.length ≤ 800 := by rw [hC]; have := encs_len _ hns; omega
      have lD : D.length ≤ 800 := by rw [hD]; have := encs_len _ hmz; omega
      rw [← hU] at hnum
      rw [← hV] at him
      rw [← hX] at hip
      rw [← hLe, ← hC] at hrow
      rw [← hMe, ← hD] at hrowm
      have z1 : (numB (n : Int)).size ≤ 8 := by rw [size_of _ _ hnum]; exact lU
      have z2 : (intB (-(n : Int))).size ≤ 8 := by rw [size_of _ _ him]; exact lV
      have z3 : (rowB numB zs).size ≤ 1000 := by rw [size_of _ _ hrow, List.length_append]; omega
      have z4 : (rowB intB ms).size ≤ 1000 := by rw [size_of _ _ hrowm, List.length_append]; omega
      have z5 : (intB (n : Int)).size ≤ 8 := by rw [size_of _ _ hip]; exact lX
      have s1 : ∀ R, stepN (U ++ R) (0, none) = (n, (U.length, none)) := by
        intro R
        have h := step_at [] R n (by omega) 0 rfl
        rw [Nat.zero_add, ← hU] at h
        exact h
      have s2 : ∀ R p, p = U.length → stepN (U ++ (V ++ R)) (p, none) = (zz (-(n : Int)), (p + V.length, none)) := by
        intro R p hp
        rw [hV]
        exact step_at U R _ hzm p hp
      have s3 : ∀ P R p, p = P.length → listS stepNI (P ++ (L ++ (C ++ R))) 100 (p, none) = (some zs, (p + L.length + C.length, none)) := by
        intro P R p hp
        rw [hLe, hC]
        have h := list_enc stepNI (fun m => (m : Int)) (fun _ _ => rfl) (zs.map Int.toNat) P R p hp hns (by omega) 100 (by omega)
        rw [hback] at h
        exact h
      have s4 : ∀ P R p, p = P.length → listS stepI (P ++ (M ++ (D ++ R))) 100 (p, none) = (some ms, (p + M.length + D.length, none)) := by
        intro P R p hp
        rw [hMe, hD]
        have h := list_enc stepI unz (fun _ _ => rfl) (ms.map zz) P R p hp hmz (by omega) 100 (by omega)
        rw [zz_back] at h
        exact h
      have s5 : ∀ P R p, p = P.length → stepN (P ++ (X ++ R)) (p, none) = (zz (n : Int), (p + X.length, none)) := by
        intro P R p hp
        rw [hX]
        exact step_at P R _ hzp p hp
      have u1 : unz (zz (-(n : Int))) = -(n : Int) := unz_zz _
      have u2 : unz (zz (n : Int)) = (n : Int) := unz_zz _
      have HnumL := Lib.hid hnum
      have HimL := Lib.hid him
      have HipL := Lib.hid hip
      have HrowL := Lib.hid hrow
      have HrowmL := Lib.hid hrowm
      have S1 := Lib.hid s1
      have S2 := Lib.hid s2
      have S3 := Lib.hid s3
      have S4 := Lib.hid s4
      have S5 := Lib.hid s5
      have U1 := Lib.hid u1
      have U2 := Lib.hid u2
      have Hml := Lib.hid hml
      clear s1 s2 s3 s4 s5 u1 u2 hnum him hip hrow hrowm hU hV hX hLe hMe hC hD hback hns hmz hnl hmzl hall hmall hms hml hzm hzp
      have hmz' : ms.length ≤ 1048576 := by have := Hml.out; omega
      go_wp2_with fail
      refine (num_any _ _).mono ?_
      rintro e w3 ⟨rfl, hb3⟩
      have hB3 := hBr.trans (hb3.mono hBr.size)
      have Hrm3 := Lib.hid ((Hrm.out.below hb3).mono hb3.size)
      clear hb3 hBr Hrm
      go_wp2_with fail
      refine (int_any _ _).mono ?_
      rintro e w4 ⟨rfl, hb4⟩
      have hB4 := hB3.trans (hb4.mono hB3.size)
      have Hrm4 := Lib.hid ((Hrm3.out.below hb4).mono hb4.size)
      clear hb4 hB3 Hrm3
      go_wp2_with fail
      refine (nums_any _ zs _ (by omega) ((Hr.out.below hB4).mono hB4.size)).mono ?_
      rintro e w5 ⟨rfl, hb5⟩
      have hB5 := hB4.trans (hb5.mono hB4.size)
      have Hrm5 := Lib.hid ((Hrm4.out.below hb5).mono hb5.size)
      clear hb5 hB4 Hrm4
      go_wp2_with fail
      refine (ints_any _ ms _ hmz' Hrm5.out).mono ?_
      rintro e w6 ⟨rfl, hb6⟩
      have hB6 := hB5.trans (hb6.mono hB5.size)
      have Hrm6 := Lib.hid ((Hrm5.out.below hb6).mono hb6.size)
      clear hb6 hB5 Hrm5
      go_wp2_with fail
      refine (int_any _ _).mono ?_
      rintro e w7 ⟨rfl, hb7⟩
      have hB7 := hB6.trans (hb7.mono hB6.size)
      have Hrm7 := Lib.hid ((Hrm6.out.below hb7).mono hb7.size)
      clear hb7 hB6 Hrm6
      go_wp2_with fail
      have hT : (numB (n : Int) ++ intB (-(n : Int)) ++ rowB numB zs ++ rowB intB ms ++ intB (n : Int)).data.toList = U ++ (V ++ (L ++ (C ++ (M ++ (D ++ X))))) := by
        rw [cat_list, cat_list, cat_list, cat_list, HnumL.out, HimL.out, HrowL.out, HrowmL.out, HipL.out]
        simp [List.append_assoc]
      have HT := Lib.hid hT
      clear hT
      generalize numB (n : Int) ++ intB (-(n : Int)) ++ rowB numB zs ++ rowB intB ms ++ intB (n : Int) = T at *
      have hTz : T.size = U.length + (V.length + (L.length + (C.length + (M.length + (D.length + X.length))))) := by
        rw [size_of _ _ HT.out]; simp
      have hTs : T.size ≤ 1099511627776 := by omega
      have HTz := Lib.hid hTz
      clear hTz
      refine (read_any _ _).mono ?_
      rintro e w8 ⟨rfl, hw8⟩
      have hr8 : Rd E T w7.heap.size (0, none) w8 := by rw [← hw8]; exact Blk.new _ _ _
      have hB8 : Below w.heap.size w w8 := by rw [← hw8]; exact hB7.alloc hB7.size _
      have hD8 : Below w7.heap.size w7 w8 := by rw [← hw8]; exact (Below.refl _ _).alloc (Nat.le_refl _) _
      have hBr' : w.heap.size ≤ w7.heap.size := hB7.size
      clear hw8 hB7
      generalize w7.heap.size = r at *
      have t1 : stepN T.data.toList (0, none) = (n, (U.length, none)) := by rw [HT.out]; exact S1.out _
      have t2 : stepN T.data.toList (U.length, none) = (zz (-(n : Int)), (U.length + V.length, none)) := by rw [HT.out]; exact S2.out _ _ rfl
      have t3 : listS stepNI T.data.toList 100 (U.length + V.length, none) = (some zs, (U.length + V.length + L.length + C.length, none)) := by
        rw [HT.out]
        have e : U ++ (V ++ (L ++ (C ++ (M ++ (D ++ X))))) = (U ++ V) ++ (L ++ (C ++ (M ++ (D ++ X)))) := by simp [List.append_assoc]
        rw [e]
        exact S3.out _ _ _ (by rw [List.length_append])
      have t4 : listS stepI T.data.toList 100 (U.length + V.length + L.length + C.length, none) = (some ms, (U.length + V.length + L.length + C.length + M.length + D.length, none)) := by
        rw [HT.out]
        have e : U ++ (V ++ (L ++ (C ++ (M ++ (D ++ X))))) = (U ++ (V ++ (L ++ C))) ++ (M ++ (D ++ X)) := by simp [List.append_assoc]
        rw [e]
        exact S4.out _ _ _ (by simp [Nat.add_assoc])
      have t5 : stepN T.data.toList (U.length + V.length + L.length + C.length + M.length + D.length, none) = (zz (n : Int), (T.size, none)) := by
        have e3 : U.length + V.length + L.length + C.length + M.length + D.length + X.length = T.size := by have := HTz.out; omega
        rw [HT.out, ← e3]
        have e : U ++ (V ++ (L ++ (C ++ (M ++ (D ++ X))))) = (U ++ (V ++ (L ++ (C ++ (M ++ D))))) ++ (X ++ []) := by simp [List.append_assoc]
        rw [e]
        exact S5.out _ _ _ (by simp [Nat.add_assoc])
      have t6 : endS T.data.toList (T.size, none) = (0, T.size) := by
        simp only [endS]
        rw [if_neg (by rw [Array.length_toList]; have e : T.data.size = T.size := rfl; omega)]
      have p1 : U.length ≤ T.size := by have := HTz.out; omega
      have p2 : U.length + V.length ≤ T.size := by have := HTz.out; omega
      have p3 : U.length + V.length + L.length + C.length ≤ T.size := by have := HTz.out; omega
      have p4 : U.length + V.length + L.length + C.length + M.length + D.length ≤ T.size := by have := HTz.out; omega
      have T1 := Lib.hid t1
      have T2 := Lib.hid t2
      have T3 := Lib.hid t3
      have T4 := Lib.hid t4
      have T5 := Lib.hid t5
      have T6 := Lib.hid t6
      clear t1 t2 t3 t4 t5 t6 HTz HT S1 S2 S3 S4 S5 lU lV lX lL lM lC lD z1 z2 z3 z4 z5
      generalize U.length + V.length + L.length + C.length + M.length + D.length = q4 at *
      generalize U.length + V.length + L.length + C.length = q3 at *
      generalize U.length + V.length = q2 at *
      generalize U.length = q1 at *
      have c9 := Lib.hid (take_as E w.heap.size T r (0, none) (q1, none) n n w8 (hM.below hB8) hr8 (Nat.zero_le _) hTs T1.out rfl)
      go_wp2_with fail
      refine c9.out.mono ?_
      rintro e w9 ⟨rfl, hl9⟩
      have hB9 := hB8.trans (only_below hl9.only hB8.size hBr')
      have hD9 := hD8.trans (only_below hl9.only (Nat.le_of_lt (Blk.lt hr8)) (Nat.le_refl r))
      clear c9 hB8 hD8 hr8
      have c10 := Lib.hid (int_as E w.heap.size T r (q1, none) (q2, none) _ (-(n : Int)) w9 (hM.below hB9) hl9.rd p1 hTs T2.out U1.out)
      go_wp2_with fail
      refine c10.out.mono ?_
      rintro e w10 ⟨rfl, hl10⟩
      have hB10 := hB9.trans (only_below hl10.only hB9.size hBr')
      have hD10 := hD9.trans (only_below hl10.only (Nat.le_of_lt (Blk.lt hl9.rd)) (Nat.le_refl r))
      clear c10 hB9 hD9 hl9
      have c11 := rnums_any E w.heap.size T r 100 (q2, none) w10 (hM.below hB10) hBr' hl10.rd p2 hTs
      rw [T3.out] at c11
      have C11 := Lib.hid c11
      clear c11
      go_wp2_with fail
      refine C11.out.mono ?_
      rintro e w11 ⟨vl, rfl, hown, hl11⟩
      have hB11 := hB10.trans (only_below hl11.only hB10.size hBr')
      have hD11 := hD10.trans (only_below hl11.only (Nat.le_of_lt (Blk.lt hl10.rd)) (Nat.le_refl r))
      have hsame := same_any vl (.slice A zs.length c) zs zs w11 (Row.of_own hown rfl) ((Hr.out.below hB11).mono hB11.size) (by omega) (by omega)
      have es : sameB zs zs = true := by unfold sameB; simp
      rw [es] at hsame
      have Hsame := Lib.hid hsame
      clear C11 hB10 hD10 hl10 hown hsame es
      go_wp2_with fail
      refine Hsame.out.mono ?_
      rintro e w12 ⟨rfl, q, hq⟩
      have hB12 : Below w.heap.size w w12 := by rw [hq]; exact below_drewN hB11 q
      have hr12 : Rd E T r (q3, none) w12 := by rw [hq]; exact hl11.rd.drewN q
      have hD12 : Below r w7 w12 := by rw [hq]; exact below_drewN hD11 q
      clear Hsame hq hl11 hB11 hD11
      have c13 := rints_any E w.heap.size T r 100 (q3, none) w12 (hM.below hB12) hBr' hr12 p3 hTs
      rw [T4.out] at c13
      have C13 := Lib.hid c13
      clear c13
      go_wp2_with fail
      refine C13.out.mono ?_
      rintro e w13 ⟨vi, rfl, hown, hl13⟩
      have hB13 := hB12.trans (only_below hl13.only hB12.size hBr')
      have hD13 := hD12.trans (only_below hl13.only (Nat.le_of_lt (Blk.lt hr12)) (Nat.le_refl r))
      have hsame := same_any vi u5 ms ms w13 (Row.of_own hown rfl) ((Hrm7.out.below hD13).mono (Nat.le_of_lt (Blk.lt hl13.rd))) hmz' hmz'
      have es : sameB ms ms = true := by unfold sameB; simp
      rw [es] at hsame
      have Hsame := Lib.hid hsame
      clear C13 hB12 hD12 hr12 hown hsame es
      go_wp2_with fail
      refine Hsame.out.mono ?_
      rintro e w14 ⟨rfl, q', hq⟩
      have hB14 : Below w.heap.size w w14 := by rw [hq]; exact below_drewN hB13 q'
      have hr14 : Rd E T r (q4, none) w14 := by rw [hq]; exact hl13.rd.drewN q'
      clear Hsame hq hl13 hB13 hD13
      have c15 := Lib.hid (int_as E w.heap.size T r (q4, none) (T.size, none) _ (n : Int) w14 (hM.below hB14) hr14 p4 hTs T5.out U2.out)
      go_wp2_with fail
      refine c15.out.mono ?_
      rintro e w15 ⟨rfl, hl15⟩
      have hB15 := hB14.trans (only_below hl15.only hB14.size hBr')
      clear c15 hB14 hr14
      have c16 := Lib.hid (end_as E w.heap.size T r (T.size, none) 0 T.size (fun x hx => by cases hx) w15 (hM.below hB15) hBr' hl15.rd (Nat.le_refl _) hTs (by rw [T6.out]; rfl) (by rw [T6.out]))
      go_wp2_with fail
      refine c16.out.mono ?_
      rintro e w16 ⟨rfl, hb16⟩
      have hB16 := hB15.trans (hb16.mono hB15.size)
      go_wp2
      go_ret
      exact ⟨rfl, hB16⟩

theorem back_any (E : Nat → Addr) (n : Int) (v : Value) (zs : List Int) (w : World) (hM : Met E w.heap.size w) (hr : Row w w.heap.size v zs) :
    Calls Tryd.prog 5 #[.int .i64 n, v] w (Truly w) := by
  by_cases h : 100 < zs.length ∨ n < 0 ∨ 562949953421312 < n
  · exact back_out E n v zs w hM hr h
  · obtain ⟨m, rfl⟩ := Int.eq_ofNat_of_zero_le (show 0 ≤ n by omega)
    exact back_in E m v zs w hM hr (by omega) (by omega)

end Wp
end Go.Proofs.YtcabbhiabhblfaaDoor
