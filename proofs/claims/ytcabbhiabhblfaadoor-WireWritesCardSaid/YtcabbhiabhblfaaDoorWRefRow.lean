/- The document's own Nums and Ints, walked: they write the same bytes. -/
import Derived.Test.YtcabbhiabhblfaaDoorWRef
namespace Go.Proofs.YtcabbhiabhblfaaDoor
open Go.RowKit
namespace Wp

set_option maxHeartbeats 2000000 in
set_option maxRecDepth 100000 in
theorem refnums_any (v : Value) (zs : List Int) (w : World) (hz : zs.length ≤ 1048576) (hr : Row w w.heap.size v zs) :
    Calls Tryd.prog 19 #[v] w fun e w' => e = .returned (.string (rowB numB zs)) ∧ Below w.heap.size w w' := by
  obtain ⟨A, c, rfl, hcell⟩ := hr
  have Hcell := Lib.hid hcell
  clear hcell
  go_enter Tryd.func19, Tryd.ntmps19
  go_wp2_with fail
  refine (refnum_any _ _).mono ?_
  rintro e w1 ⟨rfl, hb1⟩
  have hN := numB_size (zs.length : Int)
  have hR : rowB numB zs = ⟨(rowL numB zs (numB zs.length).data.toList).toArray⟩ := rfl
  have HR := Lib.hid hR
  clear hR
  generalize numB (zs.length : Int) = N at *
  have hzl : (zs.length : Int) ≤ 1048576 := by omega
  go_wp2
  go_loopw [3, 4] (fun vs vk wr => ∃ (k : Nat) (s : ByteArray), vk = .int .i64 k ∧ vs = .string s ∧ k ≤ zs.length ∧ s.size ≤ 8 * (k + 1) ∧ Below w.heap.size w wr ∧ rowL numB zs N.data.toList = rowL numB (zs.drop k) s.data.toList)
    (fun _ vk _ => zs.length - (intOf vk).toNat)
  case atStart => exact ⟨0, N, rfl, rfl, Nat.zero_le _, by omega, hb1, rfl⟩
  case round =>
    obtain ⟨k, s, rfl, rfl, hk, hacc, hb3, hrow⟩ := hrel
    have Hrow := Lib.hid hrow
    clear hrow
    by_cases hlt : k < zs.length
    · obtain ⟨ad, hA, hab, hc⟩ := Hcell.out k hlt
      subst hA
      have hc3 : wr.cell? (ad.add k) = some (.int .i64 (zs.getD k 0)) := (hb3.cell (by rw [add_block]; exact hab)).trans hc
      have hdrop : zs.drop k = zs.getD k 0 :: zs.drop (k + 1) := by
        rw [List.drop_eq_getElem_cons hlt]
        simp [List.getD, hlt]
      have Hdrop := Lib.hid hdrop
      clear hdrop hc
      generalize zs.getD k 0 = x at *
      have hone := refnum_any x
      have hsz := numB_size x
      go_wp2_with fail
      refine (hone _).mono ?_
      rintro e w4 ⟨rfl, hb4⟩
      generalize hS : numB x = S at *
      have HS := Lib.hid hS
      clear hS
      have hb4' : Below w.heap.size w w4 := hb3.trans (hb4.mono hb3.size)
      by_cases he : S.data.toList = []
      · have hi : S.toList.isEmpty = true := by rw [ByteArray.toList_eq, he]; rfl
        have Hfin : Hid (rowL numB zs N.data.toList = []) := by
          show rowL numB zs N.data.toList = []
          rw [Hrow.out, Hdrop.out, rowL, if_pos (by rw [HS.out]; exact he)]
        clear he
        go_wp2
        go_ret
        refine ⟨?_, hb4'⟩
        rw [HR.out, Hfin.out]
        rfl
      · have hi : S.toList.isEmpty = false := by
          rw [ByteArray.toList_eq]
          cases h : S.data.toList with
          | nil => exact absurd h he
          | cons _ _ => rfl
        have Hfin : Hid (rowL numB zs N.data.toList = rowL numB (zs.drop (k + 1)) (s ++ S).data.toList) := by
          show rowL numB zs N.data.toList = rowL numB (zs.drop (k + 1)) (s ++ S).data.toList
          rw [Hrow.out, Hdrop.out, rowL, if_neg (by rw [HS.out]; exact he), HS.out, cat_list]
        have hss : (s ++ S).size ≤ 8 * (k + 1 + 1) := by
          rw [size_of (s ++ S) _ (cat_list s S), List.length_append, Array.length_toList, Array.length_toList]
          have h1 : s.data.size = s.size := rfl
          have h2 : S.data.size = S.size := rfl
          omega
        have Hss := Lib.hid hss
        clear he hss
        go_wp2
        go_roundw
        case rel => exact ⟨k + 1, s ++ S, by go_num, rfl, by omega, Hss.out, hb4', Hfin.out⟩
        case measure => simp [intOf]; omega
    · have hke : k = zs.length := by omega
      subst hke
      have Hfin : Hid (rowL numB zs N.data.toList = s.data.toList) := by
        show rowL numB zs N.data.toList = s.data.toList
        rw [Hrow.out, List.drop_length]; rfl
      go_wp2
      go_ret
      refine ⟨?_, hb3⟩
      rw [HR.out, Hfin.out]
      rfl

set_option maxHeartbeats 2000000 in
set_option maxRecDepth 100000 in
theorem refints_any (v : Value) (zs : List Int) (w : World) (hz : zs.length ≤ 1048576) (hr : Row w w.heap.size v zs) :
    Calls Tryd.prog 21 #[v] w fun e w' => e = .returned (.string (rowB intB zs)) ∧ Below w.heap.size w w' := by
  obtain ⟨A, c, rfl, hcell⟩ := hr
  have Hcell := Lib.hid hcell
  clear hcell
  go_enter Tryd.func21, Tryd.ntmps21
  go_wp2_with fail
  refine (refnum_any _ _).mono ?_
  rintro e w1 ⟨rfl, hb1⟩
  have hN := numB_size (zs.length : Int)
  have hR : rowB intB zs = ⟨(rowL intB zs (numB zs.length).data.toList).toArray⟩ := rfl
  have HR := Lib.hid hR
  clear hR
  generalize numB (zs.length : Int) = N at *
  have hzl : (zs.length : Int) ≤ 1048576 := by omega
  go_wp2
  go_loopw [3, 4] (fun vs vk wr => ∃ (k : Nat) (s : ByteArray), vk = .int .i64 k ∧ vs = .string s ∧ k ≤ zs.length ∧ s.size ≤ 8 * (k + 1) ∧ Below w.heap.size w wr ∧ rowL intB zs N.data.toList = rowL intB (zs.drop k) s.data.toList)
    (fun _ vk _ => zs.length - (intOf vk).toNat)
  case atStart => exact ⟨0, N, rfl, rfl, Nat.zero_le _, by omega, hb1, rfl⟩
  case round =>
    obtain ⟨k, s, rfl, rfl, hk, hacc, hb3, hrow⟩ := hrel
    have Hrow := Lib.hid hrow
    clear hrow
    by_cases hlt : k < zs.length
    · obtain ⟨ad, hA, hab, hc⟩ := Hcell.out k hlt
      subst hA
      have hc3 : wr.cell? (ad.add k) = some (.int .i64 (zs.getD k 0)) := (hb3.cell (by rw [add_block]; exact hab)).trans hc
      have hdrop : zs.drop k = zs.getD k 0 :: zs.drop (k + 1) := by
        rw [List.drop_eq_getElem_cons hlt]
        simp [List.getD, hlt]
      have Hdrop := Lib.hid hdrop
      clear hdrop hc
      generalize zs.getD k 0 = x at *
      have hone := refint_any x
      have hsz := intB_size x
      go_wp2_with fail
      refine (hone _).mono ?_
      rintro e w4 ⟨rfl, hb4⟩
      generalize hS : intB x = S at *
      have HS := Lib.hid hS
      clear hS
      have hb4' : Below w.heap.size w w4 := hb3.trans (hb4.mono hb3.size)
      by_cases he : S.data.toList = []
      · have hi : S.toList.isEmpty = true := by rw [ByteArray.toList_eq, he]; rfl
        have Hfin : Hid (rowL intB zs N.data.toList = []) := by
          show rowL intB zs N.data.toList = []
          rw [Hrow.out, Hdrop.out, rowL, if_pos (by rw [HS.out]; exact he)]
        clear he
        go_wp2
        go_ret
        refine ⟨?_, hb4'⟩
        rw [HR.out, Hfin.out]
        rfl
      · have hi : S.toList.isEmpty = false := by
          rw [ByteArray.toList_eq]
          cases h : S.data.toList with
          | nil => exact absurd h he
          | cons _ _ => rfl
        have Hfin : Hid (rowL intB zs N.data.toList = rowL intB (zs.drop (k + 1)) (s ++ S).data.toList) := by
          show rowL intB zs N.data.toList = rowL intB (zs.drop (k + 1)) (s ++ S).data.toList
          rw [Hrow.out, Hdrop.out, rowL, if_neg (by rw [HS.out]; exact he), HS.out, cat_list]
        have hss : (s ++ S).size ≤ 8 * (k + 1 + 1) := by
          rw [size_of (s ++ S) _ (cat_list s S), List.length_append, Array.length_toList, Array.length_toList]
          have h1 : s.data.size = s.size := rfl
          have h2 : S.data.size = S.size := rfl
          omega
        have Hss := Lib.hid hss
        clear he hss
        go_wp2
        go_roundw
        case rel => exact ⟨k + 1, s ++ S, by go_num, rfl, by omega, Hss.out, hb4', Hfin.out⟩
        case measure => simp [intOf]; omega
    · have hke : k = zs.length := by omega
      subst hke
      have Hfin : Hid (rowL intB zs N.data.toList = s.data.toList) := by
        show rowL intB zs N.data.toList = s.data.toList
        rw [Hrow.out, List.drop_length]; rfl
      go_wp2
      go_ret
      refine ⟨?_, hb3⟩
      rw [HR.out, Hfin.out]
      rfl

end Wp
end Go.Proofs.YtcabbhiabhblfaaDoor
