/- The law that all on the left have one just if no set of them lacks others, walked: it answers true. -/
import Derived.Test.YtjhkmilfhecdfaaKFixed
import Derived.Test.YtjhkmilfhecdfaaKSz
namespace Go.Proofs.Ytjhkmilfhecdfaa
open Go.RowKit
namespace Wp

theorem size_is (right : Int) (v : Value) (adj : List (List Int)) (n : Nat) (hmay : mayM right adj = true) (hb : Big right.toNat adj n) (hn : adj.length ≤ 10) (w : World) (hr : Rows2 w w.heap.size v adj) :
    Calls Try.prog 18 #[.int .i64 right, v] w fun e w' => e = .returned (.int .i64 n) ∧ Below w.heap.size w w' := by
  have h := size_any right v adj hmay hn w hr
  rwa [best_all hmay hb] at h

set_option maxHeartbeats 8000000 in
set_option maxRecDepth 100000 in
theorem hall_any (v : Value) (right : Int) (adj : List (List Int)) (w : World) (hr : Rows2 w w.heap.size v adj) : Calls Try.prog 7 #[.int .i64 right, v] w (Truly w) := by
  have HB0 := Lib.hid (Below.refl w.heap.size w)
  have HR0 := Lib.hid hr
  obtain ⟨A, c, rfl, _⟩ := hr
  by_cases b1 : 10 < (adj.length : Int)
  · skip
    go_enter Try.func7, Try.ntmps7
    go_wp2_with fail
    refine (kfixed_any _).mono ?_
    rintro e w1 ⟨rfl, hb2⟩
    have adj_3 := Lib.hid (HR0.out.up hb2)
    clear HR0
    have HB4 := Lib.hid (below_next HB0.out (Nat.le_refl _) hb2)
    clear hb2 HB0
    clear adj_3
    go_wp2_with fail
    refine (kfixed_any _).mono ?_
    rintro e w5 ⟨rfl, hb6⟩
    have HB7 := Lib.hid (below_next HB4.out (Nat.le_refl _) hb6)
    clear hb6 HB4
    go_wp2
    go_ret
    exact ⟨rfl, HB7.out⟩
  rcases hmay : mayM right adj with _ | _
  · have Hmay := Lib.hid hmay
    clear hmay
    go_enter Try.func7, Try.ntmps7
    go_wp2_with fail
    refine (kfixed_any _).mono ?_
    rintro e w1 ⟨rfl, hb2⟩
    have adj_3 := Lib.hid (HR0.out.up hb2)
    clear HR0
    have HB4 := Lib.hid (below_next HB0.out (Nat.le_refl _) hb2)
    clear hb2 HB0
    go_wp2_with fail
    refine (k6may_is right _ adj false Hmay.out _ adj_3.out).mono ?_
    rintro e w5 ⟨rfl, hb6⟩
    have adj_7 := Lib.hid (adj_3.out.up hb6)
    clear adj_3
    have HB8 := Lib.hid (below_next HB4.out (Nat.le_refl _) hb6)
    clear hb6 HB4
    clear adj_7
    go_wp2_with fail
    refine (kfixed_any _).mono ?_
    rintro e w9 ⟨rfl, hb10⟩
    have HB11 := Lib.hid (below_next HB8.out (Nat.le_refl _) hb10)
    clear hb10 HB8
    go_wp2
    go_ret
    exact ⟨rfl, HB11.out⟩
  have Hmay := Lib.hid hmay
  obtain ⟨hr0, hr64, hn64⟩ := may_bounds hmay
  clear hmay
  obtain ⟨R, rfl⟩ : ∃ R : Nat, right = (R : Int) := ⟨right.toNat, by omega⟩
  have hn10 : adj.length ≤ 10 := by omega
  go_enter Try.func7, Try.ntmps7
  go_wp2_with fail
  refine (kfixed_any _).mono ?_
  rintro e w1 ⟨rfl, hb2⟩
  have adj_3 := Lib.hid (HR0.out.up hb2)
  clear HR0
  have HB4 := Lib.hid (below_next HB0.out (Nat.le_refl _) hb2)
  clear hb2 HB0
  go_wp2_with fail
  refine (k6may_is R _ adj true Hmay.out _ adj_3.out).mono ?_
  rintro e w5 ⟨rfl, hb6⟩
  have adj_7 := Lib.hid (adj_3.out.up hb6)
  clear adj_3
  have HB8 := Lib.hid (below_next HB4.out (Nat.le_refl _) hb6)
  clear hb6 HB4
  go_wp2_with fail
  refine (max_yes R _ adj Hmay.out _ adj_7.out).mono ?_
  rintro e w10 ⟨un, hsn, nn, rfl, r9, hb11, hmn, hnn, hbn⟩
  have adj_12 := Lib.hid (adj_7.out.up hb11)
  clear adj_7
  have HB13 := Lib.hid (below_next HB8.out (Nat.le_refl _) hb11)
  clear hb11 HB8
  have n_14 := Lib.hid (r9)
  clear r9
  have Hmn := Lib.hid hmn
  have Hnn := Lib.hid hnn
  have Hbn := Lib.hid hbn
  clear hmn hnn hbn
  clear n_14
  go_wp2_with fail
  refine (size_is R _ adj nn Hmay.out Hbn.out hn10 _ adj_12.out).mono ?_
  rintro e w15 ⟨rfl, hb16⟩
  have adj_17 := Lib.hid (adj_12.out.up hb16)
  clear adj_12
  have HB18 := Lib.hid (below_next HB13.out (Nat.le_refl _) hb16)
  clear hb16 HB13
  clear adj_17
  have hle := Hbn.out.le
  rw [Int.toNat_natCast] at hle
  have hmin : (nn : Int) ≤ min (adj.length : Int) (R : Int) := by omega
  have hmin2 : (nn : Int) ≤ (adj.length : Int) := by omega
  have hmin3 : (nn : Int) ≤ (R : Int) := by omega
  clear hle
  go_wp2
  go_ret
  exact ⟨rfl, HB18.out⟩

end Wp
end Go.Proofs.Ytjhkmilfhecdfaa
