/- The law that what is told is a matching and a cover of one size, walked: it answers true. -/
import Derived.Test.YtjhkmilfhecdfaaKFixed
namespace Go.Proofs.Ytjhkmilfhecdfaa
open Go.RowKit
namespace Wp

set_option maxHeartbeats 8000000 in
set_option maxRecDepth 100000 in
theorem certified_any (v : Value) (right : Int) (adj : List (List Int)) (w : World) (hr : Rows2 w w.heap.size v adj) : Calls Try.prog 4 #[.int .i64 right, v] w (Truly w) := by
  have HB0 := Lib.hid (Below.refl w.heap.size w)
  have HR0 := Lib.hid hr
  clear hr
  rcases hmay : mayM right adj with _ | _
  · have Hmay := Lib.hid hmay
    clear hmay
    go_enter Try.func4, Try.ntmps4
    go_wp2_with fail
    refine (kfixed_any _).mono ?_
    rintro e w1 ⟨rfl, hb2⟩
    have adj_3 := Lib.hid (HR0.out.up hb2)
    clear HR0
    have HB4 := Lib.hid (below_next HB0.out (Nat.le_refl _) hb2)
    clear hb2 HB0
    go_wp2_with fail
    refine (k6may_is right _ adj false Hmay.out _ adj_3.out).mono ?_
    rintro e w5 ⟨rfl, hb6⟩
    have adj_7 := Lib.hid (adj_3.out.up hb6)
    clear adj_3
    have HB8 := Lib.hid (below_next HB4.out (Nat.le_refl _) hb6)
    clear hb6 HB4
    clear adj_7
    go_wp2_with fail
    refine (kfixed_any _).mono ?_
    rintro e w9 ⟨rfl, hb10⟩
    have HB11 := Lib.hid (below_next HB8.out (Nat.le_refl _) hb10)
    clear hb10 HB8
    go_wp2
    go_ret
    exact ⟨rfl, HB11.out⟩
  · have Hmay := Lib.hid hmay
    obtain ⟨hr0, hr64, hn64⟩ := may_bounds hmay
    clear hmay
    obtain ⟨R, rfl⟩ : ∃ R : Nat, right = (R : Int) := ⟨right.toNat, by omega⟩
    clear hr0 hr64
    go_enter Try.func4, Try.ntmps4
    go_wp2_with fail
    refine (kfixed_any _).mono ?_
    rintro e w1 ⟨rfl, hb2⟩
    have adj_3 := Lib.hid (HR0.out.up hb2)
    clear HR0
    have HB4 := Lib.hid (below_next HB0.out (Nat.le_refl _) hb2)
    clear hb2 HB0
    go_wp2_with fail
    refine (k6may_is R _ adj true Hmay.out _ adj_3.out).mono ?_
    rintro e w5 ⟨rfl, hb6⟩
    have adj_7 := Lib.hid (adj_3.out.up hb6)
    clear adj_3
    have HB8 := Lib.hid (below_next HB4.out (Nat.le_refl _) hb6)
    clear hb6 HB4
    go_wp2_with fail
    refine (max_yes R _ adj Hmay.out _ adj_7.out).mono ?_
    rintro e w10 ⟨um, hsm, nm, rfl, r9, hb11, hmm, hnm, hbm⟩
    have adj_12 := Lib.hid (adj_7.out.up hb11)
    clear adj_7
    have HB13 := Lib.hid (below_next HB8.out (Nat.le_refl _) hb11)
    clear hb11 HB8
    have m_14 := Lib.hid (r9)
    clear r9
    have Hmm := Lib.hid hmm
    have Hnm := Lib.hid hnm
    have Hbm := Lib.hid hbm
    clear hmm hnm hbm
    go_wp2_with fail
    refine (cover_yes R _ adj Hmay.out _ adj_12.out).mono ?_
    rintro e w17 ⟨ua, ub, la, lb, rfl, r15, q16, hb18, hca⟩
    have adj_19 := Lib.hid (adj_12.out.up hb18)
    clear adj_12
    have m_20 := Lib.hid (m_14.out.up hb18)
    clear m_14
    have HB21 := Lib.hid (below_next HB13.out (Nat.le_refl _) hb18)
    clear hb18 HB13
    have a_22 := Lib.hid (r15)
    have b_23 := Lib.hid (q16)
    obtain ⟨A_a, c_a, rfl, -⟩ := r15
    obtain ⟨A_b, c_b, rfl, -⟩ := q16
    have Hca := Lib.hid hca
    clear hca
    have hab : la.length + lb.length = nm := by
      obtain ⟨n, hn, e⟩ := Hca.out.size
      rw [e]
      exact hn.eq Hbm.out
    have hn64b : nm ≤ 64 := Nat.le_trans Hbm.out.le.1 hn64
    have hw : IntKind.i64.wrap ((la.length : Int) + (lb.length : Int)) = (nm : Int) := by rw [IntKind.wrap_i64]; omega
    have hw2 : wrap64 ((la.length : Int) + (lb.length : Int)) = (nm : Int) := by unfold wrap64; omega
    clear hab
    go_wp2_with fail
    refine (matches_true R _ _ adj hsm nm _ adj_19.out m_20.out Hmay.out Hmm.out Hnm.out).mono ?_
    rintro e w24 ⟨rfl, hb25⟩
    have adj_26 := Lib.hid (adj_19.out.up hb25)
    clear adj_19
    have m_27 := Lib.hid (m_20.out.up hb25)
    clear m_20
    have a_28 := Lib.hid (a_22.out.up hb25)
    clear a_22
    have b_29 := Lib.hid (b_23.out.up hb25)
    clear b_23
    have HB30 := Lib.hid (below_next HB21.out (Nat.le_refl _) hb25)
    clear hb25 HB21
    clear m_27
    go_wp2_with fail
    refine (covers_ok R _ _ _ adj la lb Hmay.out Hca.out _ adj_26.out a_28.out b_29.out).mono ?_
    rintro e w31 ⟨rfl, hb32⟩
    have adj_33 := Lib.hid (adj_26.out.up hb32)
    clear adj_26
    have a_34 := Lib.hid (a_28.out.up hb32)
    clear a_28
    have b_35 := Lib.hid (b_29.out.up hb32)
    clear b_29
    have HB36 := Lib.hid (below_next HB30.out (Nat.le_refl _) hb32)
    clear hb32 HB30
    clear a_34
    clear b_35
    clear adj_33
    go_wp2
    go_ret
    exact ⟨rfl, HB36.out⟩

end Wp
end Go.Proofs.Ytjhkmilfhecdfaa
