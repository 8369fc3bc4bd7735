/- The document's Inv, walked. -/
import Derived.Test.YtmnhpccdhefddaaDoorMRefP
namespace Go.Proofs.YtmnhpccdhefddaaDoor
open Go.RowKit
namespace Wp

set_option maxHeartbeats 2000000 in
set_option maxRecDepth 100000 in
theorem refinv_any (a p : Int) (w : World) : Calls Tryd.prog 35 #[.int .i64 a, .int .i64 p] w (Gets w (.tuple #[.int .i64 (invI a p), .bool (invB a p)])) := by
  rcases hp : prB p with _ | _
  · have hB := invB_no (a := a) hp
    rw [invI_no hB, hB]
    have Hp := Lib.hid (fun w => refprime_any p w)
    rw [hp] at Hp
    clear hB hp
    go_enter Tryd.func35, Tryd.ntmps35
    go_wp2_with fail
    refine (Hp.out _).mono ?_
    rintro e w1 ⟨rfl, hb1⟩
    go_wp2
    go_ret2
    exact ⟨rfl, hb1⟩
  · have Hp := Lib.hid (fun w => refprime_any p w)
    rw [hp] at Hp
    have hpi := prB_iff.1 hp
    have hpl : p ≤ 2147483647 := hpi.2.1
    by_cases h0 : modI a p = 0
    · have hB := invB_zero hp h0
      rw [invI_no hB, hB]
      have Hm := Lib.hid (fun w => refmod_any a p w)
      rw [h0] at Hm
      clear hB hp h0 hpi
      go_enter Tryd.func35, Tryd.ntmps35
      go_wp2_with fail
      refine (Hp.out _).mono ?_
      rintro e w1 ⟨rfl, hb1⟩
      go_wp2_with fail
      refine (Hm.out _).mono ?_
      rintro e w2 ⟨rfl, rfl⟩
      go_wp2
      go_ret2
      exact ⟨rfl, hb1⟩
    · have hB := invB_yes hp h0
      rw [invI_yes hB, hB]
      have Hm := Lib.hid (fun w => refmod_any a p w)
      have Hw := Lib.hid (fun w => refpow_any a (p - 2) p w (by omega))
      have h2 := hpi.1
      have hw : wrap64 (p - 2) = p - 2 := by unfold wrap64; omega
      generalize modI a p = m at *
      generalize powI a (p - 2) p = y at *
      clear hB hp hpi
      go_enter Tryd.func35, Tryd.ntmps35
      go_wp2_with fail
      refine (Hp.out _).mono ?_
      rintro e w1 ⟨rfl, hb1⟩
      go_wp2_with fail
      refine (Hm.out _).mono ?_
      rintro e w2 ⟨rfl, rfl⟩
      go_wp2_with fail
      refine (Hw.out _).mono ?_
      rintro e w3 ⟨rfl, hb3⟩
      have hB3 := below_next hb1 (Nat.le_refl _) hb3
      go_wp2
      go_ret2
      exact ⟨rfl, hB3⟩

end Wp
end Go.Proofs.YtmnhpccdhefddaaDoor
