/- A pair goes down in the heap: container/heap's down, walked. -/
import Derived.Test.YtcdfjhmlpdhelaaOUp
namespace Go.Proofs.Ytcdfjhmlpdhelaa
open Go Go.RowKit
namespace Wp

set_option maxHeartbeats 8000000 in
set_option maxRecDepth 1000000 in
theorem down_any (F : Nat → Prop) (q n : Nat) (ps : List (Int × Int)) (hn : n ≤ ps.length) (hl : ps.length ≤ 1048577) (hd : DownTo n ps 0) (w : World) (h : Qu w F q ps) :
    Calls Try.prog 63 #[ivQ q, .int .i64 0, .int .i64 (n : Int)] w fun e w' => (∃ b, e = .returned (.bool b)) ∧ ∃ ps' : List (Int × Int), ps'.length = ps.length ∧ ps'.Perm ps ∧ HeapTo n ps' ∧ atP ps' n = atP ps n ∧ Qu w' F q ps' ∧ Fk F w w' := by
  have HQ := Lib.hid h
  have HD := Lib.hid hd
  unfold ivQ
  clear h hd
  go_enter Try.func63, Try.ntmps63
  go_wp2
  go_loopw [7] (fun vi wr => ∃ (i : Nat) (qs : List (Int × Int)), vi = .int .i64 (i : Int) ∧ i ≤ n ∧ qs.length = ps.length ∧ Hid (qs.Perm ps ∧ DownTo n qs i ∧ atP qs n = atP ps n ∧ Qu wr F q qs ∧ Fk F w wr)) (fun vi _ => n - (intOf vi).toNat)
  case atStart => exact ⟨0, ps, rfl, Nat.zero_le _, rfl, .refl _, HD.out, rfl, HQ.out, Fk.refl _ _⟩
  case round =>
    obtain ⟨i, qs, rfl, hi, hlen, HR⟩ := hrel
    obtain ⟨v, hv⟩ := HR.out.2.2.2.1
    have HV := Lib.hid hv
    have m1 := fun n => mLess q wr v n hv.cell
    clear hv HQ HD
    by_cases h1 : n ≤ 2 * i + 1
    · have h1I : (n : Int) ≤ 2 * (i : Int) + 1 := by omega
      go_wp2
      go_ret
      exact ⟨⟨_, rfl⟩, qs, hlen, HR.out.1, HR.out.2.1.none h1, HR.out.2.2.1, HR.out.2.2.2.1, HR.out.2.2.2.2⟩
    · have h1I : ¬ (n : Int) ≤ 2 * (i : Int) + 1 := by omega
      have h1J : ¬ 2 * (i : Int) + 1 < 0 := by omega
      have h2w : wrap64 (2 * (i : Int) + 1) = 2 * (i : Int) + 1 := by unfold wrap64; omega
      have h3w : wrap64 (2 * (i : Int) + 1 + 1) = 2 * (i : Int) + 1 + 1 := by unfold wrap64; omega
      by_cases h2 : 2 * i + 2 < n
      · have h2I : 2 * (i : Int) + 1 + 1 < (n : Int) := by omega
        by_cases h3 : ltP (atP qs (2 * i + 2)) (atP qs (2 * i + 1))
        · have HX : Hid (Calls Try.prog 116 #[v, .int .i64 (2 * (i : Int) + 1 + 1), .int .i64 (2 * (i : Int) + 1)] wr (Says wr true)) := Lib.hid (by
            have h := less_any v qs (2 * i + 2) (2 * i + 1) (by omega) (by omega) wr HV.out.own
            rwa [decide_eq_true h3, show ((2 * i + 2 : Nat) : Int) = 2 * (i : Int) + 1 + 1 by omega, show ((2 * i + 1 : Nat) : Int) = 2 * (i : Int) + 1 by omega] at h)
          have HCx := HX
          have HLe : Hid (Lesser n qs i (2 * i + 2)) := Lib.hid ⟨.inr rfl, h2, fun c c0 hc hcp => by
            rcases (show c = 2 * i + 1 ∨ c = 2 * i + 2 by omega) with e | e
            · rw [e]; exact ltP_asymm h3
            · rw [e]; exact ltP_irrefl _⟩
          have HCy : Hid (∀ W, Que W F q v qs → Calls Try.prog 116 #[v, .int .i64 (2 * (i : Int) + 1 + 1), .int .i64 (i : Int)] W (Says W (decide (ltP (atP qs (2 * i + 2)) (atP qs i))))) := Lib.hid (by
            intro W hW
            have h := less_any v qs (2 * i + 2) i (by omega) (by omega) W hW.own
            rwa [show (((2 * i + 2 : Nat)) : Int) = 2 * (i : Int) + 1 + 1 by omega] at h)
          have HCs : Hid (∀ W, Que W F q v qs → Calls Try.prog 117 #[v, .int .i64 (i : Int), .int .i64 (2 * (i : Int) + 1 + 1)] W fun e w' => e = .returned (.tuple #[]) ∧ OwnP w' v (swapL qs i (2 * i + 2)) ∧ W.grownBy w' v.ownBlock) := Lib.hid (by
            intro W hW
            have h := swap_any v qs i (2 * i + 2) (by omega) (by omega) W hW.own
            rwa [show (((2 * i + 2 : Nat)) : Int) = 2 * (i : Int) + 1 + 1 by omega] at h)
          have hs1 : i < qs.length := by omega
          have hs2 : 2 * i + 2 < n := by omega
          have hs3 : 2 * i + 2 < qs.length := by omega
          by_cases hlt : ltP (atP qs (2 * i + 2)) (atP qs i)
          · have HL := Lib.hid hlt
            have HY := Lib.hid (decide_eq_true hlt)
            clear hlt
            go_wp2_with fail
            refine HCx.out.mono ?_
            rintro e w1 ⟨rfl, hb1⟩
            have HV1 := Lib.hid (HV.out.quiet hb1)
            have HF1 := Lib.hid (Fk.of_below (F := F) hb1)
            have m2 := fun n => mLess q w1 v n HV1.out.cell
            clear hb1
            go_wp2_with fail
            refine (HCy.out _ HV1.out).mono ?_
            rintro e w2 ⟨rfl, hb2⟩
            rw [HY.out]
            have HV2 := Lib.hid (HV1.out.quiet hb2)
            have HF2 := Lib.hid (HF1.out.trans (Fk.of_below (F := F) hb2))
            have m3 := fun n => mSwap q w2 v n HV2.out.cell
            clear hb2
            go_wp2_with fail
            refine (HCs.out _ HV2.out).mono ?_
            rintro e w3 ⟨rfl, ho, hg⟩
            obtain ⟨hq3, hk3⟩ := HV2.out.swap ho hg
            clear ho hg
            go_wp2
            go_roundw
            case rel =>
              refine ⟨2 * i + 2, swapL qs i (2 * i + 2), by congr 1, by omega, by rw [swapL_length]; exact hlen, (swapL_perm qs i (2 * i + 2) hs1 hs3).trans HR.out.1, HR.out.2.1.step HLe.out (by omega) HL.out, ?_, ⟨v, hq3⟩, (HR.out.2.2.2.2.trans HF2.out).trans hk3⟩
              rw [atP_swap qs i (2 * i + 2) n hs1 hs3, if_neg (by omega), if_neg (by omega)]
              exact HR.out.2.2.1
            case measure => simp [intOf]; omega
          · have HL := Lib.hid hlt
            have HY := Lib.hid (decide_eq_false hlt)
            clear hlt
            go_wp2_with fail
            refine HCx.out.mono ?_
            rintro e w1 ⟨rfl, hb1⟩
            have HV1 := Lib.hid (HV.out.quiet hb1)
            have HF1 := Lib.hid (Fk.of_below (F := F) hb1)
            have m2 := fun n => mLess q w1 v n HV1.out.cell
            clear hb1
            go_wp2_with fail
            refine (HCy.out _ HV1.out).mono ?_
            rintro e w2 ⟨rfl, hb2⟩
            rw [HY.out]
            have HV2 := Lib.hid (HV1.out.quiet hb2)
            have HF2 := Lib.hid (HF1.out.trans (Fk.of_below (F := F) hb2))
            clear hb2
            go_wp2
            go_ret
            exact ⟨⟨_, rfl⟩, qs, hlen, HR.out.1, HR.out.2.1.done HLe.out HL.out, HR.out.2.2.1, ⟨v, HV2.out⟩, HR.out.2.2.2.2.trans HF2.out⟩
        · have HX : Hid (Calls Try.prog 116 #[v, .int .i64 (2 * (i : Int) + 1 + 1), .int .i64 (2 * (i : Int) + 1)] wr (Says wr false)) := Lib.hid (by
            have h := less_any v qs (2 * i + 2) (2 * i + 1) (by omega) (by omega) wr HV.out.own
            rwa [decide_eq_false h3, show ((2 * i + 2 : Nat) : Int) = 2 * (i : Int) + 1 + 1 by omega, show ((2 * i + 1 : Nat) : Int) = 2 * (i : Int) + 1 by omega] at h)
          have HCx := HX
          have HLe : Hid (Lesser n qs i (2 * i + 1)) := Lib.hid ⟨.inl rfl, by omega, fun c c0 hc hcp => by
            rcases (show c = 2 * i + 1 ∨ c = 2 * i + 2 by omega) with e | e
            · rw [e]; exact ltP_irrefl _
            · rw [e]; exact h3⟩
          have HCy : Hid (∀ W, Que W F q v qs → Calls Try.prog 116 #[v, .int .i64 (2 * (i : Int) + 1), .int .i64 (i : Int)] W (Says W (decide (ltP (atP qs (2 * i + 1)) (atP qs i))))) := Lib.hid (by
            intro W hW
            have h := less_any v qs (2 * i + 1) i (by omega) (by omega) W hW.own
            rwa [show (((2 * i + 1 : Nat)) : Int) = 2 * (i : Int) + 1 by omega] at h)
          have HCs : Hid (∀ W, Que W F q v qs → Calls Try.prog 117 #[v, .int .i64 (i : Int), .int .i64 (2 * (i : Int) + 1)] W fun e w' => e = .returned (.tuple #[]) ∧ OwnP w' v (swapL qs i (2 * i + 1)) ∧ W.grownBy w' v.ownBlock) := Lib.hid (by
            intro W hW
            have h := swap_any v qs i (2 * i + 1) (by omega) (by omega) W hW.own
            rwa [show (((2 * i + 1 : Nat)) : Int) = 2 * (i : Int) + 1 by omega] at h)
          have hs1 : i < qs.length := by omega
          have hs2 : 2 * i + 1 < n := by omega
          have hs3 : 2 * i + 1 < qs.length := by omega
          by_cases hlt : ltP (atP qs (2 * i + 1)) (atP qs i)
          · have HL := Lib.hid hlt
            have HY := Lib.hid (decide_eq_true hlt)
            clear hlt
            go_wp2_with fail
            refine HCx.out.mono ?_
            rintro e w1 ⟨rfl, hb1⟩
            have HV1 := Lib.hid (HV.out.quiet hb1)
            have HF1 := Lib.hid (Fk.of_below (F := F) hb1)
            have m2 := fun n => mLess q w1 v n HV1.out.cell
            clear hb1
            go_wp2_with fail
            refine (HCy.out _ HV1.out).mono ?_
            rintro e w2 ⟨rfl, hb2⟩
            rw [HY.out]
            have HV2 := Lib.hid (HV1.out.quiet hb2)
            have HF2 := Lib.hid (HF1.out.trans (Fk.of_below (F := F) hb2))
            have m3 := fun n => mSwap q w2 v n HV2.out.cell
            clear hb2
            go_wp2_with fail
            refine (HCs.out _ HV2.out).mono ?_
            rintro e w3 ⟨rfl, ho, hg⟩
            obtain ⟨hq3, hk3⟩ := HV2.out.swap ho hg
            clear ho hg
            go_wp2
            go_roundw
            case rel =>
              refine ⟨2 * i + 1, swapL qs i (2 * i + 1), by congr 1, by omega, by rw [swapL_length]; exact hlen, (swapL_perm qs i (2 * i + 1) hs1 hs3).trans HR.out.1, HR.out.2.1.step HLe.out (by omega) HL.out, ?_, ⟨v, hq3⟩, (HR.out.2.2.2.2.trans HF2.out).trans hk3⟩
              rw [atP_swap qs i (2 * i + 1) n hs1 hs3, if_neg (by omega), if_neg (by omega)]
              exact HR.out.2.2.1
            case measure => simp [intOf]; omega
          · have HL := Lib.hid hlt
            have HY := Lib.hid (decide_eq_false hlt)
            clear hlt
            go_wp2_with fail
            refine HCx.out.mono ?_
            rintro e w1 ⟨rfl, hb1⟩
            have HV1 := Lib.hid (HV.out.quiet hb1)
            have HF1 := Lib.hid (Fk.of_below (F := F) hb1)
            have m2 := fun n => mLess q w1 v n HV1.out.cell
            clear hb1
            go_wp2_with fail
            refine (HCy.out _ HV1.out).mono ?_
            rintro e w2 ⟨rfl, hb2⟩
            rw [HY.out]
            have HV2 := Lib.hid (HV1.out.quiet hb2)
            have HF2 := Lib.hid (HF1.out.trans (Fk.of_below (F := F) hb2))
            clear hb2
            go_wp2
            go_ret
            exact ⟨⟨_, rfl⟩, qs, hlen, HR.out.1, HR.out.2.1.done HLe.out HL.out, HR.out.2.2.1, ⟨v, HV2.out⟩, HR.out.2.2.2.2.trans HF2.out⟩
      · have h2I : ¬ 2 * (i : Int) + 1 + 1 < (n : Int) := by omega
        have HLe : Hid (Lesser n qs i (2 * i + 1)) := Lib.hid ⟨.inl rfl, by omega, fun c c0 hc hcp => by
          rw [show c = 2 * i + 1 by omega]; exact ltP_irrefl _⟩
        have HCy : Hid (∀ W, Que W F q v qs → Calls Try.prog 116 #[v, .int .i64 (2 * (i : Int) + 1), .int .i64 (i : Int)] W (Says W (decide (ltP (atP qs (2 * i + 1)) (atP qs i))))) := Lib.hid (by
          intro W hW
          have h := less_any v qs (2 * i + 1) i (by omega) (by omega) W hW.own
          rwa [show (((2 * i + 1 : Nat)) : Int) = 2 * (i : Int) + 1 by omega] at h)
        have HCs : Hid (∀ W, Que W F q v qs → Calls Try.prog 117 #[v, .int .i64 (i : Int), .int .i64 (2 * (i : Int) + 1)] W fun e w' => e = .returned (.tuple #[]) ∧ OwnP w' v (swapL qs i (2 * i + 1)) ∧ W.grownBy w' v.ownBlock) := Lib.hid (by
          intro W hW
          have h := swap_any v qs i (2 * i + 1) (by omega) (by omega) W hW.own
          rwa [show (((2 * i + 1 : Nat)) : Int) = 2 * (i : Int) + 1 by omega] at h)
        have hs1 : i < qs.length := by omega
        have hs2 : 2 * i + 1 < n := by omega
        have hs3 : 2 * i + 1 < qs.length := by omega
        by_cases hlt : ltP (atP qs (2 * i + 1)) (atP qs i)
        · have HL := Lib.hid hlt
          have HY := Lib.hid (decide_eq_true hlt)
          clear hlt
          go_wp2_with fail
          refine (HCy.out _ HV.out).mono ?_
          rintro e w2 ⟨rfl, hb2⟩
          rw [HY.out]
          have HV2 := Lib.hid (HV.out.quiet hb2)
          have HF2 := Lib.hid (Fk.of_below (F := F) hb2)
          have m3 := fun n => mSwap q w2 v n HV2.out.cell
          clear hb2
          go_wp2_with fail
          refine (HCs.out _ HV2.out).mono ?_
          rintro e w3 ⟨rfl, ho, hg⟩
          obtain ⟨hq3, hk3⟩ := HV2.out.swap ho hg
          clear ho hg
          go_wp2
          go_roundw
          case rel =>
            refine ⟨2 * i + 1, swapL qs i (2 * i + 1), by congr 1, by omega, by rw [swapL_length]; exact hlen, (swapL_perm qs i (2 * i + 1) hs1 hs3).trans HR.out.1, HR.out.2.1.step HLe.out (by omega) HL.out, ?_, ⟨v, hq3⟩, (HR.out.2.2.2.2.trans HF2.out).trans hk3⟩
            rw [atP_swap qs i (2 * i + 1) n hs1 hs3, if_neg (by omega), if_neg (by omega)]
            exact HR.out.2.2.1
          case measure => simp [intOf]; omega
        · have HL := Lib.hid hlt
          have HY := Lib.hid (decide_eq_false hlt)
          clear hlt
          go_wp2_with fail
          refine (HCy.out _ HV.out).mono ?_
          rintro e w2 ⟨rfl, hb2⟩
          rw [HY.out]
          have HV2 := Lib.hid (HV.out.quiet hb2)
          have HF2 := Lib.hid (Fk.of_below (F := F) hb2)
          clear hb2
          go_wp2
          go_ret
          exact ⟨⟨_, rfl⟩, qs, hlen, HR.out.1, HR.out.2.1.done HLe.out HL.out, HR.out.2.2.1, ⟨v, HV2.out⟩, HR.out.2.2.2.2.trans HF2.out⟩

end Wp
end Go.Proofs.Ytcdfjhmlpdhelaa
