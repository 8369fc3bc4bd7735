/- A pair goes up in the heap: container/heap's up, and Push, walked. -/
import Derived.Test.YtcdfjhmlpdhelaaOBack
namespace Go.Proofs.Ytcdfjhmlpdhelaa
open Go Go.RowKit
namespace Wp

/-- The queue's pairs as the heap that container/heap asks for. -/
def ivQ (q : Nat) : Value := .iface 64 (.pointer (some ⟨q, 0, none⟩))
section
variable (q : Nat) (w : World) (v : Value)
theorem mPush (n : Nat) : (Go.method (n + 1) 64 (.pointer (some ⟨q, 0, none⟩)) "Push").run Try.prog w = .ok (119, .pointer (some ⟨q, 0, none⟩)) w := by kernel_rfl
theorem mPop (n : Nat) : (Go.method (n + 1) 64 (.pointer (some ⟨q, 0, none⟩)) "Pop").run Try.prog w = .ok (118, .pointer (some ⟨q, 0, none⟩)) w := by kernel_rfl
theorem mLess (n : Nat) (h : w.cell? ⟨q, 0, none⟩ = some v) : (Go.method (n + 1) 64 (.pointer (some ⟨q, 0, none⟩)) "Less").run Try.prog w = .ok (116, v) w := by
  have e : (Go.method (n + 1) 64 (.pointer (some ⟨q, 0, none⟩)) "Less").run Try.prog w = ((do let v ← load ⟨q, 0, none⟩; pure ((116 : Nat), v)) : Sem (Nat × Value)).run Try.prog w := by kernel_rfl
  rw [e, Sem.run_bind, run_load]
  simp [h, Result.andThen]
theorem mSwap (n : Nat) (h : w.cell? ⟨q, 0, none⟩ = some v) : (Go.method (n + 1) 64 (.pointer (some ⟨q, 0, none⟩)) "Swap").run Try.prog w = .ok (117, v) w := by
  have e : (Go.method (n + 1) 64 (.pointer (some ⟨q, 0, none⟩)) "Swap").run Try.prog w = ((do let v ← load ⟨q, 0, none⟩; pure ((117 : Nat), v)) : Sem (Nat × Value)).run Try.prog w := by kernel_rfl
  rw [e, Sem.run_bind, run_load]
  simp [h, Result.andThen]
theorem mLen (n : Nat) (h : w.cell? ⟨q, 0, none⟩ = some v) : (Go.method (n + 1) 64 (.pointer (some ⟨q, 0, none⟩)) "Len").run Try.prog w = .ok (46, v) w := by
  have e : (Go.method (n + 1) 64 (.pointer (some ⟨q, 0, none⟩)) "Len").run Try.prog w = ((do let v ← load ⟨q, 0, none⟩; pure ((46 : Nat), v)) : Sem (Nat × Value)).run Try.prog w := by kernel_rfl
  rw [e, Sem.run_bind, run_load]
  simp [h, Result.andThen]
end
theorem Que.cell {w : World} {F : Nat → Prop} {q : Nat} {v : Value} {ps : List (Int × Int)} (h : Que w F q v ps) : w.cell? ⟨q, 0, none⟩ = some v := by
  have := h.blk.cell 0
  simpa using this
theorem Que.swap {w w' : World} {F : Nat → Prop} {q : Nat} {v : Value} {ps ps' : List (Int × Int)} (h : Que w F q v ps) (ho : OwnP w' v ps') (hg : w.grownBy w' v.ownBlock) : Que w' F q v ps' ∧ Fk F w w' :=
  ⟨⟨h.blk.grown hg (fun e => h.apart e.symm), ho, h.apart, fun i hi => ⟨Nat.lt_of_lt_of_le (h.far i hi).1 hg.size, (h.far i hi).2⟩⟩, Fk.of_grown hg fun i hi => (h.far i hi).2.2⟩

set_option maxHeartbeats 8000000 in
set_option maxRecDepth 1000000 in
theorem up_any (F : Nat → Prop) (q : Nat) (ps : List (Int × Int)) (j : Nat) (hj : j < ps.length) (hl : ps.length ≤ 1048577) (hu : UpTo ps.length ps j) (w : World) (h : Qu w F q ps) :
    Calls Try.prog 62 #[ivQ q, .int .i64 (j : Int)] w fun e w' => e = .returned (.tuple #[]) ∧ ∃ ps' : List (Int × Int), ps'.Perm ps ∧ HeapTo ps'.length ps' ∧ Qu w' F q ps' ∧ Fk F w w' := by
  have HQ := Lib.hid h
  have HU := Lib.hid hu
  unfold ivQ
  clear h hu
  go_enter Try.func62, Try.ntmps62
  go_wp2
  go_loopw [1] (fun vj wr => ∃ (k : Nat) (qs : List (Int × Int)), vj = .int .i64 (k : Int) ∧ k < qs.length ∧ Hid (qs.Perm ps ∧ UpTo qs.length qs k ∧ Qu wr F q qs ∧ Fk F w wr)) (fun vj _ => (intOf vj).toNat)
  case atStart => exact ⟨j, ps, rfl, hj, .refl _, HU.out, HQ.out, Fk.refl _ _⟩
  case round =>
    obtain ⟨k, qs, rfl, hk, HR⟩ := hrel
    obtain ⟨v, hv⟩ := HR.out.2.2.1
    have HV := Lib.hid hv
    have hlen := HR.out.1.length_eq
    have m1 := fun n => mLess q wr v n hv.cell
    clear hv HQ HU hj
    by_cases h0 : k = 0
    · subst h0
      go_wp2
      go_end0
      exact ⟨rfl, qs, HR.out.1, HR.out.2.1.zero, HR.out.2.2.1, HR.out.2.2.2⟩
    · obtain ⟨i, hI⟩ : ∃ i : Nat, (k - 1) / 2 = i := ⟨_, rfl⟩
      have hik : i < k := by omega
      have hk1 : ((k : Int) - 1).tdiv 2 = (i : Int) := by
        rw [Int.tdiv_eq_ediv_of_nonneg (by omega)]
        omega
      have hne : ((i : Int) == (k : Int)) = false := by
        rw [beq_eq_false_iff_ne]
        omega
      have HI := Lib.hid hI
      clear hI
      by_cases hlt : ltP (atP qs k) (atP qs i)
      · have HL := Lib.hid hlt
        have hc := less_any v qs k i hk (by omega) wr HV.out.own
        rw [decide_eq_true hlt] at hc
        have HC := Lib.hid hc
        clear hlt hc
        go_wp2_with (first | (go_at_call 116; refine HC.out.mono ?_; rintro e w1 ⟨rfl, hb1⟩; have m3 := fun n => mSwap q w1 v n (HV.out.quiet hb1).cell) | (go_at_call 117; refine (swap_any v qs i k (by omega) hk _ (HV.out.quiet (by assumption)).own).mono ?_; rintro e w2 ⟨rfl, ho, hg⟩))
        obtain ⟨hq2, hk2⟩ := (HV.out.quiet hb1).swap ho hg
        go_roundw
        case rel =>
          refine ⟨i, swapL qs i k, rfl, by rw [swapL_length]; omega, (swapL_perm qs i k (by omega) hk).trans HR.out.1, ?_, ⟨v, hq2⟩, (HR.out.2.2.2.trans (Fk.of_below hb1)).trans hk2⟩
          rw [swapL_length, ← HI.out]
          exact HR.out.2.1.step hk (by omega) (by rw [HI.out]; exact HL.out)
        case measure => simp [intOf]; omega
      · have HL := Lib.hid hlt
        have hc := less_any v qs k i hk (by omega) wr HV.out.own
        rw [decide_eq_false hlt] at hc
        have HC := Lib.hid hc
        clear hlt hc
        go_wp2_with (go_at_call 116; refine HC.out.mono ?_; rintro e w1 ⟨rfl, hb1⟩)
        go_end0
        exact ⟨rfl, qs, HR.out.1, HR.out.2.1.done (by rw [HI.out]; exact HL.out), HR.out.2.2.1.quiet hb1, HR.out.2.2.2.trans (Fk.of_below hb1)⟩

end Wp
end Go.Proofs.Ytcdfjhmlpdhelaa
