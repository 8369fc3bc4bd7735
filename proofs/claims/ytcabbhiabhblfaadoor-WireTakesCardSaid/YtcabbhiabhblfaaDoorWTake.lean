/- The program's (*wire.Reader).Num and Int, walked. -/
import Derived.Test.YtcabbhiabhblfaaDoorWEnv
import Derived.LaidEql
namespace Go.Proofs.YtcabbhiabhblfaaDoor
open Go.RowKit
namespace Wp

theorem rnum_nil (w : World) : Calls Tryd.prog 23 #[.pointer none] w fun e w' => e = .returned (.int .i64 0) ∧ w = w' := by
  go_enter Tryd.func23, Tryd.ntmps23
  go_wp2
  go_ret
  exact ⟨rfl, rfl⟩

set_option maxHeartbeats 400000 in
theorem rnum_err (E : Nat → Addr) (T : ByteArray) (b p : Nat) (x : Nat × Nat) (w : World) (hr : Rd E T b (p, some x) w) :
    Calls Tryd.prog 23 #[.pointer (some ⟨b, 0, none⟩)] w fun e w' => e = .returned (.int .i64 0) ∧ w = w' := by
  have c2 : w.cell? ⟨b, 2, none⟩ = some (errV E (some x)) := hr.cell 2
  unfold errV at c2
  go_enter Tryd.func23, Tryd.ntmps23
  go_wp2
  go_ret
  exact ⟨rfl, rfl⟩

set_option maxHeartbeats 400000 in
theorem rnum_ok (E : Nat → Addr) (B : Nat) (T : ByteArray) (b p n sz : Nat) (w : World) (hM : Met E B w) (hr : Rd E T b (p, none) w) (hp : p ≤ T.size) (hT : T.size ≤ 1099511627776)
    (hd : dec 8 0 0 (T.data.toList.drop p) = (n, sz, 0)) :
    Calls Tryd.prog 23 #[.pointer (some ⟨b, 0, none⟩)] w fun e w' => e = .returned (.int .i64 n) ∧ Left E B T b (p + sz, none) w w' := by
  have c0 : w.cell? ⟨b, 0, none⟩ = some (.string T) := hr.cell 0
  have c1 : w.cell? ⟨b, 1, none⟩ = some (.int .i64 p) := hr.cell 1
  have c2 : w.cell? ⟨b, 2, none⟩ = some .nilIface := hr.cell 2
  have f1 : w.frozen? ⟨b, 1, none⟩ = false := hr.frozen 1
  have g1 := hM.g1
  have g2 := hM.g2
  have Hd : Hid (dec 8 0 0 (T.extract p T.size).data.toList = (n, sz, 0)) := by rw [extract_drop]; exact hd
  have hb : sz ≤ T.size := by
    rcases dec_kinds 8 0 0 (T.data.toList.drop p) with ⟨v, sz', h, h1, h2, h3, h4⟩ | h | h
    · rw [hd] at h
      simp only [Prod.mk.injEq, and_true] at h
      obtain ⟨rfl, rfl⟩ := h
      simp at h2
      omega
    · rw [hd] at h; simp at h
    · rw [hd] at h; simp at h
  clear hd
  have hsz : (T.extract p T.size).size ≤ maxLen := by simp; unfold maxLen; omega
  go_enter Tryd.func23, Tryd.ntmps23
  go_wp2
  go_quiet ((go_at_call 34; exact Calls.quiet_of (front_at _ _ _ _ _ _ Hd.out _ rfl _ hsz g1 g2)))
  go_wp2
  go_ret
  refine ⟨rfl, only_setCell (only_drewN (World.grownBy.refl w _) nq) (.inl rfl) _, ?_⟩
  have h := (hr.drewN nq).set_ 1 (.int .i64 ((p : Int) + sz))
  have e : (((p + sz : Nat) : Int)) = (p : Int) + sz := by omega
  unfold Rd
  rw [e]
  exact h

set_option maxHeartbeats 400000 in
theorem rnum_bad (E : Nat → Addr) (B : Nat) (T : ByteArray) (b p k : Nat) (w : World) (hM : Met E B w) (hr : Rd E T b (p, none) w) (hp : p ≤ T.size) (hT : T.size ≤ 1099511627776)
    (hk : k = 0 ∨ k = 1) (hd : dec 8 0 0 (T.data.toList.drop p) = (0, 0, k + 1)) :
    Calls Tryd.prog 23 #[.pointer (some ⟨b, 0, none⟩)] w fun e w' => e = .returned (.int .i64 0) ∧ Left E B T b (p, some (p, k + 1)) w w' := by
  have c0 : w.cell? ⟨b, 0, none⟩ = some (.string T) := hr.cell 0
  have c1 : w.cell? ⟨b, 1, none⟩ = some (.int .i64 p) := hr.cell 1
  have c2 : w.cell? ⟨b, 2, none⟩ = some .nilIface := hr.cell 2
  have f2 : w.frozen? ⟨b, 2, none⟩ = false := hr.frozen 2
  have g1 := hM.g1
  have g2 := hM.g2
  have Hd : Hid (dec 8 0 0 (T.extract p T.size).data.toList = (0, 0, k + 1)) := by rw [extract_drop]; exact hd
  have Hv : Hid ((if k + 1 = 0 then Value.nilIface else if k + 1 = 1 then Value.iface 101 (.pointer (some (E 1))) else .iface 101 (.pointer (some (E 2)))) = .iface 101 (.pointer (some (E (k + 1))))) := by
    rcases hk with rfl | rfl <;> rfl
  clear hd hk
  have hsz : (T.extract p T.size).size ≤ maxLen := by simp; unfold maxLen; omega
  go_enter Tryd.func23, Tryd.ntmps23
  go_wp2
  go_quiet ((go_at_call 34; exact Calls.quiet_of (front_at _ _ _ _ _ _ Hd.out _ Hv.out _ hsz g1 g2)))
  go_wp2
  go_ret
  refine ⟨rfl, only_setCell (only_drewN (World.grownBy.refl w _) nq) (.inl rfl) _, ?_⟩
  exact (hr.drewN nq).set_ 2 _

/-- What a call of Num or Int comes to. -/
def Took (E : Nat → Addr) (B : Nat) (T : ByteArray) (b : Nat) (n : Int) (st : St) (w : World) (e : Ending) (w' : World) : Prop :=
  e = .returned (.int .i64 n) ∧ Left E B T b st w w'

theorem rnum_any (E : Nat → Addr) (B : Nat) (T : ByteArray) (b : Nat) (st : St) (w : World) (hM : Met E B w) (hr : Rd E T b st w) (hp : st.1 ≤ T.size) (hT : T.size ≤ 1099511627776) :
    Calls Tryd.prog 23 #[.pointer (some ⟨b, 0, none⟩)] w (Took E B T b ((stepN T.data.toList st).1 : Nat) (stepN T.data.toList st).2 w) := by
  obtain ⟨p, x⟩ := st
  cases x with
  | some x =>
    exact (rnum_err E T b p x w hr).mono fun e w' ⟨h1, h2⟩ => ⟨h1, by subst h2; exact ⟨World.grownBy.refl _ _, hr⟩⟩
  | none =>
    rcases dec_kinds 8 0 0 (T.data.toList.drop p) with ⟨v, sz, h, h1, h2, h3, h4⟩ | h | h
    · rw [stepN_ok _ _ _ _ h]
      exact rnum_ok E B T b p v sz w hM hr hp hT h
    · rw [stepN_bad _ _ 0 h]
      exact rnum_bad E B T b p 0 w hM hr hp hT (.inl rfl) h
    · rw [stepN_bad _ _ 1 h]
      exact rnum_bad E B T b p 1 w hM hr hp hT (.inr rfl) h

/-- The place stays within the bytes, and a number is in its bounds. -/
theorem stepN_in (T : List UInt8) (st : St) (h : st.1 ≤ T.length) : (stepN T st).2.1 ≤ T.length ∧ st.1 ≤ (stepN T st).2.1 ∧ (stepN T st).1 ≤ 1125899906842624 := by
  obtain ⟨p, x⟩ := st
  cases x with
  | some x => exact ⟨h, Nat.le_refl _, by simp [stepN]⟩
  | none =>
    rcases dec_kinds 8 0 0 (T.drop p) with ⟨v, sz, h0, h1, h2, h3, h4⟩ | h0 | h0
    · rw [stepN_ok _ _ _ _ h0]
      rw [List.length_drop] at h2
      have h' : p ≤ T.length := h
      exact ⟨by show p + sz ≤ _; omega, by show p ≤ p + sz; omega, h4⟩
    · rw [stepN_bad _ _ 0 h0]; exact ⟨h, Nat.le_refl _, by simp⟩
    · rw [stepN_bad _ _ 1 h0]; exact ⟨h, Nat.le_refl _, by simp⟩

/-- The signed number of a number. -/
def unz (n : Nat) : Int := if n % 2 = 0 then ((n / 2 : Nat) : Int) else -(((n + 1) / 2 : Nat) : Int)
def stepI (T : List UInt8) (st : St) : Int × St := (unz (stepN T st).1, (stepN T st).2)

set_option maxHeartbeats 400000 in
theorem rint_any (E : Nat → Addr) (B : Nat) (T : ByteArray) (b : Nat) (st : St) (w : World) (hM : Met E B w) (hr : Rd E T b st w) (hp : st.1 ≤ T.size) (hT : T.size ≤ 1099511627776) :
    Calls Tryd.prog 24 #[.pointer (some ⟨b, 0, none⟩)] w (Took E B T b (stepI T.data.toList st).1 (stepI T.data.toList st).2 w) := by
  have hn := (stepN_in T.data.toList st (by simpa using hp)).2.2
  have hc := rnum_any E B T b st w hM hr hp hT
  unfold stepI
  show Calls _ _ _ _ (Took E B T b (unz (stepN T.data.toList st).1) (stepN T.data.toList st).2 w)
  generalize (stepN T.data.toList st).1 = n at *
  generalize (stepN T.data.toList st).2 = st' at *
  have Hc := Lib.hid hc
  clear hc
  by_cases h2 : n % 2 = 0
  · have hu : unz n = ((n / 2 : Nat) : Int) := if_pos h2
    rw [hu]
    clear hu
    have ht : ((n : Int) % 2 == 0) = true := by rw [beq_iff_eq]; omega
    have H2 := Lib.hid h2
    clear h2
    go_enter Tryd.func24, Tryd.ntmps24
    go_wp2_with fail
    refine Hc.out.mono ?_
    rintro e w' ⟨rfl, hl⟩
    go_wp2
    go_ret
    refine ⟨?_, hl⟩
    congr 2
  · have hu : unz n = -(((n + 1) / 2 : Nat) : Int) := if_neg h2
    rw [hu]
    clear hu
    have ht : ((n : Int) % 2 == 0) = false := by rw [beq_eq_false_iff_ne]; omega
    have H2 := Lib.hid h2
    clear h2
    go_enter Tryd.func24, Tryd.ntmps24
    go_wp2_with fail
    refine Hc.out.mono ?_
    rintro e w' ⟨rfl, hl⟩
    go_wp2
    go_ret
    refine ⟨?_, hl⟩
    have e : wrap64 (-((n : Int) + 1).tdiv 2) = -(((n + 1) / 2 : Nat) : Int) := by
      rw [Int.tdiv_eq_ediv_of_nonneg (by omega)]
      unfold wrap64
      omega
    rw [← e]
    rfl

theorem rint_nil (w : World) : Calls Tryd.prog 24 #[.pointer none] w fun e w' => e = .returned (.int .i64 0) ∧ w = w' := by
  go_enter Tryd.func24, Tryd.ntmps24
  go_wp2_with fail
  refine (rnum_nil _).mono ?_
  rintro e w' ⟨rfl, rfl⟩
  go_wp2
  go_ret
  exact ⟨rfl, rfl⟩

end Wp
end Go.Proofs.YtcabbhiabhblfaaDoor
