/- The document's own reader, walked: a number is taken. -/
import Derived.Test.YtcabbhiabhblfaaDoorWList
namespace Go.Proofs.YtcabbhiabhblfaaDoor
open Go.RowKit
namespace Wp

/-- The document's reader in block c. -/
def RRd (T : ByteArray) (c : Nat) (s : Nat × Nat) (w : World) : Prop := Blk w c 43 #[.string T, .int .i64 (s.1 : Nat), .int .i64 (s.2 : Nat)]

/-- The document's reader for the program's: its place, and its error's number. -/
def rst : St → Nat × Nat
  | (p, none) => (p, 0)
  | (_, some (q, k)) => (q, 9 + k)

/-- What a call of the document's reader comes to. -/
def RTook (T : ByteArray) (c : Nat) (n : Int) (s : Nat × Nat) (w : World) (e : Ending) (w' : World) : Prop :=
  e = .returned (.int .i64 n) ∧ w.grownBy w' (some c) ∧ RRd T c s w'

theorem rfail_any (T : ByteArray) (c p e k : Nat) (w : World) (hr : RRd T c (p, e) w) :
    Calls Tryd.prog 37 #[.pointer (some ⟨c, 0, none⟩), .int .i64 (k : Nat)] w (RTook T c 0 (p, k) w) := by
  have c2 : w.cell? ⟨c, 2, none⟩ = some (.int .i64 (e : Nat)) := hr.cell 2
  have f2 : w.frozen? ⟨c, 2, none⟩ = false := hr.frozen 2
  go_enter Tryd.func37, Tryd.ntmps37
  go_wp2
  go_ret
  exact ⟨rfl, only_setCell (World.grownBy.refl w _) (.inl rfl) _, hr.set_ 2 _⟩

theorem signed_any (n : Nat) (hn : n ≤ 1125899906842624) (w : World) :
    Calls Tryd.prog 38 #[.int .i64 (n : Nat)] w fun e w' => e = .returned (.int .i64 (unz n)) ∧ w' = w := by
  by_cases h2 : n % 2 = 0
  · have hu : unz n = ((n / 2 : Nat) : Int) := if_pos h2
    rw [hu]
    clear hu
    have ht : ((n : Int) % 2 == 1) = false := by rw [beq_eq_false_iff_ne]; omega
    have H2 := Lib.hid h2
    clear h2
    go_enter Tryd.func38, Tryd.ntmps38
    go_wp2
    go_ret
    refine ⟨?_, rfl⟩
    congr 2
  · have hu : unz n = -(((n + 1) / 2 : Nat) : Int) := if_neg h2
    rw [hu]
    clear hu
    have ht : ((n : Int) % 2 == 1) = true := by rw [beq_iff_eq]; omega
    have H2 := Lib.hid h2
    clear h2
    go_enter Tryd.func38, Tryd.ntmps38
    go_wp2
    go_ret
    refine ⟨?_, rfl⟩
    congr 2

theorem acc_in (k n b : Nat) (hk : k < 8) (hn : n < 128 ^ k) (hb : b < 128) :
    128 ^ k ≤ 562949953421312 ∧ n < 562949953421312 ∧ b * 128 ^ k ≤ 71494644084506624 := by
  have h8 : (128 : Nat) ^ k ≤ 128 ^ 7 := Nat.pow_le_pow_right (by decide) (by omega)
  have h7 : (128 : Nat) ^ 7 = 562949953421312 := by decide
  rw [h7] at h8
  have hm : b * 128 ^ k ≤ 127 * 562949953421312 := Nat.mul_le_mul (by omega) h8
  exact ⟨h8, by omega, by omega⟩

set_option maxHeartbeats 2000000 in
set_option maxRecDepth 100000 in
theorem refnum_ok (T : ByteArray) (c p : Nat) (w : World) (hr : RRd T c (p, 0) w) (hp : p ≤ T.size) (hT : T.size ≤ 1099511627776) :
    Calls Tryd.prog 28 #[.pointer (some ⟨c, 0, none⟩)] w (RTook T c ((stepN T.data.toList (p, none)).1 : Nat) (rst (stepN T.data.toList (p, none)).2) w) := by
  have c2 : w.cell? ⟨c, 2, none⟩ = some (.int .i64 0) := hr.cell 2
  go_enter Tryd.func28, Tryd.ntmps28
  go_wp2
  go_loopw [3, 4, 5] (fun vn vu vk wr => RRd T c (p, 0) wr ∧ w.grownBy wr (some c) ∧ ∃ k n : Nat, k ≤ 8 ∧ vn = .int .i64 n ∧ vu = .int .i64 ((128 ^ k : Nat) : Int) ∧ vk = .int .i64 k ∧ p + k ≤ T.size ∧ n < 128 ^ k ∧ dec (8 - k) k n (T.data.toList.drop (p + k)) = dec 8 0 0 (T.data.toList.drop p))
    (fun _ _ vk _ => 8 - (intOf vk).toNat)
  case atStart => exact ⟨hr, World.grownBy.refl w _, 0, 0, by omega, rfl, rfl, rfl, by omega, by omega, rfl⟩
  case round =>
    obtain ⟨hrr, hgr, k, n, hk8, rfl, rfl, rfl, hks, hn, hd⟩ := hrel
    have d0 : wr.cell? ⟨c, 0, none⟩ = some (.string T) := hrr.cell 0
    have d1 : wr.cell? ⟨c, 1, none⟩ = some (.int .i64 p) := hrr.cell 1
    have d2 : wr.cell? ⟨c, 2, none⟩ = some (.int .i64 0) := hrr.cell 2
    have f1 : wr.frozen? ⟨c, 1, none⟩ = false := hrr.frozen 1
    have Hd := Lib.hid hd
    clear hd
    have Hn := Lib.hid hn
    clear hn
    by_cases hk : k < 8
    · by_cases hlt : p + k < T.size
      · have Hdr := Lib.hid (drop_eq T (p + k) hlt)
        have hidx : ∀ W : World, (Instr.index 9 (.string T) (.int .i64 ((p : Int) + k))).run Tryd.prog W = .ok (.int .u8 ((T[p + k]).toNat : Int)) W := by
          intro W
          rw [run_index_string W 9 T .i64 ((p : Int) + k) Tryd.underlying9, dif_pos ⟨by omega, by omega⟩]
          have e : ((p : Int) + k).toNat = p + k := by omega
          simp only [e]
        have hblt := (T[p + k]).toNat_lt
        generalize hbe : (T[p + k]).toNat = b at *
        have Hbe := Lib.hid hbe
        clear hbe
        by_cases hb : 128 ≤ b
        · have hin := acc_in k n (b - 128) hk Hn.out (by omega)
          have Hnx := Lib.hid (acc_lt k n (b - 128) Hn.out (by omega))
          have Hst : Hid (dec (8 - (k + 1)) (k + 1) (n + (b - 128) * 128 ^ k) (T.data.toList.drop (p + k + 1)) = dec 8 0 0 (T.data.toList.drop p)) := by
            show _ = _
            rw [← Hd.out, Hdr.out, dec_step k n _ _ hk (by have := Hbe.out; omega), Hbe.out, show b % 128 = b - 128 from by omega]
          have hmul : ((b : Int) - 128) * ((128 ^ k : Nat) : Int) = (((b - 128) * 128 ^ k : Nat) : Int) := by
            rw [show (b : Int) - 128 = ((b - 128 : Nat) : Int) from by omega]; simp
          generalize (b - 128) * 128 ^ k = m at *
          generalize hUe : 128 ^ k = U at *
          have HUe := Lib.hid hUe
          clear hUe
          obtain ⟨hU, hn', hm⟩ := hin
          go_wp2
          go_quiet (fail)
          go_wp2
          go_quiet (fail)
          go_wp2
          go_roundw
          case rel => exact ⟨hrr.drewN _, only_drewN hgr _, k + 1, n + m, by omega, by go_num, by rw [Nat.pow_succ, HUe.out]; go_num, by go_num, by omega, Hnx.out, Hst.out⟩
          case measure => simp [intOf]; omega
        · have hb' : b < 128 := by omega
          clear hb
          have hin := acc_in k n b hk Hn.out hb'
          have hmul : (b : Int) * ((128 ^ k : Nat) : Int) = ((b * 128 ^ k : Nat) : Int) := by simp
          by_cases hz : (b = 0 ∧ 0 < k) ∨ 1125899906842624 < n + b * 128 ^ k
          · have Hf : Hid (stepN T.data.toList (p, none) = (0, (p, some (p, 2)))) := by
              refine stepN_bad _ _ 1 ?_
              rw [← Hd.out, Hdr.out]
              refine dec_bad k n _ _ hk (by rw [Hbe.out]; exact hb') ?_
              rw [Hbe.out, show b % 128 = b from by omega]
              exact hz
            have Hz := Lib.hid hz
            clear hz
            generalize b * 128 ^ k = m at *
            generalize hUe : 128 ^ k = U at *
            clear hUe
            obtain ⟨hU, hn', hm⟩ := hin
            go_wp2
            go_quiet (fail)
            go_wp2
            go_quiet (fail)
            go_wp2_with fail
            all_goals first
              | (refine (rfail_any T c p 0 11 _ (hrr.drewN _)).mono ?_
                 rintro e w1 ⟨rfl, hg1, hr1⟩
                 go_wp2
                 go_ret
                 rw [Hf.out]
                 exact ⟨rfl, only_trans (only_drewN hgr _) hg1, hr1⟩)
              | (exfalso
                 have := Hz.out
                 omega)
          · have Hf : Hid (stepN T.data.toList (p, none) = (n + b * 128 ^ k, (p + (k + 1), none))) := by
              refine stepN_ok _ _ _ _ ?_
              rw [← Hd.out, Hdr.out, dec_good k n _ _ hk (by rw [Hbe.out]; exact hb') (by rw [Hbe.out]; exact fun h => hz (.inl h)) (by rw [Hbe.out, show b % 128 = b from by omega]; omega), Hbe.out, show b % 128 = b from by omega]
            by_cases hb0 : b = 0
            · subst hb0
              have hk0 : k = 0 := by omega
              subst hk0
              have hn0 : n = 0 := by have := Hn.out; omega
              subst hn0
              have hidx0 : ∀ W : World, (Instr.index 9 (.string T) (.int .i64 (p : Int))).run Tryd.prog W = .ok (.int .u8 0) W := fun W => by simpa using hidx W
              clear hz hin hmul hidx
              go_wp2
              go_quiet (fail)
              go_wp2
              go_quiet (fail)
              go_wp2
              go_ret
              rw [Hf.out]
              refine ⟨rfl, only_setCell (only_drewN hgr _) (.inl rfl) _, ?_⟩
              have h := (hrr.drewN (nq + nq)).set_ 1 (.int .i64 ((p : Int) + 1))
              have e : (((p + (0 + 1) : Nat) : Int)) = (p : Int) + 1 := by omega
              show Blk _ _ _ #[.string T, .int .i64 ((p + (0 + 1) : Nat) : Int), _]
              rw [e]
              exact h
            have hbz : ((b : Int) == 0) = false := by rw [beq_eq_false_iff_ne]; omega
            have Hz := Lib.hid hz
            clear hz
            generalize b * 128 ^ k = m at *
            generalize hUe : 128 ^ k = U at *
            clear hUe
            obtain ⟨hU, hn', hm⟩ := hin
            go_wp2
            go_quiet (fail)
            go_wp2
            go_quiet (fail)
            go_wp2
            all_goals first
              | (go_ret
                 rw [Hf.out]
                 refine ⟨rfl, only_setCell (only_drewN hgr _) (.inl rfl) _, ?_⟩
                 have h := (hrr.drewN (nq + nq)).set_ 1 (.int .i64 ((p : Int) + k + 1))
                 have e : (((p + (k + 1) : Nat) : Int)) = (p : Int) + k + 1 := by omega
                 show Blk _ _ _ #[.string T, .int .i64 ((p + (k + 1) : Nat) : Int), _]
                 rw [e]
                 exact h)
              | (exfalso
                 have := Hz.out
                 omega)
      · have hke : p + k = T.size := by omega
        have hke' : (p : Int) + k = T.size := by omega
        have Hf : Hid (stepN T.data.toList (p, none) = (0, (p, some (p, 1)))) := by
          refine stepN_bad _ _ 0 ?_
          have e : T.data.toList.drop (p + k) = [] := List.drop_eq_nil_of_le (by rw [hke]; simp)
          rw [← Hd.out, e, show 8 - k = (8 - (k + 1)) + 1 from by omega]
          rfl
        go_wp2
        go_quiet (fail)
        go_wp2_with fail
        refine (rfail_any T c p 0 10 _ (hrr.drewN _)).mono ?_
        rintro e w1 ⟨rfl, hg1, hr1⟩
        go_wp2
        go_ret
        rw [Hf.out]
        exact ⟨rfl, only_trans (only_drewN hgr _) hg1, hr1⟩
    · have hke : k = 8 := by omega
      subst hke
      have Hf : Hid (stepN T.data.toList (p, none) = (0, (p, some (p, 2)))) := by
        refine stepN_bad _ _ 1 ?_
        rw [← Hd.out]; rfl
      go_wp2_with fail
      refine (rfail_any T c p 0 11 _ hrr).mono ?_
      rintro e w1 ⟨rfl, hg1, hr1⟩
      go_wp2
      go_ret
      rw [Hf.out]
      exact ⟨rfl, only_trans hgr hg1, hr1⟩
end Wp
end Go.Proofs.YtcabbhiabhblfaaDoor
