/- The program's wire.front, walked: what stands ahead in the bytes. -/
import Derived.Test.YtcabbhiabhblfaaDoorWNum
import Derived.BigQuiet
import Derived.Deep.QuietTactic
namespace Go.Proofs.YtcabbhiabhblfaaDoor
open Go.RowKit
namespace Wp

theorem u8_and127 (b : UInt8) : bits .and .u8 (b.toNat : Int) 127 = ((b.toNat % 128 : Nat) : Int) := by
  have hn := b.toNat_lt
  have h := (bits_nat .u8 8 (by decide) wraps_u8 b.toNat 127 (by simpa using hn) (by decide)).1
  have e : ((127 : Nat) : Int) = 127 := rfl
  rw [e] at h
  rw [h, show (127 : Nat) = 2 ^ 7 - 1 from rfl, Nat.and_two_pow_sub_one_eq_mod]

theorem pow128 (k : Nat) : 128 ^ k = 2 ^ (7 * k) := by rw [Nat.pow_mul]

/-- Seven bits more. -/
theorem acc (k n : Nat) (b : UInt8) (hk : k < 8) (hn : n < 128 ^ k) :
    bits .or .i64 (n : Int) (wrap64 (wrap64 (bits .and .u8 (b.toNat : Int) 127) * 2 ^ (7 * k))) = ((n + (b.toNat % 128) * 128 ^ k : Nat) : Int) := by
  rw [u8_and127]
  have hc : b.toNat % 128 < 128 := Nat.mod_lt _ (by decide)
  generalize b.toNat % 128 = c at *
  have h8 : (128 : Nat) ^ k ≤ 128 ^ 7 := Nat.pow_le_pow_right (by decide) (by omega)
  have h7 : (128 : Nat) ^ 7 = 562949953421312 := by decide
  rw [h7] at h8
  have e1 : wrap64 (c : Int) = (c : Int) := by unfold wrap64; omega
  have hm : c * 128 ^ k ≤ 127 * 562949953421312 := Nat.mul_le_mul (by omega) h8
  have e2 : (c : Int) * 2 ^ (7 * k) = ((c * 128 ^ k : Nat) : Int) := by rw [pow128]; simp
  rw [e1, e2]
  have e3 : wrap64 ((c * 128 ^ k : Nat) : Int) = ((c * 128 ^ k : Nat) : Int) := by unfold wrap64; omega
  rw [e3, i64_or_nat n _ (by omega) (by omega)]
  congr 1
  have h := Nat.two_pow_add_eq_or_of_lt (i := 7 * k) (b := n) (by rw [← pow128]; exact hn) c
  rw [Nat.or_comm, Nat.mul_comm c, pow128, ← h, Nat.add_comm]

theorem drop_eq (s : ByteArray) (k : Nat) (h : k < s.size) : s.data.toList.drop k = s[k] :: s.data.toList.drop (k + 1) := by
  rw [List.drop_eq_getElem_cons (by simpa using h)]; rfl

theorem dec_step (k n : Nat) (b : UInt8) (r : List UInt8) (hk : k < 8) (hb : 128 ≤ b.toNat) : dec (8 - k) k n (b :: r) = dec (8 - (k + 1)) (k + 1) (n + b.toNat % 128 * 128 ^ k) r := by
  have hlt := b.toNat_lt
  rw [show 8 - k = (8 - (k + 1)) + 1 from by omega, dec_high _ _ _ _ _ hb, show b.toNat % 128 = b.toNat - 128 from by omega]

theorem acc_lt (k n c : Nat) (hn : n < 128 ^ k) (hc : c < 128) : n + c * 128 ^ k < 128 ^ (k + 1) := by
  rw [Nat.pow_succ, Nat.mul_comm _ 128]
  have : c * 128 ^ k + 128 ^ k ≤ 128 * 128 ^ k := by
    rw [← Nat.succ_mul]; exact Nat.mul_le_mul (by omega) (Nat.le_refl _)
  omega

theorem dec_bad (k n : Nat) (b : UInt8) (r : List UInt8) (hk : k < 8) (hb : b.toNat < 128) (h : (b.toNat = 0 ∧ 0 < k) ∨ 1125899906842624 < n + b.toNat % 128 * 128 ^ k) : dec (8 - k) k n (b :: r) = (0, 0, 2) := by
  rw [show 8 - k = (8 - (k + 1)) + 1 from by omega]
  rw [Nat.mod_eq_of_lt hb] at h
  simp only [dec]
  rw [if_neg (by omega), if_pos h]

theorem dec_good (k n : Nat) (b : UInt8) (r : List UInt8) (hk : k < 8) (hb : b.toNat < 128) (h0 : ¬ (b.toNat = 0 ∧ 0 < k)) (h : n + b.toNat % 128 * 128 ^ k ≤ 1125899906842624) :
    dec (8 - k) k n (b :: r) = (n + b.toNat % 128 * 128 ^ k, k + 1, 0) := by
  rw [show 8 - k = (8 - (k + 1)) + 1 from by omega]
  rw [Nat.mod_eq_of_lt hb] at h ⊢
  exact dec_low _ _ _ _ _ hb h0 h

/-- What wire.front answers: the number, how many bytes, and nothing; or what is wrong. -/
def Fr (s : ByteArray) (c l : Value) (w : World) (e : Ending) (w' : World) : Prop :=
  ∃ n sz k, dec 8 0 0 s.data.toList = (n, sz, k) ∧ e = .returned (.tuple #[.int .i64 (n : Nat), .int .i64 (sz : Nat), if k = 0 then .nilIface else if k = 1 then c else l]) ∧ ∃ q, w' = w.drewN q

theorem fr_good {s : ByteArray} {c l : Value} {w : World} {v sz : Nat} {x : Int} (hd : dec 8 0 0 s.data.toList = (v, sz, 0)) (hx : x = (sz : Int)) :
    Fr s c l w (.returned (.tuple #[.int .i64 v, .int .i64 x, .nilIface])) w := ⟨v, sz, 0, hd, by rw [hx]; rfl, 0, rfl⟩
theorem fr_cut {s : ByteArray} {c l : Value} {w : World} {q : Nat} (hd : dec 8 0 0 s.data.toList = (0, 0, 1)) :
    Fr s c l w (.returned (.tuple #[.int .i64 0, .int .i64 0, c])) (w.drewN q) := ⟨0, 0, 1, hd, rfl, q, rfl⟩
theorem fr_long {s : ByteArray} {c l : Value} {w : World} {q : Nat} (hd : dec 8 0 0 s.data.toList = (0, 0, 2)) :
    Fr s c l w (.returned (.tuple #[.int .i64 0, .int .i64 0, l])) (w.drewN q) := ⟨0, 0, 2, hd, rfl, q, rfl⟩

set_option maxHeartbeats 1000000 in
set_option maxRecDepth 100000 in
theorem front_any (s : ByteArray) (c l : Value) (w : World) (hs : s.size ≤ maxLen)
    (hc : w.cell? ⟨1, 0, none⟩ = some c) (hl : w.cell? ⟨2, 0, none⟩ = some l) :
    Calls Tryd.prog 34 #[.string s] w (Fr s c l w) := by
  unfold maxLen at hs
  go_enter Tryd.func34, Tryd.ntmps34
  go_wp2
  go_loopw [5, 8] (fun vn vk wr => wr = w ∧ ∃ k n : Nat, k ≤ 8 ∧ vn = .int .i64 n ∧ vk = .int .i64 k ∧ k ≤ s.size ∧ n < 128 ^ k ∧ dec (8 - k) k n (s.data.toList.drop k) = dec 8 0 0 s.data.toList)
    (fun _ vk _ => 8 - (intOf vk).toNat)
  case atStart => exact ⟨rfl, 0, 0, by omega, rfl, rfl, by omega, by omega, rfl⟩
  case round =>
    obtain ⟨rfl, k, n, hk8, rfl, rfl, hks, hn, hd⟩ := hrel
    have Hd := Lib.hid hd
    clear hd
    have hnb : n < 72057594037927936 := Nat.lt_of_lt_of_le hn (Nat.pow_le_pow_right (by decide) hk8)
    have Hn := Lib.hid hn
    clear hn
    by_cases hk : k < 8
    · by_cases hlt : k < s.size
      · have Ha := Lib.hid (acc k n s[k] hk Hn.out)
        have Hdr := Lib.hid (drop_eq s k hlt)
        by_cases hb : 128 ≤ (s[k]).toNat
        · have ha := Ha.out
          go_wp2
          go_roundw
          case rel => exact ⟨trivial, k + 1, n + (s[k].toNat % 128) * 128 ^ k, by omega, rfl, by go_num, by omega, acc_lt k n _ Hn.out (Nat.mod_lt _ (by decide)), by rw [← Hd.out, Hdr.out, dec_step k n _ _ hk hb]⟩
          case measure => simp [intOf]; omega
        · have hb' : (s[k]).toNat < 128 := by omega
          clear hb
          have ha := Ha.out
          by_cases hz : (s[k].toNat = 0 ∧ 0 < k) ∨ 1125899906842624 < n + (s[k].toNat % 128) * 128 ^ k
          · have Hf : Hid (dec 8 0 0 s.data.toList = (0, 0, 2)) := by rw [← Hd.out, Hdr.out]; exact dec_bad k n _ _ hk hb' hz
            have Hz := Lib.hid hz
            clear hz
            generalize hv : n + (s[k].toNat % 128) * 128 ^ k = v at *
            clear hv
            go_wp2
            all_goals first
              | (go_quiet (fail)
                 go_wp2
                 go_ret3
                 exact fr_long Hf.out)
              | (exfalso
                 have := Hz.out
                 omega)
          · have Hf : Hid (dec 8 0 0 s.data.toList = (n + s[k].toNat % 128 * 128 ^ k, k + 1, 0)) := by
              rw [← Hd.out, Hdr.out]
              exact dec_good k n _ _ hk hb' (fun h => hz (.inl h)) (by omega)
            have Hz := Lib.hid hz
            clear hz
            generalize hv : n + (s[k].toNat % 128) * 128 ^ k = v at *
            clear hv
            go_wp2
            all_goals first
              | (go_ret3
                 exact fr_good Hf.out (by omega))
              | (exfalso
                 have := Hz.out
                 omega)
      · have hke : k = s.size := by omega
        have Hf : Hid (dec 8 0 0 s.data.toList = (0, 0, 1)) := by
          have e : s.data.toList.drop k = [] := List.drop_eq_nil_of_le (by rw [hke]; simp)
          rw [← Hd.out, e, show 8 - k = (8 - (k + 1)) + 1 from by omega]
          rfl
        subst hke
        go_wp2
        go_quiet (fail)
        go_wp2
        go_ret3
        exact fr_cut Hf.out
    · have hke : k = 8 := by omega
      subst hke
      have Hf : Hid (dec 8 0 0 s.data.toList = (0, 0, 2)) := by rw [← Hd.out]; rfl
      go_wp2
      go_quiet (fail)
      go_wp2
      go_ret3
      exact fr_long Hf.out
end Wp
end Go.Proofs.YtcabbhiabhblfaaDoor
