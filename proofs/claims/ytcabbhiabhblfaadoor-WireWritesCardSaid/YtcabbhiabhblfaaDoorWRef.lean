/- The document's own writers (Num, Int, Nums, Ints of greenwoodref01), walked: they write the same bytes. -/
import Derived.Test.YtcabbhiabhblfaaDoorWStr
namespace Go.Proofs.YtcabbhiabhblfaaDoor
open Go.RowKit
namespace Wp

/-- A row of one byte as a string. -/
theorem run_str_one (W : World) (x : Nat) (hx : x < 256) :
    (convert 39 9 (.slice (some ⟨W.heap.size, 0, none⟩) 1 1)).run Tryd.prog (W.alloc (.cells #[.int .u8 (x : Int)] 5)) = .ok (.string ⟨#[x.toUInt8]⟩) (W.alloc (.cells #[.int .u8 (x : Int)] 5)) := by
  refine run_str_own _ W.heap.size _ 1 [x.toUInt8] rfl ⟨rfl, .inr ⟨W.heap.size, 1, #[.int .u8 (x : Int)], rfl, Nat.le_refl _, heap_alloc_new W _, by decide, by decide, rfl, ?_⟩⟩
  have e : (x.toUInt8).toNat = x := by simp; omega
  simp only [Lib.byteCells, List.map_cons, List.map_nil, e]
  rfl

theorem of_list (s : ByteArray) (l : List UInt8) (h : s.data.toList = l) : s = ⟨l.toArray⟩ := by
  subst h
  rfl

set_option maxHeartbeats 400000 in
theorem refnum_out (n : Int) (h : n < 0 ∨ 1125899906842624 < n) (w : World) :
    Calls Tryd.prog 15 #[.int .i64 n] w fun e w' => e = .returned (.string ⟨#[]⟩) ∧ w = w' := by
  rcases h with h | h
  · go_enter Tryd.func15, Tryd.ntmps15
    go_wp2
    go_ret
    exact ⟨rfl, rfl⟩
  · have h' : ¬ n < 0 := by omega
    go_enter Tryd.func15, Tryd.ntmps15
    go_wp2
    go_ret
    exact ⟨rfl, rfl⟩

set_option maxHeartbeats 1000000 in
set_option maxRecDepth 100000 in
theorem refnum_in (x : Nat) (hx : x ≤ 1125899906842624) (w : World) :
    Calls Tryd.prog 15 #[.int .i64 x] w fun e w' => e = .returned (.string ⟨(Lib.uvarint x).toArray⟩) ∧ Below w.heap.size w w' := by
  go_enter Tryd.func15, Tryd.ntmps15
  go_wp2
  go_loopw [0, 3] (fun vx vs wr => ∃ (y : Nat) (s : ByteArray), vx = .int .i64 y ∧ y ≤ x ∧ vs = .string s ∧ s.data.toList ++ Lib.uvarint y = Lib.uvarint x ∧ Below w.heap.size w wr)
    (fun vx _ _ => (intOf vx).toNat)
  case atStart => exact ⟨x, ⟨#[]⟩, rfl, Nat.le_refl _, rfl, rfl, Below.refl _ _⟩
  case round =>
    obtain ⟨y, s, rfl, hy, rfl, hs, hb⟩ := hrel
    have hsz : s.size ≤ 8 := by
      have h := congrArg List.length hs
      have h2 := enc_len hx
      rw [List.length_append, Array.length_toList] at h
      have h3 : s.data.size = s.size := rfl
      omega
    have Hs := Lib.hid hs
    clear hs
    by_cases h128 : 128 ≤ y
    · have hc := run_str_one wr (y % 128 + 128) (by omega)
      have ec : ((y % 128 + 128 : Nat) : Int) = (y : Int) % 128 + 128 := by omega
      rw [ec] at hc
      clear ec
      go_wp2
      go_roundw
      case rel =>
        refine ⟨y / 128, s ++ ⟨#[UInt8.ofNat (y % 128) + 128]⟩, by go_num, by omega, rfl, ?_, hb.alloc hb.size _⟩
        have e : (y % 128 + 128).toUInt8 = UInt8.ofNat (y % 128) + 128 := by simp
        rw [cat_list, ← Hs.out, Lib.uvarint_big h128, e, List.append_assoc]
        rfl
      case measure => simp [intOf]; omega
    · have hc := run_str_one wr y (by omega)
      have hfin : s ++ ⟨#[UInt8.ofNat y]⟩ = (⟨(Lib.uvarint x).toArray⟩ : ByteArray) := by
        apply of_list
        rw [cat_list, ← Hs.out, Lib.uvarint_small (by omega)]
      have Hfin := Lib.hid hfin
      clear hfin
      go_wp2
      go_ret
      refine ⟨?_, hb.alloc hb.size _⟩
      rw [← Hfin.out]
      rfl

theorem refnum_any (n : Int) (w : World) :
    Calls Tryd.prog 15 #[.int .i64 n] w fun e w' => e = .returned (.string (numB n)) ∧ Below w.heap.size w w' := by
  by_cases h : n < 0 ∨ 1125899906842624 < n
  · have e : numB n = ⟨#[]⟩ := if_pos h
    rw [e]
    exact (refnum_out n h w).mono fun _ _ ⟨h1, h2⟩ => ⟨h1, h2 ▸ Below.refl _ _⟩
  · have e : numB n = ⟨(Lib.uvarint n.toNat).toArray⟩ := if_neg h
    obtain ⟨m, rfl⟩ := Int.eq_ofNat_of_zero_le (show 0 ≤ n by omega)
    rw [e]
    exact refnum_in m (by omega) w

/-- The document's own Int: its bounds are wider, but beyond them nothing is written. -/
theorem intB_alt (n : Int) : intB n = if n < -1125899906842624 ∨ 1125899906842624 < n then ⟨#[]⟩ else if n < 0 then numB (-2 * n - 1) else numB (2 * n) := by
  unfold intB
  by_cases h1 : n < -562949953421312 ∨ 562949953421312 < n
  · rw [if_pos h1]
    by_cases h2 : n < -1125899906842624 ∨ 1125899906842624 < n
    · rw [if_pos h2]
    · rw [if_neg h2]
      by_cases h3 : n < 0
      · rw [if_pos h3]; unfold numB; rw [if_pos (by omega)]
      · rw [if_neg h3]; unfold numB; rw [if_pos (by omega)]
  · rw [if_neg h1, if_neg (show ¬ (n < -1125899906842624 ∨ 1125899906842624 < n) by omega)]

set_option maxHeartbeats 400000 in
theorem refint_any (n : Int) (w : World) :
    Calls Tryd.prog 17 #[.int .i64 n] w fun e w' => e = .returned (.string (intB n)) ∧ Below w.heap.size w w' := by
  rw [intB_alt]
  by_cases h1 : n < -1125899906842624
  · rw [if_pos (.inl h1)]
    go_enter Tryd.func17, Tryd.ntmps17
    go_wp2
    go_ret
    exact ⟨rfl, Below.refl _ _⟩
  by_cases h2 : 1125899906842624 < n
  · rw [if_pos (.inr h2)]
    go_enter Tryd.func17, Tryd.ntmps17
    go_wp2
    go_ret
    exact ⟨rfl, Below.refl _ _⟩
  rw [if_neg (by omega)]
  have h1' : -1125899906842624 ≤ n := by omega
  have h2' : n ≤ 1125899906842624 := by omega
  clear h1 h2
  by_cases h3 : n < 0
  · rw [if_pos h3]
    go_enter Tryd.func17, Tryd.ntmps17
    go_wp2_with fail
    refine (refnum_any _ _).mono ?_
    rintro e w' ⟨rfl, hb⟩
    go_wp2
    go_ret
    exact ⟨rfl, hb⟩
  · rw [if_neg h3]
    have h3' : 0 ≤ n := by omega
    clear h3
    go_enter Tryd.func17, Tryd.ntmps17
    go_wp2_with fail
    refine (refnum_any _ _).mono ?_
    rintro e w' ⟨rfl, hb⟩
    go_wp2
    go_ret
    exact ⟨rfl, hb⟩

end Wp
end Go.Proofs.YtcabbhiabhblfaaDoor
