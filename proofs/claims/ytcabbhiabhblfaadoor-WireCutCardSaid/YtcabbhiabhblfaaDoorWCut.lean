/- The law on numbers that are cut off, or too long, walked: it answers true. -/
import Derived.Test.YtcabbhiabhblfaaDoorWStr
import Derived.BigRegion
import Derived.RegionTactic
import Derived.IntWalk
namespace Go.Proofs.YtcabbhiabhblfaaDoor
open Go.RowKit
namespace Wp

set_option maxHeartbeats 1000000 in
set_option maxRecDepth 100000 in
theorem cut_out (E : Nat → Addr) (n c : Int) (w : World) (hM : Met E w.heap.size w) (h : n < 0 ∨ 4398046511104 < n) :
    Calls Tryd.prog 8 #[.int .i64 n, .int .i64 c] w (Truly w) := by
  rcases h with h | h
  · go_enter Tryd.func8, Tryd.ntmps8
    go_wp2_with fail
    refine (fixed_any E w hM).mono ?_
    rintro e w1 ⟨rfl, hb⟩
    go_wp2_with fail
    refine (twice_fixed E w w1 hM hb).mono ?_
    rintro e w2 ⟨rfl, hb2⟩
    go_wp2
    go_ret
    exact ⟨rfl, hb2⟩
  · have h' : ¬ n < 0 := by omega
    go_enter Tryd.func8, Tryd.ntmps8
    go_wp2_with fail
    refine (fixed_any E w hM).mono ?_
    rintro e w1 ⟨rfl, hb⟩
    go_wp2_with fail
    refine (twice_fixed E w w1 hM hb).mono ?_
    rintro e w2 ⟨rfl, hb2⟩
    go_wp2
    go_ret
    exact ⟨rfl, hb2⟩

set_option maxHeartbeats 1000000 in
set_option maxRecDepth 100000 in
theorem cut_in (E : Nat → Addr) (n : Nat) (c : Int) (w : World) (hM : Met E w.heap.size w) (hn : n ≤ 4398046511104) :
    Calls Tryd.prog 8 #[.int .i64 n, .int .i64 c] w (Truly w) := by
  have hn' : (n : Int) ≤ 4398046511104 := by omega
  have hnum := num_in n (by omega)
  obtain ⟨p, b, hl, hb, hp, hx⟩ := enc_last 6 n (by omega)
  obtain ⟨S, hSe⟩ : ∃ S : ByteArray, S = ⟨(Lib.uvarint n).toArray⟩ := ⟨_, rfl⟩
  have hSl : S.data.toList = p ++ [b.toUInt8] := by rw [hSe, ← hl]
  have hSz : S.size = p.length + 1 := by
    have h : S.data.toList.length = S.size := Array.length_toList
    rw [hSl] at h
    simpa using h.symm
  rw [← hSe] at hnum
  have Hnum := Lib.hid hnum
  have HSl := Lib.hid hSl
  have HSz := Lib.hid hSz
  have Hl := Lib.hid hl
  have HSe := Lib.hid hSe
  clear hnum hSl hSz hl hSe
  have hs1 : 1 ≤ S.size := by rw [HSz.out]; omega
  have hs2 : S.size ≤ 7 := by rw [HSz.out]; omega
  go_enter Tryd.func8, Tryd.ntmps8
  go_wp2_with fail
  refine (fixed_any E w hM).mono ?_
  rintro e w1 ⟨rfl, hb1⟩
  go_wp2_with fail
  refine (Hnum.out w1).mono ?_
  rintro e w2 ⟨rfl, hb2⟩
  have hB2 := hb1.trans (hb2.mono hb1.size)
  clear hb1 hb2
  have hw1 : IntKind.i64.wrap ((S.size : Int) - 1) = (p.length : Int) := by
    have h := HSz.out
    rw [h, IntWalk.i64_in _ (by omega)]
    omega
  have hw2 : (S.size : Int) - 1 = (p.length : Int) := by have h := HSz.out; omega
  have hpl : (p.length : Int) < (S.size : Int) := by have h := HSz.out; omega
  have hpl2 : (p.length : Int) ≤ (S.size : Int) := by omega
  have hidx : ∀ W : World, (Instr.index 9 (.string S) (.int .i64 (p.length : Int))).run Tryd.prog W = .ok (.int .u8 (b : Int)) W := by
    intro W
    have hlt : p.length < S.size := by have h := HSz.out; omega
    have hg : S[p.length].toNat = b := by
      have h1 : S.data.toList[p.length]? = some b.toUInt8 := by rw [HSl.out]; simp
      have h2 : S.data.toList[p.length]? = some S[p.length] := by
        rw [List.getElem?_eq_getElem (by rw [Array.length_toList]; exact hlt)]; rfl
      rw [h2] at h1
      rw [Option.some.inj h1]
      exact toNat_small hb
    rw [run_index_string W 9 S .i64 (p.length : Int) Tryd.underlying9, dif_pos ⟨by omega, by omega⟩]
    congr 2
    show ((S[(p.length : Int).toNat]'(by simpa using hlt)).toNat : Int) = _
    simp only [Int.toNat_natCast]
    rw [hg]
  have hor : bits .or .u8 (b : Int) 128 = (b : Int) + 128 := by
    rw [Lib.u8_or128_any _ (by omega) (by omega)]
    omega
  have hconv : (convert 39 9 (.slice (some ⟨w2.heap.size, 0, none⟩) 1 1)).run Tryd.prog (w2.alloc (.cells #[.int .u8 ((b : Int) + 128)] 5)).drew = .ok (.string ⟨#[(b + 128).toUInt8]⟩) (w2.alloc (.cells #[.int .u8 ((b : Int) + 128)] 5)).drew := by
    refine run_str_own _ w2.heap.size _ 1 [(b + 128).toUInt8] rfl (World.ownsRow.drew ⟨rfl, .inr ⟨w2.heap.size, 1, #[.int .u8 ((b : Int) + 128)], rfl, Nat.le_refl _, heap_alloc_new w2 _, by decide, by decide, rfl, ?_⟩⟩)
    have e : ((b + 128).toUInt8).toNat = b + 128 := by simp; omega
    simp only [Lib.byteCells, List.map_cons, List.map_nil, e]
    simp
  go_wp2
  go_region
  have hz2 : w.heap.size ≤ w2.heap.size := hB2.size
  have hB3 : Below w.heap.size w (w2.alloc (.cells #[.int .u8 ((b : Int) + 128)] 5)).drew := (hB2.alloc hz2 _).drew
  have hL : (S.extract 0 p.length ++ (⟨#[UInt8.ofNat b + 128]⟩ : ByteArray) ++ (⟨#[0]⟩ : ByteArray)).data.toList = (p ++ [UInt8.ofNat b + 128]) ++ [0] := by
    rw [cat_list, cat_list, head_list, HSl.out]
    simp
  have hLz : (S.extract 0 p.length ++ (⟨#[UInt8.ofNat b + 128]⟩ : ByteArray) ++ (⟨#[0]⟩ : ByteArray)).size ≤ 1099511627776 := by
    rw [size_of _ _ hL]
    simp
    omega
  have HL := Lib.hid hL
  clear hL hw1 hw2 hidx hor hconv hB2 hz2 hpl hpl2
  generalize (S.extract 0 p.length ++ (⟨#[UInt8.ofNat b + 128]⟩ : ByteArray) ++ (⟨#[0]⟩ : ByteArray)) = L at *
  generalize (w2.alloc (.cells #[.int .u8 ((b : Int) + 128)] 5)).drew = w3 at *
  have hd : dec 8 0 0 L.data.toList = (0, 0, 1 + 1) := by
    rw [HL.out]
    refine dec_zero _ 8 0 0 (fun x hx' => ?_) (by simp)
    rcases List.mem_append.1 hx' with h | h
    · exact hx x h
    · have e : x = UInt8.ofNat b + 128 := by simpa using h
      rw [e, UInt8.toNat_add]
      simp
      omega
  go_wp2_with fail
  refine (read_any _ _).mono ?_
  rintro e w4 ⟨rfl, hw4⟩
  have hrd : Rd E L w3.heap.size (0, none) w4 := by rw [← hw4]; exact Blk.new _ _ _
  have hB4 : Below w.heap.size w w4 := by rw [← hw4]; exact hB3.alloc hB3.size _
  have hBr : w.heap.size ≤ w3.heap.size := hB3.size
  clear hw4 hB3
  generalize w3.heap.size = r at *
  have c5 := rnum_any E w.heap.size L r (0, none) w4 (hM.below hB4) hrd (Nat.zero_le _) hLz
  rw [stepN_bad L.data.toList 0 1 hd] at c5
  have C5 : Hid (Calls Tryd.prog 23 #[.pointer (some ⟨r, 0, none⟩)] w4 (Took E w.heap.size L r 0 (0, some (0, 2)) w4)) := c5
  clear c5 hrd hd
  go_wp2_with fail
  refine C5.out.mono ?_
  rintro e w5 ⟨rfl, hl5⟩
  have hB5 := hB4.trans (only_below hl5.only hB4.size hBr)
  clear C5 hB4
  have c6 := end_any E w.heap.size L r (0, some (0, 2)) (fun x hx => by cases hx; decide) (Nat.zero_le _) hLz w5 (hM.below hB5) hBr hl5.rd
  have C6 : Hid (Calls Tryd.prog 27 #[.pointer (some ⟨r, 0, none⟩)] w5 fun e w' => e = .returned (.tuple #[.int .i64 11, .int .i64 0]) ∧ Below w5.heap.size w5 w') := c6
  clear c6
  go_wp2_with fail
  refine C6.out.mono ?_
  rintro e w6 ⟨rfl, hb6⟩
  have hB6 := hB5.trans (hb6.mono hB5.size)
  clear C6 hl5 hB5 hb6 hBr
  by_cases hc0 : c < 0
  · go_wp2
    go_ret
    exact ⟨rfl, hB6⟩
  have hc0' : 0 ≤ c := by omega
  clear hc0
  by_cases hc1 : (S.size : Int) ≤ c
  · go_wp2
    go_ret
    exact ⟨rfl, hB6⟩
  have hc1' : c < (S.size : Int) := by omega
  clear hc1
  obtain ⟨k, rfl⟩ := Int.eq_ofNat_of_zero_le hc0'
  have hks : (k : Int) ≤ (S.size : Int) := by omega
  have hd2 : dec 8 0 0 (S.extract 0 k).data.toList = (0, 0, 0 + 1) := by
    have e1 : (S.extract 0 k).data.toList = (Lib.uvarint n).take k := by
      rw [head_list, HSe.out]
    rw [e1]
    refine dec_cut 7 0 0 n k ?_ (by omega)
    rw [Hl.out]
    have h := HSz.out
    simp
    omega
  have hTz : (S.extract 0 k).size ≤ 1099511627776 := by simp; omega
  go_wp2_with fail
  refine (read_any _ _).mono ?_
  rintro e w7 ⟨rfl, hw7⟩
  have hrd7 : Rd E (S.extract 0 k) w6.heap.size (0, none) w7 := by rw [← hw7]; exact Blk.new _ _ _
  have hB7 : Below w.heap.size w w7 := by rw [← hw7]; exact hB6.alloc hB6.size _
  have hBr7 : w.heap.size ≤ w6.heap.size := hB6.size
  clear hw7 hB6
  generalize w6.heap.size = r7 at *
  have c8 := Lib.hid (take_as E w.heap.size (S.extract 0 k) r7 (0, none) (0, some (0, 1)) 0 0 w7 (hM.below hB7) hrd7 (Nat.zero_le _) hTz (stepN_bad _ 0 0 hd2) rfl)
  clear hrd7 hd2
  go_wp2_with fail
  refine c8.out.mono ?_
  rintro e w8 ⟨rfl, hl8⟩
  have hB8 := hB7.trans (only_below hl8.only hB7.size hBr7)
  clear c8 hB7
  have c9 := Lib.hid (end_as E w.heap.size (S.extract 0 k) r7 (0, some (0, 1)) 10 0 (fun x hx => by cases hx; decide) w8 (hM.below hB8) hBr7 hl8.rd (Nat.zero_le _) hTz rfl rfl)
  go_wp2_with fail
  refine c9.out.mono ?_
  rintro e w9 ⟨rfl, hb9⟩
  have hB9 := hB8.trans (hb9.mono hB8.size)
  clear c9 hl8 hB8 hb9
  go_wp2
  go_ret
  exact ⟨rfl, hB9⟩

theorem cut_any (E : Nat → Addr) (n c : Int) (w : World) (hM : Met E w.heap.size w) :
    Calls Tryd.prog 8 #[.int .i64 n, .int .i64 c] w (Truly w) := by
  by_cases h : n < 0 ∨ 4398046511104 < n
  · exact cut_out E n c w hM h
  · obtain ⟨m, rfl⟩ := Int.eq_ofNat_of_zero_le (show 0 ≤ n by omega)
    exact cut_in E m c w hM (by omega)

end Wp
end Go.Proofs.YtcabbhiabhblfaaDoor
