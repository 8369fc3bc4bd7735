/- The law on each number being written in one way alone, walked: it answers true. -/
import Derived.Test.YtcabbhiabhblfaaDoorWStr2
import Derived.BigQuiet
import Derived.Deep.QuietTactic
namespace Go.Proofs.YtcabbhiabhblfaaDoor
open Go.RowKit
namespace Wp

theorem bytes_ext {a b : ByteArray} (h : a.data.toList = b.data.toList) : a = b := by
  cases a
  cases b
  congr
  exact Array.ext' h

theorem one_last (a b : Int) : ((numB a).toList.isEmpty || (numB b).toList.isEmpty || ((numB a).toList == (numB b).toList) == (a == b)) = true := by
  rw [ByteArray.toList_eq, ByteArray.toList_eq]
  by_cases ha : a < 0 ∨ 1125899906842624 < a
  · have e : numB a = ⟨#[]⟩ := if_pos ha
    rw [e]
    rfl
  by_cases hb : b < 0 ∨ 1125899906842624 < b
  · have e : numB b = ⟨#[]⟩ := if_pos hb
    rw [e]
    simp
  rw [numB_list (by omega) (by omega), numB_list (by omega) (by omega)]
  by_cases hab : a = b
  · subst hab
    simp
  · have hne : ¬ Lib.uvarint a.toNat = Lib.uvarint b.toNat := fun h => hab (by have := enc_inj (by omega) (by omega) h; omega)
    have e1 : (Lib.uvarint a.toNat == Lib.uvarint b.toNat) = false := by simpa using hne
    have e2 : (a == b) = false := by simpa using hab
    rw [e1, e2]
    simp

set_option maxHeartbeats 1000000 in
set_option maxRecDepth 100000 in
theorem one_out (E : Nat → Addr) (s : ByteArray) (a b : Int) (w : World) (hM : Met E w.heap.size w) (h : 500 < s.size) :
    Calls Tryd.prog 6 #[.string s, .int .i64 a, .int .i64 b] w (Truly w) := by
  have h' : (500 : Int) < (s.size : Int) := by omega
  go_enter Tryd.func6, Tryd.ntmps6
  go_wp2_with fail
  refine (fixed_any E w hM).mono ?_
  rintro e w1 ⟨rfl, hb⟩
  go_wp2_with fail
  refine (twice_fixed E w w1 hM hb).mono ?_
  rintro e w2 ⟨rfl, hb2⟩
  go_wp2
  go_ret
  exact ⟨rfl, hb2⟩

set_option maxHeartbeats 2000000 in
set_option maxRecDepth 100000 in
theorem one_in (E : Nat → Addr) (s : ByteArray) (a b : Int) (w : World) (hM : Met E w.heap.size w) (h : s.size ≤ 500) :
    Calls Tryd.prog 6 #[.string s, .int .i64 a, .int .i64 b] w (Truly w) := by
  have h' : (s.size : Int) ≤ 500 := by omega
  have hz : s.size ≤ 1099511627776 := by omega
  go_enter Tryd.func6, Tryd.ntmps6
  go_wp2_with fail
  refine (fixed_any E w hM).mono ?_
  rintro e w1 ⟨rfl, hB1⟩
  go_wp2_with fail
  refine (read_any _ _).mono ?_
  rintro e w2 ⟨rfl, hw2⟩
  have hrd : Rd E s w1.heap.size (0, none) w2 := by rw [← hw2]; exact Blk.new _ _ _
  have hB2 : Below w.heap.size w w2 := by rw [← hw2]; exact hB1.alloc hB1.size _
  have hBr : w.heap.size ≤ w1.heap.size := hB1.size
  clear hw2 hB1
  generalize w1.heap.size = r at *
  rcases dec_kinds 8 0 0 s.data.toList with ⟨v, sz, hd, hd1, hd2, hd3, hd4⟩ | hd | hd
  · have hst := stepN_ok s.data.toList 0 v sz hd
    rw [Nat.zero_add] at hst
    have hszl : sz ≤ s.size := by
      have e : s.data.toList.length = s.size := Array.length_toList
      omega
    have htake : (numB (v : Int)).data.toList = s.data.toList.take sz := by
      obtain ⟨m, hv, hl, ht, _, _⟩ := dec_sound 8 0 0 s.data.toList v sz hd
      have e : v = m := by simpa using hv
      subst e
      rw [numB_list (by omega) (by omega), Int.toNat_natCast]
      have e2 : sz = (Lib.uvarint v).length := by omega
      rw [e2, ht]
    have c3 := Lib.hid (take_as E w.heap.size s r (0, none) (sz, none) v v w2 (hM.below hB2) hrd (Nat.zero_le _) hz hst rfl)
    have Htake := Lib.hid htake
    clear hd hst htake hrd
    go_wp2_with fail
    refine c3.out.mono ?_
    rintro e w3 ⟨rfl, hl3⟩
    have hB3 := hB2.trans (only_below hl3.only hB2.size hBr)
    clear c3 hB2
    have hsi : (sz : Int) ≤ (s.size : Int) := by omega
    by_cases hfull : sz = s.size
    · have hend : endS s.data.toList (sz, none) = (0, sz) := by
        simp only [endS]
        rw [if_neg (by rw [Array.length_toList]; have e : s.data.size = s.size := rfl; omega)]
      have c4 := Lib.hid (end_as E w.heap.size s r (sz, none) 0 sz (fun x hx => by cases hx) w3 (hM.below hB3) hBr hl3.rd hszl hz (by rw [hend]; rfl) (by rw [hend]))
      clear hend
      go_wp2_with fail
      refine c4.out.mono ?_
      rintro e w4 ⟨rfl, hb4⟩
      have hB4 := hB3.trans (hb4.mono hB3.size)
      have hnum : numB (v : Int) = s := by
        have h1 := Htake.out
        rw [hfull, List.take_of_length_le (by rw [Array.length_toList]; exact Nat.le_refl _)] at h1
        exact bytes_ext h1
      have Hnum := Lib.hid hnum
      clear c4 hl3 hB3 hb4 hnum hfull
      have hnc : ∀ W : World, Below w.heap.size w W → Calls Tryd.prog 14 #[.int .i64 v] W fun e w' => e = .returned (.string s) ∧ Below w.heap.size w w' := by
        intro W hW
        have h1 := num_any (v : Int) W
        rw [Hnum.out] at h1
        exact h1.mono fun _ _ ⟨h2, h3⟩ => ⟨h2, hW.trans (h3.mono hW.size)⟩
      have Hnc := Lib.hid hnc
      clear hnc
      go_wp2
      refine wp_region_below w.heap.size w (by kernel_rfl) (by kernel_rfl) hB4 ?_
      clear hB4
      iterate 20 (go_big_quiet_step (first | exact Hnc.out _ | exact rfl | exact fun _ => rfl))
      refine wpQuiet_nil ?_
      intro w5 hB5
      go_wp2_with fail
      refine (num_any _ _).mono ?_
      rintro e w6 ⟨rfl, hb6⟩
      have hB6 := hB5.trans (hb6.mono hB5.size)
      clear hb6 hB5
      go_wp2_with fail
      refine (num_any _ _).mono ?_
      rintro e w7 ⟨rfl, hb7⟩
      have hB7 := hB6.trans (hb7.mono hB6.size)
      clear hb7 hB6
      go_wp2
      all_goals go_ret
      all_goals first | exact ⟨rfl, hB7⟩ | exact ⟨congrArg (fun x => Ending.returned (.bool x)) (one_last a b), hB7⟩
    · have hend : endS s.data.toList (sz, none) = (13, sz) := by
        simp only [endS]
        rw [if_pos (by rw [Array.length_toList]; have e : s.data.size = s.size := rfl; omega)]
      have c4 := Lib.hid (end_as E w.heap.size s r (sz, none) 13 sz (fun x hx => by cases hx) w3 (hM.below hB3) hBr hl3.rd hszl hz (by rw [hend]; rfl) (by rw [hend]))
      clear hend
      go_wp2_with fail
      refine c4.out.mono ?_
      rintro e w4 ⟨rfl, hb4⟩
      have hB4 := hB3.trans (hb4.mono hB3.size)
      have hnum : numB (v : Int) = s.extract 0 sz := by
        have h1 := Htake.out
        rw [← head_list] at h1
        exact bytes_ext h1
      have Hnum := Lib.hid hnum
      clear c4 hl3 hB3 hb4 hnum hfull
      have hnc : ∀ W : World, Below w.heap.size w W → Calls Tryd.prog 14 #[.int .i64 v] W fun e w' => e = .returned (.string (s.extract 0 sz)) ∧ Below w.heap.size w w' := by
        intro W hW
        have h1 := num_any (v : Int) W
        rw [Hnum.out] at h1
        exact h1.mono fun _ _ ⟨h2, h3⟩ => ⟨h2, hW.trans (h3.mono hW.size)⟩
      have Hnc := Lib.hid hnc
      clear hnc
      go_wp2
      refine wp_region_below w.heap.size w (by kernel_rfl) (by kernel_rfl) hB4 ?_
      clear hB4
      iterate 20 (go_big_quiet_step (first | exact Hnc.out _ | exact rfl | exact fun _ => rfl))
      refine wpQuiet_nil ?_
      intro w5 hB5
      go_wp2_with fail
      refine (num_any _ _).mono ?_
      rintro e w6 ⟨rfl, hb6⟩
      have hB6 := hB5.trans (hb6.mono hB5.size)
      clear hb6 hB5
      go_wp2_with fail
      refine (num_any _ _).mono ?_
      rintro e w7 ⟨rfl, hb7⟩
      have hB7 := hB6.trans (hb7.mono hB6.size)
      clear hb7 hB6
      go_wp2
      all_goals go_ret
      all_goals first | exact ⟨rfl, hB7⟩ | exact ⟨congrArg (fun x => Ending.returned (.bool x)) (one_last a b), hB7⟩
  · have c3 := Lib.hid (take_as E w.heap.size s r (0, none) (0, some (0, 1)) 0 0 w2 (hM.below hB2) hrd (Nat.zero_le _) hz (stepN_bad s.data.toList 0 0 hd) rfl)
    clear hd hrd
    go_wp2_with fail
    refine c3.out.mono ?_
    rintro e w3 ⟨rfl, hl3⟩
    have hB3 := hB2.trans (only_below hl3.only hB2.size hBr)
    clear c3 hB2
    have c4 := Lib.hid (end_as E w.heap.size s r (0, some (0, 1)) 10 0 (fun x hx => by cases hx; decide) w3 (hM.below hB3) hBr hl3.rd (Nat.zero_le _) hz rfl rfl)
    go_wp2_with fail
    refine c4.out.mono ?_
    rintro e w4 ⟨rfl, hb4⟩
    have hB4 := hB3.trans (hb4.mono hB3.size)
    clear c4 hl3 hB3 hb4
    go_wp2
    refine wp_region_below w.heap.size w (by kernel_rfl) (by kernel_rfl) hB4 ?_
    clear hB4
    iterate 20 (go_big_quiet_step (first | exact rfl | exact fun _ => rfl))
    refine wpQuiet_nil ?_
    intro w5 hB5
    go_wp2_with fail
    refine (num_any _ _).mono ?_
    rintro e w6 ⟨rfl, hb6⟩
    have hB6 := hB5.trans (hb6.mono hB5.size)
    clear hb6 hB5
    go_wp2_with fail
    refine (num_any _ _).mono ?_
    rintro e w7 ⟨rfl, hb7⟩
    have hB7 := hB6.trans (hb7.mono hB6.size)
    clear hb7 hB6
    go_wp2
    all_goals go_ret
    all_goals first | exact ⟨rfl, hB7⟩ | exact ⟨congrArg (fun x => Ending.returned (.bool x)) (one_last a b), hB7⟩
  · have c3 := Lib.hid (take_as E w.heap.size s r (0, none) (0, some (0, 2)) 0 0 w2 (hM.below hB2) hrd (Nat.zero_le _) hz (stepN_bad s.data.toList 0 1 hd) rfl)
    clear hd hrd
    go_wp2_with fail
    refine c3.out.mono ?_
    rintro e w3 ⟨rfl, hl3⟩
    have hB3 := hB2.trans (only_below hl3.only hB2.size hBr)
    clear c3 hB2
    have c4 := Lib.hid (end_as E w.heap.size s r (0, some (0, 2)) 11 0 (fun x hx => by cases hx; decide) w3 (hM.below hB3) hBr hl3.rd (Nat.zero_le _) hz rfl rfl)
    go_wp2_with fail
    refine c4.out.mono ?_
    rintro e w4 ⟨rfl, hb4⟩
    have hB4 := hB3.trans (hb4.mono hB3.size)
    clear c4 hl3 hB3 hb4
    go_wp2
    refine wp_region_below w.heap.size w (by kernel_rfl) (by kernel_rfl) hB4 ?_
    clear hB4
    iterate 20 (go_big_quiet_step (first | exact rfl | exact fun _ => rfl))
    refine wpQuiet_nil ?_
    intro w5 hB5
    go_wp2_with fail
    refine (num_any _ _).mono ?_
    rintro e w6 ⟨rfl, hb6⟩
    have hB6 := hB5.trans (hb6.mono hB5.size)
    clear hb6 hB5
    go_wp2_with fail
    refine (num_any _ _).mono ?_
    rintro e w7 ⟨rfl, hb7⟩
    have hB7 := hB6.trans (hb7.mono hB6.size)
    clear hb7 hB6
    go_wp2
    all_goals go_ret
    all_goals first | exact ⟨rfl, hB7⟩ | exact ⟨congrArg (fun x => Ending.returned (.bool x)) (one_last a b), hB7⟩

theorem one_any (E : Nat → Addr) (s : ByteArray) (a b : Int) (w : World) (hM : Met E w.heap.size w) (_ : s.size ≤ maxLen) :
    Calls Tryd.prog 6 #[.string s, .int .i64 a, .int .i64 b] w (Truly w) := by
  by_cases h : 500 < s.size
  · exact one_out E s a b w hM h
  · exact one_in E s a b w hM (by omega)

end Wp
end Go.Proofs.YtcabbhiabhblfaaDoor
