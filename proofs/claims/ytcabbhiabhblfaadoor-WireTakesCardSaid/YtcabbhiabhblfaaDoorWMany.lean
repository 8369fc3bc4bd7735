/- The law on lists that are above their bound, walked: it answers true. -/
import Derived.Test.YtcabbhiabhblfaaDoorWStr2
import Derived.LoopTactic
namespace Go.Proofs.YtcabbhiabhblfaaDoor
open Go.RowKit
namespace Wp

theorem Rd.grown {E : Nat → Addr} {T : ByteArray} {b : Nat} {st : St} {w w' : World} {row : Option Nat} (h : Rd E T b st w) (hg : w.grownBy w' row) (hne : some b ≠ row) : Rd E T b st w' := Blk.grown h hg hne
theorem Rd.alloc {E : Nat → Addr} {T : ByteArray} {b : Nat} {st : St} {w : World} (h : Rd E T b st w) (o : Obj) : Rd E T b st (w.alloc o) := Blk.alloc h o
theorem Rd.drewN {E : Nat → Addr} {T : ByteArray} {b : Nat} {st : St} {w : World} (h : Rd E T b st w) (n : Nat) : Rd E T b st (w.drewN n) := Blk.drewN h n
theorem Rd.below {E : Nat → Addr} {T : ByteArray} {b : Nat} {st : St} {w w' : World} (h : Rd E T b st w) (hb : Below w.heap.size w w') : Rd E T b st w' := Blk.below h hb (Blk.lt h)

theorem nat_back (zs : List Int) (h : ∀ z ∈ zs, 0 ≤ z) : (zs.map Int.toNat).map (fun n : Nat => (n : Int)) = zs := by
  induction zs with
  | nil => rfl
  | cons z r ih =>
    have h0 := h z (by simp)
    simp only [List.map_cons]
    rw [ih (fun y hy => h y (List.mem_cons_of_mem _ hy))]
    congr 1
    omega

set_option maxHeartbeats 2000000 in
set_option maxRecDepth 100000 in
theorem many_out (E : Nat → Addr) (v : Value) (zs : List Int) (n : Int) (w : World) (hM : Met E w.heap.size w) (hr : Row w w.heap.size v zs) (h : zs.length < 1 ∨ 100 < zs.length ∨ n < 0 ∨ 562949953421312 < n) :
    Calls Tryd.prog 9 #[v, .int .i64 n] w (Truly w) := by
  obtain ⟨A, c, rfl, _⟩ := hr
  by_cases h1 : zs.length < 1
  · have hz : zs.length = 0 := by omega
    have hc : (zs.length : Int) < 1 := by omega
    clear h h1 hz
    go_enter Tryd.func9, Tryd.ntmps9
    go_wp2_with fail
    refine (fixed_any E w hM).mono ?_
    rintro e w1 ⟨rfl, hb⟩
    go_wp2_with fail
    refine (twice_fixed E w w1 hM hb).mono ?_
    rintro e w2 ⟨rfl, hb2⟩
    go_wp2
    go_ret
    exact ⟨rfl, hb2⟩
  have h1' : (1 : Int) ≤ (zs.length : Int) := by omega
  have h1n : ¬ (zs.length : Int) < 1 := by omega
  by_cases h2 : 100 < zs.length
  · have hc : (100 : Int) < (zs.length : Int) := by omega
    clear h h1 h2
    go_enter Tryd.func9, Tryd.ntmps9
    go_wp2_with fail
    refine (fixed_any E w hM).mono ?_
    rintro e w1 ⟨rfl, hb⟩
    go_wp2_with fail
    refine (twice_fixed E w w1 hM hb).mono ?_
    rintro e w2 ⟨rfl, hb2⟩
    go_wp2
    go_ret
    exact ⟨rfl, hb2⟩
  have h2' : (zs.length : Int) ≤ 100 := by omega
  by_cases h3 : n < 0
  · clear h h1 h2
    go_enter Tryd.func9, Tryd.ntmps9
    go_wp2_with fail
    refine (fixed_any E w hM).mono ?_
    rintro e w1 ⟨rfl, hb⟩
    go_wp2_with fail
    refine (twice_fixed E w w1 hM hb).mono ?_
    rintro e w2 ⟨rfl, hb2⟩
    go_wp2
    go_ret
    exact ⟨rfl, hb2⟩
  have h3' : 0 ≤ n := by omega
  have h4 : 562949953421312 < n := by omega
  clear h h1 h2 h3
  ·
    go_enter Tryd.func9, Tryd.ntmps9
    go_wp2_with fail
    refine (fixed_any E w hM).mono ?_
    rintro e w1 ⟨rfl, hb⟩
    go_wp2_with fail
    refine (twice_fixed E w w1 hM hb).mono ?_
    rintro e w2 ⟨rfl, hb2⟩
    go_wp2
    go_ret
    exact ⟨rfl, hb2⟩

set_option maxHeartbeats 4000000 in
set_option maxRecDepth 100000 in
theorem many_in (E : Nat → Addr) (v : Value) (zs : List Int) (n : Nat) (w : World) (hM : Met E w.heap.size w) (hr : Row w w.heap.size v zs) (h1 : 1 ≤ zs.length) (h2 : zs.length ≤ 100) (hn : n ≤ 562949953421312) :
    Calls Tryd.prog 9 #[v, .int .i64 n] w (Truly w) := by
  have h1' : (1 : Int) ≤ (zs.length : Int) := by omega
  have h2' : (zs.length : Int) ≤ 100 := by omega
  have hn' : (n : Int) ≤ 562949953421312 := by omega
  have hv : ∃ A c, v = .slice A zs.length c := by
    obtain ⟨A, c, hv, _⟩ := hr
    exact ⟨A, c, hv⟩
  obtain ⟨A, c, rfl⟩ := hv
  have Hr := Lib.hid hr
  clear hr
  go_enter Tryd.func9, Tryd.ntmps9
  go_wp2_with fail
  refine (fixed_any E w hM).mono ?_
  rintro e w1 ⟨rfl, hb1⟩
  have hB1 := hb1
  go_wp2
  go_loop [5] (fun vk => ∃ k : Nat, vk = .int .i64 k ∧ k ≤ zs.length ∧ ∀ j, j < k → 0 ≤ zs.getD j 0 ∧ zs.getD j 0 ≤ 562949953421312) (fun vk => zs.length - (intOf vk).toNat)
  case atStart => exact ⟨0, rfl, Nat.zero_le _, fun j hj => absurd hj (by omega)⟩
  case round =>
    obtain ⟨k, rfl, hk, hall⟩ := hrel
    have Hall := Lib.hid hall
    clear hall
    by_cases hlt : k < zs.length
    · obtain ⟨A', c', hv, hcell⟩ := (Hr.out.below hB1)
      have hA : A' = A := by injection hv with e1; exact e1.symm
      subst hA
      obtain ⟨ad, hA, hab, hc⟩ := hcell k hlt
      subst hA
      have Hx := Lib.hid (show zs.getD k 0 = zs.getD k 0 from rfl)
      clear hcell hv
      have Hnext : Hid (0 ≤ zs.getD k 0 ∧ zs.getD k 0 ≤ 562949953421312 → ∀ j, j < k + 1 → 0 ≤ zs.getD j 0 ∧ zs.getD j 0 ≤ 562949953421312) := by
        intro hx j hj
        by_cases e : j = k
        · rw [e]; exact hx
        · exact Hall.out j (by omega)
      clear Hx
      generalize zs.getD k 0 = x at hc Hnext
      by_cases hx0 : x < 0
      · go_wp2
        go_ret
        exact ⟨rfl, hB1⟩
      have hx0' : 0 ≤ x := by omega
      clear hx0
      by_cases hx1 : 562949953421312 < x
      · go_wp2
        go_ret
        exact ⟨rfl, hB1⟩
      have hx1' : x ≤ 562949953421312 := by omega
      clear hx1
      go_wp2
      go_round
      case rel => exact ⟨k + 1, by go_num, by omega, Hnext.out ⟨hx0', hx1'⟩⟩
      case measure => simp [intOf]; omega
    · have hke : k = zs.length := by omega
      subst hke
      have hall : ∀ z ∈ zs, 0 ≤ z ∧ z ≤ 562949953421312 := by
        intro z hz
        obtain ⟨j, hj, rfl⟩ := List.mem_iff_getElem.1 hz
        have h := Hall.out j hj
        simpa [List.getD, hj] using h
      have hback := nat_back zs (fun z hz => (hall z hz).1)
      have hns : ∀ m ∈ zs.map Int.toNat, m ≤ 1125899906842624 := by
        intro m hm
        obtain ⟨z, hz, rfl⟩ := List.mem_map.1 hm
        have := hall z hz
        omega
      have hnl : (zs.map Int.toNat).length = zs.length := by simp
      have hrow := rowB_enc numB Int.toNat zs (by omega) (fun z hz => numB_list (hall z hz).1 (by have := hall z hz; omega))
      have hnum := numB_list (x := (n : Int)) (by omega) (by omega)
      rw [Int.toNat_natCast] at hnum
      have hce := encs_len _ hns
      rw [hnl] at hce
      have hUl := enc_len (n := n) (by omega)
      have hLl := enc_len (n := (zs.map Int.toNat).length) (by omega)
      have hU1 := size_of _ _ hnum
      have hR1 := size_of _ _ hrow
      rw [List.length_append] at hR1
      have Hback := Lib.hid hback
      have Hns := Lib.hid hns
      have Hnl := Lib.hid hnl
      have Hrow := Lib.hid hrow
      have Hnum := Lib.hid hnum
      have hUs : (numB (n : Int)).size ≤ 8 := by omega
      have hRs : (rowB numB zs).size ≤ 1000 := by omega
      have HU1 := Lib.hid hU1
      have HR1 := Lib.hid hR1
      clear hall hback hns hnl hrow hnum hU1 hR1 Hall hk hlt
      go_wp2_with fail
      refine (num_any _ _).mono ?_
      rintro e w2 ⟨rfl, hb2⟩
      have hB2 := hB1.trans (hb2.mono hB1.size)
      clear hb2 hb1 hB1
      go_wp2_with fail
      refine (nums_any _ zs _ (by omega) ((Hr.out.below hB2).mono hB2.size)).mono ?_
      rintro e w3 ⟨rfl, hb3⟩
      have hB3 := hB2.trans (hb3.mono hB2.size)
      clear hb3 hB2
      go_wp2_with fail
      refine (num_any _ _).mono ?_
      rintro e w4 ⟨rfl, hb4⟩
      have hB4 := hB3.trans (hb4.mono hB3.size)
      clear hb4 hB3
      go_wp2_with fail
      have hT : (numB (n : Int) ++ rowB numB zs ++ numB (n : Int)).data.toList = Lib.uvarint n ++ (Lib.uvarint (zs.map Int.toNat).length ++ (encs (zs.map Int.toNat) ++ Lib.uvarint n)) := by
        rw [cat_list, cat_list, Hnum.out, Hrow.out]
        simp [List.append_assoc]
      have HT := Lib.hid hT
      clear hT
      generalize numB (n : Int) ++ rowB numB zs ++ numB (n : Int) = T at *
      have hTz : T.size = (Lib.uvarint n).length + ((Lib.uvarint (zs.map Int.toNat).length).length + ((encs (zs.map Int.toNat)).length + (Lib.uvarint n).length)) := by
        rw [size_of _ _ HT.out]; simp
      have hTs : T.size ≤ 1099511627776 := by omega
      have HTz := Lib.hid hTz
      clear hTz
      refine (read_any _ _).mono ?_
      rintro e w5 ⟨rfl, hw5⟩
      have hra : Rd E T w4.heap.size (0, none) w5 := by rw [← hw5]; exact Blk.new _ _ _
      have hB5 : Below w.heap.size w w5 := by rw [← hw5]; exact hB4.alloc hB4.size _
      have hz5 : w5.heap.size = w4.heap.size + 1 := by rw [← hw5]; simp
      have hBa : w.heap.size ≤ w4.heap.size := hB4.size
      have Hz5 := Lib.hid hz5
      clear hw5 hB4 hz5
      go_wp2_with fail
      refine (read_any _ _).mono ?_
      rintro e w6 ⟨rfl, hw6⟩
      have hrb : Rd E T w5.heap.size (0, none) w6 := by rw [← hw6]; exact Blk.new _ _ _
      have hra6 : Rd E T w4.heap.size (0, none) w6 := by rw [← hw6]; exact hra.alloc _
      have hB6 : Below w.heap.size w w6 := by rw [← hw6]; exact hB5.alloc hB5.size _
      have hab : w4.heap.size ≠ w5.heap.size := by have := Hz5.out; omega
      have hBb : w.heap.size ≤ w5.heap.size := hB5.size
      clear hw6 hra hB5 Hz5
      generalize w4.heap.size = ra at *
      generalize w5.heap.size = rb at *
      have hs1 : stepN T.data.toList (0, none) = (n, ((Lib.uvarint n).length, none)) := by
        rw [HT.out]
        have h := step_at [] (Lib.uvarint (zs.map Int.toNat).length ++ (encs (zs.map Int.toNat) ++ Lib.uvarint n)) n (by omega) 0 rfl
        rw [Nat.zero_add] at h
        exact h
      have hs2 : listS stepNI T.data.toList (zs.length : Int) ((Lib.uvarint n).length, none) = (some zs, ((Lib.uvarint n).length + (Lib.uvarint (zs.map Int.toNat).length).length + (encs (zs.map Int.toNat)).length, none)) := by
        rw [HT.out]
        have h := list_enc stepNI (fun m => (m : Int)) (fun _ _ => rfl) (zs.map Int.toNat) (Lib.uvarint n) (Lib.uvarint n) (Lib.uvarint n).length rfl Hns.out (by have := Hnl.out; omega) (zs.length : Int) (by have := Hnl.out; omega)
        rw [Hback.out] at h
        exact h
      have hs3 : stepN T.data.toList ((Lib.uvarint n).length + (Lib.uvarint (zs.map Int.toNat).length).length + (encs (zs.map Int.toNat)).length, none) = (n, (T.size, none)) := by
        have h := step_at (Lib.uvarint n ++ (Lib.uvarint (zs.map Int.toNat).length ++ encs (zs.map Int.toNat))) [] n (by omega) ((Lib.uvarint n).length + (Lib.uvarint (zs.map Int.toNat).length).length + (encs (zs.map Int.toNat)).length) (by simp [Nat.add_assoc])
        rw [HT.out]
        have e1 : Lib.uvarint n ++ (Lib.uvarint (zs.map Int.toNat).length ++ (encs (zs.map Int.toNat) ++ Lib.uvarint n)) = (Lib.uvarint n ++ (Lib.uvarint (zs.map Int.toNat).length ++ encs (zs.map Int.toNat))) ++ (Lib.uvarint n ++ []) := by simp [List.append_assoc]
        have e2 := HTz.out
        have e3 : (Lib.uvarint n).length + (Lib.uvarint (zs.map Int.toNat).length).length + (encs (zs.map Int.toNat)).length + (Lib.uvarint n).length = T.size := by omega
        rw [e1, h, e3]
      have hs4 : listS stepNI T.data.toList ((zs.length : Int) - 1) ((Lib.uvarint n).length, none) = (none, ((Lib.uvarint n).length + (Lib.uvarint (zs.map Int.toNat).length).length, some ((Lib.uvarint n).length, 3))) := by
        rw [HT.out]
        exact list_over stepNI (zs.map Int.toNat) (Lib.uvarint n) (encs (zs.map Int.toNat) ++ Lib.uvarint n) _ rfl (by have := Hnl.out; omega) _ (by have := Hnl.out; omega)
      have he1 : endS T.data.toList (T.size, none) = (0, T.size) := by
        simp only [endS]
        rw [if_neg (by rw [Array.length_toList]; have e : T.data.size = T.size := rfl; omega)]
      have hp1 : (Lib.uvarint n).length ≤ T.size := by have := HTz.out; omega
      have hp2 : (Lib.uvarint n).length + (Lib.uvarint (zs.map Int.toNat).length).length + (encs (zs.map Int.toNat)).length ≤ T.size := by have := HTz.out; omega
      have hp3 : (Lib.uvarint n).length + (Lib.uvarint (zs.map Int.toNat).length).length ≤ T.size := by omega
      have Hs1 := Lib.hid hs1
      have Hs2 := Lib.hid hs2
      have Hs3 := Lib.hid hs3
      have Hs4 := Lib.hid hs4
      have He1 := Lib.hid he1
      clear hs1 hs2 hs3 hs4 he1 hce hUl hLl HT HTz Hns Hnl Hrow Hnum Hback HR1
      generalize (Lib.uvarint n).length + (Lib.uvarint (zs.map Int.toNat).length).length + (encs (zs.map Int.toNat)).length = q2 at *
      generalize (Lib.uvarint n).length + (Lib.uvarint (zs.map Int.toNat).length).length = q3 at *
      have HU1' : Hid ((numB (n : Int)).size = (Lib.uvarint n).length) := HU1.out
      clear HU1
      generalize (Lib.uvarint n).length = q1 at *
      have c7 := Lib.hid (take_as E w.heap.size T ra (0, none) (q1, none) n n w6 (hM.below hB6) hra6 (Nat.zero_le _) hTs Hs1.out rfl)
      go_wp2_with fail
      refine c7.out.mono ?_
      rintro e w7 ⟨rfl, hl7⟩
      have hB7 := hB6.trans (only_below hl7.only hB6.size hBa)
      have hrb7 := hrb.grown hl7.only (by intro h; injection h with h; exact hab h.symm)
      clear c7 hra6 hrb hB6
      have c8 := Lib.hid (take_as E w.heap.size T rb (0, none) (q1, none) n n w7 (hM.below hB7) hrb7 (Nat.zero_le _) hTs Hs1.out rfl)
      go_wp2_with fail
      refine c8.out.mono ?_
      rintro e w8 ⟨rfl, hl8⟩
      have hB8 := hB7.trans (only_below hl8.only hB7.size hBb)
      have hra8 := hl7.rd.grown hl8.only (by intro h; injection h with h; exact hab h)
      clear c8 hl7 hrb7 hB7
      have c9 := rnums_any E w.heap.size T ra (zs.length : Int) (q1, none) w8 (hM.below hB8) hBa hra8 hp1 hTs
      rw [Hs2.out] at c9
      have C9 := Lib.hid c9
      clear c9
      go_wp2_with fail
      refine C9.out.mono ?_
      rintro e w9 ⟨vl, rfl, hown, hl9⟩
      have hB9 := hB8.trans (only_below hl9.only hB8.size hBa)
      have hrb9 := hl8.rd.grown hl9.only (by intro h; injection h with h; exact hab h.symm)
      have hrow9 : Row w9 w9.heap.size vl zs := Row.of_own hown rfl
      have hsame := same_any vl (.slice A zs.length c) zs zs w9 hrow9 ((Hr.out.below hB9).mono hB9.size) (by omega) (by omega)
      have es : sameB zs zs = true := by unfold sameB; simp
      rw [es] at hsame
      have Hsame := Lib.hid hsame
      clear C9 hl8 hra8 hB8 hown hrow9 hsame es
      go_wp2_with fail
      refine Hsame.out.mono ?_
      rintro e w10 ⟨rfl, q, hq⟩
      have hB10 : Below w.heap.size w w10 := by rw [hq]; exact below_drewN hB9 q
      have hra10 : Rd E T ra (q2, none) w10 := by rw [hq]; exact hl9.rd.drewN q
      have hrb10 : Rd E T rb (q1, none) w10 := by rw [hq]; exact hrb9.drewN q
      clear Hsame hq hl9 hrb9 hB9
      have c11 := Lib.hid (take_as E w.heap.size T ra (q2, none) (T.size, none) n n w10 (hM.below hB10) hra10 hp2 hTs Hs3.out rfl)
      go_wp2_with fail
      refine c11.out.mono ?_
      rintro e w11 ⟨rfl, hl11⟩
      have hB11 := hB10.trans (only_below hl11.only hB10.size hBa)
      have hrb11 := hrb10.grown hl11.only (by intro h; injection h with h; exact hab h.symm)
      clear c11 hra10 hrb10 hB10
      have c12 := rnums_any E w.heap.size T rb ((zs.length : Int) - 1) (q1, none) w11 (hM.below hB11) hBb hrb11 hp1 hTs
      rw [Hs4.out] at c12
      have C12 := Lib.hid c12
      clear c12
      go_wp2_with fail
      refine C12.out.mono ?_
      rintro e w12 ⟨m, rfl, hm, hl12⟩
      have hm' : m = .slice none 0 0 := hm
      subst hm'
      have hB12 := hB11.trans (only_below hl12.only hB11.size hBb)
      have hra12 := hl11.rd.grown hl12.only (by intro h; injection h with h; exact hab h)
      clear C12 hm hl11 hrb11 hB11
      have c13 := Lib.hid (take_as E w.heap.size T rb (q3, some (q1, 3)) (q3, some (q1, 3)) 0 0 w12 (hM.below hB12) hl12.rd hp3 hTs rfl rfl)
      go_wp2_with fail
      refine c13.out.mono ?_
      rintro e w13 ⟨rfl, hl13⟩
      have hB13 := hB12.trans (only_below hl13.only hB12.size hBb)
      have hra13 := hra12.grown hl13.only (by intro h; injection h with h; exact hab h)
      clear c13 hl12 hra12 hB12
      have c14 := Lib.hid (end_as E w.heap.size T ra (T.size, none) 0 T.size (fun x hx => by cases hx) w13 (hM.below hB13) hBa hra13 (Nat.le_refl _) hTs (by rw [He1.out]; rfl) (by rw [He1.out]))
      go_wp2_with fail
      refine c14.out.mono ?_
      rintro e w14 ⟨rfl, hb14⟩
      have hB14 := hB13.trans (hb14.mono hB13.size)
      have hrb14 := hl13.rd.below hb14
      clear c14 hl13 hra13 hB13 hb14
      have c15 := Lib.hid (end_as E w.heap.size T rb (q3, some (q1, 3)) 12 (numB (n : Int)).size (fun x hx => by cases hx; exact ⟨by show 1 ≤ 3; omega, by show 3 ≤ 4; omega⟩) w14 (hM.below hB14) hBb hrb14 hp3 hTs rfl (by have := HU1'.out; simp only [endS]; omega))
      go_wp2_with fail
      refine c15.out.mono ?_
      rintro e w15 ⟨rfl, hb15⟩
      have hB15 := hB14.trans (hb15.mono hB14.size)
      clear c15 hrb14 hB14 hb15
      go_wp2_with fail
      refine (num_any _ _).mono ?_
      rintro e w16 ⟨rfl, hb16⟩
      have hB16 := hB15.trans (hb16.mono hB15.size)
      go_wp2
      go_ret
      exact ⟨rfl, hB16⟩

theorem many_any (E : Nat → Addr) (v : Value) (zs : List Int) (n : Int) (w : World) (hM : Met E w.heap.size w) (hr : Row w w.heap.size v zs) :
    Calls Tryd.prog 9 #[v, .int .i64 n] w (Truly w) := by
  by_cases h : zs.length < 1 ∨ 100 < zs.length ∨ n < 0 ∨ 562949953421312 < n
  · exact many_out E v zs n w hM hr h
  · obtain ⟨m, rfl⟩ := Int.eq_ofNat_of_zero_le (show 0 ≤ n by omega)
    exact many_in E v zs m w hM hr (by omega) (by omega) (by omega)

end Wp
end Go.Proofs.YtcabbhiabhblfaaDoor
