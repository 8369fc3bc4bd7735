/- The program's wire.row, Nums and Ints, walked: the bytes of a list. -/
import Derived.Test.YtcabbhiabhblfaaDoorWBuild
import Derived.Test.YtcabbhiabhblfaaDoorWInt
namespace Go.Proofs.YtcabbhiabhblfaaDoor
open Go.RowKit
namespace Wp

/-- A list of integers in memory, below block B. -/
def Row (w : World) (B : Nat) (v : Value) (zs : List Int) : Prop :=
  ∃ A c, v = .slice A zs.length c ∧ ∀ k, k < zs.length → ∃ ad : Addr, A = some ad ∧ ad.block < B ∧ w.cell? (ad.add k) = some (.int .i64 (zs.getD k 0))

theorem add_block (a : Addr) (n : Nat) : (a.add n).block = a.block := by unfold Addr.add; split <;> rfl
theorem Row.below {w w' : World} {B : Nat} {v : Value} {zs : List Int} (h : Row w B v zs) (hb : Below B w w') : Row w' B v zs := by
  obtain ⟨A, c, hv, hk⟩ := h
  refine ⟨A, c, hv, fun k hlt => ?_⟩
  obtain ⟨ad, hA, hB, hc⟩ := hk k hlt
  exact ⟨ad, hA, hB, (hb.cell (by rw [add_block]; exact hB)).trans hc⟩
theorem Row.mono {w : World} {B B' : Nat} {v : Value} {zs : List Int} (h : Row w B v zs) (hB : B ≤ B') : Row w B' v zs := by
  obtain ⟨A, c, hv, hk⟩ := h
  refine ⟨A, c, hv, fun k hlt => ?_⟩
  obtain ⟨ad, hA, hb, hc⟩ := hk k hlt
  exact ⟨ad, hA, by omega, hc⟩
theorem Row.of_own {w : World} {base : Nat} {v : Value} {n : Nat} {zs : List Int} (h : w.ownsRow base 3 1 v n (zs.map (Value.int .i64))) (hn : n = zs.length) : Row w w.heap.size v zs := by
  subst hn
  rcases h.2 with ⟨rfl, h0⟩ | ⟨g, cap, cur, rfl, hb, hg, _⟩
  · have : zs = [] := List.eq_nil_of_length_eq_zero (by simpa using h0)
    subst this
    exact ⟨none, 0, rfl, fun k hk => absurd hk (by simp)⟩
  · refine ⟨_, cap, rfl, fun k hk => ⟨⟨g, 0, none⟩, rfl, (h.lt g rfl).2, ?_⟩⟩
    refine h.cells (g := g) rfl k _ ?_
    rw [List.getElem?_map, List.getElem?_eq_getElem hk]
    simp [List.getD, hk]

/-- The bytes of so many pieces, one behind the other; nothing, if one is nothing. -/
def rowL (one : Int → ByteArray) : List Int → List UInt8 → List UInt8
  | [], acc => acc
  | x :: r, acc => if (one x).data.toList = [] then [] else rowL one r (acc ++ (one x).data.toList)

def rowB (one : Int → ByteArray) (zs : List Int) : ByteArray := ⟨(rowL one zs (numB zs.length).data.toList).toArray⟩

/-- What a function that writes one number does. -/
def OneB (K : Nat) (one : Int → ByteArray) : Prop :=
  (∀ (n : Int) (w : World), Calls Tryd.prog K #[.int .i64 n] w fun e w' => e = .returned (.string (one n)) ∧ Below w.heap.size w w') ∧ ∀ n : Int, (one n).size ≤ 8

theorem numB_size (n : Int) : (numB n).size ≤ 8 := by
  unfold numB
  split
  · exact Nat.zero_le _
  · have := enc_len (n := n.toNat) (by omega)
    simpa [ByteArray.size] using this
theorem intB_size (n : Int) : (intB n).size ≤ 8 := by
  unfold intB
  split
  · exact Nat.zero_le _
  · split <;> exact numB_size _

theorem isB_below {T e : TypeId} {B b : Nat} {bs : List Value} {w w' : World} (h : Lib.IsBuilder T e B b bs w) (hb : Below w.heap.size w w') (hlt : b + 1 ≤ w.heap.size) : Lib.IsBuilder T e B b bs w' := by
  have key : ∀ p, Lib.BuilderAt T e B b p bs w → Lib.BuilderAt T e B b p bs w' := by
    rintro p ⟨hB, v, hh, hown, hne⟩
    exact ⟨hB, v, (hb.block _ (by omega)).trans hh, hown.kept (row := none) (only_of_below hb _) (by cases hv : v.ownBlock <;> simp), hne⟩
  rcases h with h | h
  · exact .inl (key _ h)
  · exact .inr (key _ h)

theorem strCells_byte (s : ByteArray) : Lib.strCells s = Lib.byteCells s.data.toList := rfl

set_option maxHeartbeats 2000000 in
set_option maxRecDepth 100000 in
theorem row_any (K : Nat) (one : Int → ByteArray) (hK : K = 14 ∨ K = 16) (hOne : OneB K one) (v : Value) (zs : List Int) (w : World) (hz : zs.length ≤ 1048576) (hr : Row w w.heap.size v zs) :
    Calls Tryd.prog 33 #[v, .func (.func K) #[] #[]] w fun e w' => e = .returned (.string (rowB one zs)) ∧ Below w.heap.size w w' := by
  obtain ⟨A, c, rfl, hcell⟩ := hr
  have Hcell := Lib.hid hcell
  have HOne := Lib.hid hOne
  clear hcell hOne
  go_enter Tryd.func33, Tryd.ntmps33
  go_wp2_with fail
  refine (num_any _ _).mono ?_
  rintro e w1 ⟨rfl, hb1⟩
  have hN := numB_size (zs.length : Int)
  have hR : rowB one zs = ⟨(rowL one zs (numB zs.length).data.toList).toArray⟩ := rfl
  have HR := Lib.hid hR
  clear hR
  generalize numB (zs.length : Int) = N at *
  have hib : Lib.IsBuilder 60 5 w.heap.size w.heap.size [] w1 := by
    refine .inl ⟨Nat.le_refl _, .slice none 0 0, ?_, World.ownsRow_nil _ _ _ _, by simp [Value.ownBlock]⟩
    rw [hb1.block _ (by simp)]
    exact heap_alloc_new w _
  have hb1' : Below w.heap.size w w1 := ((Below.refl _ w).alloc (Nat.le_refl _) _).trans (hb1.mono (by simp))
  have hz1 : w.heap.size + 1 ≤ w1.heap.size := by have := hb1.size; simp at this; omega
  clear hb1
  go_wp2_with fail
  refine (bWrite w.heap.size w.heap.size [] N w1 hib (by simp; omega) (by omega)).mono ?_
  rintro e w2 ⟨rfl, hib2, hb2⟩
  rw [List.nil_append, strCells_byte] at hib2
  have hb2' := hb1'.trans hb2
  have hz2 : w.heap.size + 1 ≤ w2.heap.size := by have := hb2.size; omega
  clear hb1' hb2 hib hz1
  have hNl : N.data.toList.length ≤ 8 := by rw [Array.length_toList]; exact hN
  have hzl : (zs.length : Int) ≤ 1048576 := by omega
  go_wp2
  go_loopw [15] (fun vk wr => ∃ (k : Nat) (acc : List UInt8), vk = .int .i64 k ∧ k ≤ zs.length ∧ acc.length ≤ 8 * (k + 1) ∧ Lib.IsBuilder 60 5 w.heap.size w.heap.size (Lib.byteCells acc) wr ∧ Below w.heap.size w wr ∧ w.heap.size + 1 ≤ wr.heap.size
      ∧ rowL one zs N.data.toList = rowL one (zs.drop k) acc) (fun vk _ => zs.length - (intOf vk).toNat)
  case atStart => exact ⟨0, _, rfl, Nat.zero_le _, by omega, .inr hib2, hb2', hz2, rfl⟩
  case round =>
    obtain ⟨k, acc, rfl, hk, hacc, hib3, hb3, hz3, hrow⟩ := hrel
    have Hrow := Lib.hid hrow
    clear hrow
    by_cases hlt : k < zs.length
    · obtain ⟨ad, hA, hab, hc⟩ := Hcell.out k hlt
      subst hA
      have hc3 : wr.cell? (ad.add k) = some (.int .i64 (zs.getD k 0)) := (hb3.cell (by rw [add_block]; exact hab)).trans hc
      have hdrop : zs.drop k = zs.getD k 0 :: zs.drop (k + 1) := by
        rw [List.drop_eq_getElem_cons hlt]
        simp [List.getD, hlt]
      have Hdrop := Lib.hid hdrop
      clear hdrop hc
      generalize zs.getD k 0 = x at *
      have hone := HOne.out.1 x
      have hsz := HOne.out.2 x
      rcases hK with rfl | rfl
      all_goals
        go_wp2_with fail
        refine (hone _).mono ?_
        rintro e w4 ⟨rfl, hb4⟩
        generalize hS : one x = S at *
        have HS := Lib.hid hS
        clear hS
        have hsl : S.data.toList.length ≤ 8 := by rw [Array.length_toList]; exact hsz
        have hb4' : Below w.heap.size w w4 := hb3.trans (hb4.mono (by omega))
        have hz4 : w.heap.size + 1 ≤ w4.heap.size := by have := hb4.size; omega
        have hib4 : Lib.IsBuilder 60 5 w.heap.size w.heap.size (Lib.byteCells acc) w4 := isB_below hib3 hb4 hz3
        by_cases he : S.data.toList = []
        · have hi : S.toList.isEmpty = true := by rw [ByteArray.toList_eq, he]; rfl
          have Hfin : Hid (rowL one zs N.data.toList = []) := by
            show rowL one zs N.data.toList = []
            rw [Hrow.out, Hdrop.out, rowL, if_pos (by rw [HS.out]; exact he)]
          clear he
          go_wp2
          go_ret
          refine ⟨?_, hb4'⟩
          rw [HR.out, Hfin.out]
          rfl
        · have hi : S.toList.isEmpty = false := by
            rw [ByteArray.toList_eq]
            cases h : S.data.toList with
            | nil => exact absurd h he
            | cons _ _ => rfl
          have Hfin : Hid (rowL one zs N.data.toList = rowL one (zs.drop (k + 1)) (acc ++ S.data.toList)) := by
            show rowL one zs N.data.toList = rowL one (zs.drop (k + 1)) (acc ++ S.data.toList)
            rw [Hrow.out, Hdrop.out, rowL, if_neg (by rw [HS.out]; exact he), HS.out]
          clear he
          go_wp2_with fail
          refine (bWrite w.heap.size w.heap.size (Lib.byteCells acc) S w4 hib4 (by rw [Lib.byteCells_length]; omega) (by omega)).mono ?_
          rintro e w5 ⟨rfl, hib5, hb5⟩
          rw [strCells_byte, ← Lib.byteCells_append] at hib5
          go_wp2
          go_roundw
          case rel => exact ⟨k + 1, acc ++ S.data.toList, by go_num, by omega, by rw [List.length_append]; omega, .inr hib5, hb4'.trans hb5, by have := hb5.size; omega, Hfin.out⟩
          case measure => simp [intOf]; omega
    · have hke : k = zs.length := by omega
      subst hke
      have Hfin : Hid (rowL one zs N.data.toList = acc) := by
        rw [Hrow.out, List.drop_length]; rfl
      go_wp2_with fail
      refine (bString w.heap.size w.heap.size acc wr hib3 (by omega)).mono ?_
      rintro e w6 ⟨rfl, hb6⟩
      go_wp2
      go_ret
      refine ⟨?_, hb3.trans hb6⟩
      rw [HR.out, Hfin.out]
      rfl

theorem nums_any (v : Value) (zs : List Int) (w : World) (hz : zs.length ≤ 1048576) (hr : Row w w.heap.size v zs) :
    Calls Tryd.prog 18 #[v] w fun e w' => e = .returned (.string (rowB numB zs)) ∧ Below w.heap.size w w' := by
  have hc := row_any 14 numB (.inl rfl) ⟨num_any, numB_size⟩ v zs w hz hr
  have Hc := Lib.hid hc
  clear hc hr
  go_enter Tryd.func18, Tryd.ntmps18
  go_wp2_with fail
  refine Hc.out.mono ?_
  rintro e w1 ⟨rfl, hb⟩
  go_wp2
  go_ret
  exact ⟨rfl, hb⟩

theorem ints_any (v : Value) (zs : List Int) (w : World) (hz : zs.length ≤ 1048576) (hr : Row w w.heap.size v zs) :
    Calls Tryd.prog 20 #[v] w fun e w' => e = .returned (.string (rowB intB zs)) ∧ Below w.heap.size w w' := by
  have hc := row_any 16 intB (.inr rfl) ⟨int_any, intB_size⟩ v zs w hz hr
  have Hc := Lib.hid hc
  clear hc hr
  go_enter Tryd.func20, Tryd.ntmps20
  go_wp2_with fail
  refine Hc.out.mono ?_
  rintro e w1 ⟨rfl, hb⟩
  go_wp2
  go_ret
  exact ⟨rfl, hb⟩

end Wp
end Go.Proofs.YtcabbhiabhblfaaDoor
