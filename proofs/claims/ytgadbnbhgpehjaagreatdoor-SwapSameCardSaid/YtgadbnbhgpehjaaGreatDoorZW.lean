/- The program's picked and edges, walked: rows that are made and filled. The program's ofClasses and between, walked. What the layers below tell of the elements that are picked is the rank: plain. The program's rank of a set of elements, walked. The program's ofOne, ofSum and rank, walked. The program's ofSum, and rank as a whole, walked. -/
import Derived.Test.YtgadbnbhgpehjaaGreatDoorZJ
import Derived.Test.YtgadbnbhgpehjaaGreatDoorZA
import Derived.Test.YtgadbnbhgpehjaaGreatDoorZL
import Derived.Test.YtgadbnbhgpehjaaGreatDoorIRank
import Derived.Test.YtgadbnbhgpehjaaGreatDoorZO
import Derived.Test.YtgadbnbhgpehjaaGreatDoorZK
import Derived.Test.YtgadbnbhgpehjaaGreatDoorIUnion
import Derived.Test.YtgadbnbhgpehjaaGreatDoorQImg
import Derived.Deep.RegionHeld3
set_option maxHeartbeats 8000000
set_option maxRecDepth 100000
open Go.Lib (hid)
open Nat (le_refl)
namespace Go.Proofs.YtgadbnbhgpehjaaGreatDoor
open Go.RowKit
namespace Wp
def fillV (U : Nat → Value) (z : Value) (n k : Nat) : Array Value := ((List.range n).map fun i => if i < k then U i else z).toArray
theorem D9_ (U : Nat → Value) (z : Value) (n k : Nat) : (fillV U z n k).size = n := by simp [fillV]
theorem B3_ {U : Nat → Value} {z : Value} {n k i : Nat} (h : i < n) : (fillV U z n k)[i]? = some (if i < k then U i else z) := by simp [fillV, h]
theorem Zv8 {U : Nat → Value} {z : Value} {n k : Nat} : (fillV U z n k).setIfInBounds k (U k) = fillV U z n (k + 1) := by
 apply Array.ext
 ·rw [Array.size_setIfInBounds, D9_, D9_]
 ·intro i h1 h2
  rw [Array.size_setIfInBounds, D9_] at h1
  have a : (fillV U z n (k + 1))[i]? = some (if i < k + 1 then U i else z) := B3_ h1
  have b : (fillV U z n k)[i]? = some (if i < k then U i else z) := B3_ h1
  rw [Array.getElem?_eq_getElem (by rw [D9_]; exact h1)] at a b
  injection a with a
  injection b with b
  rw [a, Array.getElem_setIfInBounds]
  ·split
   ·rename_i e; subst e; rw [if_pos (by omega)]
   ·rename_i e
    rw [b]
    by_cases h : i < k
    ·rw [if_pos h, if_pos (by omega)]
    ·rw [if_neg h, if_neg (by omega)]
  ·rw [D9_]; exact h1
theorem Xs3 {w : World} {g n sz : Nat} {t : TypeId} {L : List Value} (h : w.ownsRow g t sz (.slice (some ⟨g, 0, none⟩) n n) n L) : Blk w g t L.toArray := by
 rcases h.2 with ⟨e, _⟩ | ⟨g', cap, cur, hv, hb, hg, h1, h2, h3, h4⟩
 ·cases e
 ·injection hv with e1 _ e3
  injection e1 with e1
  injection e1 with e1
  subst e1 e3
  unfold Blk
  rw [hg]
  have hc : cur.toList = L := by
   rw [← h4, List.take_of_length_le]
   rw [Array.length_toList, h3]
   exact le_refl _
  rw [← hc]
theorem Zb5 {w : World} {g n sz : Nat} {t : TypeId} {z : Value} {cs : Array Value} (h : w.ownsRow g t sz (.slice (some ⟨g, 0, none⟩) n n) n (madeCells cs (n * sz)).toList) (hz : ∀ i, i < n * sz → (madeCells cs (n * sz))[i]? = some z) (hs : (madeCells cs (n * sz)).size = n * sz) (U : Nat → Value) : Blk w g t (fillV U z (n * sz) 0) := by
 have h1 := Xs3 h
 rw [Array.toArray_toList] at h1
 have e : madeCells cs (n * sz) = fillV U z (n * sz) 0 := by
  apply Array.ext
  ·rw [hs, D9_]
  ·intro i a b
   have x := hz i (by omega)
   have y : (fillV U z (n * sz) 0)[i]? = _ := B3_ (by omega)
   rw [if_neg (by omega)] at y
   rw [Array.getElem?_eq_getElem a] at x
   rw [Array.getElem?_eq_getElem b] at y
   exact Option.some.inj (x.trans y.symm)
 rw [← e]
 exact h1
theorem Yq2 {w : World} {g n : Nat} {t : TypeId} {z : Value} (hz : z.cells = #[z]) (h : w.ownsRow g t 1 (.slice (some ⟨g, 0, none⟩) n n) n (madeCells z.cells n).toList) (U : Nat → Value) : Blk w g t (fillV U z n 0) := by
 have h' : w.ownsRow g t 1 (.slice (some ⟨g, 0, none⟩) n n) n (madeCells z.cells (n * 1)).toList := by rw [Nat.mul_one]; exact h
 have := Zb5 (z := z) h' (fun i hi => by unfold madeCells; rw [hz, Array.getElem?_map, Array.getElem?_range, if_pos hi]; simp [Nat.mod_one]) (by simp [madeCells]) U
 rwa [Nat.mul_one] at this
theorem Yr2 : (Tryz.prog.info? 26).map (fun i => (i.zero, i.size, i.bytes)) = some (some (.slice none 0 0), 1, 24) := by kernel_rfl
theorem Vj0 : (Tryz.prog.info? 73).map (fun i => (i.zero, i.size, i.bytes)) = some (some (.agg #[.int .i64 0, .int .i64 0]), 2, 16) := by kernel_rfl
theorem add_g (g k : Nat) : (⟨g, 0, none⟩ : Addr).add k = ⟨g, k, none⟩ := by unfold Addr.add; split <;> simp_all
def D3_ (l : List (List Int)) (s : List Int) : List (List Int) := s.map fun x => l.getD x.toNat []
def Yf6 (w : World) (l : List (List Int)) (e : Ending) (w' : World) : Prop := ∃ u, e = .returned u ∧ Rows2 w' w'.heap.size u l ∧ Below w.heap.size w w'
theorem Zb6 (v sv : Value) (l : List (List Int)) (s : List Int) (w : World) (hv : Rows2 w w.heap.size v l) (hr : Row w w.heap.size sv s) (hs : ∀ k, k < s.length → 0 ≤ s.getD k 0 ∧ s.getD k 0 < (l.length : Int)) (hl : l.length ≤ 1000) (hsl : s.length ≤ 64) :
  Calls Tryz.prog 86 #[v, sv] w (Yf6 w (D3_ l s)) := by
 obtain ⟨Al, cl, rfl, hcl, hkl⟩ := hv
 obtain ⟨As, cs, rfl, hcs, hks⟩ := hr
 have hV : ∀ j, ∃ u, j < l.length → ∃ ad : Addr, Al = some ad ∧ ad.block < w.heap.size ∧ w.cell? (ad.add j) = some u ∧ Row w w.heap.size u (l.getD j []) := fun j => by
  by_cases h : j < l.length
  ·obtain ⟨ad, u, h1, h2, h3, h4⟩ := hkl j h
   exact ⟨u, fun _ => ⟨ad, h1, h2, h3, h4⟩⟩
  ·exact ⟨.nilIface, fun h' => absurd h' h⟩
 obtain ⟨V, hV⟩ := Classical.axiomOfChoice hV
 have HV := hid hV
 have Hs := hid hs
 have Hks := hid hks
 have hlI : (l.length : Int) ≤ 1000 := by omega
 have hsI : (s.length : Int) ≤ 64 := by omega
 obtain ⟨U, hU⟩ : ∃ U : Nat → Value, U = fun k => V (s.getD k 0).toNat := ⟨_, rfl⟩
 have HU := hid hU
 obtain ⟨i0, hi, hz0, hz1, hz2⟩ := info_parts Yr2
 clear hkl hks hcl hcs hV hs hU
 go_enter Tryz.func86, Tryz.ntmps86
 go_wp2_with (at_make; refine wpList_make_full w rfl _ _ 22 rfl w.heap.size 26 i0 (.slice none 0 0) 1 (by kernel_rfl) hi hz0 hz1 .i64 .i64 _ _ s.length rfl rfl (by rfl) (by rfl) (by rw [hz2]; omega) (by unfold maxLen; omega) (le_refl _) ?_)
 intro w1 hown1 hg1
 have hblk := Yq2 (z := .slice none 0 0) rfl hown1 U
 have hb1 : Below w.heap.size w w1 := (Below.refl _ w).grown hg1 (le_refl _) (fun i hi => by cases hi)
 have Hblk := hid hblk
 have Hb1 := hid hb1
 clear hown1 hg1 hblk hb1
 go_wp2
 go_loopw [13] (fun vk wr => ∃ k : Nat, vk = .int .i64 k ∧ k ≤ s.length ∧ Blk wr w.heap.size 26 (fillV U (.slice none 0 0) s.length k) ∧ Below w.heap.size w wr) (fun vk _ => s.length - (intOf vk).toNat)
 case atStart => exact ⟨0, rfl, Nat.zero_le _, Hblk.out, Hb1.out⟩
 case round =>
  obtain ⟨k, rfl, hk, hblk, hbr⟩ := hrel
  have Hblkr := hid hblk
  have Hbr := hid hbr
  clear Hblk Hb1
  by_cases hlt : k < s.length
  ·have hltI : (k : Int) < (s.length : Int) := by omega
   have hx := Hs.out k hlt
   obtain ⟨X, hX⟩ : ∃ X : Nat, s.getD k 0 = (X : Int) := ⟨(s.getD k 0).toNat, by omega⟩
   obtain ⟨as_, hA, hasb, hcs⟩ := Hks.out k hlt
   subst hA
   rw [hX] at hx hcs
   have hXl : X < l.length := by omega
   have hXI : (X : Int) < (l.length : Int) := by omega
   obtain ⟨al, hA, halb, hcl, hrow⟩ := HV.out X hXl
   subst hA
   obtain ⟨Ay, cy, hy, _⟩ := hrow
   obtain ⟨ny, hny⟩ : ∃ ny, (l.getD X []).length = ny := ⟨_, rfl⟩
   rw [hny] at hy
   have gs := (hbr.cell (p := as_.add k) (by rw [Z2_]; exact hasb)).trans hcs
   have gl := (hbr.cell (p := al.add X) (by rw [Z2_]; exact halb)).trans hcl
   have hUk : U k = V X := by rw [HU.out]; show V (s.getD k 0).toNat = V X; rw [hX]; rfl
   rw [← hUk] at gl
   have gf := hblk.frozen k
   obtain ⟨old, gc⟩ : ∃ old, wr.cell? ⟨w.heap.size, k, none⟩ = some old := ⟨_, by rw [hblk.cell]; exact B3_ hlt⟩
   rw [← hUk] at hy
   have Hy := hid hy
   rw [hy] at gl
   clear hblk hbr hcs hcl hX hx hUk hy hny
   go_wp2
   go_roundw
   case rel => exact ⟨k + 1, by go_num, by omega, by rw [← Zv8, Hy.out]; exact Hblkr.out.set_ k _, Hbr.out.setCell (by exact le_refl _) _⟩
   case measure => simp [intOf]; omega
  ·have hke : k = s.length := by omega
   subst hke
   clear hblk hbr
   go_wp2
   go_ret
   refine ⟨_, rfl, ⟨some ⟨w.heap.size, 0, none⟩, s.length, by simp [D3_], ⟨by simp [D3_], by unfold maxLen; omega, fun e => by cases e⟩, fun j hj => ?_⟩, Hbr.out⟩
   have hj' : j < s.length := by simpa [D3_] using hj
   have hx := Hs.out j hj'
   obtain ⟨al, hA, halb, hcl, hrl⟩ := HV.out (s.getD j 0).toNat (by omega)
   refine ⟨⟨w.heap.size, 0, none⟩, U j, rfl, Hblkr.out.lt, ?_, ?_⟩
   ·rw [add_g, Hblkr.out.cell, B3_ hj', if_pos hj']
   ·rw [HU.out, show (D3_ l s).getD j [] = l.getD (s.getD j 0).toNat [] by simp [D3_, List.getD, hj']]
    exact (hrl.below Hbr.out).mono Hbr.out.size
def M1_ (l : List (List Int)) (s : List Int) : List (Int × Int) := s.map fun x => ((l.getD x.toNat []).getD 0 0, (l.getD x.toNat []).getD 1 0)
def Yf7 (w : World) (l : List (Int × Int)) (e : Ending) (w' : World) : Prop := ∃ u, e = .returned u ∧ Edges w' w'.heap.size u l ∧ Below w.heap.size w w'
def edgU (E : List (Int × Int)) (j : Nat) : Value := if j % 2 = 0 then .int .i64 (E.getD (j / 2) (0, 0)).1 else .int .i64 (E.getD (j / 2) (0, 0)).2
theorem Xk0 (E : List (Int × Int)) (k : Nat) : edgU E (k * 2) = .int .i64 (E.getD k (0, 0)).1 := by
 unfold edgU
 rw [if_pos (by omega), Nat.mul_div_cancel _ (by decide)]
theorem Xk1 (E : List (Int × Int)) (k : Nat) : edgU E (k * 2 + 1) = .int .i64 (E.getD k (0, 0)).2 := by
 unfold edgU
 rw [if_neg (by omega), show (k * 2 + 1) / 2 = k by omega]
theorem Xc1 {w : World} {g n : Nat} {t : TypeId} (h : w.ownsRow g t 2 (.slice (some ⟨g, 0, none⟩) n n) n (madeCells (Value.agg #[.int .i64 0, .int .i64 0]).cells (n * 2)).toList) (U : Nat → Value) : Blk w g t (fillV U (.int .i64 0) (n * 2) 0) := by
 refine Zb5 h (fun i hi => ?_) (by simp [madeCells]) U
 have e : (Value.agg #[.int .i64 0, .int .i64 0]).cells = #[.int .i64 0, .int .i64 0] := rfl
 rw [e]
 unfold madeCells
 rw [Array.getElem?_map, Array.getElem?_range, if_pos hi]
 have h2 : i % 2 = 0 ∨ i % 2 = 1 := by omega
 rcases h2 with h2 | h2 <;> simp [h2]
theorem Vj1 (ad : Addr) (c : Nat) (w : World) : (Instr.arrayAt 73 (.slice (some ad) 2 c)).run Tryz.prog w = .ok (.pointer (some ad)) w := by kernel_rfl
theorem Yr3 (v sv : Value) (l : List (List Int)) (s : List Int) (w : World) (hv : Rows2 w w.heap.size v l) (hr : Row w w.heap.size sv s) (hs : ∀ k, k < s.length → 0 ≤ s.getD k 0 ∧ s.getD k 0 < (l.length : Int)) (h2 : ∀ i, i < l.length → (l.getD i []).length = 2) (hl : l.length ≤ 1000) (hsl : s.length ≤ 64) :
  Calls Tryz.prog 83 #[v, sv] w (Yf7 w (M1_ l s)) := by
 obtain ⟨Al, cl, rfl, hcl, hkl⟩ := hv
 obtain ⟨As, cs, rfl, hcs, hks⟩ := hr
 have Hkl := hid hkl
 have Hs := hid hs
 have H2 := hid h2
 have Hks := hid hks
 have hlI : (l.length : Int) ≤ 1000 := by omega
 have hsI : (s.length : Int) ≤ 64 := by omega
 obtain ⟨E, hE⟩ : ∃ E, E = M1_ l s := ⟨_, rfl⟩
 have HE := hid hE
 rw [← hE]
 obtain ⟨i0, hi, hz0, hz1, hz2⟩ := info_parts Vj0
 clear hkl hks hcl hcs hs h2 hE
 go_enter Tryz.func83, Tryz.ntmps83
 go_wp2_with (at_make; refine wpList_make_full w rfl _ _ 72 rfl w.heap.size 73 i0 (.agg #[.int .i64 0, .int .i64 0]) 2 (by kernel_rfl) hi hz0 hz1 .i64 .i64 _ _ s.length rfl rfl (by rfl) (by rfl) (by rw [hz2]; omega) (by unfold maxLen; omega) (le_refl _) ?_)
 intro w1 hown1 hg1
 have hblk := Xc1 hown1 (edgU E)
 have hb1 : Below w.heap.size w w1 := (Below.refl _ w).grown hg1 (le_refl _) (fun i hi => by cases hi)
 have Hblk := hid hblk
 have Hb1 := hid hb1
 clear hown1 hg1 hblk hb1
 go_wp2
 go_loopw [13] (fun vk wr => ∃ k : Nat, vk = .int .i64 k ∧ k ≤ s.length ∧ Blk wr w.heap.size 73 (fillV (edgU E) (.int .i64 0) (s.length * 2) (k * 2)) ∧ Below w.heap.size w wr) (fun vk _ => s.length - (intOf vk).toNat)
 case atStart => exact ⟨0, rfl, Nat.zero_le _, Hblk.out, Hb1.out⟩
 case round =>
  obtain ⟨k, rfl, hk, hblk, hbr⟩ := hrel
  have Hblkr := hid hblk
  have Hbr := hid hbr
  clear Hblk Hb1
  by_cases hlt : k < s.length
  ·have hltI : (k : Int) < (s.length : Int) := by omega
   have hx := Hs.out k hlt
   obtain ⟨X, hX⟩ : ∃ X : Nat, s.getD k 0 = (X : Int) := ⟨(s.getD k 0).toNat, by omega⟩
   obtain ⟨as_, hA, hasb, hcs⟩ := Hks.out k hlt
   subst hA
   have hEk : E.getD k (0, 0) = ((l.getD X []).getD 0 0, (l.getD X []).getD 1 0) := by
    rw [HE.out]
    have : (s.getD k 0) = s[k] := by simp [List.getD, hlt]
    rw [this] at hX
    simp [M1_, List.getD, hlt, hX]
   rw [hX] at hx hcs
   have hXl : X < l.length := by omega
   have hXI : (X : Int) < (l.length : Int) := by omega
   obtain ⟨al, u, hA, halb, hcl, hru⟩ := Hkl.out X hXl
   subst hA
   have h2X := H2.out X hXl
   generalize l.getD X [] = z at *
   obtain ⟨p, q, rfl⟩ : ∃ p q, z = [p, q] := by
    match z, h2X with
    | [p, q], _ => exact ⟨p, q, rfl⟩
   obtain ⟨Az, cz, rfl, _, hcz⟩ := hru
   obtain ⟨az, hA, hazb, hc0⟩ := hcz 0 (by simp)
   subst hA
   obtain ⟨az', hA, _, hc1⟩ := hcz 1 (by simp)
   obtain rfl := Option.some.inj hA
   rw [add_zero] at hc0
   rw [show az.add 1 = (⟨az.block, az.off + 1, none⟩ : Addr) by simp [Addr.add]] at hc1
   change w.cell? az = some (.int .i64 p) at hc0
   change w.cell? ⟨az.block, az.off + 1, none⟩ = some (.int .i64 q) at hc1
   rw [show ([p, q] : List Int).length = 2 from rfl] at hcl
   change E.getD k (0, 0) = (p, q) at hEk
   have gs := (hbr.cell (p := as_.add k) (by rw [Z2_]; exact hasb)).trans hcs
   have gl := (hbr.cell (p := al.add X) (by rw [Z2_]; exact halb)).trans hcl
   have g0 := (hbr.cell (p := az) hazb).trans hc0
   have g1 := (hbr.cell (p := ⟨az.block, az.off + 1, none⟩) hazb).trans hc1
   have gf0 := hblk.frozen (k * 2)
   have gf1 := hblk.frozen (k * 2 + 1)
   obtain ⟨old, gc⟩ : ∃ old, wr.cell? ⟨w.heap.size, k * 2, none⟩ = some old := ⟨_, by rw [hblk.cell]; exact B3_ (by omega)⟩
   obtain ⟨old1, gc1⟩ : ∃ old, wr.cell? ⟨w.heap.size, k * 2 + 1, none⟩ = some old := ⟨_, by rw [hblk.cell]; exact B3_ (by omega)⟩
   have ha := fun W => Vj1 az cz W
   have HU0 : Hid (edgU E (k * 2) = .int .i64 p) := hid (by rw [Xk0, hEk])
   have HU1 : Hid (edgU E (k * 2 + 1) = .int .i64 q) := hid (by rw [Xk1, hEk])
   clear hblk hbr hcs hcl hX hx hc0 hc1 hEk hcz h2X
   go_wp2
   go_roundw
   case rel =>
    refine ⟨k + 1, by go_num, by omega, ?_, (Hbr.out.setCell (by exact le_refl _) _).setCell (by exact le_refl _) _⟩
    rw [show (k + 1) * 2 = k * 2 + 1 + 1 by omega, ← Zv8, ← Zv8, HU0.out, HU1.out]
    exact (Hblkr.out.set_ _ _).set_ _ _
   case measure => simp [intOf]; omega
  ·have hke : k = s.length := by omega
   subst hke
   clear hblk hbr
   have hEl : E.length = s.length := by rw [HE.out]; simp [M1_]
   have HEl := hid hEl
   clear hEl
   go_wp2
   go_ret
   refine ⟨_, rfl, ⟨some ⟨w.heap.size, 0, none⟩, s.length, by rw [HEl.out]; rfl, ⟨by rw [HEl.out]; exact le_refl _, by unfold maxLen; omega, fun e => by cases e⟩, fun j hj => ?_⟩, Hbr.out⟩
   have hj' : j < s.length := by have := HEl.out; omega
   refine ⟨⟨w.heap.size, 0, none⟩, rfl, Hblkr.out.lt, ?_, ?_⟩
   ·rw [add_g, Hblkr.out.cell, B3_ (by omega), if_pos (by omega), Xk0]
   ·rw [add_g]
    show World.cell? _ ⟨w.heap.size, j * 2 + 1, none⟩ = _
    rw [Hblkr.out.cell, B3_ (by omega), if_pos (by omega), Xk1]
open Go.RowKit
theorem Yr4 (zs : List Int) (j : Nat) (x : Int) : (ints zs).set j (.int .i64 x) = ints (zs.set j x) := by
 unfold ints
 rw [List.map_set]
theorem Zm6 {A n : Nat} {cls most : Nat → Nat} {P : Nat → Bool} {x : Nat} (hc : cls x < A) (hx : x < n) (hp : P x = false) : partR A n cls most (insP P x) = partR A n cls most P + if clsN n cls P (cls x) < most (cls x) then 1 else 0 := by
 refine Ze8 (b := cls x) hc (fun c hne => ?_) ?_
 ·show min _ _ = min _ _
  rw [M9_ hx hp, if_neg (fun e => hne e.symm), Nat.add_zero]
 ·show min _ _ = min _ _ + _
  rw [M9_ hx hp, if_pos rfl]
  split <;> omega
theorem Yr5 {n : Nat} {s : List Int} (h : InN n s) {k : Nat} (hk : k < s.length) : memP (s.take (k + 1)) = insP (memP (s.take k)) (s.getD k 0).toNat ∧ memP (s.take k) (s.getD k 0).toNat = false := by
 have hx := h.2 _ (C0_ 0 hk)
 have e : s.getD k 0 = s[k] := by simp [List.getD, hk]
 constructor
 ·funext i
  rw [Bool.eq_iff_iff, memP_iff, List.take_succ_eq_append_getElem hk, List.mem_append, List.mem_singleton]
  unfold insP
  rw [Bool.or_eq_true, beq_iff_eq, memP_iff, ← e]
  constructor
  ·rintro (h1 | h1)
   ·exact .inr h1
   ·left; omega
  ·rintro (h1 | h1)
   ·right; omega
   ·exact .inl h1
 ·rw [← Bool.not_eq_true, memP_iff, show (((s.getD k 0).toNat : Nat) : Int) = s.getD k 0 by omega]
  intro hm
  obtain ⟨j, hj, hje⟩ := List.mem_iff_getElem.1 hm
  rw [List.length_take] at hj
  rw [List.getElem_take, e] at hje
  have := List.pairwise_iff_getElem.1 h.1.1 j k (by omega) hk (by omega)
  omega
def roomL (A n : Nat) (cls most : Nat → Nat) (P : Nat → Bool) : List Int := (List.range A).map fun c => ((most c - clsN n cls P c : Nat) : Int)
theorem K5_ (A n : Nat) (cls most : Nat → Nat) (P : Nat → Bool) : (roomL A n cls most P).length = A := by simp [roomL]
theorem Zm7 {A n : Nat} {cls most : Nat → Nat} {P : Nat → Bool} {c : Nat} (hc : c < A) : (roomL A n cls most P).getD c 0 = ((most c - clsN n cls P c : Nat) : Int) := by simp [roomL, List.getD, hc]
theorem Xc2 {A n : Nat} {cls most : Nat → Nat} {P : Nat → Bool} {x : Nat} (hx : x < n) (hp : P x = false) (h : ¬ clsN n cls P (cls x) < most (cls x)) : roomL A n cls most (insP P x) = roomL A n cls most P := by
 unfold roomL
 refine List.map_congr_left fun c _ => ?_
 rw [M9_ hx hp]
 by_cases e : cls x = c
 ·subst e; rw [if_pos rfl]; omega
 ·rw [if_neg e, Nat.add_zero]
theorem Yr6 {A n : Nat} {cls most : Nat → Nat} {P : Nat → Bool} {x : Nat} (hx : x < n) (hp : P x = false) (h : clsN n cls P (cls x) < most (cls x)) : (roomL A n cls most P).set (cls x) (((most (cls x) - clsN n cls P (cls x) : Nat) : Int) - 1) = roomL A n cls most (insP P x) := by
 apply List.ext_getElem
 ·simp [roomL]
 ·intro c h1 h2
  rw [List.getElem_set]
  simp only [roomL, List.getElem_map, List.getElem_range]
  rw [M9_ hx hp]
  by_cases e : cls x = c
  ·subst e; rw [if_pos rfl, if_pos rfl]; omega
  ·rw [if_neg e, if_neg e, Nat.add_zero]
theorem Yf8 (A n : Nat) (cls most : Nat → Nat) : partR A n cls most noneP = 0 := by
 refine Zy8 fun c _ => ?_
 unfold clsN
 rw [show (fun i => noneP i && cls i == c) = noneP from by funext i; simp [noneP], F0_, Nat.min_zero]
theorem Yr7 {A n : Nat} {cls most : Nat → Nat} (hc : ∀ i, i < n → cls i < A) (P : Nat → Bool) : partR A n cls most P ≤ n := Nat.le_trans ((Zs8 hc).le_cnt P) (A1_ P n)
theorem Zf9 (vc vm sv : Value) (cl mo s : List Int) (n A : Nat) (w : World) (hc : Row w w.heap.size vc cl) (hm : Row w w.heap.size vm mo) (hr : Row w w.heap.size sv s) (hS : InN n s) (h1 : cl.length = n) (h2 : mo.length = A) (h3 : ∀ i, i < n → 0 ≤ cl.getD i 0 ∧ cl.getD i 0 < (A : Int)) (h4 : ∀ i, i < A → 0 ≤ mo.getD i 0 ∧ mo.getD i 0 < 65) (hn : n ≤ 64) (hA : A ≤ 64) :
  Calls Tryz.prog 84 #[vc, vm, sv] w (Tells w (partR A n (fun i => (cl.getD i 0).toNat) (fun c => (mo.getD c 0).toNat) (memP s) : Nat)) := by
 obtain ⟨cls, hcls⟩ : ∃ cls : Nat → Nat, cls = fun i => (cl.getD i 0).toNat := ⟨_, rfl⟩
 obtain ⟨most, hmost⟩ : ∃ most : Nat → Nat, most = fun c => (mo.getD c 0).toNat := ⟨_, rfl⟩
 rw [← hcls, ← hmost]
 have Hcls : Hid (∀ i, i < n → cl.getD i 0 = (cls i : Int) ∧ cls i < A) := hid fun i hi => by have := h3 i hi; rw [hcls]; show cl.getD i 0 = (((cl.getD i 0).toNat : Nat) : Int) ∧ (cl.getD i 0).toNat < A; omega
 have Hcl := hid (L.clone_any vm mo w hm (by omega))
 have hR0 : mo = roomL A n cls most noneP := by
  apply List.ext_getElem
  ·rw [K5_, h2]
  ·intro c a b
   have hcA : c < A := by omega
   have := h4 c hcA
   have e1 : mo.getD c 0 = mo[c] := by simp [List.getD, a]
   have e2 : (roomL A n cls most noneP).getD c 0 = (roomL A n cls most noneP)[c] := by simp [List.getD, b]
   rw [← e1, ← e2, Zm7 hcA, hmost]
   unfold clsN
   rw [show (fun i => noneP i && cls i == c) = noneP from by funext i; simp [noneP], F0_]
   show mo.getD c 0 = (((mo.getD c 0).toNat - 0 : Nat) : Int)
   omega
 have HR0 := hid hR0
 have HS := hid hS
 have Hmo : Hid (∀ c, c < A → most c ≤ 64) := hid fun c hc => by have := h4 c hc; rw [hmost]; show (mo.getD c 0).toNat ≤ 64; omega
 have hslen : s.length ≤ n := by rw [V1_ hS]; exact A1_ _ _
 have hsI : (s.length : Int) ≤ 64 := by omega
 have hpl : ∀ P, partR A n cls most P ≤ 64 := fun P => Nat.le_trans (Yr7 (fun i hi => (Hcls.out i hi).2) P) hn
 have Hpl := hid hpl
 have Hml := hid h2
 obtain ⟨Ac, cc, rfl, _, hck⟩ := hc
 obtain ⟨Am, cm, rfl, _⟩ := hm
 obtain ⟨As, cs, rfl, _, hsk⟩ := hr
 have Hck := hid hck
 have Hsk := hid hsk
 have hclI : (cl.length : Int) ≤ 64 := by omega
 have Hcn := hid h1
 clear hck hsk h3 h4 hcls hmost hpl hS hR0 h1 h2
 go_enter Tryz.func84, Tryz.ntmps84
 go_wp2_with fail
 refine (Hcl.out).mono ?_
 rintro e w1 ⟨u, rfl, hown, hb1⟩
 rw [HR0.out, K5_] at hown
 have Hown := hid hown
 have Hb1 := hid hb1
 clear hown hb1 Hcl
 go_wp2
 go_loopw [7, 15] (fun vm vk wr => ∃ k : Nat, vk = .int .i64 k ∧ k ≤ s.length ∧ vm = .int .i64 (partR A n cls most (memP (s.take k)) : Nat) ∧ wr.ownsRow w.heap.size 3 1 u A (ints (roomL A n cls most (memP (s.take k)))) ∧ Below w.heap.size w wr) (fun _ vk _ => s.length - (intOf vk).toNat)
 case atStart => exact ⟨0, rfl, Nat.zero_le _, by rw [List.take_zero, Zf3, Yf8]; rfl, by rw [List.take_zero, Zf3]; exact Hown.out, Hb1.out⟩
 case round =>
  obtain ⟨k, rfl, hk, rfl, hown, hbr⟩ := hrel
  have Hbr := hid hbr
  clear Hown Hb1
  by_cases hlt : k < s.length
  ·have hltI : (k : Int) < (s.length : Int) := by omega
   obtain ⟨hm1, hm2⟩ := Yr5 HS.out hlt
   have hx := HS.out.2 _ (C0_ 0 hlt)
   obtain ⟨X, hX⟩ : ∃ X : Nat, s.getD k 0 = (X : Int) := ⟨(s.getD k 0).toNat, by omega⟩
   obtain ⟨as_, hA1, hasb, hcs⟩ := Hsk.out k hlt
   subst hA1
   rw [hX] at hx hcs hm1 hm2
   rw [show ((X : Int)).toNat = X from rfl] at hm1 hm2
   have hXn : X < n := by omega
   obtain ⟨ac, hA2, hacb, hcc⟩ := Hck.out X (by have := Hcn.out; omega)
   subst hA2
   obtain ⟨hC, hCA⟩ := Hcls.out X hXn
   rw [hC] at hcc
   have hXI : (X : Int) < (cl.length : Int) := by have := Hcn.out; omega
   have hCI : (cls X : Int) < (A : Int) := by omega
   obtain ⟨g, cu, hu, hgB⟩ := G9_ hown (by omega)
   subst hu
   have gs := (hbr.cell (p := as_.add k) (by rw [Z2_]; exact hasb)).trans hcs
   have gc := (hbr.cell (p := ac.add X) (by rw [Z2_]; exact hacb)).trans hcc
   have gr : wr.cell? ⟨g, cls X, none⟩ = some (.int .i64 ((most (cls X) - clsN n cls (memP (s.take k)) (cls X) : Nat) : Int)) := by
    rw [hown.cellAt (cls X) (by omega)]
    have : (cls X) < (roomL A n cls most (memP (s.take k))).length := by rw [K5_]; exact hCA
    rw [show (ints (roomL A n cls most (memP (s.take k))))[cls X]? = some (.int .i64 ((roomL A n cls most (memP (s.take k))).getD (cls X) 0)) by simp [ints, List.getD, this], Zm7 hCA]
   have gf := hown.frozenAt (cls X)
   have hpi := Zm6 (cls := cls) (most := most) hCA hXn hm2
   have hyes := Yr6 (A := A) (cls := cls) (most := most) hXn hm2
   have hno := Xc2 (A := A) (cls := cls) (most := most) hXn hm2
   have hMC := Hmo.out _ hCA
   have hP64 := Hpl.out (memP (s.take k))
   rw [← hm1] at hpi hyes hno
   have Hpi := hid hpi
   have Hyes := hid hyes
   have Hno := hid hno
   have Hown := hid hown
   generalize clsN n cls (memP (s.take k)) (cls X) = q at *
   generalize most (cls X) = M at *
   generalize cls X = C at *
   clear hpi hyes hno hm1 hm2 hown hbr hcs hcc hX hx hC
   obtain ⟨PP, hPP⟩ : ∃ PP, partR A n cls most (memP (s.take k)) = PP := ⟨_, rfl⟩
   rw [hPP] at Hpi hP64 ⊢
   have hPI : (PP : Int) ≤ 64 := by omega
   clear hPP
   by_cases hq : q < M
   ·have hD : (0 : Int) < ((M - q : Nat) : Int) := by omega
    have hDI : ((M - q : Nat) : Int) ≤ 64 := by omega
    have Hpi1 : Hid (partR A n cls most (memP (s.take (k + 1))) = PP + 1) := hid (by rw [Hpi.out, if_pos hq])
    have Hroom := hid (Hyes.out hq)
    generalize ((M - q : Nat) : Int) = D at *
    have hw : IntKind.i64.wrap (D - 1) = D - 1 := by rw [IntKind.wrap_i64]; omega
    have Hst := hid (Hown.out.stored C (.int .i64 (D - 1)))
    rw [Yr4, Hroom.out] at Hst
    have HbrE := hid (Hbr.out.setCell (p := ⟨g, C, none⟩) hgB (.int .i64 (D - 1)))
    clear Hown Hbr Hyes Hno Hpi Hroom hq
    go_wp2
    go_roundw
    case rel => exact ⟨k + 1, by go_num, by omega, by rw [Hpi1.out]; go_num, Hst.out.1, HbrE.out⟩
    case measure => simp [intOf]; omega
   ·have hD : (M - q : Nat) = 0 := by omega
    have Hpi1 : Hid (partR A n cls most (memP (s.take (k + 1))) = PP) := hid (by rw [Hpi.out, if_neg hq, Nat.add_zero])
    have Hroom := hid (Hno.out hq)
    rw [hD] at gr
    change wr.cell? ⟨g, C, none⟩ = some (.int .i64 0) at gr
    clear Hyes Hno Hpi hD
    go_wp2
    go_roundw
    case rel => exact ⟨k + 1, by go_num, by omega, by rw [Hpi1.out], by rw [Hroom.out]; exact Hown.out, Hbr.out⟩
    case measure => simp [intOf]; omega
  ·have hke : k = s.length := by omega
   subst hke
   have Hall : Hid (s.take s.length = s) := hid (List.take_length)
   rw [Hall.out]
   clear hown hbr
   go_wp2
   go_ret
   exact ⟨rfl, Hbr.out⟩
def betB (f n x : Int) : Bool := decide (f ≤ x) && decide (x < f + n)
def betL (s : List Int) (f n : Int) : List Int := (s.filter (betB f n)).map fun x => x - f
theorem Zm8 {s : List Int} {f n : Int} {k : Nat} (hk : k < s.length) : betL (s.take (k + 1)) f n = betL (s.take k) f n ++ if betB f n (s.getD k 0) = true then [s.getD k 0 - f] else [] := by
 unfold betL
 rw [List.take_succ_eq_append_getElem hk, List.filter_append, List.map_append, show s[k] = s.getD k 0 by simp [List.getD, hk]]
 congr 1
 generalize s.getD k 0 = x
 by_cases h : betB f n x = true
 ·simp [h]
 ·simp [h]
theorem Zv9 (s : List Int) (f n : Int) : (betL s f n).length ≤ s.length := by
 unfold betL
 rw [List.length_map]
 exact List.length_filter_le _ _
theorem Zu4 (sv : Value) (s : List Int) (f n : Int) (w : World) (hr : Row w w.heap.size sv s) (hs : ∀ k, k < s.length → 0 ≤ s.getD k 0 ∧ s.getD k 0 ≤ 64) (hf : 0 ≤ f ∧ f ≤ 1000) (hn : 0 ≤ n ∧ n ≤ 1000) (hsl : s.length ≤ 64) :
  Calls Tryz.prog 115 #[sv, .int .i64 f, .int .i64 n] w (Gives w (betL s f n)) := by
 obtain ⟨As, cs, rfl, _, hsk⟩ := hr
 have Hsk := hid hsk
 have Hs := hid hs
 have hsI : (s.length : Int) ≤ 64 := by omega
 have hwf : IntKind.i64.wrap (f + n) = f + n := by rw [IntKind.wrap_i64]; omega
 have hown0 : w.ownsRow w.heap.size 3 1 (.slice none 0 0) ([] : List Int).length (ints []) := World.ownsRow_nil _ _ _ _
 clear hsk hs
 go_enter Tryz.func115, Tryz.ntmps115
 go_wp2
 go_loopw [7, 12] (fun vl vk wr => ∃ k : Nat, vk = .int .i64 k ∧ k ≤ s.length ∧ wr.ownsRow w.heap.size 3 1 vl (betL (s.take k) f n).length (ints (betL (s.take k) f n)) ∧ Below w.heap.size w wr) (fun _ vk _ => s.length - (intOf vk).toNat)
 case atStart => exact ⟨0, rfl, Nat.zero_le _, hown0, Below.refl _ _⟩
 case round =>
  obtain ⟨k, rfl, hk, hown, hbr⟩ := hrel
  clear hown0
  by_cases hlt : k < s.length
  ·have hltI : (k : Int) < (s.length : Int) := by omega
   have hx := Hs.out k hlt
   obtain ⟨as_, hA, hasb, hcs⟩ := Hsk.out k hlt
   subst hA
   have gs := (hbr.cell (p := as_.add k) (by rw [Z2_]; exact hasb)).trans hcs
   have hmo := Zm8 (f := f) (n := n) hlt
   have hbl := Zv9 (s.take k) f n
   rw [List.length_take] at hbl
   generalize s.getD k 0 = x at *
   have Hmo := hid hmo
   clear hcs hmo
   by_cases h1 : f ≤ x
   ·by_cases h2 : x < f + n
    ·have hw : IntKind.i64.wrap (x - f) = x - f := by rw [IntKind.wrap_i64]; omega
     have Hm : Hid (betL (s.take (k + 1)) f n = betL (s.take k) f n ++ [x - f]) := hid (by rw [Hmo.out, if_pos (by unfold betB; rw [decide_eq_true h1, decide_eq_true h2]; rfl)])
     go_wp2_with (at_builtin; refine Z4_ rfl _ _ rfl w.heap.size _ _ _ (betL (s.take k) f n) [x - f] rfl rfl (hown.alloc _) (Row.lit1 _ (x - f)) (by omega) (by simp) (by have := hbr.size; simp; omega) ?_)
     intro v' w6 hown' hgrow
     have hb6 : Below w.heap.size wr w6 := ((Below.refl _ wr).alloc hbr.size _).grown hgrow (by have := hbr.size; simp; omega) (fun i hi => (hown.lt i hi).1)
     have Hown6 : Hid (w6.ownsRow w.heap.size 3 1 v' (betL (s.take (k + 1)) f n).length (ints (betL (s.take (k + 1)) f n))) := hid (by rw [Hm.out, List.length_append]; exact hown')
     have Hb6 := hid (hbr.trans hb6)
     clear hown' hb6 hown hbr
     go_wp2
     go_roundw
     case rel => exact ⟨k + 1, by go_num, by omega, Hown6.out, Hb6.out⟩
     case measure => simp [intOf]; omega
    ·have Hm : Hid (betL (s.take (k + 1)) f n = betL (s.take k) f n) := hid (by rw [Hmo.out, if_neg (by unfold betB; rw [decide_eq_false h2, Bool.and_false]; decide), List.append_nil])
     have Hown6 := hid hown
     have Hb6 := hid hbr
     clear hown hbr
     go_wp2
     go_roundw
     case rel => exact ⟨k + 1, by go_num, by omega, by rw [Hm.out]; exact Hown6.out, Hb6.out⟩
     case measure => simp [intOf]; omega
   ·have Hm : Hid (betL (s.take (k + 1)) f n = betL (s.take k) f n) := hid (by rw [Hmo.out, if_neg (by unfold betB; rw [decide_eq_false h1, Bool.false_and]; decide), List.append_nil])
    have Hown6 := hid hown
    have Hb6 := hid hbr
    clear hown hbr
    go_wp2
    go_roundw
    case rel => exact ⟨k + 1, by go_num, by omega, by rw [Hm.out]; exact Hown6.out, Hb6.out⟩
    case measure => simp [intOf]; omega
  ·have hke : k = s.length := by omega
   subst hke
   rw [List.take_length] at hown
   go_wp2
   go_ret
   exact ⟨_, rfl, Row.of_own hown rfl, hbr⟩
end Wp
end Go.Proofs.YtgadbnbhgpehjaaGreatDoor
namespace Go.Proofs.YtgadbnbhgpehjaaGreatDoor.Wp
open Go Go.RowKit
theorem Zb7 {m : Mat} {s : List Int} (h : chk m = 0) (ht : m.t = 1) (hs : InN (nN m) s) : M1_ m.l s = castE (edgP (nN m) (edgOf m) (memP s)) := by
 obtain ⟨_, h1, h2⟩ := K4_ h ht
 have hn := Z8_ h
 have e : M1_ m.l s = (pickN (nN m) (memP s)).map fun i => ((m.l.getD i []).getD 0 0, (m.l.getD i []).getD 1 0) := Yj7 hs fun i => ((m.l.getD i []).getD 0 0, (m.l.getD i []).getD 1 0)
 rw [e]
 unfold castE edgP
 rw [List.map_map]
 refine List.map_congr_left fun i hi => ?_
 have hi' := (mem_pick.1 hi).1
 obtain ⟨e1, e2⟩ := h2 i (by omega)
 have a := e2 0 (by omega)
 have b := e2 1 (by omega)
 show _ = ((((m.l.getD i []).getD 0 0).toNat : Int), (((m.l.getD i []).getD 1 0).toNat : Int))
 rw [Int.toNat_of_nonneg a.1, Int.toNat_of_nonneg b.1]
theorem Zm9 {m : Mat} {s : List Int} (h : chk m = 0) (ht : m.t = 1) : Lies m.a.toNat (edgP (nN m) (edgOf m) (memP s)) := by
 obtain ⟨_, h1, h2⟩ := K4_ h ht
 have hn := Z8_ h
 intro c hc
 obtain ⟨i, hi, rfl⟩ := List.mem_map.1 hc
 have hi' := (mem_pick.1 hi).1
 obtain ⟨e1, e2⟩ := h2 i (by omega)
 have a := e2 0 (by omega)
 have b := e2 1 (by omega)
 unfold edgOf
 constructor
 ·show ((m.l.getD i []).getD 0 0).toNat < m.a.toNat; omega
 ·show ((m.l.getD i []).getD 1 0).toNat < m.a.toNat; omega
theorem N1_ (n : Nat) (P : Nat → Bool) : (pickN n P).length ≤ n := A1_ P n
theorem N2_ {n : Nat} {l : List (List Int)} {s : List Int} (hs : InN n s) : D3_ l s = (pickN n (memP s)).map fun i => l.getD i [] := Yj7 hs fun i => l.getD i []
theorem mayK (r : Int) (a : List (List Int)) : K.mayM r a = mayM r a := rfl
theorem elimK (p r : Int) (a : List (List Int)) : L.elimB p r a = elimB p r a := rfl
theorem Zb8 {n : Nat} {l : List (List Int)} {P : Nat → Bool} (hl : l.length = n) {z : List Int} (hz : z ∈ (pickN n P).map fun i => l.getD i []) : z ∈ l := by
 obtain ⟨i, hi, rfl⟩ := List.mem_map.1 hz
 exact C0_ [] (by have := (mem_pick.1 hi).1; omega)
theorem Yf9 {r : Int} {n : Nat} {l : List (List Int)} {P : Nat → Bool} (h : mayM r l = true) (hl : l.length = n) : mayM r ((pickN n P).map fun i => l.getD i []) = true := by
 unfold mayM at h ⊢
 simp only [Bool.and_eq_true, decide_eq_true_iff, List.all_eq_true] at h ⊢
 refine ⟨⟨h.1.1, ?_⟩, fun z hz => h.2 z (Zb8 hl hz)⟩
 rw [List.length_map]
 have := N1_ n P
 omega
theorem Zj0 {p r : Int} {n : Nat} {l : List (List Int)} {P : Nat → Bool} (h : elimB p r l = true) (hl : l.length = n) : elimB p r ((pickN n P).map fun i => l.getD i []) = true := by
 unfold elimB at h ⊢
 simp only [Bool.and_eq_true, decide_eq_true_iff, Bool.not_eq_true', List.any_eq_false] at h ⊢
 refine ⟨⟨h.1.1, ?_⟩, fun z hz => h.2 z (Zb8 hl hz)⟩
 rw [List.length_map]
 have := N1_ n P
 omega
theorem Xc3 {n R : Nat} {l : List (List Int)} {P : Nat → Bool} {adj : List (List Int)} (hadj : adj = (pickN n P).map fun i => l.getD i []) {k : Nat} (h : K.Big R adj k) : covR n R (fun i r => (r : Int) ∈ l.getD i []) P = k := by
 have hlen : adj.length = (pickN n P).length := by rw [hadj, List.length_map]
 have hget : ∀ j, j < adj.length → adj.getD j [] = l.getD ((pickN n P).getD j 0) [] ∧ (pickN n P).getD j 0 ∈ pickN n P := fun j hj => by
  rw [hlen] at hj
  refine ⟨?_, C0_ 0 hj⟩
  rw [hadj]
  simp [List.getD, hj]
 have hinj : ∀ i j, i < adj.length → j < adj.length → (pickN n P).getD i 0 = (pickN n P).getD j 0 → i = j := fun i j hi hj e => by
  rw [hlen] at hi hj
  have hp := List.pairwise_iff_getElem.1 (Zx4 n P)
  rw [show (pickN n P).getD i 0 = (pickN n P)[i] by simp [List.getD, hi], show (pickN n P).getD j 0 = (pickN n P)[j] by simp [List.getD, hj]] at e
  rcases Nat.lt_trichotomy i j with c | c | c
  ·have := hp i j hi hj c; omega
  ·exact c
  ·have := hp j i hj hi c; omega
 obtain ⟨⟨hm, hM, hsz⟩, A, B, hcov, hk⟩ := h
 refine Nat.le_antisymm ?_ ?_
 ·refine H7_ ⟨fun i => (List.range adj.length).any fun j => A j && (pickN n P).getD j 0 == i, B, fun i r hi hp hg => ?_, ?_⟩
  ·obtain ⟨j, hj, hje⟩ := List.mem_iff_getElem.1 (mem_pick.2 ⟨hi, hp⟩)
   have hj' : j < adj.length := by omega
   have e : (pickN n P).getD j 0 = i := by rw [show (pickN n P).getD j 0 = (pickN n P)[j] by simp [List.getD, hj], hje]
   rcases hcov j r (show (r : Int) ∈ adj.getD j [] by rw [(hget j hj').1, e]; exact hg) with c | c
   ·left
    rw [List.any_eq_true]
    exact ⟨j, List.mem_range.2 hj', by rw [c, e]; simp⟩
   ·exact .inr c
  ·have hch : ∀ i, ∃ j, ((List.range adj.length).any fun j => A j && (pickN n P).getD j 0 == i) = true → j < adj.length ∧ A j = true ∧ (pickN n P).getD j 0 = i := fun i => by
    by_cases hb : ((List.range adj.length).any fun j => A j && (pickN n P).getD j 0 == i) = true
    ·obtain ⟨j, hj, hje⟩ := List.any_eq_true.1 hb
     rw [Bool.and_eq_true, beq_iff_eq] at hje
     exact ⟨j, fun _ => ⟨List.mem_range.1 hj, hje.1, hje.2⟩⟩
    ·exact ⟨0, fun h' => absurd h' hb⟩
   obtain ⟨f, hf⟩ := Classical.axiomOfChoice hch
   have := K.cntP_inj (n := n) (R := adj.length) (p := fun i => (List.range adj.length).any fun j => A j && (pickN n P).getD j 0 == i) (q := A) f (fun i _ hp => ⟨(hf i hp).1, (hf i hp).2.1⟩) (fun i j _ _ hp hq e => by rw [← (hf i hp).2.2, e]; exact (hf j hq).2.2)
   exact Nat.le_trans (Nat.add_le_add_right this _) hk
 ·obtain ⟨A0, B0, hc, hk0⟩ := F1_ n R (fun i r => (r : Int) ∈ l.getD i []) P
  have hcov' : K.Cov adj (fun j => A0 ((pickN n P).getD j 0)) B0 := fun j r hg => by
   have hj := K.goes_lt hg
   obtain ⟨e1, e2⟩ := hget j hj
   have hg' : (r : Int) ∈ adj.getD j [] := hg
   rw [e1] at hg'
   exact hc _ r (mem_pick.1 e2).1 (mem_pick.1 e2).2 hg'
  have h1 := K.mat_le_cov hM hcov'
  have h2 := K.cntP_inj (n := adj.length) (R := n) (p := fun j => A0 ((pickN n P).getD j 0)) (q := A0) (fun j => (pickN n P).getD j 0) (fun j hj hp => ⟨(mem_pick.1 (hget j hj).2).1, hp⟩) (fun i j hi hj _ _ e => hinj i j hi hj e)
  have h3 : K.cntP n A0 = cnt A0 n := rfl
  have h4 : K.cntP R B0 = cnt B0 R := rfl
  omega
theorem Xk2 {p a : Int} {n : Nat} {l : List (List Int)} {P : Nat → Bool} {cols : List (List Int)} (hcols : cols = (pickN n P).map fun i => l.getD i []) (h : L.elimB p a cols = true) : L.rankI p a cols = (linR p a.toNat n (fun i => L.vec (l.getD i [])) P : Nat) := by
 obtain ⟨h1, R, hR, _, _, hc⟩ := L.elimB_in h
 unfold L.rankI
 rw [if_pos h, hR, Int.toNat_natCast]
 have e := congrArg List.length (L.linesI_lines h1 hc).pl
 rw [List.length_map] at e
 have e2 := L.rk_cols (R := R) (L.fld_ok h1) cols
 rw [e, ← e2]
 unfold linR vecP
 rw [hcols, List.map_map]
 rfl
end Go.Proofs.YtgadbnbhgpehjaaGreatDoor.Wp
namespace Go.Proofs.YtgadbnbhgpehjaaGreatDoor
open Go.RowKit
namespace Wp
theorem F9_ {n : Nat} {s : List Int} (h : InN n s) {k : Nat} (hk : k < s.length) : 0 ≤ s.getD k 0 ∧ s.getD k 0 < (n : Int) := h.2 _ (C0_ 0 hk)
theorem Y3_ {n : Nat} {s : List Int} (h : InN n s) : s.length ≤ n := by rw [V1_ h]; exact A1_ _ _
def Zb9 (E : Nat → Addr) (k : Nat) : Prop := ∀ (m : Mat) (v sv : Value) (s : List Int) (w : World), MatV w w.heap.size v m → Sml m → chk m = 0 → dp 4 m ≤ k → Row w w.heap.size sv s → InN (nN m) s → Env E w → Calls Tryz.prog 70 #[v, sv] w (Tells w (rkP k m (memP s) : Nat))
theorem Vj2 (E : Nat → Addr) (k : Nat) (m : Mat) (v sv : Value) (s : List Int) (w : World) (hv : MatV w w.heap.size v m) (_hs : Sml m) (hc : chk m = 0) (hr : Row w w.heap.size sv s) (hS : InN (nN m) s) (hE : Env E w) (ht : m.t = 0) : Calls Tryz.prog 70 #[v, sv] w (Tells w (rkP (k + 1) m (memP s) : Nat)) := by
 rw [rkP_0 ht, ← V1_ hS]
 have HS := hid hS
 have hsl := Y3_ hS
 have hn64 := (Z8_ hc).2
 have hsI : (s.length : Int) ≤ 64 := by omega
 have hsB : s.length ≤ 1048576 := by omega
 obtain ⟨lv, iv, rfl, hl2, hi2⟩ := hv.open
 obtain ⟨Al, cl, rfl, _⟩ := id hl2
 obtain ⟨Ai, ci, rfl, _⟩ := id hi2
 obtain ⟨As, cs, rfl, _⟩ := id hr
 have Hb0 := hid (Z1_ w m (.slice Al m.l.length cl) (.slice Ai m.i.length ci))
 have Hblk := hid (Z3_ w m (.slice Al m.l.length cl) (.slice Ai m.i.length ci))
 have Hsv := hid (hr.up Hb0.out)
 have HL := hid (hl2.up Hb0.out)
 have HI := hid (hi2.up Hb0.out)
 have Hv := hid (hv.up Hb0.out)
 have HE := hid (hE.up Hb0.out)
 unfold boxed at *
 have gb := Hblk.out.cell
 obtain ⟨W0, hW0⟩ : ∃ W0, W0 = w.alloc (.cells #[.int .i64 m.t, .int .i64 m.n, .int .i64 m.a, .int .i64 m.b, .slice Al m.l.length cl, .slice Ai m.i.length ci] 25) := ⟨_, rfl⟩
 have HW0 := hid hW0
 have hlt : w.heap.size < W0.heap.size := by rw [hW0]; simp
 rw [← hW0] at Hb0 Hsv HL HI Hv HE gb Hblk
 have d0 : (m.t == 0) = true := by simpa using ht
 clear ht
 have g2 := gb 2
 have ha := chk_a hc
 clear HS Hsv HL HI Hv HE hv hr hE gb Hblk hl2 hi2 hS
 by_cases hle : m.a ≤ (s.length : Int)
 ·have e : min m.a.toNat s.length = m.a.toNat := by omega
  have e2 : ((m.a.toNat : Nat) : Int) = m.a := by omega
  have hmin : min m.a (s.length : Int) = m.a := by omega
  rw [e, e2]
  clear e e2
  go_enter Tryz.func70, Tryz.ntmps70
  go_wp2
  rw [← HW0.out]
  go_ret
  exact ⟨rfl, Hb0.out⟩
 ·have e : min m.a.toNat s.length = s.length := by omega
  have hmin : min m.a (s.length : Int) = (s.length : Int) := by omega
  rw [e]
  clear e
  go_enter Tryz.func70, Tryz.ntmps70
  go_wp2
  rw [← HW0.out]
  go_ret
  exact ⟨rfl, Hb0.out⟩
theorem Vj3 (E : Nat → Addr) (k : Nat) (m : Mat) (v sv : Value) (s : List Int) (w : World) (hv : MatV w w.heap.size v m) (_hs : Sml m) (hc : chk m = 0) (hr : Row w w.heap.size sv s) (hS : InN (nN m) s) (hE : Env E w) (ht : m.t = 1) : Calls Tryz.prog 70 #[v, sv] w (Tells w (rkP (k + 1) m (memP s) : Nat)) := by
 rw [rkP_1 ht]
 have hg := K4_ hc ht
 have ha := chk_a hc
 have hec := Zb7 hc ht hS
 have hli := Zm9 (s := s) hc ht
 have hnc := Z8_ hc
 have h2 : ∀ i, i < m.l.length → (m.l.getD i []).length = 2 := fun i hi => by have := (hg.2.2 i hi).1; omega
 have hsr : ∀ j, j < s.length → 0 ≤ s.getD j 0 ∧ s.getD j 0 < (m.l.length : Int) := fun j hj => by have := F9_ hS hj; omega
 have hll : m.l.length ≤ 1000 := by omega
 have hel : (edgP (nN m) (edgOf m) (memP s)).length ≤ 4096 := by unfold edgP; rw [List.length_map]; have := N1_ (nN m) (memP s); omega
 obtain ⟨A, hA⟩ : ∃ A : Nat, m.a = (A : Int) := ⟨m.a.toNat, by omega⟩
 rw [hA, Int.toNat_natCast] at hli
 have hA1 : 1 ≤ A := by omega
 have hA64 : A ≤ 64 := by omega
 have Hres : Hid ((K2_ A (nN m) (edgOf m) (memP s) : Nat) = rankN A (edgP (nN m) (edgOf m) (memP s))) := hid (by unfold K2_ rankN; have := Zy1 A (edgP (nN m) (edgOf m) (memP s)); omega)
 rw [hA, Int.toNat_natCast]
 have HS := hid hS
 have hsl := Y3_ hS
 have hn64 := (Z8_ hc).2
 have hsI : (s.length : Int) ≤ 64 := by omega
 have hsB : s.length ≤ 1048576 := by omega
 obtain ⟨lv, iv, rfl, hl2, hi2⟩ := hv.open
 obtain ⟨Al, cl, rfl, _⟩ := id hl2
 obtain ⟨Ai, ci, rfl, _⟩ := id hi2
 obtain ⟨As, cs, rfl, _⟩ := id hr
 have Hb0 := hid (Z1_ w m (.slice Al m.l.length cl) (.slice Ai m.i.length ci))
 have Hblk := hid (Z3_ w m (.slice Al m.l.length cl) (.slice Ai m.i.length ci))
 have Hsv := hid (hr.up Hb0.out)
 have HL := hid (hl2.up Hb0.out)
 have HI := hid (hi2.up Hb0.out)
 have Hv := hid (hv.up Hb0.out)
 have HE := hid (hE.up Hb0.out)
 unfold boxed at *
 have gb := Hblk.out.cell
 obtain ⟨W0, hW0⟩ : ∃ W0, W0 = w.alloc (.cells #[.int .i64 m.t, .int .i64 m.n, .int .i64 m.a, .int .i64 m.b, .slice Al m.l.length cl, .slice Ai m.i.length ci] 25) := ⟨_, rfl⟩
 have HW0 := hid hW0
 have hlt : w.heap.size < W0.heap.size := by rw [hW0]; simp
 rw [← hW0] at Hb0 Hsv HL HI Hv HE gb Hblk
 have d0 : (m.t == 0) = false := by simp; omega
 have d1 : (m.t == 1) = true := by simpa using ht
 clear ht
 have K1 : Hid (∀ W, Below W0.drew.heap.size W0.drew W → W.cell? ⟨w.heap.size, 2, none⟩ = some (.int .i64 m.a) ∧ W.cell? ⟨w.heap.size, 4, none⟩ = some (.slice Al m.l.length cl)) := hid fun W hW => ⟨(hW.cell (p := ⟨w.heap.size, 2, none⟩) hlt).trans (gb 2), (hW.cell (p := ⟨w.heap.size, 4, none⟩) hlt).trans (gb 4)⟩
 have HB : Hid (Below W0.drew.heap.size W0.drew W0.drew) := hid (Below.refl _ _)
 have hbd := (Below.refl W0.heap.size W0).drew
 replace Hsv := hid (Hsv.out.up hbd)
 replace HL := hid (HL.out.up hbd)
 replace HI := hid (HI.out.up hbd)
 replace Hv := hid (Hv.out.up hbd)
 replace HE := hid (HE.out.up hbd)
 clear gb Hblk hbd
 have Hec := hid hec
 have Hli := hid hli
 have H2 := hid h2
 have Hsr := hid hsr
 have Hel := hid hel
 rw [hA] at K1
 have HA := hid hA
 generalize edgP (nN m) (edgOf m) (memP s) = ns at *
 generalize K2_ A (nN m) (edgOf m) (memP s) = G at *
 clear hv hr hE hl2 hi2 hS hA hg ha hec hli hnc h2 hsr hel HI Hv HE
 go_enter Tryz.func70, Tryz.ntmps70
 go_wp2
 rw [← HW0.out]
 clear hW0
 rw [HA.out]
 go_region_held3 (fun W => W.cell? ⟨w.heap.size, 2, none⟩ = some (.int .i64 (A : Int)) ∧ W.cell? ⟨w.heap.size, 4, none⟩ = some (.slice Al m.l.length cl))
  (exact K1.out _ HB.out)
  (first
  | (go_at_call 83; refine (Yr3 _ _ m.l s _ HL.out Hsv.out Hsr.out H2.out hll (by omega)).mono ?_; rintro e w1 ⟨v1, rfl, hr1, hb1⟩; rw [Hec.out] at hr1; replace HB := hid (Z0_ HB.out (le_refl _) hb1); have Hr1 := hid hr1; clear hr1 hb1)
  | (go_at_call 82; refine (Yn7 A _ ns _ Hr1.out hA1 hA64 Hel.out Hli.out).mono ?_; rintro e w2 ⟨rfl, hb2⟩; replace HB := hid (Z0_ HB.out (le_refl _) hb2); clear hb2))
 all_goals
  have Hb9 := hid (Z0_ Hb0.out.drew (le_refl _) HB.out)
  clear HB
  go_simp
  go_wp2
  go_ret
  exact ⟨by rw [← Hres.out]; rfl, Hb9.out⟩
theorem Vj4 (E : Nat → Addr) (k : Nat) (m : Mat) (v sv : Value) (s : List Int) (w : World) (hv : MatV w w.heap.size v m) (_hs : Sml m) (hc : chk m = 0) (hr : Row w w.heap.size sv s) (hS : InN (nN m) s) (hE : Env E w) (ht : m.t = 2) : Calls Tryz.prog 70 #[v, sv] w (Tells w (rkP (k + 1) m (memP s) : Nat)) := by
 rw [rkP_2 ht]
 obtain ⟨p1, p2, p3, p4, p5⟩ := W3_ hc ht
 have ha := chk_a hc
 have hnc := Z8_ hc
 obtain ⟨A, hA⟩ : ∃ A : Nat, m.a = (A : Int) := ⟨m.a.toNat, by omega⟩
 rw [hA, Int.toNat_natCast]
 have HS := hid hS
 have hsl := Y3_ hS
 have hn64 := (Z8_ hc).2
 have hsI : (s.length : Int) ≤ 64 := by omega
 have hsB : s.length ≤ 1048576 := by omega
 obtain ⟨lv, iv, rfl, hl2, hi2⟩ := hv.open
 obtain ⟨Al, cl, rfl, _⟩ := id hl2
 obtain ⟨Ai, ci, rfl, _⟩ := id hi2
 obtain ⟨As, cs, rfl, _⟩ := id hr
 have Hb0 := hid (Z1_ w m (.slice Al m.l.length cl) (.slice Ai m.i.length ci))
 have Hblk := hid (Z3_ w m (.slice Al m.l.length cl) (.slice Ai m.i.length ci))
 have Hsv := hid (hr.up Hb0.out)
 have HL := hid (hl2.up Hb0.out)
 have HI := hid (hi2.up Hb0.out)
 have Hv := hid (hv.up Hb0.out)
 have HE := hid (hE.up Hb0.out)
 unfold boxed at *
 have gb := Hblk.out.cell
 obtain ⟨W0, hW0⟩ : ∃ W0, W0 = w.alloc (.cells #[.int .i64 m.t, .int .i64 m.n, .int .i64 m.a, .int .i64 m.b, .slice Al m.l.length cl, .slice Ai m.i.length ci] 25) := ⟨_, rfl⟩
 have HW0 := hid hW0
 have hlt : w.heap.size < W0.heap.size := by rw [hW0]; simp
 rw [← hW0] at Hb0 Hsv HL HI Hv HE gb Hblk
 have d0 : (m.t == 0) = false := by simp; omega
 have d1 : (m.t == 1) = false := by simp; omega
 have d2 : (m.t == 2) = true := by simpa using ht
 clear ht
 have Hlen : Hid ((row m 0).length = nN m ∧ (row m 1).length = A ∧ (∀ i, i < nN m → 0 ≤ (row m 0).getD i 0 ∧ (row m 0).getD i 0 < (A : Int)) ∧ (∀ i, i < A → 0 ≤ (row m 1).getD i 0 ∧ (row m 1).getD i 0 < 65) ∧ A ≤ 64) := hid ⟨by omega, by omega, fun i hi => by have := p4 i (by omega); omega, fun i hi => p5 i (by omega), by omega⟩
 have hl2' : m.l.length = 2 := p1
 obtain ⟨Al', cl', he, _, hlk⟩ := hl2
 injection he with he1 he2 he3
 subst he1 he3
 obtain ⟨ad, u0, hA0, hab, hc0, hr0⟩ := hlk 0 (by omega)
 subst hA0
 obtain ⟨ad', u1, hA1, _, hc1, hr1⟩ := hlk 1 (by omega)
 obtain rfl := Option.some.inj hA1
 rw [add_zero] at hc0
 rw [show ad.add 1 = (⟨ad.block, ad.off + 1, none⟩ : Addr) by simp [Addr.add]] at hc1
 have HR0 : Hid (Row W0.drew W0.drew.heap.size u0 (row m 0)) := hid ((hr0.up Hb0.out).up (Below.refl _ _).drew)
 have HR1 : Hid (Row W0.drew W0.drew.heap.size u1 (row m 1)) := hid ((hr1.up Hb0.out).up (Below.refl _ _).drew)
 have gr0 := (Hb0.out.cell (p := ad) hab).trans hc0
 have gr1 := (Hb0.out.cell (p := ⟨ad.block, ad.off + 1, none⟩) hab).trans hc1
 have habW : ad.block < W0.heap.size := by omega
 have hlI0 : (0 : Int) < (m.l.length : Int) := by omega
 have hlI1 : (1 : Int) < (m.l.length : Int) := by omega
 have hlN0 : 0 < m.l.length := by omega
 have hlN1 : 1 < m.l.length := by omega
 have hbd := (Below.refl W0.heap.size W0).drew
 replace Hsv := hid (Hsv.out.up hbd)
 have K1 : Hid (∀ W, Below W0.drew.heap.size W0.drew W → W.cell? ⟨w.heap.size, 4, none⟩ = some (.slice (some ad) m.l.length cl) ∧ W.cell? ad = some u0 ∧ W.cell? ⟨ad.block, ad.off + 1, none⟩ = some u1) := hid fun W hW => ⟨(hW.cell (p := ⟨w.heap.size, 4, none⟩) hlt).trans (gb 4), (hW.cell (p := ad) habW).trans gr0, (hW.cell (p := ⟨ad.block, ad.off + 1, none⟩) habW).trans gr1⟩
 have HB : Hid (Below W0.drew.heap.size W0.drew W0.drew) := hid (Below.refl _ _)
 have Hres : Hid (partR A (nN m) (clsOf m) (Zl9 m) (memP s) = partR A (nN m) (fun i => ((row m 0).getD i 0).toNat) (fun c => ((row m 1).getD c 0).toNat) (memP s)) := hid rfl
 have Hof := hid (fun (W : World) (q0 : Row W W.heap.size u0 (row m 0)) (q1 : Row W W.heap.size u1 (row m 1)) (q2 : Row W W.heap.size (.slice As s.length cs) s) => Zf9 u0 u1 _ (row m 0) (row m 1) s (nN m) A W q0 q1 q2 HS.out Hlen.out.1 Hlen.out.2.1 Hlen.out.2.2.1 Hlen.out.2.2.2.1 hn64 Hlen.out.2.2.2.2)
 clear hv hr hE hi2 hS hA p1 p2 p3 p4 p5 ha hnc gb Hblk hbd gr0 gr1 hc0 hc1 hr0 hr1 hlk hl2' he2 HL HI Hv HE
 generalize partR A (nN m) (clsOf m) (Zl9 m) (memP s) = G at *
 generalize partR A (nN m) (fun i => ((row m 0).getD i 0).toNat) (fun c => ((row m 1).getD c 0).toNat) (memP s) = G2 at *
 go_enter Tryz.func70, Tryz.ntmps70
 go_wp2
 rw [← HW0.out]
 clear hW0
 go_region_held3 (fun W => W.cell? ⟨w.heap.size, 4, none⟩ = some (.slice (some ad) m.l.length cl) ∧ W.cell? ad = some u0 ∧ W.cell? ⟨ad.block, ad.off + 1, none⟩ = some u1)
  (exact K1.out _ HB.out)
  (first
  | (go_at_call 84; refine (Hof.out _ HR0.out HR1.out Hsv.out).mono ?_; rintro e w2 ⟨rfl, hb2⟩; replace HB := hid (Z0_ HB.out (le_refl _) hb2); clear hb2))
 all_goals
  have Hb9 := hid (Z0_ Hb0.out.drew (le_refl _) HB.out)
  clear HB
  go_simp
  go_wp2
  go_ret
  exact ⟨by rw [Hres.out]; rfl, Hb9.out⟩
theorem Vj5 (E : Nat → Addr) (k : Nat) (m : Mat) (v sv : Value) (s : List Int) (w : World) (hv : MatV w w.heap.size v m) (_hs : Sml m) (hc : chk m = 0) (hr : Row w w.heap.size sv s) (hS : InN (nN m) s) (hE : Env E w) (ht : m.t = 3) : Calls Tryz.prog 70 #[v, sv] w (Tells w (rkP (k + 1) m (memP s) : Nat)) := by
 rw [rkP_3 ht]
 obtain ⟨p1, p2⟩ := Zx7 hc ht
 have ha := chk_a hc
 have hnc := Z8_ hc
 have hsr : ∀ j, j < s.length → 0 ≤ s.getD j 0 ∧ s.getD j 0 < (m.l.length : Int) := fun j hj => by have := F9_ hS hj; omega
 have hll : m.l.length ≤ 1000 := by omega
 obtain ⟨adj, hadj⟩ : ∃ adj, adj = (pickN (nN m) (memP s)).map fun i => m.l.getD i [] := ⟨_, rfl⟩
 have Hpk : Hid (D3_ m.l s = adj) := hid (by rw [hadj]; exact N2_ hS)
 have Hmay : Hid (K.mayM m.a adj = true) := hid (by rw [mayK, hadj]; exact Yf9 p2 (by omega))
 have Hbig : Hid (∀ (l2 : List Int) (q : Nat), ((K.mayM m.a adj = false ∧ l2 = [] ∧ q = 0) ∨ (K.mayM m.a adj = true ∧ ∃ hs os, K.Great m.a.toNat adj hs os adj.length ∧ l2 = (List.range adj.length).map hs ∧ q = K.msize adj hs)) → covR (nN m) m.a.toNat (Yj8 m) (memP s) = q) := hid fun l2 q h => by
  rcases h with ⟨h1, _⟩ | ⟨_, hs2, os2, hg, _, e2⟩
  ·rw [Hmay.out] at h1; cases h1
  ·rw [e2]; exact Xc3 hadj (K.great_big hg (K.onR_of_may Hmay.out))
 have HS := hid hS
 have hsl := Y3_ hS
 have hn64 := (Z8_ hc).2
 have hsI : (s.length : Int) ≤ 64 := by omega
 have hsB : s.length ≤ 1048576 := by omega
 obtain ⟨lv, iv, rfl, hl2, hi2⟩ := hv.open
 obtain ⟨Al, cl, rfl, _⟩ := id hl2
 obtain ⟨Ai, ci, rfl, _⟩ := id hi2
 obtain ⟨As, cs, rfl, _⟩ := id hr
 have Hb0 := hid (Z1_ w m (.slice Al m.l.length cl) (.slice Ai m.i.length ci))
 have Hblk := hid (Z3_ w m (.slice Al m.l.length cl) (.slice Ai m.i.length ci))
 have Hsv := hid (hr.up Hb0.out)
 have HL := hid (hl2.up Hb0.out)
 have HI := hid (hi2.up Hb0.out)
 have Hv := hid (hv.up Hb0.out)
 have HE := hid (hE.up Hb0.out)
 unfold boxed at *
 have gb := Hblk.out.cell
 obtain ⟨W0, hW0⟩ : ∃ W0, W0 = w.alloc (.cells #[.int .i64 m.t, .int .i64 m.n, .int .i64 m.a, .int .i64 m.b, .slice Al m.l.length cl, .slice Ai m.i.length ci] 25) := ⟨_, rfl⟩
 have HW0 := hid hW0
 have hlt : w.heap.size < W0.heap.size := by rw [hW0]; simp
 rw [← hW0] at Hb0 Hsv HL HI Hv HE gb Hblk
 have d0 : (m.t == 0) = false := by simp; omega
 have d1 : (m.t == 1) = false := by simp; omega
 have d2 : (m.t == 2) = false := by simp; omega
 have d3 : (m.t == 3) = true := by simpa using ht
 clear ht
 have K1 : Hid (∀ W, Below W0.drew.heap.size W0.drew W → W.cell? ⟨w.heap.size, 2, none⟩ = some (.int .i64 m.a) ∧ W.cell? ⟨w.heap.size, 4, none⟩ = some (.slice Al m.l.length cl)) := hid fun W hW => ⟨(hW.cell (p := ⟨w.heap.size, 2, none⟩) hlt).trans (gb 2), (hW.cell (p := ⟨w.heap.size, 4, none⟩) hlt).trans (gb 4)⟩
 have HB : Hid (Below W0.drew.heap.size W0.drew W0.drew) := hid (Below.refl _ _)
 have hbd := (Below.refl W0.heap.size W0).drew
 replace Hsv := hid (Hsv.out.up hbd)
 replace HL := hid (HL.out.up hbd)
 replace HI := hid (HI.out.up hbd)
 replace Hv := hid (Hv.out.up hbd)
 replace HE := hid (HE.out.up hbd)
 clear gb Hblk hbd
 have Hsr := hid hsr
 generalize covR (nN m) m.a.toNat (Yj8 m) (memP s) = G at *
 clear hv hr hE hl2 hi2 hS p1 p2 ha hnc hsr HI Hv HE hadj
 go_enter Tryz.func70, Tryz.ntmps70
 go_wp2
 rw [← HW0.out]
 clear hW0
 go_region_held3 (fun W => W.cell? ⟨w.heap.size, 2, none⟩ = some (.int .i64 m.a) ∧ W.cell? ⟨w.heap.size, 4, none⟩ = some (.slice Al m.l.length cl))
  (exact K1.out _ HB.out)
  (first
  | (go_at_call 86; refine (Zb6 _ _ m.l s _ HL.out Hsv.out Hsr.out hll (by omega)).mono ?_; rintro e w1 ⟨v1, rfl, hr1, hb1⟩; rw [Hpk.out] at hr1; replace HB := hid (Z0_ HB.out (le_refl _) hb1); have Hr1 := hid hr1; clear hr1 hb1)
  | (go_at_call 85; refine (K.max_any m.a _ adj _ Hr1.out).mono ?_; rintro e w2 ⟨v2, l2, q, rfl, _, hb2, hbig⟩; replace HB := hid (Z0_ HB.out (le_refl _) hb2); have Hq : Hid (G = q) := hid (Hbig.out _ q hbig); clear hbig hb2))
 all_goals
  have Hb9 := hid (Z0_ Hb0.out.drew (le_refl _) HB.out)
  clear HB
  go_simp
  go_wp2
  go_ret
  exact ⟨by rw [Hq.out]; rfl, Hb9.out⟩
theorem Vj6 (E : Nat → Addr) (k : Nat) (m : Mat) (v sv : Value) (s : List Int) (w : World) (hv : MatV w w.heap.size v m) (_hs : Sml m) (hc : chk m = 0) (hr : Row w w.heap.size sv s) (hS : InN (nN m) s) (hE : Env E w) (ht : m.t = 4) : Calls Tryz.prog 70 #[v, sv] w (Tells w (rkP (k + 1) m (memP s) : Nat)) := by
 rw [rkP_4 ht]
 obtain ⟨p1, p2⟩ := Zt7 hc ht
 have hnc := Z8_ hc
 have hsr : ∀ j, j < s.length → 0 ≤ s.getD j 0 ∧ s.getD j 0 < (m.l.length : Int) := fun j hj => by have := F9_ hS hj; omega
 have hll : m.l.length ≤ 1000 := by omega
 obtain ⟨adj, hadj⟩ : ∃ adj, adj = (pickN (nN m) (memP s)).map fun i => m.l.getD i [] := ⟨_, rfl⟩
 have Hpk : Hid (D3_ m.l s = adj) := hid (by rw [hadj]; exact N2_ hS)
 have Hres : Hid (L.rankI m.b m.a adj = (linR m.b m.a.toNat (nN m) (colOf m) (memP s) : Nat)) := hid (Xk2 hadj (by rw [elimK, hadj]; exact Zj0 p2 (by omega)))
 have HS := hid hS
 have hsl := Y3_ hS
 have hn64 := (Z8_ hc).2
 have hsI : (s.length : Int) ≤ 64 := by omega
 have hsB : s.length ≤ 1048576 := by omega
 obtain ⟨lv, iv, rfl, hl2, hi2⟩ := hv.open
 obtain ⟨Al, cl, rfl, _⟩ := id hl2
 obtain ⟨Ai, ci, rfl, _⟩ := id hi2
 obtain ⟨As, cs, rfl, _⟩ := id hr
 have Hb0 := hid (Z1_ w m (.slice Al m.l.length cl) (.slice Ai m.i.length ci))
 have Hblk := hid (Z3_ w m (.slice Al m.l.length cl) (.slice Ai m.i.length ci))
 have Hsv := hid (hr.up Hb0.out)
 have HL := hid (hl2.up Hb0.out)
 have HI := hid (hi2.up Hb0.out)
 have Hv := hid (hv.up Hb0.out)
 have HE := hid (hE.up Hb0.out)
 unfold boxed at *
 have gb := Hblk.out.cell
 obtain ⟨W0, hW0⟩ : ∃ W0, W0 = w.alloc (.cells #[.int .i64 m.t, .int .i64 m.n, .int .i64 m.a, .int .i64 m.b, .slice Al m.l.length cl, .slice Ai m.i.length ci] 25) := ⟨_, rfl⟩
 have HW0 := hid hW0
 have hlt : w.heap.size < W0.heap.size := by rw [hW0]; simp
 rw [← hW0] at Hb0 Hsv HL HI Hv HE gb Hblk
 have d0 : (m.t == 0) = false := by simp; omega
 have d1 : (m.t == 1) = false := by simp; omega
 have d2 : (m.t == 2) = false := by simp; omega
 have d3 : (m.t == 3) = false := by simp; omega
 have d4 : (m.t == 4) = true := by simpa using ht
 clear ht
 have K1 : Hid (∀ W, Below W0.drew.heap.size W0.drew W → W.cell? ⟨w.heap.size, 2, none⟩ = some (.int .i64 m.a) ∧ W.cell? ⟨w.heap.size, 3, none⟩ = some (.int .i64 m.b) ∧ W.cell? ⟨w.heap.size, 4, none⟩ = some (.slice Al m.l.length cl)) := hid fun W hW => ⟨(hW.cell (p := ⟨w.heap.size, 2, none⟩) hlt).trans (gb 2), (hW.cell (p := ⟨w.heap.size, 3, none⟩) hlt).trans (gb 3), (hW.cell (p := ⟨w.heap.size, 4, none⟩) hlt).trans (gb 4)⟩
 have HB : Hid (Below W0.drew.heap.size W0.drew W0.drew) := hid (Below.refl _ _)
 have hbd := (Below.refl W0.heap.size W0).drew
 replace Hsv := hid (Hsv.out.up hbd)
 replace HL := hid (HL.out.up hbd)
 replace HI := hid (HI.out.up hbd)
 replace Hv := hid (Hv.out.up hbd)
 replace HE := hid (HE.out.up hbd)
 clear gb Hblk hbd
 have Hsr := hid hsr
 generalize linR m.b m.a.toNat (nN m) (colOf m) (memP s) = G at *
 clear hv hr hE hl2 hi2 hS p1 p2 hnc hsr HI Hv hadj
 go_enter Tryz.func70, Tryz.ntmps70
 go_wp2
 rw [← HW0.out]
 clear hW0
 go_region_held3 (fun W => W.cell? ⟨w.heap.size, 2, none⟩ = some (.int .i64 m.a) ∧ W.cell? ⟨w.heap.size, 3, none⟩ = some (.int .i64 m.b) ∧ W.cell? ⟨w.heap.size, 4, none⟩ = some (.slice Al m.l.length cl))
  (exact K1.out _ HB.out)
  (first
  | (go_at_call 86; refine (Zb6 _ _ m.l s _ HL.out Hsv.out Hsr.out hll (by omega)).mono ?_; rintro e w1 ⟨v1, rfl, hr1, hb1⟩; rw [Hpk.out] at hr1; replace HB := hid (Z0_ HB.out (le_refl _) hb1); replace HE := hid (HE.out.up hb1); have Hr1 := hid hr1; clear hr1 hb1)
  | (go_at_call 87; refine (L.rank_any m.b m.a _ adj _ HE.out.tab Hr1.out).mono ?_; rintro e w2 ⟨rfl, hb2⟩; rw [Hres.out]; replace HB := hid (Z0_ HB.out (le_refl _) hb2); clear hb2))
 all_goals
  have Hb9 := hid (Z0_ Hb0.out.drew (le_refl _) HB.out)
  clear HB
  go_simp
  go_wp2
  go_ret
  exact ⟨rfl, Hb9.out⟩
theorem W6_ (E : Nat → Addr) (_k : Nat) (m : Mat) (v sv : Value) (s : List Int) (w : World) (hv : MatV w w.heap.size v m) (_hs : Sml m) (hc : chk m = 0) (hr : Row w w.heap.size sv s) (hS : InN (nN m) s) (hE : Env E w) (ht : 5 ≤ m.t ∧ m.t ≤ 8) (G : Nat) (Hone : ∀ (v sv : Value) (W : World), MatV W W.heap.size v m → Row W W.heap.size sv s → Env E W → Calls Tryz.prog 89 #[v, sv] W (Tells W (G : Int))) : Calls Tryz.prog 70 #[v, sv] w (Tells w (G : Int)) := by
 have Hone := hid Hone
 have HS := hid hS
 have hsl := Y3_ hS
 have hn64 := (Z8_ hc).2
 have hsI : (s.length : Int) ≤ 64 := by omega
 have hsB : s.length ≤ 1048576 := by omega
 obtain ⟨lv, iv, rfl, hl2, hi2⟩ := hv.open
 obtain ⟨Al, cl, rfl, _⟩ := id hl2
 obtain ⟨Ai, ci, rfl, _⟩ := id hi2
 obtain ⟨As, cs, rfl, _⟩ := id hr
 have Hb0 := hid (Z1_ w m (.slice Al m.l.length cl) (.slice Ai m.i.length ci))
 have Hblk := hid (Z3_ w m (.slice Al m.l.length cl) (.slice Ai m.i.length ci))
 have Hsv := hid (hr.up Hb0.out)
 have HL := hid (hl2.up Hb0.out)
 have HI := hid (hi2.up Hb0.out)
 have Hv := hid (hv.up Hb0.out)
 have HE := hid (hE.up Hb0.out)
 unfold boxed at *
 have gb := Hblk.out.cell
 obtain ⟨W0, hW0⟩ : ∃ W0, W0 = w.alloc (.cells #[.int .i64 m.t, .int .i64 m.n, .int .i64 m.a, .int .i64 m.b, .slice Al m.l.length cl, .slice Ai m.i.length ci] 25) := ⟨_, rfl⟩
 have HW0 := hid hW0
 have hlt : w.heap.size < W0.heap.size := by rw [hW0]; simp
 rw [← hW0] at Hb0 Hsv HL HI Hv HE gb Hblk
 have d0 : (m.t == 0) = false := by simp; omega
 have d1 : (m.t == 1) = false := by simp; omega
 have d2 : (m.t == 2) = false := by simp; omega
 have d3 : (m.t == 3) = false := by simp; omega
 have d4 : (m.t == 4) = false := by simp; omega
 have d9 : (m.t == 9) = false := by simp; omega
 clear ht
 have g0 := gb 0
 have g1 := gb 1
 have g2 := gb 2
 have g3 := gb 3
 have g4 := gb 4
 have g5 := gb 5
 clear hv hr hE hl2 hi2 hS HI HL gb Hblk
 go_enter Tryz.func70, Tryz.ntmps70
 rw [hW0] at g0 g1 g2 g3 g4 g5 Hv Hsv HE Hb0
 clear hW0 HW0 hlt
 go_wp2_with fail
 refine (Hone.out _ _ _ Hv.out Hsv.out HE.out).mono ?_
 rintro e w1 ⟨rfl, hb1⟩
 have Hb1 := hid (Z0_ Hb0.out (le_refl _) hb1)
 clear hb1 g0 g1 g2 g3 g4 g5
 go_wp2
 go_ret
 exact ⟨rfl, Hb1.out⟩
theorem Vj7 (E : Nat → Addr) (_k : Nat) (m : Mat) (v sv : Value) (s : List Int) (w : World) (hv : MatV w w.heap.size v m) (_hs : Sml m) (hc : chk m = 0) (hr : Row w w.heap.size sv s) (hS : InN (nN m) s) (hE : Env E w) (ht : m.t = 9) (G : Nat) (Hsum : ∀ (iv sv : Value) (W : World), MatL W W.heap.size iv m.i → Row W W.heap.size sv s → Env E W → Calls Tryz.prog 88 #[iv, sv] W (Tells W (G : Int))) : Calls Tryz.prog 70 #[v, sv] w (Tells w (G : Int)) := by
 have Hsum := hid Hsum
 have HS := hid hS
 have hsl := Y3_ hS
 have hn64 := (Z8_ hc).2
 have hsI : (s.length : Int) ≤ 64 := by omega
 have hsB : s.length ≤ 1048576 := by omega
 obtain ⟨lv, iv, rfl, hl2, hi2⟩ := hv.open
 obtain ⟨Al, cl, rfl, _⟩ := id hl2
 obtain ⟨Ai, ci, rfl, _⟩ := id hi2
 obtain ⟨As, cs, rfl, _⟩ := id hr
 have Hb0 := hid (Z1_ w m (.slice Al m.l.length cl) (.slice Ai m.i.length ci))
 have Hblk := hid (Z3_ w m (.slice Al m.l.length cl) (.slice Ai m.i.length ci))
 have Hsv := hid (hr.up Hb0.out)
 have HL := hid (hl2.up Hb0.out)
 have HI := hid (hi2.up Hb0.out)
 have Hv := hid (hv.up Hb0.out)
 have HE := hid (hE.up Hb0.out)
 unfold boxed at *
 have gb := Hblk.out.cell
 obtain ⟨W0, hW0⟩ : ∃ W0, W0 = w.alloc (.cells #[.int .i64 m.t, .int .i64 m.n, .int .i64 m.a, .int .i64 m.b, .slice Al m.l.length cl, .slice Ai m.i.length ci] 25) := ⟨_, rfl⟩
 have HW0 := hid hW0
 have hlt : w.heap.size < W0.heap.size := by rw [hW0]; simp
 rw [← hW0] at Hb0 Hsv HL HI Hv HE gb Hblk
 have d0 : (m.t == 0) = false := by simp; omega
 have d1 : (m.t == 1) = false := by simp; omega
 have d2 : (m.t == 2) = false := by simp; omega
 have d3 : (m.t == 3) = false := by simp; omega
 have d4 : (m.t == 4) = false := by simp; omega
 have d9 : (m.t == 9) = true := by simpa using ht
 clear ht
 have g0 := gb 0
 have g5 := gb 5
 clear hv hr hE hl2 hi2 hS Hv HL gb Hblk
 go_enter Tryz.func70, Tryz.ntmps70
 rw [hW0] at g0 g5 HI Hsv HE Hb0
 clear hW0 HW0 hlt
 go_wp2_with fail
 refine (Hsum.out _ _ _ HI.out Hsv.out HE.out).mono ?_
 rintro e w1 ⟨rfl, hb1⟩
 have Hb1 := hid (Z0_ Hb0.out (le_refl _) hb1)
 clear hb1 g0 g5
 go_wp2
 go_ret
 exact ⟨rfl, Hb1.out⟩
open Go.RowKit
theorem one_7 (E : Nat → Addr) (k : Nat) (m : Mat) (v sv : Value) (s : List Int) (w : World) (hv : MatV w w.heap.size v m) (hs : Sml m) (hc : chk m = 0) (hr : Row w w.heap.size sv s) (hS : InN (nN m) s) (hE : Env E w) (ih : Zb9 E k) (hd : dp 4 m ≤ k + 1) (ht : m.t = 7) : Calls Tryz.prog 89 #[v, sv] w (Tells w (rkP (k + 1) m (memP s) : Nat)) := by
 rw [rkP_7 ht]
 have hsn : nN m = nN (inn m) := by unfold nN; rw [F3_ hc (.inl ht)]
 have ha := chk_a hc
 have HS := hid hS
 have hsl := Y3_ hS
 have hn64 := (Z8_ hc).2
 have hsI : (s.length : Int) ≤ 64 := by omega
 have hsB : s.length ≤ 1048576 := by omega
 obtain ⟨lv, iv, rfl, hl2, hi2⟩ := hv.open
 obtain ⟨Al, cl, rfl, _⟩ := id hl2
 obtain ⟨Ai, ci, rfl, _⟩ := id hi2
 obtain ⟨As, cs, rfl, _⟩ := id hr
 have Hb0 := hid (Z1_ w m (.slice Al m.l.length cl) (.slice Ai m.i.length ci))
 have Hblk := hid (Z3_ w m (.slice Al m.l.length cl) (.slice Ai m.i.length ci))
 have Hsv := hid (hr.up Hb0.out)
 have HL := hid (hl2.up Hb0.out)
 have HI := hid (hi2.up Hb0.out)
 have Hv := hid (hv.up Hb0.out)
 have HE := hid (hE.up Hb0.out)
 unfold boxed at *
 have gb := Hblk.out.cell
 obtain ⟨W0, hW0⟩ : ∃ W0, W0 = w.alloc (.cells #[.int .i64 m.t, .int .i64 m.n, .int .i64 m.a, .int .i64 m.b, .slice Al m.l.length cl, .slice Ai m.i.length ci] 25) := ⟨_, rfl⟩
 have HW0 := hid hW0
 have hlt : w.heap.size < W0.heap.size := by rw [hW0]; simp
 rw [← hW0] at Hb0 Hsv HL HI Hv HE gb Hblk
 obtain ⟨q1, q2, q3⟩ := J0_ hc (by omega)
 have hil : m.i.length = 1 := by rw [q1]; rfl
 obtain ⟨Ai', ci', he, _, hik⟩ := hi2
 injection he with he1 he2 he3
 subst he1 he3
 obtain ⟨ai, ui, hA0, hab, hsix, hmv⟩ := hik 0 (by omega)
 subst hA0
 rw [show (0 : Nat) * 6 = 0 from rfl, add_zero] at hsix
 rw [show m.i.getD 0 default = inn m from rfl] at hmv
 obtain ⟨lx, ix, hux, hlx, hix⟩ := hmv.open
 obtain ⟨x0, x1, x2, x3, x4, x5, hu6, s0, s1, s2, s3, s4, s5⟩ := hsix
 rw [hux] at hu6
 injection hu6 with hu6
 injection hu6 with hu6
 injection hu6 with h0 hu6
 injection hu6 with h1 hu6
 injection hu6 with h2 hu6
 injection hu6 with h3 hu6
 injection hu6 with h4 hu6
 injection hu6 with h5 _
 subst h0 h1 h2 h3 h4 h5
 have hsx := sml_i hs (Y1_ m.i 0 default (by omega))
 rw [show m.i.getD 0 default = inn m from rfl] at hsx
 have hiI : (0 : Int) < (m.i.length : Int) := by omega
 have hiN : 0 < m.i.length := by omega
 obtain ⟨x, hx⟩ : ∃ x, inn m = x := ⟨_, rfl⟩
 simp only [hx] at hmv hlx hix s0 s1 s2 s3 s4 s5 hsx q2 q3 hux ⊢
 have Hx := hid hx
 obtain ⟨Alx, clx, rfl, _⟩ := id hlx
 obtain ⟨Aix, cix, rfl, _⟩ := id hix
 subst hux
 have t0 := (Hb0.out.cell (p := ai) hab).trans s0
 have t1 := (Hb0.out.cell (p := ⟨ai.block, ai.off + 1, none⟩) hab).trans s1
 have t2 := (Hb0.out.cell (p := ⟨ai.block, ai.off + 2, none⟩) hab).trans s2
 have t3 := (Hb0.out.cell (p := ⟨ai.block, ai.off + 3, none⟩) hab).trans s3
 have t4 := (Hb0.out.cell (p := ⟨ai.block, ai.off + 4, none⟩) hab).trans s4
 have t5 := (Hb0.out.cell (p := ⟨ai.block, ai.off + 5, none⟩) hab).trans s5
 have Hmv := hid (hmv.up Hb0.out)
 obtain ⟨W1, hW1⟩ : ∃ W1, W1 = (w.alloc (.cells #[.int .i64 m.t, .int .i64 m.n, .int .i64 m.a, .int .i64 m.b, .slice Al m.l.length cl, .slice (some ai) m.i.length ci] 25)).alloc (.cells #[.int .i64 x.t, .int .i64 x.n, .int .i64 x.a, .int .i64 x.b, .slice Alx x.l.length clx, .slice Aix x.i.length cix] 25) := ⟨_, rfl⟩
 have HW1 := hid hW1
 have hb1 : Below w.heap.size w W1 := by rw [hW1]; exact ((Below.refl _ w).alloc (le_refl _) _).alloc (by simp) _
 have Hb1 := hid hb1
 have Hsv1 := hid (hr.up hb1)
 have HE1 := hid (hE.up hb1)
 have Hx1 := hid (hmv.up hb1)
 have Hv1 := hid (hv.up hb1)
 have Hbm : Hid (Blk W1 w.heap.size 25 #[.int .i64 m.t, .int .i64 m.n, .int .i64 m.a, .int .i64 m.b, .slice Al m.l.length cl, .slice (some ai) m.i.length ci]) := hid (by rw [hW1]; exact (Blk.new w _ _).alloc _)
 have Hbx : Hid (Blk W1 (w.heap.size + 1) 25 #[.int .i64 x.t, .int .i64 x.n, .int .i64 x.a, .int .i64 x.b, .slice Alx x.l.length clx, .slice Aix x.i.length cix]) := hid (by rw [hW1]; have := Blk.new (w.alloc (.cells #[.int .i64 m.t, .int .i64 m.n, .int .i64 m.a, .int .i64 m.b, .slice Al m.l.length cl, .slice (some ai) m.i.length ci] 25)) 25 #[.int .i64 x.t, .int .i64 x.n, .int .i64 x.a, .int .i64 x.b, .slice Alx x.l.length clx, .slice Aix x.i.length cix]; simpa using this)
 have HSx : Hid (InN (nN x) s) := hid (by rw [← hx, ← hsn]; exact hS)
 have hdx : dp 4 x ≤ k := by omega
 have d7 : (m.t == 7) = true := by simpa using ht
 clear ht hsn
 obtain ⟨R, hR⟩ : ∃ R : Nat, rkP k x (memP s) = R := ⟨_, rfl⟩
 have Hih : Hid (∀ (v sv : Value) (W : World), MatV W W.heap.size v x → Row W W.heap.size sv s → Env E W → Calls Tryz.prog 70 #[v, sv] W (Tells W (R : Int))) := hid fun v sv W h1 h2 h3 => by rw [← hR]; exact ih x v sv s W h1 hsx q2 hdx h2 HSx.out h3
 rw [hR]
 obtain ⟨M, hM⟩ : ∃ M : Int, M = ((min m.a.toNat R : Nat) : Int) := ⟨_, rfl⟩
 have hmin : min m.a (R : Int) = M := by omega
 rw [← hM]
 have hbd := (Below.refl W1.heap.size W1).drew
 replace Hsv1 := hid (Hsv1.out.up hbd)
 replace HE1 := hid (HE1.out.up hbd)
 replace Hx1 := hid (Hx1.out.up hbd)
 clear hbd
 have K1 : Hid (∀ W, Below W1.drew.heap.size W1.drew W → W.cell? ⟨w.heap.size, 2, none⟩ = some (.int .i64 m.a) ∧ W.cell? ⟨w.heap.size + 1, 0, none⟩ = some (.int .i64 x.t) ∧ W.cell? ⟨w.heap.size + 1, 1, none⟩ = some (.int .i64 x.n) ∧ W.cell? ⟨w.heap.size + 1, 2, none⟩ = some (.int .i64 x.a) ∧ W.cell? ⟨w.heap.size + 1, 3, none⟩ = some (.int .i64 x.b) ∧ W.cell? ⟨w.heap.size + 1, 4, none⟩ = some (.slice Alx x.l.length clx) ∧ W.cell? ⟨w.heap.size + 1, 5, none⟩ = some (.slice Aix x.i.length cix)) := hid fun W hW => ⟨(Hbm.out.drew.below hW Hbm.out.lt).cell 2, (Hbx.out.drew.below hW Hbx.out.lt).cell 0, (Hbx.out.drew.below hW Hbx.out.lt).cell 1, (Hbx.out.drew.below hW Hbx.out.lt).cell 2, (Hbx.out.drew.below hW Hbx.out.lt).cell 3, (Hbx.out.drew.below hW Hbx.out.lt).cell 4, (Hbx.out.drew.below hW Hbx.out.lt).cell 5⟩
 have HB : Hid (Below W1.drew.heap.size W1.drew W1.drew) := hid (Below.refl _ _)
 clear Hv HL HE Hsv Hblk hs hS hil hik he2 hlx hix s0 s1 s2 s3 s4 s5 hab hx hmv q1 hv hr hE hR hM hsx ih ha HI Hmv
 go_enter Tryz.func89, Tryz.ntmps89
 rw [hW0] at Hb0 t0 t1 t2 t3 t4 t5 gb
 have g0 := gb 0
 have g5 := gb 5
 clear hW0 HW0 hlt gb hW1 hb1
 go_wp2
 rw [← HW1.out]
 clear g0 g5 t0 t1 t2 t3 t4 t5 Hbm Hbx HW1 Hb0 Hv1
 generalize w.heap.size + 1 = B1 at *
 go_region_held3 (fun W => W.cell? ⟨w.heap.size, 2, none⟩ = some (.int .i64 m.a) ∧ W.cell? ⟨B1, 0, none⟩ = some (.int .i64 x.t) ∧ W.cell? ⟨B1, 1, none⟩ = some (.int .i64 x.n) ∧ W.cell? ⟨B1, 2, none⟩ = some (.int .i64 x.a) ∧ W.cell? ⟨B1, 3, none⟩ = some (.int .i64 x.b) ∧ W.cell? ⟨B1, 4, none⟩ = some (.slice Alx x.l.length clx) ∧ W.cell? ⟨B1, 5, none⟩ = some (.slice Aix x.i.length cix))
  (exact K1.out _ HB.out)
  (first
  | (go_at_call 70; refine (Hih.out _ _ _ Hx1.out Hsv1.out HE1.out).mono ?_; rintro e w2 ⟨rfl, hb2⟩; replace HB := hid (Z0_ HB.out (le_refl _) hb2); clear hb2))
 all_goals
  have Hb9 := hid (Z0_ Hb1.out.drew (le_refl _) HB.out)
  clear HB
  go_simp
  go_wp2
  go_ret
  exact ⟨rfl, Hb9.out⟩
theorem one_8 (E : Nat → Addr) (k : Nat) (m : Mat) (v sv : Value) (s : List Int) (w : World) (hv : MatV w w.heap.size v m) (hs : Sml m) (hc : chk m = 0) (hr : Row w w.heap.size sv s) (hS : InN (nN m) s) (hE : Env E w) (ih : Zb9 E k) (hd : dp 4 m ≤ k + 1) (ht : m.t = 8) : Calls Tryz.prog 89 #[v, sv] w (Tells w (rkP (k + 1) m (memP s) : Nat)) := by
 rw [rkP_8 ht]
 have hsn : nN m = nN (inn m) := by unfold nN; rw [F3_ hc (.inr ht)]
 have hnm := chk_n hc
 have HS := hid hS
 have hsl := Y3_ hS
 have hn64 := (Z8_ hc).2
 have hsI : (s.length : Int) ≤ 64 := by omega
 have hsB : s.length ≤ 1048576 := by omega
 obtain ⟨lv, iv, rfl, hl2, hi2⟩ := hv.open
 obtain ⟨Al, cl, rfl, _⟩ := id hl2
 obtain ⟨Ai, ci, rfl, _⟩ := id hi2
 obtain ⟨As, cs, rfl, _⟩ := id hr
 have Hb0 := hid (Z1_ w m (.slice Al m.l.length cl) (.slice Ai m.i.length ci))
 have Hblk := hid (Z3_ w m (.slice Al m.l.length cl) (.slice Ai m.i.length ci))
 have Hsv := hid (hr.up Hb0.out)
 have HL := hid (hl2.up Hb0.out)
 have HI := hid (hi2.up Hb0.out)
 have Hv := hid (hv.up Hb0.out)
 have HE := hid (hE.up Hb0.out)
 unfold boxed at *
 have gb := Hblk.out.cell
 obtain ⟨W0, hW0⟩ : ∃ W0, W0 = w.alloc (.cells #[.int .i64 m.t, .int .i64 m.n, .int .i64 m.a, .int .i64 m.b, .slice Al m.l.length cl, .slice Ai m.i.length ci] 25) := ⟨_, rfl⟩
 have HW0 := hid hW0
 have hlt : w.heap.size < W0.heap.size := by rw [hW0]; simp
 rw [← hW0] at Hb0 Hsv HL HI Hv HE gb Hblk
 obtain ⟨q1, q2, q3⟩ := J0_ hc (by omega)
 have hil : m.i.length = 1 := by rw [q1]; rfl
 obtain ⟨Ai', ci', he, _, hik⟩ := hi2
 injection he with he1 he2 he3
 subst he1 he3
 obtain ⟨ai, ui, hA0, hab, hsix, hmv⟩ := hik 0 (by omega)
 subst hA0
 rw [show (0 : Nat) * 6 = 0 from rfl, add_zero] at hsix
 rw [show m.i.getD 0 default = inn m from rfl] at hmv
 obtain ⟨lx, ix, hux, hlx, hix⟩ := hmv.open
 obtain ⟨x0, x1, x2, x3, x4, x5, hu6, s0, s1, s2, s3, s4, s5⟩ := hsix
 rw [hux] at hu6
 injection hu6 with hu6
 injection hu6 with hu6
 injection hu6 with h0 hu6
 injection hu6 with h1 hu6
 injection hu6 with h2 hu6
 injection hu6 with h3 hu6
 injection hu6 with h4 hu6
 injection hu6 with h5 _
 subst h0 h1 h2 h3 h4 h5
 have hsx := sml_i hs (Y1_ m.i 0 default (by omega))
 rw [show m.i.getD 0 default = inn m from rfl] at hsx
 have hiI : (0 : Int) < (m.i.length : Int) := by omega
 have hiN : 0 < m.i.length := by omega
 obtain ⟨x, hx⟩ : ∃ x, inn m = x := ⟨_, rfl⟩
 simp only [hx] at hmv hlx hix s0 s1 s2 s3 s4 s5 hsx q2 q3 hux ⊢
 have Hx := hid hx
 obtain ⟨Alx, clx, rfl, _⟩ := id hlx
 obtain ⟨Aix, cix, rfl, _⟩ := id hix
 subst hux
 have t0 := (Hb0.out.cell (p := ai) hab).trans s0
 have t1 := (Hb0.out.cell (p := ⟨ai.block, ai.off + 1, none⟩) hab).trans s1
 have t2 := (Hb0.out.cell (p := ⟨ai.block, ai.off + 2, none⟩) hab).trans s2
 have t3 := (Hb0.out.cell (p := ⟨ai.block, ai.off + 3, none⟩) hab).trans s3
 have t4 := (Hb0.out.cell (p := ⟨ai.block, ai.off + 4, none⟩) hab).trans s4
 have t5 := (Hb0.out.cell (p := ⟨ai.block, ai.off + 5, none⟩) hab).trans s5
 have Hmv := hid (hmv.up Hb0.out)
 obtain ⟨W1, hW1⟩ : ∃ W1, W1 = (w.alloc (.cells #[.int .i64 m.t, .int .i64 m.n, .int .i64 m.a, .int .i64 m.b, .slice Al m.l.length cl, .slice (some ai) m.i.length ci] 25)).alloc (.cells #[.int .i64 x.t, .int .i64 x.n, .int .i64 x.a, .int .i64 x.b, .slice Alx x.l.length clx, .slice Aix x.i.length cix] 25) := ⟨_, rfl⟩
 have HW1 := hid hW1
 have hb1 : Below w.heap.size w W1 := by rw [hW1]; exact ((Below.refl _ w).alloc (le_refl _) _).alloc (by simp) _
 have Hb1 := hid hb1
 have Hsv1 := hid (hr.up hb1)
 have HE1 := hid (hE.up hb1)
 have Hx1 := hid (hmv.up hb1)
 have Hv1 := hid (hv.up hb1)
 have Hbm : Hid (Blk W1 w.heap.size 25 #[.int .i64 m.t, .int .i64 m.n, .int .i64 m.a, .int .i64 m.b, .slice Al m.l.length cl, .slice (some ai) m.i.length ci]) := hid (by rw [hW1]; exact (Blk.new w _ _).alloc _)
 have Hbx : Hid (Blk W1 (w.heap.size + 1) 25 #[.int .i64 x.t, .int .i64 x.n, .int .i64 x.a, .int .i64 x.b, .slice Alx x.l.length clx, .slice Aix x.i.length cix]) := hid (by rw [hW1]; have := Blk.new (w.alloc (.cells #[.int .i64 m.t, .int .i64 m.n, .int .i64 m.a, .int .i64 m.b, .slice Al m.l.length cl, .slice (some ai) m.i.length ci] 25)) 25 #[.int .i64 x.t, .int .i64 x.n, .int .i64 x.a, .int .i64 x.b, .slice Alx x.l.length clx, .slice Aix x.i.length cix]; simpa using this)
 have hSx : InN (nN x) s := by rw [← hx, ← hsn]; exact hS
 have hdx : dp 4 x ≤ k := by omega
 have d7 : (m.t == 7) = false := by simp; omega
 have d8 : (m.t == 8) = true := by simpa using ht
 clear ht
 have hrest : InN (nN x) (Z7_ (allL m.n) s) := by rw [← hx, ← hsn]; exact F2_ hnm.1 hnm.2 hS.1
 have hall : InN (nN x) (allL m.n) := by rw [← hx, ← hsn]; exact Zx6 hnm.1 hnm.2
 have hrk := rk_ok k x q2 hdx
 have e1 : rkP k x (memP (Z7_ (allL m.n) s)) = rkP k x (notP (memP s)) := hrk.ext fun i hi => Zx5 hnm.1 hnm.2 hS.1 (by rw [← hx, ← hsn] at hi; exact hi)
 have e2 : rkP k x (memP (allL m.n)) = rkP k x allP := hrk.ext fun i hi => Zf4 hnm.1 hnm.2 (by rw [← hx, ← hsn] at hi; exact hi)
 have b1 := hrk.le_cnt (notP (memP s))
 have b2 := hrk.le_cnt allP
 have b3 := A1_ (notP (memP s)) (nN x)
 have b4 := A1_ allP (nN x)
 have b5 := hrk.submod (notP (memP s)) (memP s)
 have b6 := hrk.le_cnt (memP s)
 rw [show orP (notP (memP s)) (memP s) = allP from by funext i; simp only [orP, notP, allP]; cases memP s i <;> rfl] at b5
 have hlen := V1_ hS
 have hnx : nN m = nN x := by rw [← hx]; exact hsn
 rw [← hnx] at b6
 obtain ⟨R1, hR1⟩ : ∃ R1 : Nat, rkP k x (notP (memP s)) = R1 := ⟨_, rfl⟩
 obtain ⟨R2, hR2⟩ : ∃ R2 : Nat, rkP k x allP = R2 := ⟨_, rfl⟩
 rw [hR1, hR2, ← hlen]
 rw [hR1] at e1 b1 b5
 rw [hR2] at e2 b2 b5
 have Hih1 : Hid (∀ (v sv : Value) (W : World), MatV W W.heap.size v x → Row W W.heap.size sv (Z7_ (allL m.n) s) → Env E W → Calls Tryz.prog 70 #[v, sv] W (Tells W (R1 : Int))) := hid fun v sv W h1 h2 h3 => by rw [← e1]; exact ih x v sv _ W h1 hsx q2 hdx h2 hrest h3
 have Hih2 : Hid (∀ (v sv : Value) (W : World), MatV W W.heap.size v x → Row W W.heap.size sv (allL m.n) → Env E W → Calls Tryz.prog 70 #[v, sv] W (Tells W (R2 : Int))) := hid fun v sv W h1 h2 h3 => by rw [← e2]; exact ih x v sv _ W h1 hsx q2 hdx h2 hall h3
 have hlow : R2 ≤ s.length + R1 := by omega
 have hw1 : IntKind.i64.wrap ((s.length : Int) + (R1 : Int)) = (s.length : Int) + (R1 : Int) := by rw [IntKind.wrap_i64]; omega
 have hw2 : IntKind.i64.wrap ((s.length : Int) + (R1 : Int) - (R2 : Int)) = (s.length : Int) + (R1 : Int) - (R2 : Int) := by rw [IntKind.wrap_i64]; omega
 obtain ⟨M, hM⟩ : ∃ M : Int, M = ((s.length + R1 - R2 : Nat) : Int) := ⟨_, rfl⟩
 have HM : Hid ((s.length : Int) + (R1 : Int) - (R2 : Int) = M) := hid (by omega)
 rw [← hM]
 have hal := D2_ m.n
 have gn := Hbm.out.cell 1
 clear e1 e2 b1 b2 b3 b4 b5 b6 hlen hnx hR1 hR2 hM hrk hrest hall hSx hsn
 clear Hv HL HE Hsv Hblk hs hS hil hik he2 hlx hix s0 s1 s2 s3 s4 s5 hab hx hmv q1 hv hr hE hsx ih HI Hmv hlow hnm
 go_enter Tryz.func89, Tryz.ntmps89
 rw [hW0] at Hb0 t0 t1 t2 t3 t4 t5 gb
 have g0 := gb 0
 have g5 := gb 5
 clear hW0 HW0 hlt gb hW1 hb1
 rw [HW1.out] at gn
 go_wp2_with fail
 refine (H0_ m.n _).mono ?_
 rintro e w2 ⟨va, rfl, hra, hb2⟩
 rw [← HW1.out] at hb2
 have Hb2 := hid (Z0_ Hb1.out (le_refl _) hb2)
 have Hbm2 := hid (Hbm.out.below hb2 Hbm.out.lt)
 have Hbx2 := hid (Hbx.out.below hb2 Hbx.out.lt)
 replace Hsv1 := hid (Hsv1.out.up hb2)
 replace HE1 := hid (HE1.out.up hb2)
 replace Hx1 := hid (Hx1.out.up hb2)
 have Hra := hid hra
 clear hb2 hra gn g0 g5 t0 t1 t2 t3 t4 t5 Hbm Hbx
 obtain ⟨Aa, ca, hva, _⟩ := id Hra.out
 subst hva
 go_wp2
 have hbd := (Below.refl w2.heap.size w2).drew
 replace Hsv1 := hid (Hsv1.out.up hbd)
 replace HE1 := hid (HE1.out.up hbd)
 replace Hx1 := hid (Hx1.out.up hbd)
 replace Hra := hid (Hra.out.up hbd)
 clear hbd
 have K1 : Hid (∀ W, Below w2.drew.heap.size w2.drew W → W.cell? ⟨w.heap.size + 1, 0, none⟩ = some (.int .i64 x.t) ∧ W.cell? ⟨w.heap.size + 1, 1, none⟩ = some (.int .i64 x.n) ∧ W.cell? ⟨w.heap.size + 1, 2, none⟩ = some (.int .i64 x.a) ∧ W.cell? ⟨w.heap.size + 1, 3, none⟩ = some (.int .i64 x.b) ∧ W.cell? ⟨w.heap.size + 1, 4, none⟩ = some (.slice Alx x.l.length clx) ∧ W.cell? ⟨w.heap.size + 1, 5, none⟩ = some (.slice Aix x.i.length cix)) := hid fun W hW => ⟨(Hbx2.out.drew.below hW Hbx2.out.lt).cell 0, (Hbx2.out.drew.below hW Hbx2.out.lt).cell 1, (Hbx2.out.drew.below hW Hbx2.out.lt).cell 2, (Hbx2.out.drew.below hW Hbx2.out.lt).cell 3, (Hbx2.out.drew.below hW Hbx2.out.lt).cell 4, (Hbx2.out.drew.below hW Hbx2.out.lt).cell 5⟩
 have HB : Hid (Below w2.drew.heap.size w2.drew w2.drew) := hid (Below.refl _ _)
 clear HW1 Hbm2 Hbx2 Hb0 Hv1
 generalize w.heap.size + 1 = B1 at *
 go_region_held3 (fun W => W.cell? ⟨B1, 0, none⟩ = some (.int .i64 x.t) ∧ W.cell? ⟨B1, 1, none⟩ = some (.int .i64 x.n) ∧ W.cell? ⟨B1, 2, none⟩ = some (.int .i64 x.a) ∧ W.cell? ⟨B1, 3, none⟩ = some (.int .i64 x.b) ∧ W.cell? ⟨B1, 4, none⟩ = some (.slice Alx x.l.length clx) ∧ W.cell? ⟨B1, 5, none⟩ = some (.slice Aix x.i.length cix))
  (exact K1.out _ HB.out)
  (first
  | (go_at_call 41; refine (E4_ _ _ (allL m.n) s _ Hra.out Hsv1.out hal hsB).mono ?_; rintro e w3 ⟨v3, rfl, hr3, hb3⟩; replace HB := hid (Z0_ HB.out (le_refl _) hb3); (try replace Hsv1 := hid (Hsv1.out.up hb3)); (try replace HE1 := hid (HE1.out.up hb3)); (try replace Hx1 := hid (Hx1.out.up hb3)); (try replace Hra := hid (Hra.out.up hb3)); have Hr3 := hid hr3; clear hr3 hb3)
  | (go_at_call_of 70 (Value.slice Aa (allL m.n).length ca); refine (Hih2.out _ _ _ Hx1.out Hra.out HE1.out).mono ?_; rintro e w5 ⟨rfl, hb5⟩; replace HB := hid (Z0_ HB.out (le_refl _) hb5); (try replace Hsv1 := hid (Hsv1.out.up hb5)); (try replace HE1 := hid (HE1.out.up hb5)); (try replace Hx1 := hid (Hx1.out.up hb5)); (try replace Hra := hid (Hra.out.up hb5)); (try replace Hr3 := hid (Hr3.out.up hb5)); clear hb5)
  | (go_at_call_of 70 v3; refine (Hih1.out _ _ _ Hx1.out Hr3.out HE1.out).mono ?_; rintro e w4 ⟨rfl, hb4⟩; replace HB := hid (Z0_ HB.out (le_refl _) hb4); (try replace Hsv1 := hid (Hsv1.out.up hb4)); (try replace HE1 := hid (HE1.out.up hb4)); (try replace Hx1 := hid (Hx1.out.up hb4)); (try replace Hra := hid (Hra.out.up hb4)); (try replace Hr3 := hid (Hr3.out.up hb4)); clear hb4))
 all_goals
  have Hb9 := hid (Z0_ Hb2.out.drew (le_refl _) HB.out)
  clear HB
  go_simp
  go_wp2
  go_ret
  exact ⟨by rw [← HM.out]; rfl, Hb9.out⟩
theorem one_5 (E : Nat → Addr) (k : Nat) (m : Mat) (v sv : Value) (s : List Int) (w : World) (hv : MatV w w.heap.size v m) (hs : Sml m) (hc : chk m = 0) (hr : Row w w.heap.size sv s) (hS : InN (nN m) s) (hE : Env E w) (ih : Zb9 E k) (hd : dp 4 m ≤ k + 1) (ht : m.t = 5) : Calls Tryz.prog 89 #[v, sv] w (Tells w (rkP (k + 1) m (memP s) : Nat)) := by
 rw [rkP_5 ht]
 have hnm := chk_n hc
 have hsub : subB s (allL m.n) = true := (N0_ hnm.1 hnm.2).2 hS
 have himb : imgB m s = true := by unfold imgB; rw [hsub, decide_eq_true hc, decide_eq_true (show m.t = 5 ∨ m.t = 6 by omega)]; rfl
 have himl : imgL m s = imgM m s := by unfold imgL; rw [himb, if_pos rfl]
 have hin := Zx9 hc (.inl ht) hS
 have hme := P1_ hc (.inl ht) hS
 have himn := S0_ m s
 have HS := hid hS
 have hsl := Y3_ hS
 have hn64 := (Z8_ hc).2
 have hsI : (s.length : Int) ≤ 64 := by omega
 have hsB : s.length ≤ 1048576 := by omega
 obtain ⟨lv, iv, rfl, hl2, hi2⟩ := hv.open
 obtain ⟨Al, cl, rfl, _⟩ := id hl2
 obtain ⟨Ai, ci, rfl, _⟩ := id hi2
 obtain ⟨As, cs, rfl, _⟩ := id hr
 have Hb0 := hid (Z1_ w m (.slice Al m.l.length cl) (.slice Ai m.i.length ci))
 have Hblk := hid (Z3_ w m (.slice Al m.l.length cl) (.slice Ai m.i.length ci))
 have Hsv := hid (hr.up Hb0.out)
 have HL := hid (hl2.up Hb0.out)
 have HI := hid (hi2.up Hb0.out)
 have Hv := hid (hv.up Hb0.out)
 have HE := hid (hE.up Hb0.out)
 unfold boxed at *
 have gb := Hblk.out.cell
 obtain ⟨W0, hW0⟩ : ∃ W0, W0 = w.alloc (.cells #[.int .i64 m.t, .int .i64 m.n, .int .i64 m.a, .int .i64 m.b, .slice Al m.l.length cl, .slice Ai m.i.length ci] 25) := ⟨_, rfl⟩
 have HW0 := hid hW0
 have hlt : w.heap.size < W0.heap.size := by rw [hW0]; simp
 rw [← hW0] at Hb0 Hsv HL HI Hv HE gb Hblk
 have Him : Hid (∀ (v sv : Value) (W : World), MatV W W.heap.size v m → Row W W.heap.size sv s → Env E W → Calls Tryz.prog 116 #[v, sv] W (Q3_ W true (imgM m s))) := hid fun v sv W h1 h2 h3 => by rw [← himl, ← himb]; exact Zm5 E m v sv s W h1 hs h3 h2 hsB
 obtain ⟨q1, q2, q3⟩ := J0_ hc (by omega)
 have hil : m.i.length = 1 := by rw [q1]; rfl
 obtain ⟨Ai', ci', he, _, hik⟩ := hi2
 injection he with he1 he2 he3
 subst he1 he3
 obtain ⟨ai, ui, hA0, hab, hsix, hmv⟩ := hik 0 (by omega)
 subst hA0
 rw [show (0 : Nat) * 6 = 0 from rfl, add_zero] at hsix
 rw [show m.i.getD 0 default = inn m from rfl] at hmv
 obtain ⟨lx, ix, hux, hlx, hix⟩ := hmv.open
 obtain ⟨x0, x1, x2, x3, x4, x5, hu6, s0, s1, s2, s3, s4, s5⟩ := hsix
 rw [hux] at hu6
 injection hu6 with hu6
 injection hu6 with hu6
 injection hu6 with h0 hu6
 injection hu6 with h1 hu6
 injection hu6 with h2 hu6
 injection hu6 with h3 hu6
 injection hu6 with h4 hu6
 injection hu6 with h5 _
 subst h0 h1 h2 h3 h4 h5
 have hsx := sml_i hs (Y1_ m.i 0 default (by omega))
 rw [show m.i.getD 0 default = inn m from rfl] at hsx
 have hiI : (0 : Int) < (m.i.length : Int) := by omega
 have hiN : 0 < m.i.length := by omega
 obtain ⟨x, hx⟩ : ∃ x, inn m = x := ⟨_, rfl⟩
 simp only [hx] at hmv hlx hix s0 s1 s2 s3 s4 s5 hsx q2 q3 hux ⊢
 have Hx := hid hx
 obtain ⟨Alx, clx, rfl, _⟩ := id hlx
 obtain ⟨Aix, cix, rfl, _⟩ := id hix
 subst hux
 have t0 := (Hb0.out.cell (p := ai) hab).trans s0
 have t1 := (Hb0.out.cell (p := ⟨ai.block, ai.off + 1, none⟩) hab).trans s1
 have t2 := (Hb0.out.cell (p := ⟨ai.block, ai.off + 2, none⟩) hab).trans s2
 have t3 := (Hb0.out.cell (p := ⟨ai.block, ai.off + 3, none⟩) hab).trans s3
 have t4 := (Hb0.out.cell (p := ⟨ai.block, ai.off + 4, none⟩) hab).trans s4
 have t5 := (Hb0.out.cell (p := ⟨ai.block, ai.off + 5, none⟩) hab).trans s5
 have Hmv := hid (hmv.up Hb0.out)
 obtain ⟨W1, hW1⟩ : ∃ W1, W1 = (w.alloc (.cells #[.int .i64 m.t, .int .i64 m.n, .int .i64 m.a, .int .i64 m.b, .slice Al m.l.length cl, .slice (some ai) m.i.length ci] 25)).alloc (.cells #[.int .i64 x.t, .int .i64 x.n, .int .i64 x.a, .int .i64 x.b, .slice Alx x.l.length clx, .slice Aix x.i.length cix] 25) := ⟨_, rfl⟩
 have HW1 := hid hW1
 have hb1 : Below w.heap.size w W1 := by rw [hW1]; exact ((Below.refl _ w).alloc (le_refl _) _).alloc (by simp) _
 have Hb1 := hid hb1
 have Hsv1 := hid (hr.up hb1)
 have HE1 := hid (hE.up hb1)
 have Hx1 := hid (hmv.up hb1)
 have Hv1 := hid (hv.up hb1)
 have Hbm : Hid (Blk W1 w.heap.size 25 #[.int .i64 m.t, .int .i64 m.n, .int .i64 m.a, .int .i64 m.b, .slice Al m.l.length cl, .slice (some ai) m.i.length ci]) := hid (by rw [hW1]; exact (Blk.new w _ _).alloc _)
 have Hbx : Hid (Blk W1 (w.heap.size + 1) 25 #[.int .i64 x.t, .int .i64 x.n, .int .i64 x.a, .int .i64 x.b, .slice Alx x.l.length clx, .slice Aix x.i.length cix]) := hid (by rw [hW1]; have := Blk.new (w.alloc (.cells #[.int .i64 m.t, .int .i64 m.n, .int .i64 m.a, .int .i64 m.b, .slice Al m.l.length cl, .slice (some ai) m.i.length ci] 25)) 25 #[.int .i64 x.t, .int .i64 x.n, .int .i64 x.a, .int .i64 x.b, .slice Alx x.l.length clx, .slice Aix x.i.length cix]; simpa using this)
 have hdx : dp 4 x ≤ k := by omega
 rw [hx] at hin
 have d7 : (m.t == 7) = false := by simp; omega
 have d8 : (m.t == 8) = false := by simp; omega
 have d5 : (m.t == 5) = true := by simp; omega
 rw [← hme]
 clear ht
 obtain ⟨R, hR⟩ : ∃ R : Nat, rkP k x (memP (imgM m s)) = R := ⟨_, rfl⟩
 have Hih : Hid (∀ (v sv : Value) (W : World), MatV W W.heap.size v x → Row W W.heap.size sv (imgM m s) → Env E W → Calls Tryz.prog 70 #[v, sv] W (Tells W (R : Int))) := hid fun v sv W h1 h2 h3 => by rw [← hR]; exact ih x v sv _ W h1 hsx q2 hdx h2 hin h3
 rw [hR]
 clear Hv HL HE Hsv Hblk hs hS hil hik he2 hlx hix s0 s1 s2 s3 s4 s5 hab hx hmv q1 hv hr hE hsx ih HI Hmv hsub himb himl hin hme hnm
 go_enter Tryz.func89, Tryz.ntmps89
 rw [hW0] at Hb0 t0 t1 t2 t3 t4 t5 gb
 have g0 := gb 0
 have g5 := gb 5
 clear hW0 HW0 hlt gb hW1 hb1
 go_wp2_with fail
 rw [← HW1.out]
 refine (Him.out _ _ _ Hv1.out Hsv1.out HE1.out).mono ?_
 rintro e w2 ⟨v2, rfl, hr2, hb2, _⟩
 have Hb2 := hid (Z0_ Hb1.out (le_refl _) hb2)
 have Hbm2 := hid (Hbm.out.below hb2 Hbm.out.lt)
 have Hbx2 := hid (Hbx.out.below hb2 Hbx.out.lt)
 replace HE1 := hid (HE1.out.up hb2)
 replace Hx1 := hid (Hx1.out.up hb2)
 have Hr2 := hid hr2
 have c0 := Hbx2.out.cell 0
 have c1 := Hbx2.out.cell 1
 have c2 := Hbx2.out.cell 2
 have c3 := Hbx2.out.cell 3
 have c4 := Hbx2.out.cell 4
 have c5 := Hbx2.out.cell 5
 have m0 := Hbm2.out.cell 0
 clear hb2 hr2 g0 g5 t0 t1 t2 t3 t4 t5 Hbm Hbx HW1 Hb0
 go_wp2_with fail
 refine (Hih.out _ _ _ Hx1.out Hr2.out HE1.out).mono ?_
 rintro e w3 ⟨rfl, hb3⟩
 have Hb3 := hid (Z0_ Hb2.out (le_refl _) hb3)
 clear hb3 c0 c1 c2 c3 c4 c5 m0
 go_wp2
 go_ret
 exact ⟨rfl, Hb3.out⟩
theorem one_6 (E : Nat → Addr) (k : Nat) (m : Mat) (v sv : Value) (s : List Int) (w : World) (hv : MatV w w.heap.size v m) (hs : Sml m) (hc : chk m = 0) (hr : Row w w.heap.size sv s) (hS : InN (nN m) s) (hE : Env E w) (ih : Zb9 E k) (hd : dp 4 m ≤ k + 1) (ht : m.t = 6) : Calls Tryz.prog 89 #[v, sv] w (Tells w (rkP (k + 1) m (memP s) : Nat)) := by
 rw [rkP_6 ht]
 have hnm := chk_n hc
 have hsub : subB s (allL m.n) = true := (N0_ hnm.1 hnm.2).2 hS
 have himb : imgB m s = true := by unfold imgB; rw [hsub, decide_eq_true hc, decide_eq_true (show m.t = 5 ∨ m.t = 6 by omega)]; rfl
 have himl : imgL m s = imgM m s := by unfold imgL; rw [himb, if_pos rfl]
 have hin := Zx9 hc (.inr ht) hS
 have hme := P1_ hc (.inr ht) hS
 have himn := S0_ m s
 have hrow := Zx8 hc (.inr ht)
 have HS := hid hS
 have hsl := Y3_ hS
 have hn64 := (Z8_ hc).2
 have hsI : (s.length : Int) ≤ 64 := by omega
 have hsB : s.length ≤ 1048576 := by omega
 obtain ⟨lv, iv, rfl, hl2, hi2⟩ := hv.open
 obtain ⟨Al, cl, rfl, _⟩ := id hl2
 obtain ⟨Ai, ci, rfl, _⟩ := id hi2
 obtain ⟨As, cs, rfl, _⟩ := id hr
 have Hb0 := hid (Z1_ w m (.slice Al m.l.length cl) (.slice Ai m.i.length ci))
 have Hblk := hid (Z3_ w m (.slice Al m.l.length cl) (.slice Ai m.i.length ci))
 have Hsv := hid (hr.up Hb0.out)
 have HL := hid (hl2.up Hb0.out)
 have HI := hid (hi2.up Hb0.out)
 have Hv := hid (hv.up Hb0.out)
 have HE := hid (hE.up Hb0.out)
 unfold boxed at *
 have gb := Hblk.out.cell
 obtain ⟨W0, hW0⟩ : ∃ W0, W0 = w.alloc (.cells #[.int .i64 m.t, .int .i64 m.n, .int .i64 m.a, .int .i64 m.b, .slice Al m.l.length cl, .slice Ai m.i.length ci] 25) := ⟨_, rfl⟩
 have HW0 := hid hW0
 have hlt : w.heap.size < W0.heap.size := by rw [hW0]; simp
 rw [← hW0] at Hb0 Hsv HL HI Hv HE gb Hblk
 have Him : Hid (∀ (v sv : Value) (W : World), MatV W W.heap.size v m → Row W W.heap.size sv s → Env E W → Calls Tryz.prog 116 #[v, sv] W (Q3_ W true (imgM m s))) := hid fun v sv W h1 h2 h3 => by rw [← himl, ← himb]; exact Zm5 E m v sv s W h1 hs h3 h2 hsB
 obtain ⟨q1, q2, q3⟩ := J0_ hc (by omega)
 have hil : m.i.length = 1 := by rw [q1]; rfl
 obtain ⟨Ai', ci', he, _, hik⟩ := hi2
 injection he with he1 he2 he3
 subst he1 he3
 obtain ⟨ai, ui, hA0, hab, hsix, hmv⟩ := hik 0 (by omega)
 subst hA0
 rw [show (0 : Nat) * 6 = 0 from rfl, add_zero] at hsix
 rw [show m.i.getD 0 default = inn m from rfl] at hmv
 obtain ⟨lx, ix, hux, hlx, hix⟩ := hmv.open
 obtain ⟨x0, x1, x2, x3, x4, x5, hu6, s0, s1, s2, s3, s4, s5⟩ := hsix
 rw [hux] at hu6
 injection hu6 with hu6
 injection hu6 with hu6
 injection hu6 with h0 hu6
 injection hu6 with h1 hu6
 injection hu6 with h2 hu6
 injection hu6 with h3 hu6
 injection hu6 with h4 hu6
 injection hu6 with h5 _
 subst h0 h1 h2 h3 h4 h5
 have hsx := sml_i hs (Y1_ m.i 0 default (by omega))
 rw [show m.i.getD 0 default = inn m from rfl] at hsx
 have hiI : (0 : Int) < (m.i.length : Int) := by omega
 have hiN : 0 < m.i.length := by omega
 obtain ⟨x, hx⟩ : ∃ x, inn m = x := ⟨_, rfl⟩
 simp only [hx] at hmv hlx hix s0 s1 s2 s3 s4 s5 hsx q2 q3 hux ⊢
 have Hx := hid hx
 obtain ⟨Alx, clx, rfl, _⟩ := id hlx
 obtain ⟨Aix, cix, rfl, _⟩ := id hix
 subst hux
 have t0 := (Hb0.out.cell (p := ai) hab).trans s0
 have t1 := (Hb0.out.cell (p := ⟨ai.block, ai.off + 1, none⟩) hab).trans s1
 have t2 := (Hb0.out.cell (p := ⟨ai.block, ai.off + 2, none⟩) hab).trans s2
 have t3 := (Hb0.out.cell (p := ⟨ai.block, ai.off + 3, none⟩) hab).trans s3
 have t4 := (Hb0.out.cell (p := ⟨ai.block, ai.off + 4, none⟩) hab).trans s4
 have t5 := (Hb0.out.cell (p := ⟨ai.block, ai.off + 5, none⟩) hab).trans s5
 have Hmv := hid (hmv.up Hb0.out)
 obtain ⟨W1, hW1⟩ : ∃ W1, W1 = (w.alloc (.cells #[.int .i64 m.t, .int .i64 m.n, .int .i64 m.a, .int .i64 m.b, .slice Al m.l.length cl, .slice (some ai) m.i.length ci] 25)).alloc (.cells #[.int .i64 x.t, .int .i64 x.n, .int .i64 x.a, .int .i64 x.b, .slice Alx x.l.length clx, .slice Aix x.i.length cix] 25) := ⟨_, rfl⟩
 have HW1 := hid hW1
 have hb1 : Below w.heap.size w W1 := by rw [hW1]; exact ((Below.refl _ w).alloc (le_refl _) _).alloc (by simp) _
 have Hb1 := hid hb1
 have Hsv1 := hid (hr.up hb1)
 have HE1 := hid (hE.up hb1)
 have Hx1 := hid (hmv.up hb1)
 have Hv1 := hid (hv.up hb1)
 have Hbm : Hid (Blk W1 w.heap.size 25 #[.int .i64 m.t, .int .i64 m.n, .int .i64 m.a, .int .i64 m.b, .slice Al m.l.length cl, .slice (some ai) m.i.length ci]) := hid (by rw [hW1]; exact (Blk.new w _ _).alloc _)
 have Hbx : Hid (Blk W1 (w.heap.size + 1) 25 #[.int .i64 x.t, .int .i64 x.n, .int .i64 x.a, .int .i64 x.b, .slice Alx x.l.length clx, .slice Aix x.i.length cix]) := hid (by rw [hW1]; have := Blk.new (w.alloc (.cells #[.int .i64 m.t, .int .i64 m.n, .int .i64 m.a, .int .i64 m.b, .slice Al m.l.length cl, .slice (some ai) m.i.length ci] 25)) 25 #[.int .i64 x.t, .int .i64 x.n, .int .i64 x.a, .int .i64 x.b, .slice Alx x.l.length clx, .slice Aix x.i.length cix]; simpa using this)
 have hdx : dp 4 x ≤ k := by omega
 rw [hx] at hin
 rw [hx] at hrow
 have d7 : (m.t == 7) = false := by simp; omega
 have d8 : (m.t == 8) = false := by simp; omega
 have d5 : (m.t == 5) = false := by simp; omega
 rw [← hme]
 have hun := B1_ hin hrow
 have hrk := rk_ok k x q2 hdx
 have e1 : rkP k x (memP (Y2_ (imgM m s) (row m 0))) = rkP k x (orP (memP (row m 0)) (memP (imgM m s))) := hrk.ext fun i _ => by rw [G3_ hin.1 hrow.1]; unfold orP; rw [Bool.or_comm]
 have hmono : rkP k x (memP (row m 0)) ≤ rkP k x (orP (memP (row m 0)) (memP (imgM m s))) := hrk.mono fun i _ h => by unfold orP; rw [h]; rfl
 have b1 := hrk.le_cnt (orP (memP (row m 0)) (memP (imgM m s)))
 have b2 := A1_ (orP (memP (row m 0)) (memP (imgM m s))) (nN x)
 have b3 := (Z8_ q2).2
 have hrl := Y3_ hrow
 obtain ⟨R1, hR1⟩ : ∃ R1 : Nat, rkP k x (orP (memP (row m 0)) (memP (imgM m s))) = R1 := ⟨_, rfl⟩
 obtain ⟨R2, hR2⟩ : ∃ R2 : Nat, rkP k x (memP (row m 0)) = R2 := ⟨_, rfl⟩
 rw [hR1, hR2] at hmono
 rw [hR1] at e1 b1
 rw [hR1, hR2]
 have Hih1 : Hid (∀ (v sv : Value) (W : World), MatV W W.heap.size v x → Row W W.heap.size sv (Y2_ (imgM m s) (row m 0)) → Env E W → Calls Tryz.prog 70 #[v, sv] W (Tells W (R1 : Int))) := hid fun v sv W h1 h2 h3 => by rw [← e1]; exact ih x v sv _ W h1 hsx q2 hdx h2 hun h3
 have Hih2 : Hid (∀ (v sv : Value) (W : World), MatV W W.heap.size v x → Row W W.heap.size sv (row m 0) → Env E W → Calls Tryz.prog 70 #[v, sv] W (Tells W (R2 : Int))) := hid fun v sv W h1 h2 h3 => by rw [← hR2]; exact ih x v sv _ W h1 hsx q2 hdx h2 hrow h3
 have hw1 : IntKind.i64.wrap ((R1 : Int) - (R2 : Int)) = (R1 : Int) - (R2 : Int) := by rw [IntKind.wrap_i64]; omega
 obtain ⟨M, hM⟩ : ∃ M : Int, M = ((R1 - R2 : Nat) : Int) := ⟨_, rfl⟩
 have HM : Hid ((R1 : Int) - (R2 : Int) = M) := hid (by omega)
 rw [← hM]
 have hll : m.l.length = 1 := (B9_ hc (.inr ht)).1
 obtain ⟨Al', cl', heL, _, hlk⟩ := hl2
 injection heL with hel1 hel2 hel3
 subst hel1 hel3
 obtain ⟨ad, u0, hAd, had, hcu, hru⟩ := hlk 0 (by omega)
 subst hAd
 rw [add_zero] at hcu
 rw [show m.l.getD 0 [] = row m 0 from rfl] at hru
 have hlI : (0 : Int) < (m.l.length : Int) := by omega
 have hlN : 0 < m.l.length := by omega
 have hil1 : (imgM m s).length ≤ 1048576 := by omega
 have hrl1 : (row m 0).length ≤ 1048576 := by omega
 have Hru := hid (hru.up Hb1.out)
 have Hcu := hid ((Hb1.out.cell (p := ad) had).trans hcu)
 have Had := hid (show ad.block < W1.heap.size from Nat.lt_of_lt_of_le had Hb1.out.size)
 clear ht hun hrk e1 hmono b1 b2 b3 hrl hR1 hR2 hM hll hel2 hlk had hcu hru hrow
 clear Hv HL HE Hsv Hblk hs hS hil hik he2 hlx hix s0 s1 s2 s3 s4 s5 hab hx hmv q1 hv hr hE hsx ih HI Hmv hsub himb himl hin hme hnm
 go_enter Tryz.func89, Tryz.ntmps89
 rw [hW0] at Hb0 t0 t1 t2 t3 t4 t5 gb
 have g0 := gb 0
 have g5 := gb 5
 clear hW0 HW0 hlt gb hW1 hb1
 go_wp2_with fail
 rw [← HW1.out]
 refine (Him.out _ _ _ Hv1.out Hsv1.out HE1.out).mono ?_
 rintro e w2 ⟨v2, rfl, hr2, hb2, _⟩
 have Hb2 := hid (Z0_ Hb1.out (le_refl _) hb2)
 have Hbm2 := hid (Hbm.out.below hb2 Hbm.out.lt)
 have Hbx2 := hid (Hbx.out.below hb2 Hbx.out.lt)
 replace HE1 := hid (HE1.out.up hb2)
 replace Hx1 := hid (Hx1.out.up hb2)
 have Hr2 := hid hr2
 have m0 := Hbm2.out.cell 0
 have m4 := Hbm2.out.cell 4
 have cu := (hb2.cell (p := ad) Had.out).trans Hcu.out
 replace Hru := hid (Hru.out.up hb2)
 clear hb2 hr2 g0 g5 t0 t1 t2 t3 t4 t5 Hbm Hbx HW1 Hb0
 obtain ⟨Ag, cg, hu0, _⟩ := id Hru.out
 subst hu0
 go_wp2
 clear m0 m4 cu
 have hbd := (Below.refl w2.heap.size w2).drew
 replace HE1 := hid (HE1.out.up hbd)
 replace Hx1 := hid (Hx1.out.up hbd)
 replace Hr2 := hid (Hr2.out.up hbd)
 replace Hru := hid (Hru.out.up hbd)
 clear hbd
 have K1 : Hid (∀ W, Below w2.drew.heap.size w2.drew W → W.cell? ⟨w.heap.size + 1, 0, none⟩ = some (.int .i64 x.t) ∧ W.cell? ⟨w.heap.size + 1, 1, none⟩ = some (.int .i64 x.n) ∧ W.cell? ⟨w.heap.size + 1, 2, none⟩ = some (.int .i64 x.a) ∧ W.cell? ⟨w.heap.size + 1, 3, none⟩ = some (.int .i64 x.b) ∧ W.cell? ⟨w.heap.size + 1, 4, none⟩ = some (.slice Alx x.l.length clx) ∧ W.cell? ⟨w.heap.size + 1, 5, none⟩ = some (.slice Aix x.i.length cix)) := hid fun W hW => ⟨(Hbx2.out.drew.below hW Hbx2.out.lt).cell 0, (Hbx2.out.drew.below hW Hbx2.out.lt).cell 1, (Hbx2.out.drew.below hW Hbx2.out.lt).cell 2, (Hbx2.out.drew.below hW Hbx2.out.lt).cell 3, (Hbx2.out.drew.below hW Hbx2.out.lt).cell 4, (Hbx2.out.drew.below hW Hbx2.out.lt).cell 5⟩
 have HB : Hid (Below w2.drew.heap.size w2.drew w2.drew) := hid (Below.refl _ _)
 clear Hbm2 Hbx2 Hv1
 generalize w.heap.size + 1 = B1 at *
 go_region_held3 (fun W => W.cell? ⟨B1, 0, none⟩ = some (.int .i64 x.t) ∧ W.cell? ⟨B1, 1, none⟩ = some (.int .i64 x.n) ∧ W.cell? ⟨B1, 2, none⟩ = some (.int .i64 x.a) ∧ W.cell? ⟨B1, 3, none⟩ = some (.int .i64 x.b) ∧ W.cell? ⟨B1, 4, none⟩ = some (.slice Alx x.l.length clx) ∧ W.cell? ⟨B1, 5, none⟩ = some (.slice Aix x.i.length cix))
  (exact K1.out _ HB.out)
  (first
  | (go_at_call 40; refine (Zv6 _ _ (imgM m s) (row m 0) _ Hr2.out Hru.out hil1 hrl1).mono ?_; rintro e w3 ⟨v3, rfl, hr3, hb3⟩; replace HB := hid (Z0_ HB.out (le_refl _) hb3); (try replace HE1 := hid (HE1.out.up hb3)); (try replace Hx1 := hid (Hx1.out.up hb3)); (try replace Hr2 := hid (Hr2.out.up hb3)); (try replace Hru := hid (Hru.out.up hb3)); have Hr3 := hid hr3; clear hr3 hb3)
  | (go_at_call_of 70 (Value.slice Ag (row m 0).length cg); refine (Hih2.out _ _ _ Hx1.out Hru.out HE1.out).mono ?_; rintro e w5 ⟨rfl, hb5⟩; replace HB := hid (Z0_ HB.out (le_refl _) hb5); (try replace HE1 := hid (HE1.out.up hb5)); (try replace Hx1 := hid (Hx1.out.up hb5)); (try replace Hr2 := hid (Hr2.out.up hb5)); (try replace Hru := hid (Hru.out.up hb5)); (try replace Hr3 := hid (Hr3.out.up hb5)); clear hb5)
  | (go_at_call_of 70 v3; refine (Hih1.out _ _ _ Hx1.out Hr3.out HE1.out).mono ?_; rintro e w4 ⟨rfl, hb4⟩; replace HB := hid (Z0_ HB.out (le_refl _) hb4); (try replace HE1 := hid (HE1.out.up hb4)); (try replace Hx1 := hid (Hx1.out.up hb4)); (try replace Hr2 := hid (Hr2.out.up hb4)); (try replace Hru := hid (Hru.out.up hb4)); (try replace Hr3 := hid (Hr3.out.up hb4)); clear hb4))
 all_goals
  have Hb9 := hid (Z0_ Hb2.out.drew (le_refl _) HB.out)
  clear HB
  go_simp
  go_wp2
  go_ret
  exact ⟨by rw [← HM.out]; rfl, Hb9.out⟩
open Go.RowKit
def offN (l : List Mat) (j : Nat) : Nat := ((l.take j).map nN).sum
theorem Zj1 {l : List Mat} {j : Nat} (hj : j < l.length) : offN l (j + 1) = offN l j + nN (l.getD j default) := by
 unfold offN
 rw [List.take_succ_eq_append_getElem hj, List.map_append, List.sum_append, show l.getD j default = l[j] by simp [List.getD, hj]]
 simp
theorem Yr8 (l : List Mat) : ∀ j, offN l j ≤ (l.map nN).sum := by
 intro j
 unfold offN
 conv => rhs; rw [← List.take_append_drop j l, List.map_append, List.sum_append]
 exact Nat.le_add_right _ _
theorem Zj2 (f : Mat → (Nat → Bool) → Nat) : ∀ (a b : List Mat) (P : Nat → Bool), sumR f (a ++ b) P = sumR f a P + sumR f b (fun i => P ((a.map nN).sum + i))
 | [], b, P => by simp [sumR]
 | x :: a, b, P => by
  rw [List.cons_append, sumR, sumR, Zj2 f a b, List.map_cons, List.sum_cons]
  have : (fun i => (fun i => P (nN x + i)) ((a.map nN).sum + i)) = fun i => P (nN x + (a.map nN).sum + i) := by funext i; show P _ = P _; rw [Nat.add_assoc]
  rw [this]
  omega
theorem Zn0 (f : Mat → (Nat → Bool) → Nat) {l : List Mat} {j : Nat} (hj : j < l.length) (P : Nat → Bool) : sumR f (l.take (j + 1)) P = sumR f (l.take j) P + f (l.getD j default) (fun i => P (offN l j + i)) := by
 rw [List.take_succ_eq_append_getElem hj, Zj2, show l.getD j default = l[j] by simp [List.getD, hj]]
 simp [sumR, offN]
theorem Zu5 {s : List Int} {N f n : Nat} (hs : InN N s) (hn : n ≤ 64) : InN n (betL s f n) := by
 have hb : ∀ x ∈ betL s (f : Int) (n : Int), 0 ≤ x ∧ x < (n : Int) := fun x hx => by
  obtain ⟨z, hz, rfl⟩ := List.mem_map.1 hx
  have := (List.mem_filter.1 hz).2
  unfold betB at this
  rw [Bool.and_eq_true, decide_eq_true_iff, decide_eq_true_iff] at this
  omega
 refine ⟨⟨?_, fun x hx => ⟨(hb x hx).1, by have := (hb x hx).2; omega⟩⟩, hb⟩
 unfold betL
 rw [List.pairwise_map]
 exact (hs.1.1.sublist List.filter_sublist).imp fun h => by omega
theorem Zg0 {s : List Int} {f n i : Nat} (hi : i < n) : memP (betL s f n) i = memP s (f + i) := by
 rw [Bool.eq_iff_iff, memP_iff, memP_iff]
 unfold betL
 rw [List.mem_map]
 constructor
 ·rintro ⟨z, hz, e⟩
  have := (List.mem_filter.1 hz).1
  rwa [show (((f + i : Nat)) : Int) = z by omega]
 ·intro h
  refine ⟨((f + i : Nat) : Int), List.mem_filter.2 ⟨h, ?_⟩, by omega⟩
  unfold betB
  rw [decide_eq_true (by omega), decide_eq_true (by omega)]
  rfl
theorem Xs4 (E : Nat → Addr) (k : Nat) (m : Mat) (iv sv : Value) (s : List Int) (w : World) (hi : MatL w w.heap.size iv m.i) (hs : Sml m) (hc : chk m = 0) (hr : Row w w.heap.size sv s) (hS : InN (nN m) s) (hE : Env E w) (ih : Zb9 E k) (hd : dp 4 m ≤ k + 1) (ht : m.t = 9) :
  Calls Tryz.prog 88 #[iv, sv] w (Tells w (sumR (rkP k) m.i (memP s) : Nat)) := by
 obtain ⟨hsum, h8⟩ := Zf6 hc ht
 have hn64 := (Z8_ hc).2
 have hoff : ∀ j, offN m.i j ≤ 64 := fun j => by have := Yr8 m.i j; omega
 have hok : ∀ j, j < m.i.length → chk (m.i.getD j default) = 0 ∧ dp 4 (m.i.getD j default) ≤ k ∧ Sml (m.i.getD j default) := fun j hj => by
  have hm := Y1_ m.i j default hj
  have := X4_ hc hm
  exact ⟨this.1, by omega, sml_i hs hm⟩
 have hpre : ∀ j, j ≤ m.i.length → sumR (rkP k) (m.i.take j) (memP s) ≤ offN m.i j := by
  intro j
  induction j with
  | zero => intro _; simp [sumR]
  | succ j ihj =>
   intro hj
   have h1 := ihj (by omega)
   obtain ⟨c1, c2, _⟩ := hok j (by omega)
   have h2 := (rk_ok k _ c1 c2).le_cnt (fun i => memP s (offN m.i j + i))
   have h3 := A1_ (fun i => memP s (offN m.i j + i)) (nN (m.i.getD j default))
   rw [Zn0 _ (by omega), Zj1 (by omega)]
   omega
 have hsl := Y3_ hS
 have hsr : ∀ j, j < s.length → 0 ≤ s.getD j 0 ∧ s.getD j 0 ≤ 64 := fun j hj => by have := F9_ hS hj; omega
 obtain ⟨Ai, ci, rfl, _, hik⟩ := hi
 obtain ⟨As, cs, rfl, _⟩ := id hr
 have Hik := hid hik
 have Hr := hid hr
 have HE := hid hE
 have HS := hid hS
 have Hoff := hid hoff
 have Hok := hid hok
 have Hpre := hid hpre
 have Hsr := hid hsr
 have hlI : (m.i.length : Int) ≤ 8 := by omega
 have hsl64 : s.length ≤ 64 := by omega
 clear hik hr hE hS hoff hok hpre hsr hs hsum hd
 go_enter Tryz.func88, Tryz.ntmps88
 go_wp2
 go_loopw [5, 6, 11] (fun vm vf vj wr => ∃ j : Nat, vj = .int .i64 j ∧ j ≤ m.i.length ∧ vm = .int .i64 (sumR (rkP k) (m.i.take j) (memP s) : Nat) ∧ vf = .int .i64 (offN m.i j : Nat) ∧ Below w.heap.size w wr) (fun _ _ vj _ => m.i.length - (intOf vj).toNat)
 case atStart => exact ⟨0, rfl, Nat.zero_le _, by simp [sumR], by simp [offN], Below.refl _ _⟩
 case round =>
  obtain ⟨j, rfl, hj, rfl, rfl, hbr⟩ := hrel
  by_cases hlt : j < m.i.length
  ·have hltI : (j : Int) < (m.i.length : Int) := by omega
   obtain ⟨ai, ui, hA0, hab, hsix, hmv⟩ := Hik.out j hlt
   subst hA0
   obtain ⟨c1, c2, c3⟩ := Hok.out j hlt
   have hst := Zn0 (rkP k) hlt (memP s)
   have hos := Zj1 hlt
   have ho1 := Hoff.out j
   have ho2 := Hoff.out (j + 1)
   have hp1 := Hpre.out (j + 1) (by omega)
   have hsix1 := hsix.below hbr (by rw [Z2_]; exact hab)
   have hmv1 := (hmv.bel hbr).mono hbr.size
   obtain ⟨lx, ix, hux, hlx, hix⟩ := hmv1.open
   obtain ⟨x0, x1, x2, x3, x4, x5, hu6, s0, s1, s2, s3, s4, s5⟩ := hsix1
   rw [hux] at hu6
   injection hu6 with hu6
   injection hu6 with hu6
   injection hu6 with h0 hu6
   injection hu6 with h1 hu6
   injection hu6 with h2 hu6
   injection hu6 with h3 hu6
   injection hu6 with h4 hu6
   injection hu6 with h5 _
   subst h0 h1 h2 h3 h4 h5
   generalize m.i.getD j default = x at *
   obtain ⟨Alx, clx, rfl, _⟩ := id hlx
   obtain ⟨Aix, cix, rfl, _⟩ := id hix
   subst hux
   have hxn := Z8_ c1
   have hbin := Zu5 (f := offN m.i j) (n := nN x) HS.out hxn.2
   have hrk := rk_ok k x c1 c2
   have e1 : rkP k x (memP (betL s (offN m.i j : Nat) (nN x : Nat))) = rkP k x (fun i => memP s (offN m.i j + i)) := hrk.ext fun i hi' => Zg0 hi'
   rw [← e1] at hst
   have b1 := hrk.le_cnt (memP (betL s (offN m.i j : Nat) (nN x : Nat)))
   have b2 := A1_ (memP (betL s (offN m.i j : Nat) (nN x : Nat))) (nN x)
   obtain ⟨W1, hW1⟩ : ∃ W1, W1 = wr.alloc (.cells #[.int .i64 x.t, .int .i64 x.n, .int .i64 x.a, .int .i64 x.b, .slice Alx x.l.length clx, .slice Aix x.i.length cix] 25) := ⟨_, rfl⟩
   have HW1 := hid hW1
   have hbw : Below wr.heap.size wr W1 := by rw [hW1]; exact (Below.refl _ wr).alloc (le_refl _) _
   have hbx : Blk W1 wr.heap.size 25 #[.int .i64 x.t, .int .i64 x.n, .int .i64 x.a, .int .i64 x.b, .slice Alx x.l.length clx, .slice Aix x.i.length cix] := by rw [hW1]; exact Blk.new wr _ _
   have Hbx := hid hbx
   have hbd := (Below.refl W1.heap.size W1).drew
   have Hb1 := hid (hbr.trans (hbw.mono hbr.size))
   have Hsv1 := hid (((Hr.out.up hbr).up hbw).up hbd)
   have HE1 := hid (((HE.out.up hbr).up hbw).up hbd)
   have Hx1 := hid ((hmv1.up hbw).up hbd)
   obtain ⟨F, hF⟩ : ∃ F, offN m.i j = F := ⟨_, rfl⟩
   obtain ⟨G, hG⟩ : ∃ G, sumR (rkP k) (m.i.take j) (memP s) = G := ⟨_, rfl⟩
   rw [hF] at hbin b1 b2 hst hos ho1 ⊢
   rw [hG] at hst ⊢
   obtain ⟨R, hR⟩ : ∃ R : Nat, rkP k x (memP (betL s (F : Nat) (nN x : Nat))) = R := ⟨_, rfl⟩
   rw [hR] at hst b1
   have Hih : Hid (∀ (v sv : Value) (W : World), MatV W W.heap.size v x → Row W W.heap.size sv (betL s (F : Nat) x.n) → Env E W → Calls Tryz.prog 70 #[v, sv] W (Tells W (R : Int))) := hid fun v sv W h1 h2 h3 => by rw [← hR]; rw [← hxn.1] at h2; exact ih x v sv _ W h1 c3 c1 c2 h2 hbin h3
   have hFI : 0 ≤ (F : Int) ∧ (F : Int) ≤ 1000 := by omega
   have hXI : 0 ≤ x.n ∧ x.n ≤ 1000 := by omega
   have hw1 : IntKind.i64.wrap ((G : Int) + (R : Int)) = (G : Int) + (R : Int) := by rw [IntKind.wrap_i64]; omega
   have hw2 : IntKind.i64.wrap ((F : Int) + x.n) = (F : Int) + x.n := by rw [IntKind.wrap_i64]; omega
   have Hst : Hid ((G : Int) + (R : Int) = (sumR (rkP k) (m.i.take (j + 1)) (memP s) : Nat)) := hid (by rw [hst]; omega)
   have Hos : Hid ((F : Int) + x.n = (offN m.i (j + 1) : Nat)) := hid (by rw [hos]; omega)
   have K1 : Hid (∀ W, Below W1.drew.heap.size W1.drew W → W.cell? ⟨wr.heap.size, 0, none⟩ = some (.int .i64 x.t) ∧ W.cell? ⟨wr.heap.size, 1, none⟩ = some (.int .i64 x.n) ∧ W.cell? ⟨wr.heap.size, 2, none⟩ = some (.int .i64 x.a) ∧ W.cell? ⟨wr.heap.size, 3, none⟩ = some (.int .i64 x.b) ∧ W.cell? ⟨wr.heap.size, 4, none⟩ = some (.slice Alx x.l.length clx) ∧ W.cell? ⟨wr.heap.size, 5, none⟩ = some (.slice Aix x.i.length cix)) := hid fun W hW => ⟨(Hbx.out.drew.below hW Hbx.out.lt).cell 0, (Hbx.out.drew.below hW Hbx.out.lt).cell 1, (Hbx.out.drew.below hW Hbx.out.lt).cell 2, (Hbx.out.drew.below hW Hbx.out.lt).cell 3, (Hbx.out.drew.below hW Hbx.out.lt).cell 4, (Hbx.out.drew.below hW Hbx.out.lt).cell 5⟩
   have HB : Hid (Below W1.drew.heap.size W1.drew W1.drew) := hid (Below.refl _ _)
   clear hW1 hbw hbx hbd hbin hrk e1 b1 b2 hst hos ho1 ho2 hp1 hF hG hR hxn hmv hmv1 hlx hix hsix hab c1 c2 c3 hbr ih hc
   go_wp2
   rw [← HW1.out]
   clear s0 s1 s2 s3 s4 s5 HW1 Hbx
   generalize wr.heap.size = B1 at *
   go_region_held3 (fun W => W.cell? ⟨B1, 0, none⟩ = some (.int .i64 x.t) ∧ W.cell? ⟨B1, 1, none⟩ = some (.int .i64 x.n) ∧ W.cell? ⟨B1, 2, none⟩ = some (.int .i64 x.a) ∧ W.cell? ⟨B1, 3, none⟩ = some (.int .i64 x.b) ∧ W.cell? ⟨B1, 4, none⟩ = some (.slice Alx x.l.length clx) ∧ W.cell? ⟨B1, 5, none⟩ = some (.slice Aix x.i.length cix))
    (exact K1.out _ HB.out)
    (first
    | (go_at_call 115; refine (Zu4 _ s (F : Int) x.n _ Hsv1.out Hsr.out hFI hXI hsl64).mono ?_; rintro e w3 ⟨v3, rfl, hr3, hb3⟩; replace HB := hid (Z0_ HB.out (le_refl _) hb3); replace HE1 := hid (HE1.out.up hb3); replace Hx1 := hid (Hx1.out.up hb3); have Hr3 := hid hr3; clear hr3 hb3)
    | (go_at_call 70; refine (Hih.out _ _ _ Hx1.out Hr3.out HE1.out).mono ?_; rintro e w4 ⟨rfl, hb4⟩; replace HB := hid (Z0_ HB.out (le_refl _) hb4); clear hb4))
   all_goals
    obtain ⟨_, q1, _⟩ := K1.out _ HB.out
    have Hb9 := hid (Z0_ Hb1.out.drew (le_refl _) HB.out)
    clear HB
    go_simp
    go_wp2
    go_roundw
    case rel => exact ⟨j + 1, by go_num, by omega, by rw [← Hst.out], by rw [← Hos.out], Hb9.out⟩
    case measure => simp [intOf]; omega
  ·have hje : j = m.i.length := by omega
   have Hje := hid hje
   have He0 : Hid (m.i.take j = m.i) := hid (by rw [Hje.out, List.take_length])
   have Hbr := hid hbr
   have hlt' : ¬ (j : Int) < (m.i.length : Int) := by omega
   clear hbr hje
   go_wp2
   go_ret
   exact ⟨by rw [He0.out]; rfl, Hbr.out⟩
theorem Yq3 (E : Nat → Addr) : ∀ k, Zb9 E k
 | 0 => fun m _ _ _ _ _ _ _ hd _ _ _ => absurd hd (by have := Zz8 4 m; omega)
 | k + 1 => fun m v sv s w hv hs hc hd hr hS hE => by
  have ih := Yq3 E k
  have htag := Zf5 hc
  rcases (by omega : m.t = 0 ∨ m.t = 1 ∨ m.t = 2 ∨ m.t = 3 ∨ m.t = 4 ∨ m.t = 5 ∨ m.t = 6 ∨ m.t = 7 ∨ m.t = 8 ∨ m.t = 9) with ht | ht | ht | ht | ht | ht | ht | ht | ht | ht
  ·exact Vj2 E k m v sv s w hv hs hc hr hS hE ht
  ·exact Vj3 E k m v sv s w hv hs hc hr hS hE ht
  ·exact Vj4 E k m v sv s w hv hs hc hr hS hE ht
  ·exact Vj5 E k m v sv s w hv hs hc hr hS hE ht
  ·exact Vj6 E k m v sv s w hv hs hc hr hS hE ht
  ·exact W6_ E k m v sv s w hv hs hc hr hS hE (by omega) _ fun v sv W h1 h2 h3 => one_5 E k m v sv s W h1 hs hc h2 hS h3 ih hd ht
  ·exact W6_ E k m v sv s w hv hs hc hr hS hE (by omega) _ fun v sv W h1 h2 h3 => one_6 E k m v sv s W h1 hs hc h2 hS h3 ih hd ht
  ·exact W6_ E k m v sv s w hv hs hc hr hS hE (by omega) _ fun v sv W h1 h2 h3 => one_7 E k m v sv s W h1 hs hc h2 hS h3 ih hd ht
  ·exact W6_ E k m v sv s w hv hs hc hr hS hE (by omega) _ fun v sv W h1 h2 h3 => one_8 E k m v sv s W h1 hs hc h2 hS h3 ih hd ht
  ·rw [rkP_9 (by omega)]
   exact Vj7 E k m v sv s w hv hs hc hr hS hE ht _ fun iv sv W h1 h2 h3 => Xs4 E k m iv sv s W h1 hs hc h2 hS h3 ih hd ht
end Wp
end Go.Proofs.YtgadbnbhgpehjaaGreatDoor
