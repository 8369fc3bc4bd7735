/- What the document's independence goes by, as lists (VIndD). The document's count, shifted and matched of layer 10, walked. The document's base of layer 10, walked: over any answer of its indep. -/
import Derived.Test.YtgadbnbhgpehjaaGreatDoorZA
import Derived.Test.YtgadbnbhgpehjaaGreatDoorZO
import Derived.Test.YtgadbnbhgpehjaaGreatDoorZW
import Derived.Test.YtgadbnbhgpehjaaGreatDoorIRank
import Derived.Deep.RegionHeld3
set_option maxHeartbeats 8000000
set_option maxRecDepth 100000
open Go.Lib (hid)
open Nat (le_refl)
namespace Go.Proofs.YtgadbnbhgpehjaaGreatDoor.Wp
open Go Go.RowKit
def baseL (I : List Int → Bool) : List Int → List Int → List Int
 | out, [] => out
 | out, x :: r => baseL I (if I (Y2_ out [x]) = true then out ++ [x] else out) r
def cntC (cl s : List Int) (c : Int) : Nat := (s.filter fun x => cl.getD x.toNat 0 == c).length
def D7_ (l : List (List Int)) : List Int → List Int → Bool
 | [], _ => true
 | x :: s, used => (Z7_ (l.getD x.toNat []) used).any fun r => D7_ l s (Y2_ used [r])
theorem Yu5 {cl s : List Int} {c : Int} {k : Nat} (hk : k < s.length) : cntC cl (s.take (k + 1)) c = cntC cl (s.take k) c + if cl.getD (s.getD k 0).toNat 0 = c then 1 else 0 := by
 unfold cntC
 rw [List.take_succ_eq_append_getElem hk, List.filter_append, List.length_append, show s[k] = s.getD k 0 by simp [List.getD, hk]]
 congr 1
 rw [List.filter_cons]
 by_cases h : cl.getD (s.getD k 0).toNat 0 = c
 ·rw [if_pos h, if_pos (by rw [h]; exact beq_self_eq_true c)]; rfl
 ·rw [if_neg h, if_neg (by simpa using h)]; rfl
theorem Xt5 (cl s : List Int) (c : Int) : cntC cl s c ≤ s.length := List.length_filter_le _ _
end Go.Proofs.YtgadbnbhgpehjaaGreatDoor.Wp
namespace Go.Proofs.YtgadbnbhgpehjaaGreatDoor
open Go Go.RowKit
namespace Wp
theorem Row.nthV {w : World} {B : Nat} {A : Option Addr} {n c : Nat} {l : List Int} (h : Row w B (.slice A n c) l) {k : Nat} (hk : k < l.length) : ∃ ad, A = some ad ∧ ∀ W, Below B w W → W.cell? (ad.add k) = some (.int .i64 (l.getD k 0)) := by
 obtain ⟨A', c', he, _, hc⟩ := h
 injection he with e1 e2 e3
 subst e1 e2 e3
 obtain ⟨ad, rfl, hab, hcl⟩ := hc k hk
 exact ⟨ad, rfl, fun W hW => (hW.cell (by rw [Z2_]; exact hab)).trans hcl⟩
theorem Yu6 (vc vs : Value) (cl s : List Int) (c : Int) (w : World) (hc : Row w w.heap.size vc cl) (hs : Row w w.heap.size vs s) (hin : ∀ k, k < s.length → 0 ≤ s.getD k 0 ∧ s.getD k 0 < (cl.length : Int)) (hsl : s.length ≤ 64) :
  Calls Tryz.prog 76 #[vc, vs, .int .i64 c] w (Tells w (cntC cl s c : Nat)) := by
 have HC := hid hc
 have HS := hid hs
 have Hin := hid hin
 have hsI : (s.length : Int) ≤ 64 := by omega
 obtain ⟨Ac, cc, rfl, _⟩ := hc
 obtain ⟨As, cs, rfl, _⟩ := hs
 clear hin
 go_enter Tryz.func76, Tryz.ntmps76
 go_wp2
 go_loopw [7, 8] (fun vn vi wr => ∃ k : Nat, vi = .int .i64 (k : Int) ∧ k ≤ s.length ∧ vn = .int .i64 (cntC cl (s.take k) c : Nat) ∧ Below w.heap.size w wr) (fun _ vi _ => s.length - (intOf vi).toNat)
 case atStart => exact ⟨0, rfl, Nat.zero_le _, by rw [List.take_zero]; rfl, Below.refl _ _⟩
 case round =>
  obtain ⟨k, rfl, hk, rfl, hbr⟩ := hrel
  have HB := hid hbr
  clear hbr
  by_cases hlt : k < s.length
  ·have hkI : (k : Int) < (s.length : Int) := by omega
   obtain ⟨as_, hA, hcs⟩ := Row.nthV HS.out hlt
   subst hA
   have gs := hcs _ HB.out
   have hx := Hin.out k hlt
   have Hst := hid (Yu5 (cl := cl) (c := c) hlt)
   have hle := Xt5 cl (s.take k) c
   rw [List.length_take] at hle
   obtain ⟨X, hX⟩ : ∃ X : Nat, s.getD k 0 = (X : Int) := ⟨(s.getD k 0).toNat, by omega⟩
   rw [hX] at gs hx Hst
   rw [show ((X : Int)).toNat = X from rfl] at Hst
   obtain ⟨ac, hA2, hcc⟩ := Row.nthV HC.out (k := X) (by omega)
   subst hA2
   have gc := hcc _ HB.out
   generalize cl.getD X 0 = y at *
   generalize cntC cl (s.take k) c = N at *
   have hNI : (N : Int) ≤ 64 := by omega
   have hXI : (X : Int) < (cl.length : Int) := hx.2
   clear hcs hcc hX hx
   by_cases hy : y = c
   ·have Hn : Hid (cntC cl (s.take (k + 1)) c = N + 1) := hid (by rw [Hst.out, if_pos hy])
    clear Hst
    subst hy
    go_wp2
    go_roundw
    case rel => exact ⟨k + 1, by go_num, by omega, by rw [Hn.out]; go_num, HB.out⟩
    case measure => simp [intOf]; omega
   ·have Hn : Hid (cntC cl (s.take (k + 1)) c = N) := hid (by rw [Hst.out, if_neg hy, Nat.add_zero])
    have hyb : (y == c) = false := by simpa using hy
    clear Hst
    go_wp2
    go_roundw
    case rel => exact ⟨k + 1, by go_num, by omega, by rw [Hn.out], HB.out⟩
    case measure => simp [intOf]; omega
  ·have hke : k = s.length := by omega
   subst hke
   have Hall : Hid (s.take s.length = s) := hid List.take_length
   rw [Hall.out]
   go_wp2
   go_ret
   exact ⟨rfl, HB.out⟩
theorem Row.oneV {w : World} {B : Nat} {A : Option Addr} {n c : Nat} {l : List Int} (h : Row w B (.slice A n c) l) {i : Nat} (hi : i < l.length) : ∃ ad, A = some ad ∧ n = l.length ∧ i < c ∧ Row w B (.slice (some (ad.add i)) 1 (c - i)) [l.getD i 0] := by
 obtain ⟨A', c', he, ⟨h1, h2, h3⟩, hk⟩ := h
 injection he with e1 e2 e3
 subst e1 e2 e3
 obtain ⟨ad, rfl, hab, hc⟩ := hk i hi
 refine ⟨ad, rfl, rfl, by omega, _, _, rfl, ⟨by simp; omega, by omega, fun e => by cases e⟩, fun k hk' => ?_⟩
 have : k = 0 := by simpa using hk'
 subst this
 exact ⟨_, rfl, by rw [Z2_]; exact hab, by rw [add_zero]; exact hc⟩
theorem Zu9 (sv : Value) (s : List Int) (f n : Int) (w : World) (hr : Row w w.heap.size sv s) (hs : ∀ k, k < s.length → 0 ≤ s.getD k 0 ∧ s.getD k 0 ≤ 64) (hf : 0 ≤ f ∧ f ≤ 1000) (hn : 0 ≤ n ∧ n ≤ 1000) (hsl : s.length ≤ 64) :
  Calls Tryz.prog 66 #[sv, .int .i64 f, .int .i64 n] w (Gives w (betL s f n)) := by
 obtain ⟨As, cs, rfl, _, hsk⟩ := hr
 have Hsk := hid hsk
 have Hs := hid hs
 have hsI : (s.length : Int) ≤ 64 := by omega
 have hwf : IntKind.i64.wrap (f + n) = f + n := by rw [IntKind.wrap_i64]; omega
 have hown0 : (w.alloc (.cells #[] 3)).ownsRow w.heap.size 3 1 (.slice (some ⟨w.heap.size, 0, none⟩) 0 0) ([] : List Int).length (ints []) :=
  World.ownsRow_made w #[] 0 (le_refl _) (by unfold maxLen; omega) rfl
 have hB0 : Below w.heap.size w (w.alloc (.cells #[] 3)) := (Below.refl _ w).alloc (le_refl _) _
 clear hsk hs
 go_enter Tryz.func66, Tryz.ntmps66
 go_wp2
 go_loopw [7, 8] (fun vl vk wr => ∃ k : Nat, vk = .int .i64 k ∧ k ≤ s.length ∧ wr.ownsRow w.heap.size 3 1 vl (betL (s.take k) f n).length (ints (betL (s.take k) f n)) ∧ Below w.heap.size w wr) (fun _ vk _ => s.length - (intOf vk).toNat)
 case atStart => exact ⟨0, rfl, Nat.zero_le _, hown0, hB0⟩
 case round =>
  obtain ⟨k, rfl, hk, hown, hbr⟩ := hrel
  clear hown0
  by_cases hlt : k < s.length
  ·have hltI : (k : Int) < (s.length : Int) := by omega
   have hx := Hs.out k hlt
   obtain ⟨as_, hA, hasb, hcs⟩ := Hsk.out k hlt
   subst hA
   have gs := (hbr.cell (p := as_.add k) (by rw [Z2_]; exact hasb)).trans hcs
   have hmo := Zm8 (f := f) (n := n) hlt
   have hbl := Zv9 (s.take k) f n
   rw [List.length_take] at hbl
   generalize s.getD k 0 = x at *
   have Hmo := hid hmo
   clear hcs hmo
   by_cases h1 : f ≤ x
   ·by_cases h2 : x < f + n
    ·have hw : IntKind.i64.wrap (x - f) = x - f := by rw [IntKind.wrap_i64]; omega
     have Hm : Hid (betL (s.take (k + 1)) f n = betL (s.take k) f n ++ [x - f]) := hid (by rw [Hmo.out, if_pos (by unfold betB; rw [decide_eq_true h1, decide_eq_true h2]; rfl)])
     go_wp2_with (at_builtin; refine Z4_ rfl _ _ rfl w.heap.size _ _ _ (betL (s.take k) f n) [x - f] rfl rfl (hown.alloc _) (Row.lit1 _ (x - f)) (by omega) (by simp) (by have := hbr.size; simp; omega) ?_)
     intro v' w6 hown' hgrow
     have hb6 : Below w.heap.size wr w6 := ((Below.refl _ wr).alloc hbr.size _).grown hgrow (by have := hbr.size; simp; omega) (fun i hi => (hown.lt i hi).1)
     have Hown6 : Hid (w6.ownsRow w.heap.size 3 1 v' (betL (s.take (k + 1)) f n).length (ints (betL (s.take (k + 1)) f n))) := hid (by rw [Hm.out, List.length_append]; exact hown')
     have Hb6 := hid (hbr.trans hb6)
     clear hown' hb6 hown hbr
     go_wp2
     go_roundw
     case rel => exact ⟨k + 1, by go_num, by omega, Hown6.out, Hb6.out⟩
     case measure => simp [intOf]; omega
    ·have Hm : Hid (betL (s.take (k + 1)) f n = betL (s.take k) f n) := hid (by rw [Hmo.out, if_neg (by unfold betB; rw [decide_eq_false h2, Bool.and_false]; decide), List.append_nil])
     have Hown6 := hid hown
     have Hb6 := hid hbr
     clear hown hbr
     go_wp2
     go_roundw
     case rel => exact ⟨k + 1, by go_num, by omega, by rw [Hm.out]; exact Hown6.out, Hb6.out⟩
     case measure => simp [intOf]; omega
   ·have Hm : Hid (betL (s.take (k + 1)) f n = betL (s.take k) f n) := hid (by rw [Hmo.out, if_neg (by unfold betB; rw [decide_eq_false h1, Bool.false_and]; decide), List.append_nil])
    have Hown6 := hid hown
    have Hb6 := hid hbr
    clear hown hbr
    go_wp2
    go_roundw
    case rel => exact ⟨k + 1, by go_num, by omega, by rw [Hm.out]; exact Hown6.out, Hb6.out⟩
    case measure => simp [intOf]; omega
  ·have hke : k = s.length := by omega
   subst hke
   rw [List.take_length] at hown
   go_wp2
   go_ret
   exact ⟨_, rfl, Row.of_own hown rfl, hbr⟩
open Go Go.RowKit
theorem Xf3 {n : Nat} (hn : n ≤ 64) {x : Int} (hx : 0 ≤ x ∧ x < (n : Int)) : InN n [x] := ⟨⟨by simp, fun z hz => by rw [List.mem_singleton.1 hz]; exact ⟨by omega, by omega⟩⟩, fun z hz => by rw [List.mem_singleton.1 hz]; exact hx⟩
theorem Xt6 {n : Nat} (hn : n ≤ 64) {out : List Int} {x : Int} (ho : InN n out) (hx : 0 ≤ x ∧ x < (n : Int)) (hlt : ∀ y ∈ out, y < x) : InN n (out ++ [x]) ∧ InN n (Y2_ out [x]) := by
 have h1 := Xf3 hn hx
 refine ⟨⟨⟨?_, fun y hy => ?_⟩, fun y hy => ?_⟩, ⟨E2_ _ _, fun y hy => ?_⟩⟩
 ·rw [List.pairwise_append]
  exact ⟨ho.1.1, by simp, fun a ha b hb => by rw [List.mem_singleton.1 hb]; exact hlt a ha⟩
 ·rcases List.mem_append.1 hy with hy | hy
  ·exact ho.1.2 y hy
  ·exact h1.1.2 y hy
 ·rcases List.mem_append.1 hy with hy | hy
  ·exact ho.2 y hy
  ·exact h1.2 y hy
 ·rcases (Q5_ ho.1 h1.1 y).1 hy with hy | hy
  ·exact ho.2 y hy
  ·exact h1.2 y hy
theorem Yu7 {s : List Int} {k : Nat} (hk : k < s.length) : s.drop k = s.getD k 0 :: s.drop (k + 1) := by
 rw [List.drop_eq_getElem_cons hk]
 simp [List.getD, hk]
theorem W7_ (n : Nat) (hn : n ≤ 64) (I : List Int → Bool) (c0 c1 c2 c3 c4 c5 sv : Value) (s : List Int) (w : World) (hs : InN n s) (hsl : s.length ≤ 64) (hr : Row w w.heap.size sv s)
  (HI : ∀ (t : List Int) (vt : Value) (W : World), Below w.heap.size w W → InN n t → Row W W.heap.size vt t → Calls Tryz.prog 46 #[.agg #[c0, c1, c2, c3, c4, c5], vt] W (Says W (I t))) :
  Calls Tryz.prog 49 #[.agg #[c0, c1, c2, c3, c4, c5], sv] w (Gives w (baseL I [] s)) := by
 have HS := hid hs
 have HII := hid HI
 have hsI : (s.length : Int) ≤ 64 := by omega
 obtain ⟨W0, hW0⟩ : ∃ W0, W0 = w.alloc (.cells #[c0, c1, c2, c3, c4, c5] 25) := ⟨_, rfl⟩
 have HW0 := hid hW0
 have HB0 : Hid (Below w.heap.size w W0) := hid (by rw [hW0]; exact (Below.refl _ w).alloc (le_refl _) _)
 have hlt0 : w.heap.size < W0.heap.size := by rw [hW0]; simp
 have HC : Hid (∀ (W : World), Below W0.heap.size W0 W → W.cell? ⟨w.heap.size, 0, none⟩ = some c0 ∧ W.cell? ⟨w.heap.size, 1, none⟩ = some c1 ∧ W.cell? ⟨w.heap.size, 2, none⟩ = some c2 ∧ W.cell? ⟨w.heap.size, 3, none⟩ = some c3 ∧ W.cell? ⟨w.heap.size, 4, none⟩ = some c4 ∧ W.cell? ⟨w.heap.size, 5, none⟩ = some c5) := hid fun W hW => by
  have hbk := Blk.new w 25 #[c0, c1, c2, c3, c4, c5]
  rw [← hW0] at hbk
  exact ⟨(hW.cell (p := ⟨w.heap.size, 0, none⟩) hlt0).trans (hbk.cell 0), (hW.cell (p := ⟨w.heap.size, 1, none⟩) hlt0).trans (hbk.cell 1), (hW.cell (p := ⟨w.heap.size, 2, none⟩) hlt0).trans (hbk.cell 2), (hW.cell (p := ⟨w.heap.size, 3, none⟩) hlt0).trans (hbk.cell 3), (hW.cell (p := ⟨w.heap.size, 4, none⟩) hlt0).trans (hbk.cell 4), (hW.cell (p := ⟨w.heap.size, 5, none⟩) hlt0).trans (hbk.cell 5)⟩
 have HR0 := hid (hr.up HB0.out)
 obtain ⟨As, cs, rfl, _⟩ := id hr
 have hsz : W0.heap.size = w.heap.size + 1 := by rw [hW0]; simp
 have hown0 : (W0.alloc (.cells #[] 3)).ownsRow W0.heap.size 3 1 (.slice (some ⟨w.heap.size + 1, 0, none⟩) 0 0) ([] : List Int).length (ints []) := by
  rw [← hsz]
  exact World.ownsRow_made W0 #[] 0 (le_refl _) (by unfold maxLen; omega) rfl
 have hB1 : Below W0.heap.size W0 (W0.alloc (.cells #[] 3)) := (Below.refl _ W0).alloc (le_refl _) _
 have HOW0 := hid hown0
 have HB1 := hid hB1
 clear HI hs hr hown0 hB1
 go_enter Tryz.func49, Tryz.ntmps49
 go_wp2
 rw [← HW0.out]
 clear hW0
 go_loopw [5, 6] (fun vo vi wr => ∃ (k : Nat) (out : List Int), vi = .int .i64 (k : Int) ∧ k ≤ s.length ∧ Hid (baseL I out (s.drop k) = baseL I [] s ∧ InN n out ∧ (∀ y ∈ out, ∀ z ∈ s.drop k, y < z) ∧ out.length ≤ k ∧ wr.ownsRow W0.heap.size 3 1 vo out.length (ints out) ∧ Below W0.heap.size W0 wr)) (fun _ vi _ => s.length - (intOf vi).toNat)
 case atStart => exact ⟨0, [], rfl, Nat.zero_le _, by rw [List.drop_zero], ⟨V4_, fun x hx => absurd hx (by simp)⟩, fun y hy => absurd hy (by simp), Nat.zero_le _, HOW0.out, HB1.out⟩
 case round =>
  obtain ⟨k, out, rfl, hk, HT⟩ := hrel
  by_cases hlt : k < s.length
  ·have hltI : (k : Int) < (s.length : Int) := by omega
   have hw1 : IntKind.i64.wrap ((k : Int) + 1) = (k : Int) + 1 := by rw [IntKind.wrap_i64]; omega
   have hbd := (Below.refl wr.heap.size wr).drew
   have hbr := HT.out.2.2.2.2.2
   obtain ⟨ad, hA, _, hic, hone⟩ := Row.oneV (HR0.out.up hbr) hlt
   subst hA
   obtain ⟨ad', hA', hcs⟩ := Row.nthV HR0.out hlt
   injection hA' with hA'
   subst hA'
   have hone1 := hone.up hbd
   have hicI : (k : Int) + 1 ≤ (cs : Int) := by omega
   have K5 : Hid (∀ W, Below wr.drew.heap.size wr.drew W → W.cell? ⟨w.heap.size, 0, none⟩ = some c0 ∧ W.cell? ⟨w.heap.size, 1, none⟩ = some c1 ∧ W.cell? ⟨w.heap.size, 2, none⟩ = some c2 ∧ W.cell? ⟨w.heap.size, 3, none⟩ = some c3 ∧ W.cell? ⟨w.heap.size, 4, none⟩ = some c4 ∧ W.cell? ⟨w.heap.size, 5, none⟩ = some c5) := hid fun W hW => HC.out W (Z0_ hbr.drew (le_refl _) hW)
   have HB : Hid (Below wr.drew.heap.size wr.drew wr.drew) := hid (Below.refl _ _)
   obtain ⟨x, hx⟩ : ∃ x, s.getD k 0 = x := ⟨_, rfl⟩
   rw [hx] at hone1 hcs
   have HCS := hid hcs
   have hdr := Yu7 hlt
   rw [hx] at hdr
   have HDR := hid hdr
   have HXN : Hid (0 ≤ x ∧ x < (n : Int)) := hid (HS.out.2 x (by rw [← hx]; simp [List.getD, hlt]))
   have Hone : Hid (∀ (A : Option Addr) (n c : Nat), A = some (ad.add k) → n = 1 → c = cs - k → Row wr.drew wr.drew.heap.size (.slice A n c) [x]) := hid fun A n c h1 h2 h3 => by subst h1 h2 h3; exact hone1
   have HE := hid (Xt6 hn HT.out.2.1 HXN.out fun y hy => HT.out.2.2.1 y hy x (by rw [hdr]; simp))
   have HRO := hid ((Row.of_own HT.out.2.2.2.2.1 rfl).up hbd)
   have HOL : Hid (out.length ≤ 1048576) := hid (by have := HT.out.2.2.2.1; omega)
   obtain ⟨z, hz⟩ : ∃ z, I (Y2_ out [x]) = z := ⟨_, rfl⟩
   have HZ := hid hz
   have HBW := hid (Z0_ HB0.out (le_refl _) (hbr.drew.mono (le_refl _)))
   have HIU : Hid (∀ (vt : Value) (W : World), Below wr.drew.heap.size wr.drew W → Row W W.heap.size vt (Y2_ out [x]) → Calls Tryz.prog 46 #[.agg #[c0, c1, c2, c3, c4, c5], vt] W (Says W z)) := hid fun vt W h1 h2 => by rw [← hz]; exact HII.out _ vt W (Z0_ HBW.out (le_refl _) h1) HE.out.2 h2
   have hlt2 : k + 1 ≤ s.length := by omega
   have hii : (k : Int) ≤ (k : Int) + 1 := by omega
   clear hone hone1 hdr hbr hx hz hcs hbd
   go_wp2
   go_region_held3 (fun W => W.cell? ⟨w.heap.size, 0, none⟩ = some c0 ∧ W.cell? ⟨w.heap.size, 1, none⟩ = some c1 ∧ W.cell? ⟨w.heap.size, 2, none⟩ = some c2 ∧ W.cell? ⟨w.heap.size, 3, none⟩ = some c3 ∧ W.cell? ⟨w.heap.size, 4, none⟩ = some c4 ∧ W.cell? ⟨w.heap.size, 5, none⟩ = some c5)
    (exact K5.out _ HB.out)
    (first
    | (go_at_call 42; refine (I5_ _ _ out [x] _ HRO.out (Hone.out _ _ _ (by simp; intro h; omega) (by first | rfl | (simp; try omega)) (by first | rfl | (simp; try omega))) HOL.out (by simp)).mono ?_; rintro e w11 ⟨v11, rfl, hr11, hb11⟩; replace HB := hid (Z0_ HB.out (le_refl _) hb11); have HU := hid hr11; clear hr11 hb11)
    | (go_at_call_of 46 v11; refine (HIU.out _ _ HB.out HU.out).mono ?_; rintro e w12 ⟨rfl, hb12⟩; replace HB := hid (Z0_ HB.out (le_refl _) hb12); clear hb12))
   all_goals
    go_simp
    have HBN := hid (Z0_ ((Below.refl wr.heap.size wr).drew) (le_refl _) HB.out)
    have HBW0 := hid (Z0_ HT.out.2.2.2.2.2 (le_refl _) HBN.out)
    cases z
    ·have Hnx : Hid (baseL I out (s.drop (k + 1)) = baseL I [] s) := hid (by rw [← HT.out.1, HDR.out, baseL, if_neg (by rw [HZ.out]; decide)])
     have HOW := hid (World.ownsRow.kept HT.out.2.2.2.2.1 (Z9_ HBN.out none) (by cases hv : (Value.ownBlock _) <;> simp))
     go_wp2
     go_roundw
     case rel => exact ⟨k + 1, out, by go_num, hlt2, Hnx.out, HT.out.2.1, fun y hy q hq => HT.out.2.2.1 y hy q (by rw [HDR.out]; simp [hq]), by have := HT.out.2.2.2.1; omega, HOW.out, HBW0.out⟩
     case measure => simp [intOf]; omega
    ·have Hnx : Hid (baseL I (out ++ [x]) (s.drop (k + 1)) = baseL I [] s) := hid (by rw [← HT.out.1, HDR.out, baseL, if_pos HZ.out])
     have HOW := hid (World.ownsRow.kept HT.out.2.2.2.2.1 (Z9_ HBN.out none) (by cases hv : (Value.ownBlock _) <;> simp))
     have gx := HCS.out _ HBW0.out
     have hs7 := HBW0.out.size
     have hol := HT.out.2.2.2.1
     have Hsrt : Hid (∀ y ∈ out ++ [x], ∀ q ∈ s.drop (k + 1), y < q) := hid fun y hy q hq => by
      rcases List.mem_append.1 hy with hy | hy
      ·exact HT.out.2.2.1 y hy q (by rw [HDR.out]; simp [hq])
      ·rw [List.mem_singleton.1 hy]
       have hp : (x :: s.drop (k + 1)).Pairwise (· < ·) := by rw [← HDR.out]; exact HS.out.1.1.sublist (List.drop_sublist _ _)
       exact (List.pairwise_cons.1 hp).1 q hq
     go_wp2_with (at_builtin; refine Z4_ rfl _ _ rfl W0.heap.size _ _ _ out [x] rfl rfl (World.ownsRow.alloc HOW.out _) (Row.lit1 _ x) (by omega) (by simp) (by simp; omega) ?_)
     intro v8 w8 hown8 hg8
     have hown8' : w8.ownsRow W0.heap.size 3 1 v8 (out ++ [x]).length (ints (out ++ [x])) := by rw [List.length_append, hsz]; exact hown8
     have hb8 : Below W0.heap.size W0 w8 := (HBW0.out.alloc hs7 _).grown hg8 (by simp; omega) (fun i hi => (World.ownsRow.lt HOW.out i hi).1)
     have HO8 := hid hown8'
     have HB8 := hid hb8
     clear hown8 hown8' hg8 hb8
     go_wp2
     go_roundw
     case rel => exact ⟨k + 1, out ++ [x], by go_num, hlt2, Hnx.out, HE.out.1, Hsrt.out, by rw [List.length_append]; simp; omega, HO8.out, HB8.out⟩
     case measure => simp [intOf]; omega
  ·have hke : k = s.length := by omega
   subst hke
   have Hend : Hid (out = baseL I [] s) := hid (by rw [← HT.out.1, List.drop_length, baseL])
   have Hfin := hid (Z0_ HB0.out (le_refl _) HT.out.2.2.2.2.2)
   go_wp2
   go_ret
   exact ⟨_, rfl, by rw [← Hend.out]; exact Row.of_own HT.out.2.2.2.2.1 rfl, Hfin.out⟩
end Wp
end Go.Proofs.YtgadbnbhgpehjaaGreatDoor
