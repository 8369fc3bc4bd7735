/- The program's match.May, and its search, walked. The program's greatest matching, walked. -/
import Derived.Test.YtgadbnbhgpehjaaGreatDoorZA
import Derived.Deep.OwnRows
import Derived.Test.YtgadbnbhgpehjaaGreatDoorZP
import Derived.Deep.RegionWith
set_option maxHeartbeats 4000000
set_option maxRecDepth 100000
open Go.Lib (hid)
open Nat (le_refl)
namespace Go.Proofs.YtgadbnbhgpehjaaGreatDoor
open Go.RowKit
namespace Wp.K
def okL (right : Int) (l : List Int) : Bool := mayB l && (decide (l.length = 0) || decide (l.getD (l.length - 1) 0 < right))
def mayM (right : Int) (adj : List (List Int)) : Bool := decide (0 ≤ right ∧ right ≤ 64) && decide (adj.length ≤ 64) && adj.all (okL right)
theorem mayM_off {right : Int} {adj : List (List Int)} (h : right < 0 ∨ 64 < right ∨ 64 < (adj.length : Int)) : mayM right adj = false := by
 unfold mayM
 rw [Bool.and_eq_false_iff, Bool.and_eq_false_iff, decide_eq_false_iff_not, decide_eq_false_iff_not]
 omega
theorem mayM_miss {right : Int} {adj : List (List Int)} {i : Nat} (hi : i < adj.length) (h : okL right (adj.getD i []) = false) : mayM right adj = false := by
 unfold mayM
 rw [Bool.and_eq_false_iff]
 right
 rw [Bool.eq_false_iff]
 intro e
 have := List.all_eq_true.1 e adj[i] (List.getElem_mem hi)
 rw [show adj.getD i [] = adj[i] by simp [List.getD, hi]] at h
 rw [this] at h
 cases h
theorem mayM_all {right : Int} {adj : List (List Int)} (h1 : ¬ right < 0) (h2 : ¬ 64 < right) (h3 : ¬ 64 < (adj.length : Int)) (h : ∀ i, i < adj.length → okL right (adj.getD i []) = true) : mayM right adj = true := by
 unfold mayM
 rw [Bool.and_eq_true, Bool.and_eq_true, decide_eq_true_iff, decide_eq_true_iff, List.all_eq_true]
 refine ⟨⟨by omega, by omega⟩, fun l hl => ?_⟩
 obtain ⟨i, hi, rfl⟩ := List.mem_iff_getElem.1 hl
 have := h i hi
 rwa [show adj.getD i [] = adj[i] by simp [List.getD, hi]] at this
theorem Vx8 {right : Int} {l : List Int} (h : mayB l = false) : okL right l = false := by simp [okL, h]
theorem Xr5 {right : Int} {l : List Int} (h : mayB l = true) (h0 : l.length = 0) : okL right l = true := by simp [okL, h, h0]
theorem Xa9 {right x : Int} {l : List Int} (h : mayB l = true) (h0 : 0 < l.length) (hx : l.getD (l.length - 1) 0 = x) : okL right l = decide (x < right) := by
 unfold okL
 rw [h, hx, decide_eq_false (show ¬ l.length = 0 by omega)]
 simp
theorem mayset_is (v : Value) (l : List Int) (b : Bool) (h : mayB l = b) (w : World) (hr : Row w w.heap.size v l) : Calls Tryz.prog 39 #[v] w (Says w b) := by
 subst h
 obtain ⟨_, _, _, ⟨h1, h2, _⟩, _⟩ := id hr
 exact may_any v l w hr (by unfold maxLen at h2; omega)
theorem kmay_any (right : Int) (v : Value) (adj : List (List Int)) (w : World) (hr : Rows2 w w.heap.size v adj) :
  Calls Tryz.prog 111 #[.int .i64 right, v] w (Says w (mayM right adj)) := by
 obtain ⟨A, c, rfl, _, hcell⟩ := hr
 have Hcell := hid hcell
 clear hcell
 by_cases b1 : right < 0
 ·rw [mayM_off (.inl b1)]
  go_enter Tryz.func111, Tryz.ntmps111
  go_wp2
  go_ret
  exact ⟨rfl, Below.refl _ _⟩
 by_cases b2 : 64 < right
 ·rw [mayM_off (.inr (.inl b2))]
  go_enter Tryz.func111, Tryz.ntmps111
  go_wp2
  go_ret
  exact ⟨rfl, Below.refl _ _⟩
 by_cases b3 : 64 < (adj.length : Int)
 ·rw [mayM_off (.inr (.inr b3))]
  go_enter Tryz.func111, Tryz.ntmps111
  go_wp2
  go_ret
  exact ⟨rfl, Below.refl _ _⟩
 have Hall := hid (fun h => mayM_all (adj := adj) b1 b2 b3 h)
 go_enter Tryz.func111, Tryz.ntmps111
 go_wp2
 go_loopw [20] (fun vi wr => ∃ i : Nat, vi = .int .i64 i ∧ i ≤ adj.length ∧ Below w.heap.size w wr ∧ ∀ j, j < i → okL right (adj.getD j []) = true) (fun vi _ => adj.length - (intOf vi).toNat)
 case atStart => exact ⟨0, rfl, Nat.zero_le _, Below.refl _ _, fun j hj => absurd hj (Nat.not_lt_zero _)⟩
 case round =>
  obtain ⟨i, rfl, hi, hbr, hok⟩ := hrel
  have Hbr := hid hbr
  have Hok := hid hok
  clear hbr hok
  by_cases hlt : i < adj.length
  ·have hltI : (i : Int) < (adj.length : Int) := by omega
   obtain ⟨ad, u, hA, hab, hcu, hru⟩ := Hcell.out i hlt
   subst hA
   have g1 := (Hbr.out.cell (p := ad.add i) (by rw [Z2_]; exact hab)).trans hcu
   have Hru := hid ((hru.below Hbr.out).mono Hbr.out.size)
   have Hmiss := hid (fun h => mayM_miss (right := right) hlt h)
   have Hnext : Hid (okL right (adj.getD i []) = true → ∀ j, j < i + 1 → okL right (adj.getD j []) = true) := fun h j hj => by
    by_cases e : j = i
    ·rw [e]; exact h
    ·exact Hok.out j (by omega)
   clear hcu hab Hok
   generalize adj.getD i [] = l at *
   rcases hm : mayB l with _ | _
   ·have Hm := hid hm
    obtain ⟨Au, cu, rfl, _⟩ := hru
    clear hm
    rw [Hmiss.out (Vx8 Hm.out)]
    go_wp2_with fail
    refine (mayset_is _ l false Hm.out _ Hru.out).mono ?_
    rintro e w1 ⟨rfl, hb1⟩
    have Hb1 := hid (Z0_ Hbr.out (le_refl _) hb1)
    clear hb1
    go_wp2
    go_ret
    exact ⟨rfl, Hb1.out⟩
   ·have Hm := hid hm
    obtain ⟨Au, cu, rfl, hcap, hcl⟩ := hru
    have Hcl := hid hcl
    obtain ⟨L, hL⟩ : ∃ L, l.length = L := ⟨_, rfl⟩
    have HL := hid hL
    have hLm : (L : Int) ≤ 9223372036854775807 := by
     have h1 := hcap.1
     have h2 := hcap.2.1
     unfold maxLen at h2
     omega
    rw [hL] at g1 Hru
    clear hm hcl hcap hL
    by_cases h0 : L = 0
    ·have hok1 := hid (Xr5 (right := right) Hm.out (HL.out.trans h0))
     subst h0
     go_wp2_with fail
     refine (mayset_is _ l true Hm.out _ Hru.out).mono ?_
     rintro e w1 ⟨rfl, hb1⟩
     have Hb1 := hid (Z0_ Hbr.out (le_refl _) hb1)
     clear hb1
     go_wp2
     go_roundw
     case rel => exact ⟨i + 1, by go_num, by omega, Hb1.out, Hnext.out hok1.out⟩
     case measure => simp [intOf]; omega
    ·obtain ⟨x, hx⟩ : ∃ x, l.getD (l.length - 1) 0 = x := ⟨_, rfl⟩
     obtain ⟨al, hAl, halb, hcx⟩ := Hcl.out (l.length - 1) (by have := HL.out; omega)
     have Hlast := hid (Xa9 (right := right) Hm.out (by have := HL.out; omega) hx)
     rw [hx, HL.out] at hcx
     subst hAl
     have hL0 : (0 : Int) < (L : Int) := by omega
     have hw1 : IntKind.i64.wrap ((L : Int) - 1) = (L : Int) - 1 := by rw [IntKind.wrap_i64]; omega
     have hw2 : (0 : Int) ≤ (L : Int) - 1 := by omega
     have hw3 : (L : Int) - 1 < (L : Int) := by omega
     have hw4 : ((L : Int) - 1).toNat = L - 1 := by omega
     clear hx h0
     go_wp2_with fail
     refine (mayset_is _ l true Hm.out _ Hru.out).mono ?_
     rintro e w1 ⟨rfl, hb1⟩
     have Hb1 := hid (Z0_ Hbr.out (le_refl _) hb1)
     have g2 := (Hb1.out.cell (p := al.add (L - 1)) (by rw [Z2_]; exact halb)).trans hcx
     clear hb1 hcx
     by_cases hxr : x < right
     ·have hxr2 : ¬ right ≤ x := by omega
      have Hok1 : Hid (okL right l = true) := Hlast.out.trans (decide_eq_true hxr)
      go_wp2
      go_roundw
      case rel => exact ⟨i + 1, by go_num, by omega, Hb1.out, Hnext.out Hok1.out⟩
      case measure => simp [intOf]; omega
     ·have hxr2 : right ≤ x := by omega
      have Hno := hid (Hmiss.out (Hlast.out.trans (decide_eq_false hxr)))
      go_wp2
      go_ret
      exact ⟨congrArg (fun b => Ending.returned (.bool b)) Hno.out.symm, Hb1.out⟩
  ·have hie : i = adj.length := by omega
   subst hie
   have Hyes := hid (Hall.out Hok.out)
   go_wp2
   go_ret
   exact ⟨congrArg (fun b => Ending.returned (.bool b)) Hyes.out.symm, Hbr.out⟩
end Wp.K
end Go.Proofs.YtgadbnbhgpehjaaGreatDoor
namespace Go.Proofs.YtgadbnbhgpehjaaGreatDoor
open Go.RowKit
namespace Wp.K
def NumsK (w : World) (g n : Nat) (f : Nat → Int) : Prop := w.rowIs g 3 n fun i => .int .i64 (f i)
theorem NumsK.congr {w : World} {g n : Nat} {f f' : Nat → Int} (h : NumsK w g n f) (e : ∀ i, i < n → f i = f' i) : NumsK w g n f' := World.rowIs.congr h fun i hi => by rw [e i hi]
theorem NumsK.set {w : World} {g n : Nat} {f : Nat → Int} (h : NumsK w g n f) (i : Nat) (v : Int) : NumsK (w.setCell ⟨g, i, none⟩ (.int .i64 v)) g n (fun j => if j = i then v else f j) :=
 World.rowIs.congr (World.rowIs.set h i _) fun j _ => by
  by_cases hj : j = i
  ·simp only [hj, if_pos]
  ·simp only [hj, if_false]
def BitsK (w : World) (g n : Nat) (f : Nat → Bool) : Prop := w.rowIs g 4 n fun i => .bool (f i)
theorem BitsK.set {w : World} {g n : Nat} {f : Nat → Bool} (h : BitsK w g n f) (i : Nat) : BitsK (w.setCell ⟨g, i, none⟩ (.bool true)) g n (fun j => if j = i then true else f j) :=
 World.rowIs.congr (World.rowIs.set h i _) fun j _ => by
  by_cases hj : j = i
  ·simp only [hj, if_pos]
  ·simp only [hj, if_false]
theorem BitsK.below {w w' : World} {g n : Nat} {f : Nat → Bool} (h : BitsK w g n f) (hb : Below w.heap.size w w') : BitsK w' g n f := World.rowIs.of_block h (hb.block g (World.rowIs.lt h))
theorem NumsK.below {w w' : World} {g n : Nat} {f : Nat → Int} (h : NumsK w g n f) (hb : Below w.heap.size w w') : NumsK w' g n f := World.rowIs.of_block h (hb.block g (World.rowIs.lt h))
theorem Xb0 : (Tryz.prog.info? 4).map (fun i => (i.zero, i.size, i.bytes)) = some (some (.bool false), 1, 1) := by kernel_rfl
theorem Xb1 (n : Nat) (w : World) (hn : n ≤ 64) :
  Calls Tryz.prog 134 #[.int .i64 n] w fun e w' => e = .returned (.slice (some ⟨w.heap.size, 0, none⟩) n n) ∧ NumsK w' w.heap.size n (fun _ => -1) ∧ Below w.heap.size w w' := by
 have hmk := fun W => run_make_row' 26 3 (.int .i64 0) 8 Tryz.underlying26 info3 rfl .i64 .i64 n (by omega) (by omega) W
 have Hs0 : Hid (NumsK (w.alloc (.cells (madeCells #[.int .i64 0] n) 3)) w.heap.size n (fun j => if j < 0 then -1 else 0)) :=
  World.rowIs.congr (World.rowIs_made w (.int .i64 0) n 3) fun i _ => by simp
 have Hb0 := hid ((Below.refl w.heap.size w).alloc (le_refl _) (.cells (madeCells #[.int .i64 0] n) 3))
 go_enter Tryz.func134, Tryz.ntmps134
 go_wp2
 go_loopw [9] (fun vi wr => ∃ i : Nat, vi = .int .i64 i ∧ i ≤ n ∧ NumsK wr w.heap.size n (fun j => if j < i then -1 else 0) ∧ Below w.heap.size w wr) (fun vi _ => n - (intOf vi).toNat)
 case atStart => exact ⟨0, rfl, Nat.zero_le _, Hs0.out, Hb0.out⟩
 case round =>
  clear Hs0 Hb0 hmk
  obtain ⟨i, rfl, hi, hs, hbr⟩ := hrel
  have Hs := hid hs
  have Hbr := hid hbr
  clear hs hbr
  by_cases hlt : i < n
  ·have hltI : (i : Int) < (n : Int) := by omega
   have g4 := World.rowIs.cell Hs.out hlt
   have hfz : wr.frozen? ⟨w.heap.size, i, none⟩ = false := World.rowIs.frozen Hs.out i
   go_wp2
   go_roundw
   case rel =>
    refine ⟨i + 1, by go_num, by omega, (Hs.out.set i (-1)).congr fun j _ => ?_, Hbr.out.setCell (p := ⟨w.heap.size, i, none⟩) (le_refl _) _⟩
    by_cases e : j = i
    ·rw [if_pos e, if_pos (by omega)]
    ·rw [if_neg e]
     by_cases e2 : j < i
     ·rw [if_pos e2, if_pos (by omega)]
     ·rw [if_neg e2, if_neg (by omega)]
   case measure => simp [intOf]; omega
  ·have hie : i = n := by omega
   subst hie
   have Hs2 := hid (Hs.out.congr (f' := fun _ => -1) fun j hj => by rw [if_pos hj])
   clear Hs
   go_wp2
   go_ret
   exact ⟨rfl, Hs2.out, Hbr.out⟩
def ReachF (w : World) (f : Value) (bx g R : Nat) (al : Nat → Bool) : Prop :=
 f = .func (.func 158) #[] #[.pointer (some ⟨bx, 0, none⟩)] ∧ w.cell? ⟨bx, 0, none⟩ = some (.slice (some ⟨g, 0, none⟩) R R) ∧ BitsK w g R al ∧ bx ≠ g ∧ bx < w.heap.size
theorem U2_ (R : Nat) (w : World) (hR : R ≤ 64) :
  Calls Tryz.prog 136 #[.int .i64 R] w fun e w' => ∃ f bx g, e = .returned f ∧ ReachF w' f bx g R (fun _ => false) ∧ w.heap.size ≤ bx ∧ w.heap.size ≤ g ∧ Below w.heap.size w w' := by
 have hmk := fun W => run_make_row' 158 4 (.bool false) 1 Tryz.underlying158 Xb0 rfl .i64 .i64 R (by omega) (by omega) W
 have Hs0 : Hid (BitsK (w.alloc (.cells (madeCells #[.bool false] R) 4)) w.heap.size R (fun _ => false)) := World.rowIs_made w (.bool false) R 4
 go_enter Tryz.func136, Tryz.ntmps136
 go_wp2
 go_ret
 refine ⟨_, w.heap.size + 1, w.heap.size, rfl, ⟨rfl, ?_, Hs0.out.below ((Below.refl _ _).alloc (le_refl _) _), by omega, by simp⟩, by omega, le_refl _, ((Below.refl _ w).alloc (le_refl _) _).alloc (by simp) _⟩
 have := (Blk.new (w.alloc (.cells (madeCells #[.bool false] R) 4)) 158 #[.slice (some ⟨w.heap.size, 0, none⟩) R R]).cell 0
 rwa [show (w.alloc (.cells (madeCells #[.bool false] R) 4)).heap.size = w.heap.size + 1 by simp] at this
theorem ReachF.slot {w : World} {f : Value} {bx g R : Nat} {al : Nat → Bool} (h : ReachF w f bx g R al) (r : Nat) : ReachF (w.setCell ⟨g, r, none⟩ (.bool true)) f bx g R (fun x => if x = r then true else al x) := by
 obtain ⟨h1, h2, h3, h4, h5⟩ := h
 refine ⟨h1, ?_, h3.set r, h4, by simpa [World.setCell] using h5⟩
 have : (w.setCell ⟨g, r, none⟩ (.bool true)).cell? ⟨bx, 0, none⟩ = w.cell? ⟨bx, 0, none⟩ := World.cell?_of_block (Below.heap_setCell w ⟨g, r, none⟩ _ bx (by simpa using h4))
 rw [this]
 exact h2
theorem ReachF.below {w w' : World} {f : Value} {bx g R : Nat} {al : Nat → Bool} (h : ReachF w f bx g R al) (hb : Below w.heap.size w w') : ReachF w' f bx g R al := by
 obtain ⟨h1, h2, h3, h4, h5⟩ := h
 exact ⟨h1, (hb.cell (p := ⟨bx, 0, none⟩) h5).trans h2, h3.below hb, h4, Nat.lt_of_lt_of_le h5 hb.size⟩
theorem Zu2 (r R bx g : Nat) (f : Value) (al : Nat → Bool) (w : World) (h : ReachF w f bx g R al) (hr : r < R) :
  Calls Tryz.prog 158 #[.int .i64 r, .pointer (some ⟨bx, 0, none⟩)] w fun e w' => e = .returned (.bool (al r)) ∧ w' = w.setCell ⟨g, r, none⟩ (.bool true) := by
 obtain ⟨_, h2, h3, _, _⟩ := h
 have g1 := World.rowIs.cell h3 hr
 have hfz : w.frozen? ⟨g, r, none⟩ = false := World.rowIs.frozen h3 r
 have hrI : (r : Int) < (R : Int) := by omega
 clear h3
 go_enter Tryz.func158, Tryz.ntmps158
 go_wp2
 go_ret
 exact ⟨rfl, rfl⟩
theorem Ye3 (r R bx g : Nat) (f : Value) (al : Nat → Bool) (b : Bool) (hb : al r = b) (w : World) (h : ReachF w f bx g R al) (hr : r < R) :
  Calls Tryz.prog 158 #[.int .i64 r, .pointer (some ⟨bx, 0, none⟩)] w fun e w' => e = .returned (.bool b) ∧ w' = w.setCell ⟨g, r, none⟩ (.bool true) := by
 subst hb
 exact Zu2 r R bx g f al w h hr
end Wp.K
end Go.Proofs.YtgadbnbhgpehjaaGreatDoor
namespace Go.Proofs.YtgadbnbhgpehjaaGreatDoor
open Go.RowKit
namespace Wp.K
structure GS (w : World) (adjv : Value) (adj : List (List Int)) (B gh go g bx R : Nat) (f : Value) (hs os : Nat → Int) (al : Nat → Bool) : Prop where
 rows : Rows2 w B adjv adj
 h : NumsK w gh adj.length hs
 o : NumsK w go R os
 r : ReachF w f bx g R al
 bh : B ≤ gh
 bo : B ≤ go
 bg : B ≤ g
 bb : B ≤ bx
 ho : gh ≠ go
 hg : gh ≠ g
 og : go ≠ g
 hb : gh ≠ bx
 ob : go ≠ bx
structure Only3 (gh go g : Nat) (w w' : World) : Prop where
 os : w'.os = w.os
 tape : w'.tape = w.tape
 output : w'.output = w.output
 size : w.heap.size ≤ w'.heap.size
 block : ∀ b, b < w.heap.size → b ≠ gh → b ≠ go → b ≠ g → w'.heap[b]? = w.heap[b]?
theorem Only3.refl (gh go g : Nat) (w : World) : Only3 gh go g w w := ⟨rfl, rfl, rfl, le_refl _, fun _ _ _ _ _ => rfl⟩
theorem Only3.below {gh go g B : Nat} {w w' : World} (h : Only3 gh go g w w') (hB : B ≤ w.heap.size) (h1 : B ≤ gh) (h2 : B ≤ go) (h3 : B ≤ g) : Below B w w' :=
 ⟨h.os, h.tape, h.output, h.size, fun b hb => h.block b (by omega) (by omega) (by omega) (by omega)⟩
theorem Only3.trans {gh go g : Nat} {a b c : World} (h : Only3 gh go g a b) (k : Only3 gh go g b c) : Only3 gh go g a c :=
 ⟨k.os.trans h.os, k.tape.trans h.tape, k.output.trans h.output, Nat.le_trans h.size k.size, fun i hi h1 h2 h3 => (k.block i (Nat.lt_of_lt_of_le hi h.size) h1 h2 h3).trans (h.block i hi h1 h2 h3)⟩
theorem Only3.of_below {gh go g : Nat} {w w' : World} (h : Below w.heap.size w w') : Only3 gh go g w w' := ⟨h.os, h.tape, h.output, h.size, fun b hb _ _ _ => h.block b hb⟩
theorem GS.below {w w' : World} {adjv : Value} {adj : List (List Int)} {B gh go g bx R : Nat} {f : Value} {hs os : Nat → Int} {al : Nat → Bool} (h : GS w adjv adj B gh go g bx R f hs os al) (hB : B ≤ w.heap.size) (hb : Below w.heap.size w w') : GS w' adjv adj B gh go g bx R f hs os al :=
 ⟨h.rows.below (hb.mono hB), h.h.below hb, h.o.below hb, h.r.below hb, h.bh, h.bo, h.bg, h.bb, h.ho, h.hg, h.og, h.hb, h.ob⟩
theorem NumsK.at {w : World} {g n : Nat} {f : Nat → Int} (h : NumsK w g n f) {i : Nat} (hi : i < n) : w.cell? ⟨g, i, none⟩ = some (.int .i64 (f i)) := World.rowIs.cell h hi
theorem GS.asked {w : World} {adjv : Value} {adj : List (List Int)} {B gh go g bx R : Nat} {f : Value} {hs os : Nat → Int} {al : Nat → Bool} (h : GS w adjv adj B gh go g bx R f hs os al) (r : Nat) :
  GS (w.setCell ⟨g, r, none⟩ (.bool true)) adjv adj B gh go g bx R f hs os (updB al r) where
 rows := h.rows.below ((Below.refl B w).setCell (p := ⟨g, r, none⟩) h.bg _)
 h := World.rowIs.of_block h.h (Below.heap_setCell w ⟨g, r, none⟩ _ gh h.hg)
 o := World.rowIs.of_block h.o (Below.heap_setCell w ⟨g, r, none⟩ _ go h.og)
 r := h.r.slot r
 bh := h.bh
 bo := h.bo
 bg := h.bg
 bb := h.bb
 ho := h.ho
 hg := h.hg
 og := h.og
 hb := h.hb
 ob := h.ob
theorem C6_ {gh go g : Nat} {w w' : World} (h : Only3 gh go g w w') (b r : Nat) (v : Value) (hb : b = gh ∨ b = go ∨ b = g) : Only3 gh go g w (w'.setCell ⟨b, r, none⟩ v) :=
 ⟨h.os, h.tape, h.output, by simpa [World.setCell] using h.size, fun c hc h1 h2 h3 => (Below.heap_setCell w' ⟨b, r, none⟩ v c (by
  show c ≠ b
  rcases hb with e | e | e <;> rw [e] <;> assumption)).trans (h.block c hc h1 h2 h3)⟩
theorem GS.gave {w : World} {adjv : Value} {adj : List (List Int)} {B gh go g bx R : Nat} {f : Value} {hs os : Nat → Int} {al : Nat → Bool} (h : GS w adjv adj B gh go g bx R f hs os al) (i r : Nat) :
  GS ((w.setCell ⟨gh, i, none⟩ (.int .i64 r)).setCell ⟨go, r, none⟩ (.int .i64 i)) adjv adj B gh go g bx R f (updI hs i r) (updI os r i) al where
 rows := (h.rows.below ((Below.refl B w).setCell (p := ⟨gh, i, none⟩) h.bh _)).below ((Below.refl B _).setCell (p := ⟨go, r, none⟩) h.bo _)
 h := World.rowIs.of_block (h.h.set i r) (Below.heap_setCell _ ⟨go, r, none⟩ _ gh h.ho)
 o := NumsK.set (World.rowIs.of_block h.o (Below.heap_setCell w ⟨gh, i, none⟩ _ go (fun e => h.ho e.symm))) r i
 r := by
  obtain ⟨h1, h2, h3, h4, h5⟩ := h.r
  refine ⟨h1, ?_, World.rowIs.of_block (World.rowIs.of_block h3 (Below.heap_setCell w ⟨gh, i, none⟩ _ g (fun e => h.hg e.symm))) (Below.heap_setCell _ ⟨go, r, none⟩ _ g (fun e => h.og e.symm)), h4, by simpa [World.setCell] using h5⟩
  have e1 : ((w.setCell ⟨gh, i, none⟩ (.int .i64 r)).setCell ⟨go, r, none⟩ (.int .i64 i)).cell? ⟨bx, 0, none⟩ = (w.setCell ⟨gh, i, none⟩ (.int .i64 r)).cell? ⟨bx, 0, none⟩ := World.cell?_of_block (Below.heap_setCell _ ⟨go, r, none⟩ _ bx (fun e => h.ob e.symm))
  have e2 : (w.setCell ⟨gh, i, none⟩ (.int .i64 r)).cell? ⟨bx, 0, none⟩ = w.cell? ⟨bx, 0, none⟩ := World.cell?_of_block (Below.heap_setCell _ ⟨gh, i, none⟩ _ bx (fun e => h.hb e.symm))
  rw [e1, e2]
  exact h2
 bh := h.bh
 bo := h.bo
 bg := h.bg
 bb := h.bb
 ho := h.ho
 hg := h.hg
 og := h.og
 hb := h.hb
 ob := h.ob
def Gave (w : World) (adjv : Value) (adj : List (List Int)) (B gh go g bx R i : Nat) (f : Value) (hs os : Nat → Int) (al : Nat → Bool) (e : Ending) (w' : World) : Prop :=
 ∃ (b : Bool) (hs' os' : Nat → Int) (al' : Nat → Bool), e = .returned (.bool b) ∧ GS w' adjv adj B gh go g bx R f hs' os' al' ∧ Only3 gh go g w w' ∧
  (b = true → Found R adj hs os al i hs' os') ∧ (b = false → hs' = hs ∧ os' = os ∧ Missed adj os al i al')
end Wp.K
end Go.Proofs.YtgadbnbhgpehjaaGreatDoor
namespace Go.Proofs.YtgadbnbhgpehjaaGreatDoor
open Go.RowKit
namespace Wp.K
theorem wpAny_act {P : Program} {md : Region.Mode} {ops : Array Oper} {Q : Exit → Act → World → Prop} {fuel : Nat} {listed : Array Bool} {a b : Act} {w : World} (h : a = b) (k : wpAny P md ops Q fuel listed b w) : wpAny P md ops Q fuel listed a w := h ▸ k
theorem Yp1 {p q : Nat → Bool} (r : Nat) (hp : p r = false) (hq : q r = true) : ∀ {n : Nat}, r < n → (∀ i, i < n → p i = true → q i = true) → cntP n p < cntP n q
 | n + 1, hr, h => by
  rw [B0_, B0_]
  by_cases e : r = n
  ·subst e
   have := Zy7 (n := r) fun i hi => h i (by omega)
   rw [hp, hq]
   simp
   omega
  ·have ih := Yp1 r hp hq (n := n) (by omega) fun i hi => h i (by omega)
   have := h n (by omega)
   cases hp' : p n
   ·simp; omega
   ·simp [this hp']; omega
theorem below_drew (w : World) : Below w.heap.size w w.drew := ⟨rfl, rfl, rfl, le_refl _, fun _ _ => rfl⟩
theorem Zv5 {gh go g : Nat} {w w' : World} (h : Only3 gh go g w w') : Only3 gh go g w w'.drew := ⟨h.os, h.tape, h.output, h.size, h.block⟩
theorem S1_ {gh go g : Nat} {w w' : World} (h : Only3 gh go g w w') (n : Nat) : Only3 gh go g w (w'.drewN n) := ⟨h.os, h.tape, h.output, h.size, h.block⟩
theorem Xb2 (B gh go g bx R : Nat) (adj : List (List Int)) (adjv : Value) (f : Value) (hOn : OnR R adj) (m : Nat) : ∀ (w : World) (i : Nat) (hs os : Nat → Int) (al : Nat → Bool), GS w adjv adj B gh go g bx R f hs os al → B ≤ w.heap.size → i < adj.length → Pairs R adj hs os → (hs i = -1 ∨ ∃ q : Nat, hs i = (q : Int) ∧ al q = true) → cntP R (fun r => !al r) < m →
  Calls Tryz.prog 135 #[.agg #[adjv, .slice (some ⟨gh, 0, none⟩) adj.length adj.length, .slice (some ⟨go, 0, none⟩) R R], .int .i64 i, f] w (Gave w adjv adj B gh go g bx R i f hs os al) := by
 induction m with
 | zero => intro w i hs os al _ _ _ _ _ hm; omega
 | succ m ih =>
 intro w i hs os al hS hB hi hP hpre hm
 have HS := hid hS
 have HP := hid hP
 have Hpre := hid hpre
 have Hm := hid hm
 have Hih := hid ih
 clear ih hP hpre hm
 obtain ⟨rfl, hbx, _, _, _⟩ := hS.r
 obtain ⟨A, c, hv, hcap, hcell⟩ := hS.rows
 subst hv
 obtain ⟨ad, u, hA, hab, hcu, hru⟩ := hcell i hi
 subst hA
 obtain ⟨Au, cu, rfl, hulc, hul⟩ := hru
 obtain ⟨l, hl⟩ : ∃ l, adj.getD i [] = l := ⟨_, rfl⟩
 rw [hl] at hcu hul hulc
 have hlm : (l.length : Int) ≤ 9223372036854775807 := by
  have h1 := hulc.1
  have h2 := hulc.2.1
  unfold maxLen at h2
  omega
 have Hl := hid hl
 have Hul := hid hul
 have Hcu := hid hcu
 have hghw := World.rowIs.lt HS.out.h
 have hgow := World.rowIs.lt HS.out.o
 have hgw := World.rowIs.lt HS.out.r.2.2.1
 obtain ⟨w1, e1⟩ : ∃ w1, w1 = w.alloc (.cells #[.slice (some ad) adj.length c, .slice (some ⟨gh, 0, none⟩) adj.length adj.length, .slice (some ⟨go, 0, none⟩) R R] 109) := ⟨_, rfl⟩
 have Hb1 : Hid (Below w.heap.size w w1) := by rw [e1]; exact (Below.refl _ w).alloc (le_refl _) _
 have HS1 := hid (HS.out.below hB Hb1.out)
 have Hbp : Hid (∀ j, w1.cell? ⟨w.heap.size, j, none⟩ = #[.slice (some ad) adj.length c, .slice (some ⟨gh, 0, none⟩) adj.length adj.length, .slice (some ⟨go, 0, none⟩) R R][j]?) := by
  intro j
  rw [e1]
  exact (Blk.new w _ _).cell j
 have c0 := (Hb1.out.cell (p := ad.add i) (by rw [Z2_]; omega)).trans hcu
 have hiI : (i : Int) < (adj.length : Int) := by omega
 have HE := hid e1
 rw [e1] at c0
 have hsz1 : Hid (w1.heap.size = w.heap.size + 1) := by show _ = _; rw [e1]; simp
 clear hS hcell hul hl hcu
 go_enter Tryz.func135, Tryz.ntmps135
 go_wp2
 rw [← HE.out]
 clear e1 c0
 go_loopw [15] (fun vi wr => ∃ (k : Nat) (al' : Nat → Bool), vi = .int .i64 k ∧ k ≤ l.length ∧ GS wr (.slice (some ad) adj.length c) adj B gh go g bx R (.func (.func 158) #[] #[.pointer (some ⟨bx, 0, none⟩)]) hs os al' ∧ Tried adj os al i k al' ∧ Only3 gh go g w1 wr) (fun vi _ => l.length - (intOf vi).toNat)
 case atStart => exact ⟨0, al, rfl, Nat.zero_le _, HS1.out, Yc6, Only3.refl _ _ _ _⟩
 case round =>
  obtain ⟨k, al', rfl, hk, hgs, htr, honly⟩ := hrel
  have Hgs := hid hgs
  have Htr := hid htr
  have Hon := hid honly
  clear hgs htr honly HS1
  have HOn := hid (Only3.of_below (gh := gh) (go := go) (g := g) Hb1.out |>.trans Hon.out)
  by_cases hlt : k < l.length
  ·obtain ⟨al2, hA2, hab2, hck⟩ := Hul.out k hlt
   subst hA2
   obtain ⟨r, hr, hrR⟩ := hOn i (l.getD k 0) (by rw [Hl.out]; simp [List.getD, hlt])
   have Hmem : Hid ((adj.getD i [])[k]? = some (r : Int)) := by
    show _ = _
    rw [Hl.out, List.getElem?_eq_getElem hlt, ← hr]
    simp [List.getD, hlt]
   rw [hr] at hck
   have Hbel : Hid (Below B w wr) := HOn.out.below hB HS.out.bh HS.out.bo HS.out.bg
   have g0 : wr.cell? (al2.add k) = some (.int .i64 (r : Int)) := (Hbel.out.cell (by rw [Z2_]; exact hab2)).trans hck
   have Hbxx : Hid (∀ W, Only3 gh go g w1 W → ∀ j, W.cell? ⟨w.heap.size, j, none⟩ = #[.slice (some ad) adj.length c, .slice (some ⟨gh, 0, none⟩) adj.length adj.length, .slice (some ⟨go, 0, none⟩) R R][j]?) := fun W hW j =>
    (World.cell?_of_block (hW.block w.heap.size (by have := hsz1.out; omega) (by omega) (by omega) (by omega))).trans (Hbp.out j)
   have hkI : (k : Int) < (l.length : Int) := by omega
   clear hck hr
   have g1 := Hbxx.out _ Hon.out 0
   have g2 := Hbxx.out _ Hon.out 1
   have g3 := Hbxx.out _ Hon.out 2
   have Hre := hid (fun (W : World) (b : Bool) (h : al' r = b) (hW : GS W (.slice (some ad) adj.length c) adj B gh go g bx R (.func (.func 158) #[] #[.pointer (some ⟨bx, 0, none⟩)]) hs os al') => Ye3 r R bx g _ al' b h W hW.r hrR)
   have g4 := NumsK.at Hgs.out.o hrR
   have hgo : go < wr.heap.size := World.rowIs.lt Hgs.out.o
   clear hbx
   have hrRI : (r : Int) < (R : Int) := by omega
   rcases ha : al' r with _ | _
   ·have Ha := hid ha
    clear ha
    have HG2 := hid (Hgs.out.asked r)
    have Hb2 := hid (C6_ HOn.out g r (.bool true) (.inr (.inr rfl)))
    go_wp2
    refine wp_region_any (by kernel_rfl) ?_
    change wpAny _ _ _ _ _ _ _ (World.drew _)
    refine wpAny_take (i := 0) (v := ?_) rfl (by kernel_rfl) (by kernel_rfl) (by kernel_rfl) (fun _ _ _ h => h) (Or.inl ⟨by rfl, ?_⟩) ?_
    rotate_left
    ·intro w; go_simp; try with_reducible rfl
    (refine wpAny_act (b := ?_) ?_ ?_; rotate_left; (go_simp; with_reducible rfl))
    refine wpAny_take (i := 1) (v := ?_) rfl (by kernel_rfl) (by kernel_rfl) (by kernel_rfl) (fun _ _ _ h => h) (Or.inl ⟨by rfl, ?_⟩) ?_
    rotate_left
    ·intro w; go_simp; try with_reducible rfl
    (refine wpAny_act (b := ?_) ?_ ?_; rotate_left; (go_simp; with_reducible rfl))
    refine wpAny_ready (rs := [2]) (by kernel_rfl) (by simp) ?_
    refine AllReady.cons rfl (fun K hK => ?_) AllReady.nil
    go_simp
    refine (Hre.out _ _ Ha.out (Hgs.out.below (Nat.le_trans hB HOn.out.size) (Y0_ (Below.refl _ _) 1))).mono ?_
    rintro e w' ⟨rfl, rfl⟩
    refine hK _ _ ?_
    clear hK K
    refine wpAny_take (i := 3) (v := ?_) rfl (by kernel_rfl) (by kernel_rfl) (by kernel_rfl) (fun _ _ _ h => h) (Or.inl ⟨by rfl, ?_⟩) ?_
    rotate_left
    ·intro w; go_simp; try with_reducible rfl
    (refine wpAny_act (b := ?_) ?_ ?_; rotate_left; (go_simp; with_reducible rfl))
    refine wpAny_take (i := 4) (v := ?_) rfl (by kernel_rfl) (by kernel_rfl) (by kernel_rfl) (fun _ _ _ h => h) (Or.inl ⟨by rfl, ?_⟩) ?_
    rotate_left
    ·intro w; go_simp; try with_reducible rfl
    (refine wpAny_act (b := ?_) ?_ ?_; rotate_left; (go_simp; with_reducible rfl))
    refine wpAny_take (i := 5) (v := ?_) rfl (by kernel_rfl) (by kernel_rfl) (by kernel_rfl) (fun _ _ _ h => h) (Or.inl ⟨by rfl, ?_⟩) ?_
    rotate_left
    ·intro w; go_simp; try with_reducible rfl
    (refine wpAny_act (b := ?_) ?_ ?_; rotate_left; (go_simp; with_reducible rfl))
    refine wpAny_take (i := 7) (v := ?_) rfl (by kernel_rfl) (by kernel_rfl) (by kernel_rfl) (fun _ _ _ h => h) (Or.inl ⟨by rfl, ?_⟩) ?_
    rotate_left
    ·intro w; go_simp; try with_reducible rfl
    (refine wpAny_act (b := ?_) ?_ ?_; rotate_left; (go_simp; with_reducible rfl))
    have Hon2 : Hid (Only3 gh go g w1 ((wr.drewN 1).setCell ⟨g, r, none⟩ (.bool true))) := C6_ (S1_ Hon.out 1) g r _ (.inr (.inr rfl))
    have Hgs2 := hid ((Hgs.out.below (Nat.le_trans hB HOn.out.size) (Y0_ (Below.refl _ _) 1)).asked r)
    have HOn2 : Hid (Only3 gh go g w ((wr.drewN 1).setCell ⟨g, r, none⟩ (.bool true))) := C6_ (S1_ HOn.out 1) g r _ (.inr (.inr rfl))
    have HW2 : Hid (w.heap.size ≤ ((wr.drewN 1).setCell ⟨g, r, none⟩ (.bool true)).heap.size) := HOn2.out.size
    have Hal : Hid (al r = false) := by
     show _ = _
     rcases h : al r with _ | _
     ·rfl
     ·have := Htr.out.up r h
      rw [Ha.out] at this
      cases this
    have Hgoes : Hid (Goes adj i r) := List.mem_iff_getElem?.2 ⟨k, Hmem.out⟩
    have Hcnt : Hid (cntP R (fun x => !updB al' r x) < m) := by
     have h1 : cntP R (fun x => !updB al' r x) < cntP R (fun x => !al x) := Yp1 r (by simp [updB]) (by simp [Hal.out]) hrR fun x _ hx => by
      rcases h : al x with _ | _
      ·rfl
      ·have h2 := Htr.out.up x h
       unfold updB at hx
       split at hx
       ·cases hx
       ·rw [h2] at hx; cases hx
     have := Hm.out
     show _ < _
     omega
    clear g0 g1 g2 g3 g4
    generalize hW2 : (wr.drewN 1).setCell ⟨g, r, none⟩ (.bool true) = w2 at *
    clear hW2
    have g1 := Hbxx.out _ Hon2.out 0
    have g2 := Hbxx.out _ Hon2.out 1
    have g3 := Hbxx.out _ Hon2.out 2
    have g4 := NumsK.at Hgs2.out.o hrR
    refine wpAny_ready (rs := [6]) (by kernel_rfl) (by simp) ?_
    refine AllReady.cons rfl (fun K hK => ?_) AllReady.nil
    go_simp
    refine hK _ _ ?_
    clear hK K
    refine wpAny_take (i := 8) (v := ?_) rfl (by kernel_rfl) (by kernel_rfl) (by kernel_rfl) (fun _ _ _ h => h) (Or.inl ⟨by rfl, ?_⟩) ?_
    rotate_left
    ·intro w; go_simp; try with_reducible rfl
    (refine wpAny_act (b := ?_) ?_ ?_; rotate_left; (go_simp; with_reducible rfl))
    refine wpAny_ready (rs := [9]) (by kernel_rfl) (by simp) ?_
    refine AllReady.cons rfl (fun K hK => ?_) AllReady.nil
    go_simp
    refine hK _ _ ?_
    clear hK K
    by_cases ho : os r = -1
    ·rw [ho]
     clear g4
     refine wpAny_take (i := 10) (v := ?_) rfl (by kernel_rfl) (by kernel_rfl) (by kernel_rfl) (fun _ _ _ h => h) (Or.inl ⟨by rfl, ?_⟩) ?_
     rotate_left
     ·intro w; go_simp; try with_reducible rfl
     (refine wpAny_act (b := ?_) ?_ ?_; rotate_left; (go_simp; with_reducible rfl))
     refine wpAny_take (i := 11) (v := ?_) rfl (by kernel_rfl) (by kernel_rfl) (by kernel_rfl) (fun _ _ _ h => h) (Or.inl ⟨by rfl, ?_⟩) ?_
     rotate_left
     ·intro w; go_simp; try with_reducible rfl
     (refine wpAny_act (b := ?_) ?_ ?_; rotate_left; (go_simp; with_reducible rfl))
     refine wpAny_take (i := 12) (v := undef) rfl (by kernel_rfl) (by kernel_rfl) (by kernel_rfl) (fun _ _ _ h => h) (Or.inr ⟨by simp [Region.wanted, yielded, go_sem, undef], rfl⟩) ?_
     (refine wpAny_act (b := ?_) ?_ ?_; rotate_left; (go_simp; with_reducible rfl))
     refine wpAny_take (i := 13) (v := undef) rfl (by kernel_rfl) (by kernel_rfl) (by kernel_rfl) (fun _ _ _ h => h) (Or.inr ⟨by simp [Region.wanted, yielded, go_sem, undef], rfl⟩) ?_
     (refine wpAny_act (b := ?_) ?_ ?_; rotate_left; (go_simp; with_reducible rfl))
     refine wpAny_take (i := 14) (v := undef) rfl (by kernel_rfl) (by kernel_rfl) (by kernel_rfl) (fun _ _ _ h => h) (Or.inr ⟨by simp [Region.wanted, yielded, go_sem, undef], rfl⟩) ?_
     (refine wpAny_act (b := ?_) ?_ ?_; rotate_left; (go_simp; with_reducible rfl))
     refine wpAny_take (i := 15) (v := undef) rfl (by kernel_rfl) (by kernel_rfl) (by kernel_rfl) (fun _ _ _ h => h) (Or.inr ⟨by simp [Region.wanted, yielded, go_sem, undef], rfl⟩) ?_
     (refine wpAny_act (b := ?_) ?_ ?_; rotate_left; (go_simp; with_reducible rfl))
     refine wpAny_take (i := 16) (v := undef) rfl (by kernel_rfl) (by kernel_rfl) (by kernel_rfl) (fun _ _ _ h => h) (Or.inr ⟨by simp [Region.wanted, yielded, go_sem, undef], rfl⟩) ?_
     (refine wpAny_act (b := ?_) ?_ ?_; rotate_left; (go_simp; with_reducible rfl))
     refine wpAny_take (i := 17) (v := undef) rfl (by kernel_rfl) (by kernel_rfl) (by kernel_rfl) (fun _ _ _ h => h) (Or.inr ⟨by simp [Region.wanted, yielded, go_sem, undef], rfl⟩) ?_
     (refine wpAny_act (b := ?_) ?_ ?_; rotate_left; (go_simp; with_reducible rfl))
     refine wpAny_take (i := 18) (v := undef) rfl (by kernel_rfl) (by kernel_rfl) (by kernel_rfl) (fun _ _ _ h => h) (Or.inr ⟨by simp [Region.wanted, yielded, go_sem, undef], rfl⟩) ?_
     (refine wpAny_act (b := ?_) ?_ ?_; rotate_left; (go_simp; with_reducible rfl))
     refine wpAny_take (i := 19) (v := undef) rfl (by kernel_rfl) (by kernel_rfl) (by kernel_rfl) (fun _ _ _ h => h) (Or.inr ⟨by simp [Region.wanted, yielded, go_sem, undef], rfl⟩) ?_
     (refine wpAny_act (b := ?_) ?_ ?_; rotate_left; (go_simp; with_reducible rfl))
     refine wpAny_take (i := 20) (v := ?_) rfl (by kernel_rfl) (by kernel_rfl) (by kernel_rfl) (fun _ _ _ h => h) (Or.inl ⟨by rfl, ?_⟩) ?_
     rotate_left
     ·intro w; go_simp; try with_reducible rfl
     (refine wpAny_act (b := ?_) ?_ ?_; rotate_left; (go_simp; with_reducible rfl))
     refine wpAny_take (i := 21) (v := ?_) rfl (by kernel_rfl) (by kernel_rfl) (by kernel_rfl) (fun _ _ _ h => h) (Or.inl ⟨by rfl, ?_⟩) ?_
     rotate_left
     ·intro w; go_simp; try with_reducible rfl
     (refine wpAny_act (b := ?_) ?_ ?_; rotate_left; (go_simp; with_reducible rfl))
     refine wpAny_done (by kernel_rfl) ?_ _
     go_wp2
     have hbgh : w.heap.size ≠ gh := by omega
     have hbgo : w.heap.size ≠ go := by omega
     have hgg : gh ≠ go := HS.out.ho
     have g5 := NumsK.at Hgs2.out.h hi
     have g4 := NumsK.at Hgs2.out.o hrR
     have hfz : w2.frozen? ⟨gh, i, none⟩ = false := World.rowIs.frozen Hgs2.out.h i
     have hfz2 : w2.frozen? ⟨go, r, none⟩ = false := World.rowIs.frozen Hgs2.out.o r
     go_region
     go_wp2
     go_ret
     exact ⟨true, updI hs i r, updI os r i, updB al' r, rfl, (Hgs2.out.gave i r).below (Nat.le_trans (Nat.le_trans hB HW2.out) (by simp [World.setCell])) (below_drew _), Zv5 (C6_ (C6_ HOn2.out gh i _ (.inl rfl)) go r _ (.inr (.inl rfl))), fun _ => Yc7 HP.out hi hrR Hgoes.out ho Hal.out, fun h => by cases h⟩
    ·obtain ⟨j, hj, hoj, hhj⟩ := (HP.out.r r hrR).resolve_left ho
     rw [hoj] at g4 ⊢
     have hj1 : ¬ ((j : Int) = -1) := by omega
     refine wpAny_take (i := 10) (v := ?_) rfl (by kernel_rfl) (by kernel_rfl) (by kernel_rfl) (fun _ _ _ h => h) (Or.inl ⟨by rfl, ?_⟩) ?_
     rotate_left
     ·intro w; go_simp; try with_reducible rfl
     (refine wpAny_act (b := ?_) ?_ ?_; rotate_left; (go_simp; with_reducible rfl))
     refine wpAny_take (i := 11) (v := ?_) rfl (by kernel_rfl) (by kernel_rfl) (by kernel_rfl) (fun _ _ _ h => h) (Or.inl ⟨by rfl, ?_⟩) ?_
     rotate_left
     ·intro w; go_simp; try with_reducible rfl
     (refine wpAny_act (b := ?_) ?_ ?_; rotate_left; (go_simp; with_reducible rfl))
     refine wpAny_take (i := 13) (v := ?_) rfl (by kernel_rfl) (by kernel_rfl) (by kernel_rfl) (fun _ _ _ h => h) (Or.inl ⟨by rfl, ?_⟩) ?_
     rotate_left
     ·intro w; go_simp; try with_reducible rfl
     (refine wpAny_act (b := ?_) ?_ ?_; rotate_left; (go_simp; with_reducible rfl))
     refine wpAny_take (i := 15) (v := ?_) rfl (by kernel_rfl) (by kernel_rfl) (by kernel_rfl) (fun _ _ _ h => h) (Or.inl ⟨by rfl, ?_⟩) ?_
     rotate_left
     ·intro w; go_simp; try with_reducible rfl
     (refine wpAny_act (b := ?_) ?_ ?_; rotate_left; (go_simp; with_reducible rfl))
     refine wpAny_take (i := 18) (v := ?_) rfl (by kernel_rfl) (by kernel_rfl) (by kernel_rfl) (fun _ _ _ h => h) (Or.inl ⟨by rfl, ?_⟩) ?_
     rotate_left
     ·intro w; go_simp; try with_reducible rfl
     (refine wpAny_act (b := ?_) ?_ ?_; rotate_left; (go_simp; with_reducible rfl))
     refine wpAny_ready (rs := [12, 14]) (by kernel_rfl) (by simp) ?_
     refine AllReady.cons rfl (fun K hK => ?_) (AllReady.cons rfl (fun K hK => ?_) AllReady.nil)
     go_simp
     refine hK _ _ ?_
     clear hK K
     refine wpAny_ready (rs := [14]) (by kernel_rfl) (by simp) ?_
     refine AllReady.cons rfl (fun K hK => ?_) AllReady.nil
     go_simp
     refine hK _ _ ?_
     clear hK K
     refine wpAny_take (i := 16) (v := ?_) rfl (by kernel_rfl) (by kernel_rfl) (by kernel_rfl) (fun _ _ _ h => h) (Or.inl ⟨by rfl, ?_⟩) ?_
     rotate_left
     ·intro w; go_simp; try with_reducible rfl
     (refine wpAny_act (b := ?_) ?_ ?_; rotate_left; (go_simp; with_reducible rfl))
     refine wpAny_ready (rs := [17]) (by kernel_rfl) (by simp) ?_
     refine AllReady.cons rfl (fun K hK => ?_) AllReady.nil
     go_simp
     refine hK _ _ ?_
     clear hK K
     rotate_left
     go_simp
     refine hK _ _ ?_
     clear hK K
     refine wpAny_take (i := 16) (v := ?_) rfl (by kernel_rfl) (by kernel_rfl) (by kernel_rfl) (fun _ _ _ h => h) (Or.inl ⟨by rfl, ?_⟩) ?_
     rotate_left
     ·intro w; go_simp; try with_reducible rfl
     (refine wpAny_act (b := ?_) ?_ ?_; rotate_left; (go_simp; with_reducible rfl))
     refine wpAny_ready (rs := [12, 17]) (by kernel_rfl) (by simp) ?_
     refine AllReady.cons rfl (fun K hK => ?_) (AllReady.cons rfl (fun K hK => ?_) AllReady.nil)
     go_simp
     refine hK _ _ ?_
     clear hK K
     refine wpAny_ready (rs := [17]) (by kernel_rfl) (by simp) ?_
     refine AllReady.cons rfl (fun K hK => ?_) AllReady.nil
     go_simp
     refine hK _ _ ?_
     clear hK K
     rotate_left
     go_simp
     refine hK _ _ ?_
     clear hK K
     refine wpAny_ready (rs := [12]) (by kernel_rfl) (by simp) ?_
     refine AllReady.cons rfl (fun K hK => ?_) AllReady.nil
     go_simp
     refine hK _ _ ?_
     clear hK K
     all_goals
      refine wpAny_ready (rs := [19]) (by kernel_rfl) (by simp) ?_
      refine AllReady.cons rfl (fun K hK => ?_) AllReady.nil
      go_simp
      refine (Hih.out w2 j hs os (updB al' r) Hgs2.out (Nat.le_trans hB HW2.out) hj HP.out (.inr ⟨r, hhj, if_pos rfl⟩) Hcnt.out).mono ?_
      rintro e w3 ⟨b, hs', os', al3, rfl, hgs3, hon3, hfo, hmi⟩
      refine hK _ _ ?_
      clear hK K
      have Hgs3 := hid hgs3
      have Hon3 := hid (Hon2.out.trans hon3)
      have HOn3 := hid (HOn2.out.trans hon3)
      have HW3 : Hid (w.heap.size ≤ w3.heap.size) := HOn3.out.size
      have Hfo := hid hfo
      have Hmi := hid hmi
      clear hgs3 hon3 hfo hmi g1 g2 g3 g4
      have g1 := Hbxx.out _ Hon3.out 0
      have g2 := Hbxx.out _ Hon3.out 1
      have g3 := Hbxx.out _ Hon3.out 2
      rcases b with _ | _
      ·obtain ⟨rfl, rfl, hmis⟩ := Hmi.out rfl
       have Hmis := hid hmis
       clear hmis
       refine wpAny_take (i := 20) (v := ?_) rfl (by kernel_rfl) (by kernel_rfl) (by kernel_rfl) (fun _ _ _ h => h) (Or.inl ⟨by rfl, ?_⟩) ?_
       rotate_left
       ·intro w; go_simp; try with_reducible rfl
       (refine wpAny_act (b := ?_) ?_ ?_; rotate_left; (go_simp; with_reducible rfl))
       refine wpAny_take (i := 21) (v := ?_) rfl (by kernel_rfl) (by kernel_rfl) (by kernel_rfl) (fun _ _ _ h => h) (Or.inl ⟨by rfl, ?_⟩) ?_
       rotate_left
       ·intro w; go_simp; try with_reducible rfl
       (refine wpAny_act (b := ?_) ?_ ?_; rotate_left; (go_simp; with_reducible rfl))
       refine wpAny_done (by kernel_rfl) ?_ _
       go_wp2
       go_roundw
       case rel => exact ⟨k + 1, al3, by go_num, by omega, Hgs3.out, Htr.out.miss Hmem.out hoj Hmis.out, Hon3.out⟩
       case measure => simp [intOf]; omega
      ·have Hfound := hid (Hfo.out rfl)
       refine wpAny_take (i := 20) (v := ?_) rfl (by kernel_rfl) (by kernel_rfl) (by kernel_rfl) (fun _ _ _ h => h) (Or.inl ⟨by rfl, ?_⟩) ?_
       rotate_left
       ·intro w; go_simp; try with_reducible rfl
       (refine wpAny_act (b := ?_) ?_ ?_; rotate_left; (go_simp; with_reducible rfl))
       refine wpAny_take (i := 21) (v := ?_) rfl (by kernel_rfl) (by kernel_rfl) (by kernel_rfl) (fun _ _ _ h => h) (Or.inl ⟨by rfl, ?_⟩) ?_
       rotate_left
       ·intro w; go_simp; try with_reducible rfl
       (refine wpAny_act (b := ?_) ?_ ?_; rotate_left; (go_simp; with_reducible rfl))
       refine wpAny_done (by kernel_rfl) ?_ _
       go_wp2
       have hbgh : w.heap.size ≠ gh := by omega
       have hbgo : w.heap.size ≠ go := by omega
       have hgg : gh ≠ go := HS.out.ho
       have g5 := NumsK.at Hgs3.out.h hi
       have g4 := NumsK.at Hgs3.out.o hrR
       have hfz : w3.frozen? ⟨gh, i, none⟩ = false := World.rowIs.frozen Hgs3.out.h i
       have hfz2 : w3.frozen? ⟨go, r, none⟩ = false := World.rowIs.frozen Hgs3.out.o r
       go_region
       go_wp2
       go_ret
       exact ⟨true, updI hs' i r, updI os' r i, al3, rfl, (Hgs3.out.gave i r).below (Nat.le_trans (Nat.le_trans hB HW3.out) (by simp [World.setCell])) (below_drew _), Zv5 (C6_ (C6_ HOn3.out gh i _ (.inl rfl)) go r _ (.inr (.inl rfl))), fun _ => Yc8 HP.out hi Hpre.out hrR Hgoes.out hoj Htr.out.up Ha.out Hfound.out, fun h => by cases h⟩
   ·have Ha := hid ha
    clear ha
    have HG2 := hid ((Hgs.out.below (Nat.le_trans hB HOn.out.size) (Y0_ (Below.refl _ _) 1)).asked r)
    have Hon2 : Hid (Only3 gh go g w1 ((wr.drewN 1).setCell ⟨g, r, none⟩ (.bool true))) := C6_ (S1_ Hon.out 1) g r _ (.inr (.inr rfl))
    have Hsame : Hid (updB al' r = al') := funext fun x => by
     unfold updB
     split
     ·rename_i e; rw [e, Ha.out]
     ·rfl
    go_wp2
    refine wp_region_any (by kernel_rfl) ?_
    change wpAny _ _ _ _ _ _ _ (World.drew _)
    refine wpAny_take (i := 0) (v := ?_) rfl (by kernel_rfl) (by kernel_rfl) (by kernel_rfl) (fun _ _ _ h => h) (Or.inl ⟨by rfl, ?_⟩) ?_
    rotate_left
    ·intro w; go_simp; try with_reducible rfl
    (refine wpAny_act (b := ?_) ?_ ?_; rotate_left; (go_simp; with_reducible rfl))
    refine wpAny_take (i := 1) (v := ?_) rfl (by kernel_rfl) (by kernel_rfl) (by kernel_rfl) (fun _ _ _ h => h) (Or.inl ⟨by rfl, ?_⟩) ?_
    rotate_left
    ·intro w; go_simp; try with_reducible rfl
    (refine wpAny_act (b := ?_) ?_ ?_; rotate_left; (go_simp; with_reducible rfl))
    refine wpAny_ready (rs := [2]) (by kernel_rfl) (by simp) ?_
    refine AllReady.cons rfl (fun K hK => ?_) AllReady.nil
    go_simp
    refine (Hre.out _ _ Ha.out (Hgs.out.below (Nat.le_trans hB HOn.out.size) (Y0_ (Below.refl _ _) 1))).mono ?_
    rintro e w' ⟨rfl, rfl⟩
    refine hK _ _ ?_
    clear hK K
    refine wpAny_take (i := 3) (v := ?_) rfl (by kernel_rfl) (by kernel_rfl) (by kernel_rfl) (fun _ _ _ h => h) (Or.inl ⟨by rfl, ?_⟩) ?_
    rotate_left
    ·intro w; go_simp; try with_reducible rfl
    (refine wpAny_act (b := ?_) ?_ ?_; rotate_left; (go_simp; with_reducible rfl))
    refine wpAny_take (i := 4) (v := ?_) rfl (by kernel_rfl) (by kernel_rfl) (by kernel_rfl) (fun _ _ _ h => h) (Or.inl ⟨by rfl, ?_⟩) ?_
    rotate_left
    ·intro w; go_simp; try with_reducible rfl
    (refine wpAny_act (b := ?_) ?_ ?_; rotate_left; (go_simp; with_reducible rfl))
    refine wpAny_take (i := 5) (v := undef) rfl (by kernel_rfl) (by kernel_rfl) (by kernel_rfl) (fun _ _ _ h => h) (Or.inr ⟨by simp [Region.wanted, yielded, go_sem, undef], rfl⟩) ?_
    (refine wpAny_act (b := ?_) ?_ ?_; rotate_left; (go_simp; with_reducible rfl))
    refine wpAny_take (i := 6) (v := undef) rfl (by kernel_rfl) (by kernel_rfl) (by kernel_rfl) (fun _ _ _ h => h) (Or.inr ⟨by simp [Region.wanted, yielded, go_sem, undef], rfl⟩) ?_
    (refine wpAny_act (b := ?_) ?_ ?_; rotate_left; (go_simp; with_reducible rfl))
    refine wpAny_take (i := 7) (v := undef) rfl (by kernel_rfl) (by kernel_rfl) (by kernel_rfl) (fun _ _ _ h => h) (Or.inr ⟨by simp [Region.wanted, yielded, go_sem, undef], rfl⟩) ?_
    (refine wpAny_act (b := ?_) ?_ ?_; rotate_left; (go_simp; with_reducible rfl))
    refine wpAny_take (i := 8) (v := undef) rfl (by kernel_rfl) (by kernel_rfl) (by kernel_rfl) (fun _ _ _ h => h) (Or.inr ⟨by simp [Region.wanted, yielded, go_sem, undef], rfl⟩) ?_
    (refine wpAny_act (b := ?_) ?_ ?_; rotate_left; (go_simp; with_reducible rfl))
    refine wpAny_take (i := 9) (v := undef) rfl (by kernel_rfl) (by kernel_rfl) (by kernel_rfl) (fun _ _ _ h => h) (Or.inr ⟨by simp [Region.wanted, yielded, go_sem, undef], rfl⟩) ?_
    (refine wpAny_act (b := ?_) ?_ ?_; rotate_left; (go_simp; with_reducible rfl))
    refine wpAny_take (i := 10) (v := undef) rfl (by kernel_rfl) (by kernel_rfl) (by kernel_rfl) (fun _ _ _ h => h) (Or.inr ⟨by simp [Region.wanted, yielded, go_sem, undef], rfl⟩) ?_
    (refine wpAny_act (b := ?_) ?_ ?_; rotate_left; (go_simp; with_reducible rfl))
    refine wpAny_take (i := 11) (v := undef) rfl (by kernel_rfl) (by kernel_rfl) (by kernel_rfl) (fun _ _ _ h => h) (Or.inr ⟨by simp [Region.wanted, yielded, go_sem, undef], rfl⟩) ?_
    (refine wpAny_act (b := ?_) ?_ ?_; rotate_left; (go_simp; with_reducible rfl))
    refine wpAny_take (i := 12) (v := undef) rfl (by kernel_rfl) (by kernel_rfl) (by kernel_rfl) (fun _ _ _ h => h) (Or.inr ⟨by simp [Region.wanted, yielded, go_sem, undef], rfl⟩) ?_
    (refine wpAny_act (b := ?_) ?_ ?_; rotate_left; (go_simp; with_reducible rfl))
    refine wpAny_take (i := 13) (v := undef) rfl (by kernel_rfl) (by kernel_rfl) (by kernel_rfl) (fun _ _ _ h => h) (Or.inr ⟨by simp [Region.wanted, yielded, go_sem, undef], rfl⟩) ?_
    (refine wpAny_act (b := ?_) ?_ ?_; rotate_left; (go_simp; with_reducible rfl))
    refine wpAny_take (i := 14) (v := undef) rfl (by kernel_rfl) (by kernel_rfl) (by kernel_rfl) (fun _ _ _ h => h) (Or.inr ⟨by simp [Region.wanted, yielded, go_sem, undef], rfl⟩) ?_
    (refine wpAny_act (b := ?_) ?_ ?_; rotate_left; (go_simp; with_reducible rfl))
    refine wpAny_take (i := 15) (v := undef) rfl (by kernel_rfl) (by kernel_rfl) (by kernel_rfl) (fun _ _ _ h => h) (Or.inr ⟨by simp [Region.wanted, yielded, go_sem, undef], rfl⟩) ?_
    (refine wpAny_act (b := ?_) ?_ ?_; rotate_left; (go_simp; with_reducible rfl))
    refine wpAny_take (i := 16) (v := undef) rfl (by kernel_rfl) (by kernel_rfl) (by kernel_rfl) (fun _ _ _ h => h) (Or.inr ⟨by simp [Region.wanted, yielded, go_sem, undef], rfl⟩) ?_
    (refine wpAny_act (b := ?_) ?_ ?_; rotate_left; (go_simp; with_reducible rfl))
    refine wpAny_take (i := 17) (v := undef) rfl (by kernel_rfl) (by kernel_rfl) (by kernel_rfl) (fun _ _ _ h => h) (Or.inr ⟨by simp [Region.wanted, yielded, go_sem, undef], rfl⟩) ?_
    (refine wpAny_act (b := ?_) ?_ ?_; rotate_left; (go_simp; with_reducible rfl))
    refine wpAny_take (i := 18) (v := undef) rfl (by kernel_rfl) (by kernel_rfl) (by kernel_rfl) (fun _ _ _ h => h) (Or.inr ⟨by simp [Region.wanted, yielded, go_sem, undef], rfl⟩) ?_
    (refine wpAny_act (b := ?_) ?_ ?_; rotate_left; (go_simp; with_reducible rfl))
    refine wpAny_take (i := 19) (v := undef) rfl (by kernel_rfl) (by kernel_rfl) (by kernel_rfl) (fun _ _ _ h => h) (Or.inr ⟨by simp [Region.wanted, yielded, go_sem, undef], rfl⟩) ?_
    (refine wpAny_act (b := ?_) ?_ ?_; rotate_left; (go_simp; with_reducible rfl))
    refine wpAny_take (i := 20) (v := undef) rfl (by kernel_rfl) (by kernel_rfl) (by kernel_rfl) (fun _ _ _ h => h) (Or.inr ⟨by simp [Region.wanted, yielded, go_sem, undef], rfl⟩) ?_
    (refine wpAny_act (b := ?_) ?_ ?_; rotate_left; (go_simp; with_reducible rfl))
    refine wpAny_take (i := 21) (v := ?_) rfl (by kernel_rfl) (by kernel_rfl) (by kernel_rfl) (fun _ _ _ h => h) (Or.inl ⟨by rfl, ?_⟩) ?_
    rotate_left
    ·intro w; go_simp; try with_reducible rfl
    (refine wpAny_act (b := ?_) ?_ ?_; rotate_left; (go_simp; with_reducible rfl))
    refine wpAny_done (by kernel_rfl) ?_ _
    go_wp2
    go_roundw
    case rel => exact ⟨k + 1, al', by go_num, by omega, by rw [← Hsame.out]; exact HG2.out, Htr.out.skip Hmem.out Ha.out, Hon2.out⟩
    case measure => simp [intOf]; omega
  ·have hkl : k = l.length := by omega
   subst hkl
   clear hbx hlt
   go_wp2
   go_ret
   exact ⟨false, hs, os, al', rfl, Hgs.out, HOn.out, fun h => (by cases h), fun _ => ⟨rfl, rfl, Htr.out.done (by rw [Hl.out]; exact le_refl _)⟩⟩
end Wp.K
end Go.Proofs.YtgadbnbhgpehjaaGreatDoor
namespace Go.Proofs.YtgadbnbhgpehjaaGreatDoor
open Go.RowKit
namespace Wp.K
def Vx9 (w : World) (v : Value) (R : Nat) (adj : List (List Int)) (e : Ending) (w' : World) : Prop :=
 ∃ (gh go : Nat) (hs os : Nat → Int), e = .returned (.agg #[v, .slice (some ⟨gh, 0, none⟩) adj.length adj.length, .slice (some ⟨go, 0, none⟩) R R]) ∧
  NumsK w' gh adj.length hs ∧ NumsK w' go R os ∧ gh ≠ go ∧ w.heap.size ≤ gh ∧ w.heap.size ≤ go ∧ Below w.heap.size w w' ∧ Great R adj hs os adj.length
structure GInv (w0 : World) (B gh go bp R : Nat) (v : Value) (adj : List (List Int)) (wr : World) (k : Nat) (hs os : Nat → Int) : Prop where
 rows : Rows2 wr B v adj
 h : NumsK wr gh adj.length hs
 o : NumsK wr go R os
 res : Blk wr B 109 #[.slice none 0 0, .slice none 0 0, .slice none 0 0]
 box : Blk wr bp 109 #[v, .slice (some ⟨gh, 0, none⟩) adj.length adj.length, .slice (some ⟨go, 0, none⟩) R R]
 below : Below B w0 wr
 great : Great R adj hs os k
theorem GInv.gs {w0 wr w4 : World} {B gh go bp R k bx g : Nat} {v f : Value} {adj : List (List Int)} {hs os : Nat → Int} {al : Nat → Bool} (h : GInv w0 B gh go bp R v adj wr k hs os) (hb : Below wr.heap.size wr w4) (hf : ReachF w4 f bx g R al) (hbx : wr.heap.size ≤ bx) (hg : wr.heap.size ≤ g)
  (hB : B ≤ wr.heap.size) (h1 : B ≤ gh) (h2 : B ≤ go) (h3 : gh ≠ go) : GS w4 v adj B gh go g bx R f hs os al := by
 have a := World.rowIs.lt h.h
 have b := World.rowIs.lt h.o
 exact ⟨h.rows.below (hb.mono hB), h.h.below hb, h.o.below hb, hf, h1, h2, by omega, by omega, h3, by omega, by omega, by omega, by omega⟩
theorem GInv.next {w0 wr w4 w5 : World} {B gh go bp R k bx g : Nat} {v f : Value} {adj : List (List Int)} {hs os : Nat → Int} {e : Ending} (h : GInv w0 B gh go bp R v adj wr k hs os) (hb : Below wr.heap.size wr w4) (hg : wr.heap.size ≤ g)
  (hB : B < gh) (h2 : B < go) (h3 : bp ≠ gh) (h4 : bp ≠ go) (hk : k < adj.length) (hG : Gave w4 v adj B gh go g bx R k f hs os (fun _ => false) e w5) : ∃ b hs' os', e = .returned (.bool b) ∧ GInv w0 B gh go bp R v adj w5 (k + 1) hs' os' := by
 obtain ⟨b, hs', os', al', rfl, hgs, hon, hfo, hmi⟩ := hG
 have hr := Blk.lt h.res
 have hx := Blk.lt h.box
 have hsz := hb.size
 refine ⟨b, hs', os', rfl, hgs.rows, hgs.h, hgs.o, ?_, ?_, ?_, ?_⟩
 ·exact (hon.block B (by omega) (by omega) (by omega) (by omega)).trans (Blk.below h.res hb hr)
 ·exact (hon.block bp (by omega) (by omega) (by omega) (by omega)).trans (Blk.below h.box hb hx)
 ·exact (h.below.trans (hb.mono (by omega))).trans (hon.below (by omega) (by omega) (by omega) (by omega))
 ·rcases b with _ | _
  ·obtain ⟨rfl, rfl, hm⟩ := hmi rfl
   exact h.great.miss (fun _ => rfl) hm
  ·exact h.great.hit hk (hfo rfl)
theorem Yp2 (n g : Nat) (w : World) (hn : n ≤ 64) (hg : w.heap.size = g) :
  Calls Tryz.prog 134 #[.int .i64 n] w fun e w' => e = .returned (.slice (some ⟨g, 0, none⟩) n n) ∧ NumsK w' g n (fun _ => -1) ∧ Below g w w' := by
 subst hg
 exact Xb1 n w hn
theorem Zm3 (R : Nat) (v : Value) (adj : List (List Int)) (w : World) (hr : Rows2 w w.heap.size v adj) (hOn : OnR R adj) (hR : R ≤ 64) (hn : adj.length ≤ 64) :
  Calls Tryz.prog 112 #[.int .i64 R, v] w (Vx9 w v R adj) := by
 have Hr := hid hr
 have HOn := hid hOn
 obtain ⟨A, c, rfl, hcap, _⟩ := hr
 clear hOn
 have hb0 := Blk.new w 109 #[.slice none 0 0, .slice none 0 0, .slice none 0 0]
 have Hb0 := hid hb0
 have HB0 := hid ((Below.refl w.heap.size w).alloc (le_refl _) (.cells #[.slice none 0 0, .slice none 0 0, .slice none 0 0] 109))
 clear hb0
 go_enter Tryz.func112, Tryz.ntmps112
 go_wp2_with fail
 refine (Yp2 adj.length (w.heap.size + 1) _ hn (by simp)).mono ?_
 rintro e w1 ⟨rfl, hN1, hB1⟩
 have Hb1 := hid (Blk.below Hb0.out hB1 (by omega))
 have HB1 : Hid (Below w.heap.size w w1) := HB0.out.trans (hB1.mono (by omega))
 have hgh1 : w.heap.size + 1 < w1.heap.size := World.rowIs.lt hN1
 have HN1 := hid hN1
 clear hN1 hB1 Hb0 HB0
 go_wp2_with fail
 obtain ⟨go, hgo⟩ : ∃ go, w1.heap.size = go := ⟨_, rfl⟩
 refine (Yp2 R go _ hR hgo).mono ?_
 rintro e w2 ⟨rfl, hN2, hB2⟩
 have Hgo := hid hgo
 have Hb2 := hid (Blk.below Hb1.out hB2 (by omega))
 have HN3 := hid (HN1.out.below (hgo ▸ hB2))
 have HB2 : Hid (Below w.heap.size w w2) := HB1.out.trans (hB2.mono (by omega))
 have hgo2 : go < w2.heap.size := World.rowIs.lt hN2
 have HN2 := hid hN2
 clear hN2 hB2 Hb1 HB1 HN1
 rw [hgo] at hgh1
 clear hgo
 obtain ⟨bp, hbp⟩ : ∃ bp, w2.heap.size = bp := ⟨_, rfl⟩
 go_wp2
 obtain ⟨w3, hw3⟩ : ∃ w3, w3 = w2.alloc (.cells #[.slice A adj.length c, .slice (some ⟨w.heap.size + 1, 0, none⟩) adj.length adj.length, .slice (some ⟨go, 0, none⟩) R R] 109) := ⟨_, rfl⟩
 rw [← hw3]
 have Hst : Hid (GInv w w.heap.size (w.heap.size + 1) go bp R (.slice A adj.length c) adj w3 0 (fun _ => -1) (fun _ => -1)) := by
  have hw : Below w2.heap.size w2 w3 := by rw [hw3]; exact (Below.refl _ w2).alloc (le_refl _) _
  have hB3 : Below w.heap.size w w3 := HB2.out.trans (hw.mono (by omega))
  refine ⟨Hr.out.below hB3, HN3.out.below (hw.mono (by omega)), HN2.out.below hw, Blk.below Hb2.out hw (by omega), ?_, hB3, Yc9 (fun _ => rfl) (fun _ => rfl)⟩
  subst hbp
  rw [hw3]
  exact Blk.new w2 _ _
 clear hw3 HB2 HN3 HN2 Hb2
 go_loopw [16] (fun vi wr => ∃ (k : Nat) (hs os : Nat → Int), vi = .int .i64 k ∧ k ≤ adj.length ∧ GInv w w.heap.size (w.heap.size + 1) go bp R (.slice A adj.length c) adj wr k hs os) (fun vi _ => adj.length - (intOf vi).toNat)
 case atStart => exact ⟨0, _, _, rfl, Nat.zero_le _, Hst.out⟩
 case round =>
  clear Hst
  obtain ⟨k, hs, os, rfl, hk, hin⟩ := hrel
  have Hin := hid hin
  have g1 := Blk.cell hin.box 0
  have g2 := Blk.cell hin.box 1
  have g3 := Blk.cell hin.box 2
  have hbpw : bp < wr.heap.size := Blk.lt hin.box
  have hghw := World.rowIs.lt hin.h
  have hgow := World.rowIs.lt hin.o
  clear hin
  by_cases hlt : k < adj.length
  ·have hkI : (k : Int) < (adj.length : Int) := by omega
   go_wp2
   refine wp_region_any (by kernel_rfl) ?_
   change wpAny _ _ _ _ _ _ _ (World.drew _)
   refine wpAny_take (i := 1) (v := ?_) rfl (by kernel_rfl) (by kernel_rfl) (by kernel_rfl) (fun _ _ _ h => h) (Or.inl ⟨by rfl, ?_⟩) ?_
   rotate_left
   ·intro w; go_simp; try with_reducible rfl
   (refine wpAny_act (b := ?_) ?_ ?_; rotate_left; (go_simp; with_reducible rfl))
   refine wpAny_take (i := 2) (v := ?_) rfl (by kernel_rfl) (by kernel_rfl) (by kernel_rfl) (fun _ _ _ h => h) (Or.inl ⟨by rfl, ?_⟩) ?_
   rotate_left
   ·intro w; go_simp; try with_reducible rfl
   (refine wpAny_act (b := ?_) ?_ ?_; rotate_left; (go_simp; with_reducible rfl))
   refine wpAny_ready (rs := [0, 3]) (by kernel_rfl) (by simp) ?_
   refine AllReady.cons rfl (fun K hK => ?_) (AllReady.cons rfl (fun K hK => ?_) AllReady.nil)
   go_simp
   refine hK _ _ ?_
   clear hK K
   refine wpAny_ready (rs := [3]) (by kernel_rfl) (by simp) ?_
   refine AllReady.cons rfl (fun K hK => ?_) AllReady.nil
   go_simp
   refine (U2_ R _ hR).mono ?_
   rintro e w4 ⟨f, bx, g, rfl, hf, hbx, hg, hb4⟩
   refine hK _ _ ?_
   clear hK K
   rotate_left
   go_simp
   refine (U2_ R _ hR).mono ?_
   rintro e w4 ⟨f, bx, g, rfl, hf, hbx, hg, hb4⟩
   refine hK _ _ ?_
   clear hK K
   have g1 := (hb4.cell (p := ⟨bp, 0, none⟩) (by simpa using hbpw)).trans g1
   have g2 := (hb4.cell (p := ⟨bp, 1, none⟩) (by simpa using hbpw)).trans g2
   have g3 := (hb4.cell (p := ⟨bp, 2, none⟩) (by simpa using hbpw)).trans g3
   refine wpAny_ready (rs := [0]) (by kernel_rfl) (by simp) ?_
   refine AllReady.cons rfl (fun K hK => ?_) AllReady.nil
   go_simp
   refine hK _ _ ?_
   clear hK K
   clear g1 g2 g3
   all_goals
    refine wpAny_ready (rs := [4]) (by kernel_rfl) (by simp) ?_
    refine AllReady.cons rfl (fun K hK => ?_) AllReady.nil
    go_simp
    have Hb4 : Hid (Below wr.heap.size wr w4) := hid ⟨hb4.os, hb4.tape, hb4.output, hb4.size, hb4.block⟩
    refine (Xb2 w.heap.size (w.heap.size + 1) go g bx R adj _ f HOn.out (R + 1) w4 k hs os (fun _ => false) (Hin.out.gs Hb4.out hf hbx hg (by omega) (by omega) (by omega) (by omega)) (by have := Hb4.out.size; omega) hlt Hin.out.great.p (.inl (Hin.out.great.rest k (le_refl _) hlt)) (Nat.lt_succ_of_le (Zs5 _ R))).mono ?_
    rintro e w5 hG
    obtain ⟨b, hs', os', rfl, hin'⟩ := Hin.out.next Hb4.out hg (by omega) (by omega) (by omega) (by omega) hlt hG
    have Hin' := hid hin'
    clear hin' hG hb4 hf hbx hg
    refine hK _ _ ?_
    clear hK K
    refine wpAny_done (by kernel_rfl) ?_ _
    go_wp2
    go_roundw
    case rel => exact ⟨k + 1, hs', os', by go_num, by omega, Hin'.out⟩
    case measure => simp [intOf]; omega
  ·have hkn : k = adj.length := by omega
   subst hkn
   have h1 := Blk.cell Hin.out.res 0
   have h2 := Blk.cell Hin.out.res 1
   have h3 := Blk.cell Hin.out.res 2
   have f1 := Blk.frozen Hin.out.res 0
   have f2 := Blk.frozen Hin.out.res 1
   have f3 := Blk.frozen Hin.out.res 2
   go_wp2
   have hfin := ((Hin.out.res.set_ 0 (.slice A adj.length c)).set_ 1 (.slice (some ⟨w.heap.size + 1, 0, none⟩) adj.length adj.length)).set_ 2 (.slice (some ⟨go, 0, none⟩) R R)
   have hbw : Below w.heap.size w (((wr.setCell ⟨w.heap.size, 0, none⟩ (.slice A adj.length c)).setCell ⟨w.heap.size, 1, none⟩ (.slice (some ⟨w.heap.size + 1, 0, none⟩) adj.length adj.length)).setCell ⟨w.heap.size, 2, none⟩ (.slice (some ⟨go, 0, none⟩) R R)) :=
    ((Hin.out.below.setCell (p := ⟨w.heap.size, 0, none⟩) (le_refl _) _).setCell (p := ⟨w.heap.size, 1, none⟩) (le_refl _) _).setCell (p := ⟨w.heap.size, 2, none⟩) (le_refl _) _
   have hblk : ∀ b, b ≠ w.heap.size → (((wr.setCell ⟨w.heap.size, 0, none⟩ (.slice A adj.length c)).setCell ⟨w.heap.size, 1, none⟩ (.slice (some ⟨w.heap.size + 1, 0, none⟩) adj.length adj.length)).setCell ⟨w.heap.size, 2, none⟩ (.slice (some ⟨go, 0, none⟩) R R)).heap[b]? = wr.heap[b]? := fun b hb =>
    ((Below.heap_setCell _ ⟨w.heap.size, 2, none⟩ _ b hb).trans (Below.heap_setCell _ ⟨w.heap.size, 1, none⟩ _ b hb)).trans (Below.heap_setCell _ ⟨w.heap.size, 0, none⟩ _ b hb)
   generalize ((wr.setCell ⟨w.heap.size, 0, none⟩ (.slice A adj.length c)).setCell ⟨w.heap.size, 1, none⟩ (.slice (some ⟨w.heap.size + 1, 0, none⟩) adj.length adj.length)).setCell ⟨w.heap.size, 2, none⟩ (.slice (some ⟨go, 0, none⟩) R R) = w9 at *
   have k1 : w9.cell? ⟨w.heap.size, 0, none⟩ = some (.slice A adj.length c) := hfin.cell 0
   have k2 : w9.cell? ⟨w.heap.size, 1, none⟩ = some (.slice (some ⟨w.heap.size + 1, 0, none⟩) adj.length adj.length) := hfin.cell 1
   have k3 : w9.cell? ⟨w.heap.size, 2, none⟩ = some (.slice (some ⟨go, 0, none⟩) R R) := hfin.cell 2
   refine bodyPost_ret (v := .agg #[.slice A adj.length c, .slice (some ⟨w.heap.size + 1, 0, none⟩) adj.length adj.length, .slice (some ⟨go, 0, none⟩) R R]) ?_ rfl ?_
   ·simp [results, Tryz.results112, go_sem, k1, k2, k3]
   ·exact ⟨w.heap.size + 1, go, hs, os, rfl, World.rowIs.of_block Hin.out.h (hblk _ (by omega)), World.rowIs.of_block Hin.out.o (hblk _ (by omega)), by omega, by omega, by omega, hbw, Hin.out.great⟩
end Wp.K
end Go.Proofs.YtgadbnbhgpehjaaGreatDoor
namespace Go.Proofs.YtgadbnbhgpehjaaGreatDoor
open Go.RowKit
namespace Wp.K
theorem onR_of_may {right : Int} {adj : List (List Int)} (h : mayM right adj = true) : OnR right.toNat adj := by
 unfold mayM at h
 rw [Bool.and_eq_true, Bool.and_eq_true, List.all_eq_true] at h
 intro i x hx
 have hi : i < adj.length := by
  rcases Nat.lt_or_ge i adj.length with hl | hl
  ·exact hl
  ·rw [List.getD_eq_getElem?_getD, List.getElem?_eq_none hl] at hx
   exact absurd hx (by simp)
 have hk := h.2 _ (List.getElem_mem hi)
 rw [show adj.getD i [] = adj[i] by simp [List.getD, hi]] at hx
 unfold okL at hk
 rw [Bool.and_eq_true, mayB_iff] at hk
 obtain ⟨⟨hs1, hs2⟩, hk⟩ := hk
 obtain ⟨m, hm, rfl⟩ := List.mem_iff_getElem.1 hx
 have h0 := (hs2 _ (List.getElem_mem hm)).1
 have hl : adj[i][m] ≤ adj[i].getD (adj[i].length - 1) 0 := by
  have e : adj[i].getD (adj[i].length - 1) 0 = adj[i][adj[i].length - 1]'(by omega) := by simp [List.getD, show adj[i].length - 1 < adj[i].length by omega]
  rw [e]
  rcases Nat.lt_or_ge m (adj[i].length - 1) with hlt | hge
  ·exact Int.le_of_lt (List.pairwise_iff_getElem.1 hs1 m (adj[i].length - 1) hm (by omega) hlt)
  ·have : m = adj[i].length - 1 := by omega
   subst this
   exact Int.le_refl _
 rw [decide_eq_false (by omega), Bool.false_or, decide_eq_true_iff] at hk
 exact ⟨adj[i][m].toNat, by omega, by omega⟩
theorem Ye4 {right : Int} {adj : List (List Int)} (h : mayM right adj = true) : 0 ≤ right ∧ right ≤ 64 ∧ adj.length ≤ 64 := by
 unfold mayM at h
 rw [Bool.and_eq_true, Bool.and_eq_true, decide_eq_true_iff, decide_eq_true_iff] at h
 exact ⟨h.1.1.1, h.1.1.2, h.1.2⟩
theorem Yp3 (right : Int) (v : Value) (adj : List (List Int)) (b : Bool) (h : mayM right adj = b) (w : World) (hr : Rows2 w w.heap.size v adj) :
  Calls Tryz.prog 111 #[.int .i64 right, v] w (Says w b) := by
 subst h
 exact kmay_any right v adj w hr
def MaxP (w : World) (right : Int) (adj : List (List Int)) (e : Ending) (w' : World) : Prop :=
 ∃ (v : Value) (l : List Int) (n : Nat), e = .returned (.tuple #[v, .int .i64 n]) ∧ Row w' w'.heap.size v l ∧ Below w.heap.size w w' ∧
  ((mayM right adj = false ∧ l = [] ∧ n = 0) ∨ (mayM right adj = true ∧ ∃ hs os, Great right.toNat adj hs os adj.length ∧ l = (List.range adj.length).map hs ∧ n = msize adj hs))
theorem Xb3 {w : World} {g n : Nat} {f : Nat → Int} (h : NumsK w g n f) (hn : n ≤ maxLen) : Row w w.heap.size (.slice (some ⟨g, 0, none⟩) n n) ((List.range n).map f) := by
 refine ⟨some ⟨g, 0, none⟩, n, by simp, ⟨by simp, hn, fun h => (by cases h)⟩, fun k hk => ⟨_, rfl, World.rowIs.lt h, ?_⟩⟩
 have hk' : k < n := by simpa using hk
 have e : ((List.range n).map f).getD k 0 = f k := by simp [List.getD, hk']
 rw [e, ← World.rowIs.cell h hk']
 congr 1
 simp [Addr.add]
 try omega
theorem Vv0 (a b c : Value) (w : World) : Sem.run Tryz.prog (Instr.field 109 (.agg #[a, b, c]) 1) w = .ok b w := by
 kernel_rfl
theorem max_any (right : Int) (v : Value) (adj : List (List Int)) (w : World) (hr : Rows2 w w.heap.size v adj) :
  Calls Tryz.prog 85 #[.int .i64 right, v] w (MaxP w right adj) := by
 have Hr := hid hr
 obtain ⟨A, c, rfl, hcap, _⟩ := hr
 rcases hm : mayM right adj with _ | _
 ·have Hm := hid hm
  clear hm
  go_enter Tryz.func85, Tryz.ntmps85
  go_wp2_with fail
  refine (Yp3 right _ adj false Hm.out w Hr.out).mono ?_
  rintro e w1 ⟨rfl, hb1⟩
  have Hb1 := hid hb1
  clear hb1
  go_wp2
  go_ret2
  exact ⟨_, [], 0, rfl, Row.nil_ _ _, Hb1.out, .inl ⟨Hm.out, rfl, rfl⟩⟩
 ·have Hm := hid hm
  obtain ⟨hr0, hr64, hn64⟩ := Ye4 hm
  have HOn := hid (onR_of_may hm)
  clear hm
  obtain ⟨R, rfl⟩ : ∃ R : Nat, right = (R : Int) := ⟨right.toNat, by omega⟩
  have hR : R ≤ 64 := by omega
  have HeR : Hid ((R : Int).toNat = R) := hid (by omega)
  clear hr0 hr64
  go_enter Tryz.func85, Tryz.ntmps85
  go_wp2_with fail
  refine (Yp3 R _ adj true Hm.out w Hr.out).mono ?_
  rintro e w1 ⟨rfl, hb1⟩
  have Hb1 := hid hb1
  have Hr1 := hid (Hr.out.up hb1)
  clear hb1
  go_wp2_with fail
  refine (Zm3 R _ adj w1 Hr1.out (by rw [← HeR.out]; exact HOn.out) hR hn64).mono ?_
  rintro e w2 ⟨gh, go, hs, os, rfl, hh, _, _, _, _, hb2, hg⟩
  have Hb2 := hid (Hb1.out.trans (hb2.mono Hb1.out.size))
  have Hh := hid hh
  have Hg := hid hg
  clear hb2 hh hg Hb1 Hr1
  have hfd := fun W => Vv0 (.slice A adj.length c) (.slice (some ⟨gh, 0, none⟩) adj.length adj.length) (.slice (some ⟨go, 0, none⟩) R R) W
  go_wp2
  go_loopw [7, 20] (fun vm vi wr => ∃ k : Nat, vi = .int .i64 k ∧ vm = .int .i64 (cntP k fun i => decide (hs i ≠ -1)) ∧ k ≤ adj.length ∧ Below w2.heap.size w2 wr) (fun _ vi _ => adj.length - (intOf vi).toNat)
  case atStart => exact ⟨0, rfl, rfl, Nat.zero_le _, Below.refl _ _⟩
  case round =>
   obtain ⟨k, rfl, rfl, hk, hbr⟩ := hrel
   have Hbr := hid hbr
   have Hh2 := hid (Hh.out.below hbr)
   clear hbr
   by_cases hlt : k < adj.length
   ·have hkI : (k : Int) < (adj.length : Int) := by omega
    have g1 := NumsK.at Hh2.out hlt
    have hc := Zs5 (fun i => decide (hs i ≠ -1)) k
    have Hs := hid (B0_ k fun i => decide (hs i ≠ -1))
    generalize cntP k (fun i => decide (hs i ≠ -1)) = q at *
    by_cases hx : hs k = -1
    ·have Hs2 : Hid (cntP (k + 1) (fun i => decide (hs i ≠ -1)) = q) := hid (by rw [Hs.out, decide_eq_false (by simpa using hx)]; simp)
     rw [hx] at g1
     go_wp2
     go_roundw
     case rel => exact ⟨k + 1, by go_num, by rw [Hs2.out], by omega, Hbr.out⟩
     case measure => simp [intOf]; omega
    ·have Hs2 : Hid (cntP (k + 1) (fun i => decide (hs i ≠ -1)) = q + 1) := hid (by rw [Hs.out, decide_eq_true (by simpa using hx)]; simp)
     generalize hs k = x at *
     go_wp2
     go_roundw
     case rel => exact ⟨k + 1, by go_num, by rw [Hs2.out]; go_num, by omega, Hbr.out⟩
     case measure => simp [intOf]; omega
   ·have hkn : k = adj.length := by omega
    subst hkn
    go_wp2
    go_ret2
    exact ⟨_, _, _, rfl, Xb3 Hh2.out (by unfold maxLen; omega), Hb2.out.trans (Hbr.out.mono Hb2.out.size), .inr ⟨Hm.out, hs, os, by rw [HeR.out]; exact Hg.out, rfl, rfl⟩⟩
end Wp.K
end Go.Proofs.YtgadbnbhgpehjaaGreatDoor
