/- A list of so many that have nobody; the closure that tells who is reached already: made and asked. -/
import Derived.Test.YtmgfhehnehcmpaaSKit
import Derived.Deep.OwnRows
namespace Go.Proofs.Ytmgfhehnehcmpaa
open Go.RowKit
namespace Wp

/-- Numbers in a block. -/
def NumsK (w : World) (g n : Nat) (f : Nat → Int) : Prop := w.rowIs g 3 n fun i => .int .i64 (f i)
theorem NumsK.congr {w : World} {g n : Nat} {f f' : Nat → Int} (h : NumsK w g n f) (e : ∀ i, i < n → f i = f' i) : NumsK w g n f' := World.rowIs.congr h fun i hi => by rw [e i hi]
theorem NumsK.set {w : World} {g n : Nat} {f : Nat → Int} (h : NumsK w g n f) (i : Nat) (v : Int) : NumsK (w.setCell ⟨g, i, none⟩ (.int .i64 v)) g n (fun j => if j = i then v else f j) :=
  World.rowIs.congr (World.rowIs.set h i _) fun j _ => by
    by_cases hj : j = i
    · simp only [hj, if_pos]
    · simp only [hj, if_false]
/-- Yes or no in a block. -/
def BitsK (w : World) (g n : Nat) (f : Nat → Bool) : Prop := w.rowIs g 4 n fun i => .bool (f i)
theorem BitsK.congr {w : World} {g n : Nat} {f f' : Nat → Bool} (h : BitsK w g n f) (e : ∀ i, i < n → f i = f' i) : BitsK w g n f' := World.rowIs.congr h fun i hi => by rw [e i hi]
theorem BitsK.set {w : World} {g n : Nat} {f : Nat → Bool} (h : BitsK w g n f) (i : Nat) : BitsK (w.setCell ⟨g, i, none⟩ (.bool true)) g n (fun j => if j = i then true else f j) :=
  World.rowIs.congr (World.rowIs.set h i _) fun j _ => by
    by_cases hj : j = i
    · simp only [hj, if_pos]
    · simp only [hj, if_false]
theorem BitsK.below {w w' : World} {g n : Nat} {f : Nat → Bool} (h : BitsK w g n f) (hb : Below w.heap.size w w') : BitsK w' g n f := World.rowIs.of_block h (hb.block g (World.rowIs.lt h))
theorem NumsK.below {w w' : World} {g n : Nat} {f : Nat → Int} (h : NumsK w g n f) (hb : Below w.heap.size w w') : NumsK w' g n f := World.rowIs.of_block h (hb.block g (World.rowIs.lt h))
theorem infoBool : (Try.prog.info? 4).map (fun i => (i.zero, i.size, i.bytes)) = some (some (.bool false), 1, 1) := by kernel_rfl

set_option maxHeartbeats 4000000 in
set_option maxRecDepth 100000 in
theorem none_any (n : Nat) (w : World) (hn : n ≤ 64) :
    Calls Try.prog 42 #[.int .i64 n] w fun e w' => e = .returned (.slice (some ⟨w.heap.size, 0, none⟩) n n) ∧ NumsK w' w.heap.size n (fun _ => -1) ∧ Below w.heap.size w w' := by
  have hmk := fun W => run_make_row' 25 3 (.int .i64 0) 8 Try.underlying25 info3 rfl .i64 .i64 n (by omega) (by omega) W
  have Hs0 : Hid (NumsK (w.alloc (.cells (madeCells #[.int .i64 0] n) 3)) w.heap.size n (fun j => if j < 0 then -1 else 0)) :=
    World.rowIs.congr (World.rowIs_made w (.int .i64 0) n 3) fun i _ => by simp
  have Hb0 := Lib.hid ((Below.refl w.heap.size w).alloc (Nat.le_refl _) (.cells (madeCells #[.int .i64 0] n) 3))
  go_enter Try.func42, Try.ntmps42
  go_wp2
  go_loopw [9] (fun vi wr => ∃ i : Nat, vi = .int .i64 i ∧ i ≤ n ∧ NumsK wr w.heap.size n (fun j => if j < i then -1 else 0) ∧ Below w.heap.size w wr) (fun vi _ => n - (intOf vi).toNat)
  case atStart => exact ⟨0, rfl, Nat.zero_le _, Hs0.out, Hb0.out⟩
  case round =>
    clear Hs0 Hb0 hmk
    obtain ⟨i, rfl, hi, hs, hbr⟩ := hrel
    have Hs := Lib.hid hs
    have Hbr := Lib.hid hbr
    clear hs hbr
    by_cases hlt : i < n
    · have hltI : (i : Int) < (n : Int) := by omega
      have g4 := World.rowIs.cell Hs.out hlt
      have hfz : wr.frozen? ⟨w.heap.size, i, none⟩ = false := World.rowIs.frozen Hs.out i
      go_wp2
      go_roundw
      case rel =>
        refine ⟨i + 1, by go_num, by omega, (Hs.out.set i (-1)).congr fun j _ => ?_, Hbr.out.setCell (p := ⟨w.heap.size, i, none⟩) (Nat.le_refl _) _⟩
        by_cases e : j = i
        · rw [if_pos e, if_pos (by omega)]
        · rw [if_neg e]
          by_cases e2 : j < i
          · rw [if_pos e2, if_pos (by omega)]
          · rw [if_neg e2, if_neg (by omega)]
      case measure => simp [intOf]; omega
    · have hie : i = n := by omega
      subst hie
      have Hs2 := Lib.hid (Hs.out.congr (f' := fun _ => -1) fun j hj => by rw [if_pos hj])
      clear Hs
      go_wp2
      go_ret
      exact ⟨rfl, Hs2.out, Hbr.out⟩

/-- The closure: a box that holds the list of who is reached. -/
def ReachF (w : World) (f : Value) (bx g R : Nat) (al : Nat → Bool) : Prop :=
  f = .func (.func 43) #[] #[.pointer (some ⟨bx, 0, none⟩)] ∧ w.cell? ⟨bx, 0, none⟩ = some (.slice (some ⟨g, 0, none⟩) R R) ∧ BitsK w g R al ∧ bx ≠ g ∧ bx < w.heap.size

set_option maxHeartbeats 4000000 in
set_option maxRecDepth 100000 in
theorem reaching_any (R : Nat) (w : World) (hR : R ≤ 64) :
    Calls Try.prog 29 #[.int .i64 R] w fun e w' => ∃ f bx g, e = .returned f ∧ ReachF w' f bx g R (fun _ => false) ∧ w.heap.size ≤ bx ∧ w.heap.size ≤ g ∧ Below w.heap.size w w' := by
  have hmk := fun W => run_make_row' 57 4 (.bool false) 1 Try.underlying57 infoBool rfl .i64 .i64 R (by omega) (by omega) W
  have Hs0 : Hid (BitsK (w.alloc (.cells (madeCells #[.bool false] R) 4)) w.heap.size R (fun _ => false)) := World.rowIs_made w (.bool false) R 4
  go_enter Try.func29, Try.ntmps29
  go_wp2
  go_ret
  refine ⟨_, w.heap.size + 1, w.heap.size, rfl, ⟨rfl, ?_, Hs0.out.below ((Below.refl _ _).alloc (Nat.le_refl _) _), by omega, by simp⟩, by omega, Nat.le_refl _, ((Below.refl _ w).alloc (Nat.le_refl _) _).alloc (by simp) _⟩
  have := (Blk.new (w.alloc (.cells (madeCells #[.bool false] R) 4)) 57 #[.slice (some ⟨w.heap.size, 0, none⟩) R R]).cell 0
  rwa [show (w.alloc (.cells (madeCells #[.bool false] R) 4)).heap.size = w.heap.size + 1 by simp] at this

theorem ReachF.slot {w : World} {f : Value} {bx g R : Nat} {al : Nat → Bool} (h : ReachF w f bx g R al) (r : Nat) : ReachF (w.setCell ⟨g, r, none⟩ (.bool true)) f bx g R (fun x => if x = r then true else al x) := by
  obtain ⟨h1, h2, h3, h4, h5⟩ := h
  refine ⟨h1, ?_, h3.set r, h4, by simpa [World.setCell] using h5⟩
  have : (w.setCell ⟨g, r, none⟩ (.bool true)).cell? ⟨bx, 0, none⟩ = w.cell? ⟨bx, 0, none⟩ := World.cell?_of_block (Below.heap_setCell w ⟨g, r, none⟩ _ bx (by simpa using h4))
  rw [this]
  exact h2
theorem ReachF.below {w w' : World} {f : Value} {bx g R : Nat} {al : Nat → Bool} (h : ReachF w f bx g R al) (hb : Below w.heap.size w w') : ReachF w' f bx g R al := by
  obtain ⟨h1, h2, h3, h4, h5⟩ := h
  exact ⟨h1, (hb.cell (p := ⟨bx, 0, none⟩) h5).trans h2, h3.below hb, h4, Nat.lt_of_lt_of_le h5 hb.size⟩

set_option maxHeartbeats 4000000 in
set_option maxRecDepth 100000 in
/-- Asked of one: whether it was reached already; now it is. -/
theorem reached_any (r R bx g : Nat) (f : Value) (al : Nat → Bool) (w : World) (h : ReachF w f bx g R al) (hr : r < R) :
    Calls Try.prog 43 #[.int .i64 r, .pointer (some ⟨bx, 0, none⟩)] w fun e w' => e = .returned (.bool (al r)) ∧ w' = w.setCell ⟨g, r, none⟩ (.bool true) := by
  obtain ⟨_, h2, h3, _, _⟩ := h
  have g1 := World.rowIs.cell h3 hr
  have hfz : w.frozen? ⟨g, r, none⟩ = false := World.rowIs.frozen h3 r
  have hrI : (r : Int) < (R : Int) := by omega
  clear h3
  go_enter Try.func43, Try.ntmps43
  go_wp2
  go_ret
  exact ⟨rfl, rfl⟩


theorem reached_is (r R bx g : Nat) (f : Value) (al : Nat → Bool) (b : Bool) (hb : al r = b) (w : World) (h : ReachF w f bx g R al) (hr : r < R) :
    Calls Try.prog 43 #[.int .i64 r, .pointer (some ⟨bx, 0, none⟩)] w fun e w' => e = .returned (.bool b) ∧ w' = w.setCell ⟨g, r, none⟩ (.bool true) := by
  subst hb
  exact reached_any r R bx g f al w h hr

end Wp
end Go.Proofs.Ytmgfhehnehcmpaa
