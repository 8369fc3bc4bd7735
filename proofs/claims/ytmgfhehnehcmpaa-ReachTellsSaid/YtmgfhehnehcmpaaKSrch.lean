/- The memory of the search for one on the right: whom each has, who is reached; what a search answers and leaves. -/
import Derived.Test.YtmgfhehnehcmpaaKNone
import Derived.Test.YtmgfhehnehcmpaaKPure
import Derived.Test.YtmgfhehnehcmpaaLRows
import Derived.Deep.RegionWith
namespace Go.Proofs.Ytmgfhehnehcmpaa
open Go.RowKit
namespace Wp

/-- Memory of the search. -/
structure GS (w : World) (adjv : Value) (adj : List (List Int)) (B gh go g bx R : Nat) (f : Value) (hs os : Nat → Int) (al : Nat → Bool) : Prop where
  rows : Rows2 w B adjv adj
  h : NumsK w gh adj.length hs
  o : NumsK w go R os
  r : ReachF w f bx g R al
  bh : B ≤ gh
  bo : B ≤ go
  bg : B ≤ g
  bb : B ≤ bx
  ho : gh ≠ go
  hg : gh ≠ g
  og : go ≠ g
  hb : gh ≠ bx
  ob : go ≠ bx
/-- What is as it was: all but three blocks. -/
structure Only3 (gh go g : Nat) (w w' : World) : Prop where
  os : w'.os = w.os
  tape : w'.tape = w.tape
  output : w'.output = w.output
  size : w.heap.size ≤ w'.heap.size
  block : ∀ b, b < w.heap.size → b ≠ gh → b ≠ go → b ≠ g → w'.heap[b]? = w.heap[b]?
theorem Only3.refl (gh go g : Nat) (w : World) : Only3 gh go g w w := ⟨rfl, rfl, rfl, Nat.le_refl _, fun _ _ _ _ _ => rfl⟩
theorem Only3.below {gh go g B : Nat} {w w' : World} (h : Only3 gh go g w w') (hB : B ≤ w.heap.size) (h1 : B ≤ gh) (h2 : B ≤ go) (h3 : B ≤ g) : Below B w w' :=
  ⟨h.os, h.tape, h.output, h.size, fun b hb => h.block b (by omega) (by omega) (by omega) (by omega)⟩
theorem Only3.trans {gh go g : Nat} {a b c : World} (h : Only3 gh go g a b) (k : Only3 gh go g b c) : Only3 gh go g a c :=
  ⟨k.os.trans h.os, k.tape.trans h.tape, k.output.trans h.output, Nat.le_trans h.size k.size, fun i hi h1 h2 h3 => (k.block i (Nat.lt_of_lt_of_le hi h.size) h1 h2 h3).trans (h.block i hi h1 h2 h3)⟩
theorem Only3.of_below {gh go g : Nat} {w w' : World} (h : Below w.heap.size w w') : Only3 gh go g w w' := ⟨h.os, h.tape, h.output, h.size, fun b hb _ _ _ => h.block b hb⟩
theorem GS.below {w w' : World} {adjv : Value} {adj : List (List Int)} {B gh go g bx R : Nat} {f : Value} {hs os : Nat → Int} {al : Nat → Bool} (h : GS w adjv adj B gh go g bx R f hs os al) (hB : B ≤ w.heap.size) (hb : Below w.heap.size w w') : GS w' adjv adj B gh go g bx R f hs os al :=
  ⟨h.rows.below (hb.mono hB), h.h.below hb, h.o.below hb, h.r.below hb, h.bh, h.bo, h.bg, h.bb, h.ho, h.hg, h.og, h.hb, h.ob⟩


theorem NumsK.at {w : World} {g n : Nat} {f : Nat → Int} (h : NumsK w g n f) {i : Nat} (hi : i < n) : w.cell? ⟨g, i, none⟩ = some (.int .i64 (f i)) := World.rowIs.cell h hi
/-- Of the search's memory nothing else is needed when the closure has been asked. -/
theorem GS.asked {w : World} {adjv : Value} {adj : List (List Int)} {B gh go g bx R : Nat} {f : Value} {hs os : Nat → Int} {al : Nat → Bool} (h : GS w adjv adj B gh go g bx R f hs os al) (r : Nat) :
    GS (w.setCell ⟨g, r, none⟩ (.bool true)) adjv adj B gh go g bx R f hs os (updB al r) where
  rows := h.rows.below ((Below.refl B w).setCell (p := ⟨g, r, none⟩) h.bg _)
  h := World.rowIs.of_block h.h (Below.heap_setCell w ⟨g, r, none⟩ _ gh h.hg)
  o := World.rowIs.of_block h.o (Below.heap_setCell w ⟨g, r, none⟩ _ go h.og)
  r := h.r.slot r
  bh := h.bh
  bo := h.bo
  bg := h.bg
  bb := h.bb
  ho := h.ho
  hg := h.hg
  og := h.og
  hb := h.hb
  ob := h.ob
theorem only3_set {gh go g : Nat} {w w' : World} (h : Only3 gh go g w w') (b r : Nat) (v : Value) (hb : b = gh ∨ b = go ∨ b = g) : Only3 gh go g w (w'.setCell ⟨b, r, none⟩ v) :=
  ⟨h.os, h.tape, h.output, by simpa [World.setCell] using h.size, fun c hc h1 h2 h3 => (Below.heap_setCell w' ⟨b, r, none⟩ v c (by
    show c ≠ b
    rcases hb with e | e | e <;> rw [e] <;> assumption)).trans (h.block c hc h1 h2 h3)⟩
theorem GS.gave {w : World} {adjv : Value} {adj : List (List Int)} {B gh go g bx R : Nat} {f : Value} {hs os : Nat → Int} {al : Nat → Bool} (h : GS w adjv adj B gh go g bx R f hs os al) (i r : Nat) :
    GS ((w.setCell ⟨gh, i, none⟩ (.int .i64 r)).setCell ⟨go, r, none⟩ (.int .i64 i)) adjv adj B gh go g bx R f (updI hs i r) (updI os r i) al where
  rows := (h.rows.below ((Below.refl B w).setCell (p := ⟨gh, i, none⟩) h.bh _)).below ((Below.refl B _).setCell (p := ⟨go, r, none⟩) h.bo _)
  h := World.rowIs.of_block (h.h.set i r) (Below.heap_setCell _ ⟨go, r, none⟩ _ gh h.ho)
  o := NumsK.set (World.rowIs.of_block h.o (Below.heap_setCell w ⟨gh, i, none⟩ _ go (fun e => h.ho e.symm))) r i
  r := by
    obtain ⟨h1, h2, h3, h4, h5⟩ := h.r
    refine ⟨h1, ?_, World.rowIs.of_block (World.rowIs.of_block h3 (Below.heap_setCell w ⟨gh, i, none⟩ _ g (fun e => h.hg e.symm))) (Below.heap_setCell _ ⟨go, r, none⟩ _ g (fun e => h.og e.symm)), h4, by simpa [World.setCell] using h5⟩
    have e1 : ((w.setCell ⟨gh, i, none⟩ (.int .i64 r)).setCell ⟨go, r, none⟩ (.int .i64 i)).cell? ⟨bx, 0, none⟩ = (w.setCell ⟨gh, i, none⟩ (.int .i64 r)).cell? ⟨bx, 0, none⟩ := World.cell?_of_block (Below.heap_setCell _ ⟨go, r, none⟩ _ bx (fun e => h.ob e.symm))
    have e2 : (w.setCell ⟨gh, i, none⟩ (.int .i64 r)).cell? ⟨bx, 0, none⟩ = w.cell? ⟨bx, 0, none⟩ := World.cell?_of_block (Below.heap_setCell _ ⟨gh, i, none⟩ _ bx (fun e => h.hb e.symm))
    rw [e1, e2]
    exact h2
  bh := h.bh
  bo := h.bo
  bg := h.bg
  bb := h.bb
  ho := h.ho
  hg := h.hg
  og := h.og
  hb := h.hb
  ob := h.ob

/-- What the search answers and leaves. -/
def Gave (w : World) (adjv : Value) (adj : List (List Int)) (B gh go g bx R i : Nat) (f : Value) (hs os : Nat → Int) (al : Nat → Bool) (e : Ending) (w' : World) : Prop :=
  ∃ (b : Bool) (hs' os' : Nat → Int) (al' : Nat → Bool), e = .returned (.bool b) ∧ GS w' adjv adj B gh go g bx R f hs' os' al' ∧ Only3 gh go g w w' ∧
    (b = true → Found R adj hs os al i hs' os') ∧ (b = false → hs' = hs ∧ os' = os ∧ Missed adj os al i al')

end Wp
end Go.Proofs.Ytmgfhehnehcmpaa
