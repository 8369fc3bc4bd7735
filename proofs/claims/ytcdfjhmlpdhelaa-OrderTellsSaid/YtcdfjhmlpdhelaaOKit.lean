/- A queue in memory: its pairs, one behind the other; which blocks are its own, which are others'. -/
import Derived.Test.YtcdfjhmlpdhelaaSKit
import Derived.Test.YtcdfjhmlpdhelaaOPure
namespace Go.Proofs.Ytcdfjhmlpdhelaa
open Go Go.RowKit
namespace Wp

/-- Pairs' cells, one behind the other. -/
def flatP : List (Int × Int) → List Value
  | [] => []
  | e :: r => .int .i64 e.1 :: .int .i64 e.2 :: flatP r
theorem flatP_length : ∀ ps, (flatP ps).length = ps.length * 2
  | [] => rfl
  | e :: r => by
    simp [flatP, flatP_length r]
    omega
theorem flatP_append : ∀ (a b : List (Int × Int)), flatP (a ++ b) = flatP a ++ flatP b
  | [], b => rfl
  | e :: a, b => by simp [flatP, flatP_append a b]
theorem flatP_at : ∀ (ps : List (Int × Int)) (k : Nat), k < ps.length → (flatP ps)[k * 2]? = some (.int .i64 (atP ps k).1) ∧ (flatP ps)[k * 2 + 1]? = some (.int .i64 (atP ps k).2)
  | [], k, h => absurd h (by simp)
  | e :: r, 0, _ => by simp [flatP, atP, List.getD]
  | e :: r, k + 1, h => by
    have ih := flatP_at r k (by simp at h; omega)
    have e1 : (k + 1) * 2 = k * 2 + 1 + 1 := by omega
    have e2 : atP (e :: r) (k + 1) = atP r k := by simp [atP]
    rw [e1, e2]
    simp only [flatP, List.getElem?_cons_succ]
    exact ih
theorem flatP_one (ps : List (Int × Int)) : ∀ u ∈ flatP ps, u.oneCell' = true := by
  induction ps with
  | nil => intro u hu; simp [flatP] at hu
  | cons e r ih =>
    intro u hu
    simp only [flatP, List.mem_cons] at hu
    rcases hu with rfl | rfl | hu
    · rfl
    · rfl
    · exact ih u hu
theorem flatP_set : ∀ (ps : List (Int × Int)) (k : Nat) (p : Int × Int), flatP (ps.set k p) = ((flatP ps).set (k * 2) (.int .i64 p.1)).set (k * 2 + 1) (.int .i64 p.2)
  | [], k, p => by simp [flatP]
  | e :: r, 0, p => by simp [flatP]
  | e :: r, k + 1, p => by
    have e1 : (k + 1) * 2 = k * 2 + 1 + 1 := by omega
    rw [e1]
    simp only [flatP, List.set_cons_succ]
    rw [flatP_set r k p]
theorem flatP_take : ∀ (ps : List (Int × Int)) (k : Nat), (flatP ps).take (k * 2) = flatP (ps.take k)
  | [], k => by simp [flatP]
  | e :: r, 0 => by simp [flatP]
  | e :: r, k + 1 => by
    have e1 : (k + 1) * 2 = k * 2 + 1 + 1 := by omega
    rw [e1]
    simp only [flatP, List.take_succ_cons]
    rw [flatP_take r k]

theorem infoP : (Try.prog.info? 66).map (fun i => (i.zero, i.size, i.bytes)) = some (some (.agg #[.int .i64 0, .int .i64 0]), 2, 16) := by kernel_rfl

/-- The call's own pairs. -/
def OwnP (w : World) (v : Value) (ps : List (Int × Int)) : Prop := w.ownsRow 0 66 2 v ps.length (flatP ps)
theorem OwnP.slice {w : World} {v : Value} {ps : List (Int × Int)} (h : OwnP w v ps) : ∃ A cap, v = .slice A ps.length cap := by
  rcases h.2 with ⟨rfl, h0⟩ | ⟨g, cap, _, hv, _⟩
  · exact ⟨none, 0, by rw [h0]⟩
  · exact ⟨_, cap, hv⟩
/-- Own pairs that are some: their block. -/
structure PBlk (w : World) (g cap : Nat) (v : Value) (ps : List (Int × Int)) (cur : Array Value) : Prop where
  val : v = .slice (some ⟨g, 0, none⟩) ps.length cap
  blk : Blk w g 66 cur
  le : ps.length ≤ cap
  mx : cap ≤ maxLen
  sz : cur.size = cap * 2
  tk : cur.toList.take (ps.length * 2) = flatP ps
theorem OwnP.some_ {w : World} {v : Value} {ps : List (Int × Int)} (h : OwnP w v ps) (h0 : 0 < ps.length) : ∃ g cap cur, PBlk w g cap v ps cur := by
  rcases h.2 with ⟨_, hz⟩ | ⟨g, cap, cur, hv, _, hg, h1, h2, h3, h4⟩
  · omega
  · exact ⟨g, cap, cur, hv, hg, h1, h2, h3, h4⟩
theorem PBlk.own {w : World} {g cap : Nat} {v : Value} {ps : List (Int × Int)} {cur : Array Value} (h : PBlk w g cap v ps cur) : OwnP w v ps :=
  ⟨flatP_length ps, .inr ⟨g, cap, cur, h.val, Nat.zero_le _, h.blk, h.le, h.mx, h.sz, h.tk⟩⟩
theorem PBlk.cells {w : World} {g cap : Nat} {v : Value} {ps : List (Int × Int)} {cur : Array Value} (h : PBlk w g cap v ps cur) (k : Nat) (hk : k < ps.length) :
    w.cell? ⟨g, k * 2, none⟩ = some (.int .i64 (atP ps k).1) ∧ w.cell? ⟨g, k * 2 + 1, none⟩ = some (.int .i64 (atP ps k).2) := by
  have ha := flatP_at ps k hk
  rw [← h.tk, List.getElem?_take, List.getElem?_take, if_pos (by omega), if_pos (by omega)] at ha
  rw [h.blk.cell, h.blk.cell]
  exact ⟨by simpa using ha.1, by simpa using ha.2⟩
/-- One pair is written over. -/
theorem PBlk.set_ {w : World} {g cap : Nat} {v : Value} {ps : List (Int × Int)} {cur : Array Value} (h : PBlk w g cap v ps cur) (k : Nat) (p : Int × Int) :
    PBlk ((w.setCell ⟨g, k * 2, none⟩ (.int .i64 p.1)).setCell ⟨g, k * 2 + 1, none⟩ (.int .i64 p.2)) g cap v (ps.set k p) ((cur.setIfInBounds (k * 2) (.int .i64 p.1)).setIfInBounds (k * 2 + 1) (.int .i64 p.2)) := by
  refine ⟨by rw [List.length_set]; exact h.val, (h.blk.set_ _ _).set_ _ _, by rw [List.length_set]; exact h.le, h.mx, by simpa using h.sz, ?_⟩
  rw [List.length_set, flatP_set, ← h.tk]
  simp [List.take_set]
theorem OwnP.kept {w w' : World} {row : Option Nat} {v : Value} {ps : List (Int × Int)} (h : OwnP w v ps) (hg : w.grownBy w' row) (hne : v.ownBlock = none ∨ v.ownBlock ≠ row) : OwnP w' v ps := World.ownsRow.kept h hg hne
theorem OwnP.lt {w : World} {v : Value} {ps : List (Int × Int)} (h : OwnP w v ps) : ∀ k, v.ownBlock = some k → k < w.heap.size := fun k hk => (World.ownsRow.lt h k hk).2

/-- What others own stays as it is. -/
structure Fk (F : Nat → Prop) (w w' : World) : Prop where
  os : w'.os = w.os
  tape : w'.tape = w.tape
  output : w'.output = w.output
  size : w.heap.size ≤ w'.heap.size
  block : ∀ k, k < w.heap.size → F k → w'.heap[k]? = w.heap[k]?
theorem Fk.refl (F : Nat → Prop) (w : World) : Fk F w w := ⟨rfl, rfl, rfl, Nat.le_refl _, fun _ _ _ => rfl⟩
theorem Fk.trans {F : Nat → Prop} {a b c : World} (h : Fk F a b) (k : Fk F b c) : Fk F a c :=
  ⟨k.os.trans h.os, k.tape.trans h.tape, k.output.trans h.output, Nat.le_trans h.size k.size, fun i hi hF => (k.block i (Nat.lt_of_lt_of_le hi h.size) hF).trans (h.block i hi hF)⟩
theorem Fk.of_below {F : Nat → Prop} {w w' : World} (h : Below w.heap.size w w') : Fk F w w' := ⟨h.os, h.tape, h.output, h.size, fun i hi _ => h.block i hi⟩
theorem Fk.below {F : Nat → Prop} {B : Nat} {w w' : World} (h : Fk F w w') (hB : B ≤ w.heap.size) (hF : ∀ i, i < B → F i) : Below B w w' := ⟨h.os, h.tape, h.output, h.size, fun i hi => h.block i (by omega) (hF i hi)⟩
theorem Fk.of_grown {F : Nat → Prop} {w w' : World} {row : Option Nat} (h : w.grownBy w' row) (hF : ∀ i, F i → row ≠ some i) : Fk F w w' := ⟨h.os, h.tape, h.output, h.size, fun i hi hFi => h.block i hi (fun e => hF i hFi e.symm)⟩
theorem Fk.mono {F G : Nat → Prop} {w w' : World} (h : Fk F w w') (hG : ∀ i, G i → F i) : Fk G w w' := ⟨h.os, h.tape, h.output, h.size, fun i hi hi' => h.block i hi (hG i hi')⟩

/-- A queue: at block q the slice of its pairs; none of its blocks is another's. -/
structure Que (w : World) (F : Nat → Prop) (q : Nat) (v : Value) (ps : List (Int × Int)) : Prop where
  blk : Blk w q 62 #[v]
  own : OwnP w v ps
  apart : v.ownBlock ≠ some q
  far : ∀ i, F i → i < w.heap.size ∧ i ≠ q ∧ v.ownBlock ≠ some i
def Qu (w : World) (F : Nat → Prop) (q : Nat) (ps : List (Int × Int)) : Prop := ∃ v, Que w F q v ps
theorem Que.quiet {w w' : World} {F : Nat → Prop} {q : Nat} {v : Value} {ps : List (Int × Int)} (h : Que w F q v ps) (hb : Below w.heap.size w w') : Que w' F q v ps :=
  ⟨h.blk.below hb h.blk.lt, h.own.kept (only_of_below hb none) (by cases hv : v.ownBlock <;> simp), h.apart, fun i hi => ⟨Nat.lt_of_lt_of_le (h.far i hi).1 hb.size, (h.far i hi).2⟩⟩
theorem Qu.quiet {w w' : World} {F : Nat → Prop} {q : Nat} {ps : List (Int × Int)} (h : Qu w F q ps) (hb : Below w.heap.size w w') : Qu w' F q ps := let ⟨v, hv⟩ := h; ⟨v, hv.quiet hb⟩
/-- What is new is not its own. -/
theorem Qu.more {w w' : World} {F : Nat → Prop} {q : Nat} {ps : List (Int × Int)} (h : Qu w F q ps) (hb : Below w.heap.size w w') : Qu w' (fun i => F i ∨ (w.heap.size ≤ i ∧ i < w'.heap.size)) q ps := by
  obtain ⟨v, hv⟩ := h
  refine ⟨v, (hv.quiet hb).blk, (hv.quiet hb).own, hv.apart, fun i hi => ?_⟩
  rcases hi with hi | hi
  · exact (hv.quiet hb).far i hi
  · refine ⟨hi.2, ?_, fun e => ?_⟩
    · have := hv.blk.lt
      omega
    · have := hv.own.lt i e
      omega
theorem Qu.less {w : World} {F G : Nat → Prop} {q : Nat} {ps : List (Int × Int)} (h : Qu w F q ps) (hG : ∀ i, G i → F i) : Qu w G q ps := by
  obtain ⟨v, hv⟩ := h
  exact ⟨v, hv.blk, hv.own, hv.apart, fun i hi => hv.far i (hG i hi)⟩

end Wp
end Go.Proofs.Ytcdfjhmlpdhelaa
