/- Small laws of memory that the walks of this seat use: a block that is known whole; a list of integers in memory; what a call gives. -/
import Derived.Test.YtimmmfppehmfcaaGreatDoorSPure
import Derived.WalkKit
import Derived.OwnWalk
import Derived.Lib.Hide
import Derived.Laws.Cells
import Derived.Laws.Rows
import Derived.Deep.Draws
import Derived.BigQuiet
import Derived.Deep.QuietTactic
import Derived.Laws.AppendOwnNone
namespace Go.Proofs.YtimmmfppehmfcaaGreatDoor.Wp
open Go Go.RowKit

theorem info3 : (Tryz.prog.info? 3).map (fun i => (i.zero, i.size, i.bytes)) = some (some (.int .i64 0), 1, 8) := by kernel_rfl

/-! ### A block that is known whole -/
def Blk (w : World) (g : Nat) (t : TypeId) (cs : Array Value) : Prop := w.heap[g]? = some (.cells cs t (0, 0))

section
variable {w w' : World} {g : Nat} {t : TypeId} {cs : Array Value}
theorem Blk.lt (h : Blk w g t cs) : g < w.heap.size := by
  rcases Nat.lt_or_ge g w.heap.size with hlt | hge
  · exact hlt
  · unfold Blk at h; rw [Array.getElem?_eq_none hge] at h; cases h
theorem Blk.cell (h : Blk w g t cs) (i : Nat) : w.cell? ⟨g, i, none⟩ = cs[i]? := cell_of_row w g i cs t (0, 0) h
theorem Blk.frozen (h : Blk w g t cs) (i : Nat) : w.frozen? ⟨g, i, none⟩ = false := by
  unfold Blk at h
  simp [World.frozen?, h]
theorem Blk.new (w : World) (t : TypeId) (cs : Array Value) : Blk (w.alloc (.cells cs t)) w.heap.size t cs := heap_alloc_new w _
theorem Blk.drew (h : Blk w g t cs) : Blk w.drew g t cs := h
theorem Blk.drewN (h : Blk w g t cs) (n : Nat) : Blk (w.drewN n) g t cs := h
theorem Blk.alloc (h : Blk w g t cs) (o : Obj) : Blk (w.alloc o) g t cs := (Below.heap_alloc w o g h.lt).trans h
theorem Blk.set_ (h : Blk w g t cs) (i : Nat) (u : Value) : Blk (w.setCell ⟨g, i, none⟩ u) g t (cs.setIfInBounds i u) := by
  unfold Blk at h ⊢
  simp [World.setCell, Array.getElem?_modify, h]
theorem Blk.far (h : Blk w g t cs) {p : Addr} (hp : g ≠ p.block) (u : Value) : Blk (w.setCell p u) g t cs := (Below.heap_setCell w p u g hp).trans h
theorem Blk.below {B : Nat} (h : Blk w g t cs) (hb : Below B w w') (hg : g < B) : Blk w' g t cs := (hb.block g hg).trans h
theorem Blk.grown {row : Option Nat} (h : Blk w g t cs) (hb : w.grownBy w' row) (hg : some g ≠ row) : Blk w' g t cs := (hb.block g h.lt hg).trans h
end

/-! ### Only one block has turned -/
theorem only_drewN {a w : World} {row : Option Nat} (h : a.grownBy w row) (n : Nat) : a.grownBy (w.drewN n) row := ⟨h.os, h.tape, h.output, h.size, h.block⟩
theorem only_drew {a w : World} {row : Option Nat} (h : a.grownBy w row) : a.grownBy w.drew row := ⟨h.os, h.tape, h.output, h.size, h.block⟩
theorem only_alloc {a w : World} {row : Option Nat} (h : a.grownBy w row) (o : Obj) : a.grownBy (w.alloc o) row :=
  ⟨h.os, h.tape, h.output, Nat.le_trans h.size (by simp), fun i hi hne => (Below.heap_alloc w o i (Nat.lt_of_lt_of_le hi h.size)).trans (h.block i hi hne)⟩
theorem only_setCell {a w : World} {g : Nat} (h : a.grownBy w (some g)) {p : Addr} (hp : p.block = g ∨ a.heap.size ≤ p.block) (u : Value) : a.grownBy (w.setCell p u) (some g) :=
  ⟨h.os, h.tape, h.output, by simpa [World.setCell] using h.size, fun i hi hne => (Below.heap_setCell w p u i (by
    rintro rfl
    rcases hp with hp | hp
    · exact hne (by rw [hp])
    · omega)).trans (h.block i hi hne)⟩
theorem only_of_below {a w : World} (h : Below a.heap.size a w) (row : Option Nat) : a.grownBy w row := ⟨h.os, h.tape, h.output, h.size, fun i hi _ => h.block i hi⟩
theorem only_trans {a b c : World} {row : Option Nat} (h : a.grownBy b row) (k : b.grownBy c row) : a.grownBy c row :=
  ⟨k.os.trans h.os, k.tape.trans h.tape, k.output.trans h.output, Nat.le_trans h.size k.size, fun i hi hne => (k.block i (Nat.lt_of_lt_of_le hi h.size) hne).trans (h.block i hi hne)⟩
theorem only_grown {a b c : World} {g : Nat} {row : Option Nat} (h : a.grownBy b (some g)) (k : b.grownBy c row) (hr : ∀ i, row = some i → a.heap.size ≤ i) : a.grownBy c (some g) :=
  ⟨k.os.trans h.os, k.tape.trans h.tape, k.output.trans h.output, Nat.le_trans h.size k.size, fun i hi hne => (k.block i (Nat.lt_of_lt_of_le hi h.size) (fun e => by have := hr i e.symm; omega)).trans (h.block i hi hne)⟩
theorem only_below {B : Nat} {a b : World} {g : Nat} (h : a.grownBy b (some g)) (hB : B ≤ a.heap.size) (hg : B ≤ g) : Below B a b :=
  ⟨h.os, h.tape, h.output, h.size, fun i hi => h.block i (by omega) (by intro e; injection e with e; omega)⟩
theorem below_drewN {B : Nat} {a w : World} (h : Below B a w) (n : Nat) : Below B a (w.drewN n) := ⟨h.os, h.tape, h.output, h.size, h.block⟩


/-- A list of integers in memory, below block B. -/
def Row (w : World) (B : Nat) (v : Value) (zs : List Int) : Prop :=
  ∃ A c, v = .slice A zs.length c ∧ (zs.length ≤ c ∧ c ≤ maxLen ∧ (A = none → c = 0)) ∧ ∀ k, k < zs.length → ∃ ad : Addr, A = some ad ∧ ad.block < B ∧ w.cell? (ad.add k) = some (.int .i64 (zs.getD k 0))

theorem add_zero (a : Addr) : a.add 0 = a := by unfold Addr.add; split <;> simp_all
theorem add_block (a : Addr) (n : Nat) : (a.add n).block = a.block := by unfold Addr.add; split <;> rfl
theorem Row.below {w w' : World} {B : Nat} {v : Value} {zs : List Int} (h : Row w B v zs) (hb : Below B w w') : Row w' B v zs := by
  obtain ⟨A, c, hv, hn, hk⟩ := h
  refine ⟨A, c, hv, hn, fun k hlt => ?_⟩
  obtain ⟨ad, hA, hB, hc⟩ := hk k hlt
  exact ⟨ad, hA, hB, (hb.cell (by rw [add_block]; exact hB)).trans hc⟩
theorem Row.mono {w : World} {B B' : Nat} {v : Value} {zs : List Int} (h : Row w B v zs) (hB : B ≤ B') : Row w B' v zs := by
  obtain ⟨A, c, hv, hn, hk⟩ := h
  refine ⟨A, c, hv, hn, fun k hlt => ?_⟩
  obtain ⟨ad, hA, hb, hc⟩ := hk k hlt
  exact ⟨ad, hA, by omega, hc⟩
theorem Row.of_own {w : World} {base : Nat} {v : Value} {n : Nat} {zs : List Int} (h : w.ownsRow base 3 1 v n (zs.map (Value.int .i64))) (hn : n = zs.length) : Row w w.heap.size v zs := by
  subst hn
  rcases h.2 with ⟨rfl, h0⟩ | ⟨g, cap, cur, rfl, hb, hg, hcl, hcm, _⟩
  · have : zs = [] := List.eq_nil_of_length_eq_zero (by simpa using h0)
    subst this
    exact ⟨none, 0, rfl, ⟨Nat.le_refl _, by decide, fun _ => rfl⟩, fun k hk => absurd hk (by simp)⟩
  · refine ⟨_, cap, rfl, ⟨hcl, hcm, fun h => (by cases h)⟩, fun k hk => ⟨⟨g, 0, none⟩, rfl, (h.lt g rfl).2, ?_⟩⟩
    refine h.cells (g := g) rfl k _ ?_
    rw [List.getElem?_map, List.getElem?_eq_getElem hk]
    simp [List.getD, hk]


theorem Row.lit0 (W : World) : Row (W.alloc (.cells #[] 3)) (W.heap.size + 1) (.slice (some ⟨W.heap.size, 0, none⟩) 0 0) [] := ⟨_, 0, rfl, ⟨Nat.le_refl _, by decide, fun _ => rfl⟩, fun k hk => absurd hk (by simp)⟩
theorem Row.nil_ (W : World) (B : Nat) : Row W B (.slice none 0 0) [] := ⟨none, 0, rfl, ⟨Nat.le_refl _, by decide, fun _ => rfl⟩, fun k hk => absurd hk (by simp)⟩
theorem Row.lit1 (W : World) (x : Int) : Row (W.alloc (.cells #[.int .i64 x] 3)) (W.heap.size + 1) (.slice (some ⟨W.heap.size, 0, none⟩) 1 1) [x] := by
  refine ⟨_, 1, rfl, ⟨Nat.le_refl _, by decide, fun h => (by cases h)⟩, fun k hk => ⟨⟨W.heap.size, 0, none⟩, rfl, by show W.heap.size < _; omega, ?_⟩⟩
  have hb := Blk.new W 3 #[.int .i64 x]
  match k, hk with
  | 0, _ => exact hb.cell 0
theorem Row.lit2 (W : World) (x y : Int) : Row (W.alloc (.cells #[.int .i64 x, .int .i64 y] 3)) (W.heap.size + 1) (.slice (some ⟨W.heap.size, 0, none⟩) 2 2) [x, y] := by
  refine ⟨_, 2, rfl, ⟨Nat.le_refl _, by decide, fun h => (by cases h)⟩, fun k hk => ⟨⟨W.heap.size, 0, none⟩, rfl, by show W.heap.size < _; omega, ?_⟩⟩
  have hb := Blk.new W 3 #[.int .i64 x, .int .i64 y]
  match k, hk with
  | 0, _ => exact hb.cell 0
  | 1, _ => exact hb.cell 1
theorem Row.lit3 (W : World) (x y z : Int) : Row (W.alloc (.cells #[.int .i64 x, .int .i64 y, .int .i64 z] 3)) (W.heap.size + 1) (.slice (some ⟨W.heap.size, 0, none⟩) 3 3) [x, y, z] := by
  refine ⟨_, 3, rfl, ⟨Nat.le_refl _, by decide, fun h => (by cases h)⟩, fun k hk => ⟨⟨W.heap.size, 0, none⟩, rfl, by show W.heap.size < _; omega, ?_⟩⟩
  have hb := Blk.new W 3 #[.int .i64 x, .int .i64 y, .int .i64 z]
  match k, hk with
  | 0, _ => exact hb.cell 0
  | 1, _ => exact hb.cell 1
  | 2, _ => exact hb.cell 2

theorem Row.lit4 (W : World) (x y z u : Int) : Row (W.alloc (.cells #[.int .i64 x, .int .i64 y, .int .i64 z, .int .i64 u] 3)) (W.heap.size + 1) (.slice (some ⟨W.heap.size, 0, none⟩) 4 4) [x, y, z, u] := by
  refine ⟨_, 4, rfl, ⟨Nat.le_refl _, by decide, fun h => (by cases h)⟩, fun k hk => ⟨⟨W.heap.size, 0, none⟩, rfl, by show W.heap.size < _; omega, ?_⟩⟩
  have hb := Blk.new W 3 #[.int .i64 x, .int .i64 y, .int .i64 z, .int .i64 u]
  match k, hk with
  | 0, _ => exact hb.cell 0
  | 1, _ => exact hb.cell 1
  | 2, _ => exact hb.cell 2
  | 3, _ => exact hb.cell 3

theorem lit_cell (w : World) (t : TypeId) (u : Value) : ∀ (j : Nat) (v : Value), [u][j]? = some v → (w.alloc (.cells #[u] t)).cell? ((⟨w.heap.size, 0, none⟩ : Addr).add j) = some v := by
  intro j v hj
  match j, hj with
  | 0, hj =>
    simp at hj
    subst hj
    rw [add_zero]
    exact (Blk.new w t #[u]).cell 0
theorem lit_one (x : Int) : ∀ u ∈ [Value.int .i64 x], u.oneCell' = true := by
  intro u hu
  simp at hu
  subst hu
  rfl

/-- How many a slice has. -/
def lenOf : Value → Nat
  | .slice _ n _ => n
  | _ => 0

/-- A call answers a bool, and what was there is as it was. -/
def Says (w : World) (b : Bool) (e : Ending) (w' : World) : Prop := e = .returned (.bool b) ∧ Below w.heap.size w w'
/-- A call answers a list, and what was there is as it was. -/
def Gives (w : World) (r : List Int) (e : Ending) (w' : World) : Prop := ∃ v, e = .returned v ∧ Row w' w'.heap.size v r ∧ Below w.heap.size w w'

/-- The row of integers that append leaves. -/
def ints (l : List Int) : List Value := l.map (Value.int .i64)
theorem ints_append (a b : List Int) : ints (a ++ b) = ints a ++ ints b := List.map_append
theorem ints_length (l : List Int) : (ints l).length = l.length := List.length_map ..

/-- 'append(zs, ys...)', zs the call's own, ys a list that lies anywhere, nil or not: one law. -/
theorem wpList_append_row {w : World} {ops : Array Oper} {rest : List Oper} {o : Oper} {a : Act} {Q : Exit → Act → World → Prop} (hgd : o.guard = none) (s x : Operand)
    (ho : o.op = .call { callee := .builtin .append, args := #[s, x], argTypes := #[26, 26] })
    (base B : Nat) (v v2 : Value) (zs ys : List Int) (hs : a.eval s = v) (hx : a.eval x = v2) (hown : w.ownsRow base 3 1 v zs.length (ints zs)) (hr : Row w B v2 ys)
    (hz : zs.length ≤ 4194304) (hy : ys.length ≤ 4194304) (hb : base ≤ w.heap.size)
    (h : ∀ v' w', w'.ownsRow base 3 1 v' (zs ++ ys).length (ints (zs ++ ys)) → w.grownBy w' v.ownBlock → wpList Tryz.prog ops Q rest (a.put o.dst v') w') : wpList Tryz.prog ops Q (o :: rest) a w := by
  obtain ⟨i0, hi, hz0, hz1, hz2⟩ := info_parts info3
  obtain ⟨A, c, rfl, hn, hk⟩ := hr
  have hall : ∀ ad, A = some ad → ∀ j u, (ints ys)[j]? = some u → w.cell? (ad.add j) = some u := by
    intro ad hA j u hj
    have hjl : j < ys.length := by
      have := (List.getElem?_eq_some_iff.1 hj).1
      simpa [ints] using this
    obtain ⟨ad', hA', _, hc⟩ := hk j hjl
    rw [hA] at hA'
    have hA' := Option.some.inj hA'
    subst hA'
    rw [hc]
    rw [ints, List.getElem?_map, List.getElem?_eq_getElem hjl] at hj
    simp at hj
    rw [← hj]
    simp [List.getD, hjl]
  have key : ∀ ad, A = some ad → wpList Tryz.prog ops Q (o :: rest) a w := by
    intro ad hA
    refine wpList_append_own w hgd s x _ ho base 3 i0 (.int .i64 0) 1 8 (by kernel_rfl) hi hz0 hz1 hz2 rfl (by decide) v zs.length (ints zs) hs hown ad ys.length c (ints ys) (by rw [hx, hA]) (by simp [ints]) (hall ad hA) ?_ ?_ ?_ hb ?_
    · intro u hu
      obtain ⟨z, _, rfl⟩ := List.mem_map.1 hu
      rfl
    · unfold maxLen; omega
    · omega
    · intro v' w' h1 h2 _
      refine h v' w' ?_ h2
      rw [ints_append, List.length_append]
      exact h1
  cases A with
  | some ad => exact key ad rfl
  | none =>
    have hy0 : ys = [] := by
      cases ys with
      | nil => rfl
      | cons y r =>
        obtain ⟨_, hA, _⟩ := hk 0 (by simp)
        cases hA
    subst hy0
    have hc := hn.2.2 rfl
    subst hc
    refine wpList_append_own_none hgd s x _ ho base 3 i0 1 (by kernel_rfl) hi v zs.length (ints zs) hs hown hx ?_
    exact h v w (by rw [List.append_nil]; exact hown) ⟨rfl, rfl, rfl, Nat.le_refl _, fun _ _ _ => rfl⟩

/-- A law answers true, and what was there before is as it was. -/
def Truly (w : World) (e : Ending) (w' : World) : Prop := e = .returned (.bool true) ∧ Below w.heap.size w w'


theorem Row.up {w w' : World} {v : Value} {l : List Int} (h : Row w w.heap.size v l) (hb : Below w.heap.size w w') : Row w' w'.heap.size v l := (h.below hb).mono hb.size
theorem below_next {B : Nat} {a b c : World} (h : Below B a b) (hB : B ≤ a.heap.size) (k : Below b.heap.size b c) : Below B a c := h.trans (k.mono (Nat.le_trans hB h.size))

theorem Row.here {w : World} {o : Obj} {v : Value} {l : List Int} (h : Row (w.alloc o) (w.heap.size + 1) v l) : Row (w.alloc o) (w.alloc o).heap.size v l := by
  have e : (w.alloc o).heap.size = w.heap.size + 1 := by simp
  rw [e]; exact h
theorem Row.upA {w : World} {v : Value} {l : List Int} (h : Row w w.heap.size v l) (o : Obj) : Row (w.alloc o) (w.alloc o).heap.size v l := h.up ((Below.refl _ w).alloc (Nat.le_refl _) o)

end Go.Proofs.YtimmmfppehmfcaaGreatDoor.Wp
