/- Memory of this seat: a map from places to numbers; lines (structs of five cells), as the walks take them, and as the call itself makes them. -/
import Derived.Test.YtmnhpccdhefddaaDoorLMap
import Derived.Test.YtmnhpccdhefddaaDoorLRows
import Derived.Deep.OwnRows
namespace Go.Proofs.YtmnhpccdhefddaaDoor
open Go.RowKit
namespace Wp

theorem und_int : Tryd.prog.underlying 3 = some (.int .i64) := Tryd.underlying3
theorem key_law : Go.Maps.Keyed Tryd.prog 3 := Go.Maps.int_keyed Tryd.underlying3

/-- Block b is a map that has f's number at each place at which that is not 0; n: no more than so many entries. -/
def MapAt (w : World) (b n : Nat) (f : Nat → Int) : Prop := ∃ D : DataW Unit, w.ownsMap Tryd.prog 3 (plainElem Tryd.prog 3) b n D ∧ Reads D f
theorem MapAt.kept {w w' : World} {b n : Nat} {f : Nat → Int} {row : Option Nat} (h : MapAt w b n f) (hg : w.grownBy w' row) (hne : some b ≠ row) : MapAt w' b n f := by
  obtain ⟨D, h1, h2⟩ := h
  exact ⟨D, h1.kept hg hne, h2⟩
theorem MapAt.lt {w : World} {b n : Nat} {f : Nat → Int} (h : MapAt w b n f) : b < w.heap.size := by
  obtain ⟨D, h1, _⟩ := h
  exact h1.lt
theorem MapAt.below {w w' : World} {B b n : Nat} {f : Nat → Int} (h : MapAt w b n f) (hb : Below B w w') (hlt : b < B) : MapAt w' b n f := by
  obtain ⟨D, ⟨es, clock, h1, h2⟩, h3⟩ := h
  exact ⟨D, ⟨es, clock, (hb.block b hlt).trans h1, h2⟩, h3⟩
theorem MapAt.mono {w : World} {b n n' : Nat} {f : Nat → Int} (h : MapAt w b n f) (hn : n ≤ n') : MapAt w b n' f := by
  obtain ⟨D, h1, h2⟩ := h
  exact ⟨D, h1.mono hn, h2⟩
/-- A map is in no row's block. -/
theorem MapAt.not_row {w : World} {b n : Nat} {f : Nat → Int} (h : MapAt w b n f) {base size k : Nat} {e : TypeId} {v : Value} {xs : List Value} (hr : w.ownsRow base e size v k xs) : some b ≠ v.ownBlock := by
  obtain ⟨D, ⟨es, clock, h1, _⟩, _⟩ := h
  rcases hr.2 with ⟨rfl, _⟩ | ⟨g, cap, cur, rfl, _, hg, _⟩
  · simp [Value.ownBlock]
  · intro he
    have he' : b = g := by simpa [Value.ownBlock] using he
    subst he'
    rw [h1] at hg
    cases hg

/-- A line's five cells. -/
def lineCells (u : Value) (b : Nat) (l : Line) : List Value := [.int .i64 (l.place : Int), u, .int .i64 (l.lead : Int), .int .i64 l.inv, .map (some b)]
/-- Lines in memory, below block B. -/
def LinesAt (w : World) (B : Nat) (v : Value) (ls : List Line) : Prop :=
  ∃ A c, v = .slice A ls.length c ∧ (ls.length ≤ c ∧ c ≤ maxLen ∧ (A = none → c = 0)) ∧
    ∀ k (hk : k < ls.length), ∃ (ad : Addr) (u : Value) (b : Nat), A = some ad ∧ ad.block < B ∧
      (w.cell? (ad.add (k * 5)) = some (.int .i64 ((ls[k]).place : Int)) ∧ w.cell? ⟨(ad.add (k * 5)).block, (ad.add (k * 5)).off + 1, none⟩ = some u ∧
        w.cell? ⟨(ad.add (k * 5)).block, (ad.add (k * 5)).off + 2, none⟩ = some (.int .i64 ((ls[k]).lead : Int)) ∧ w.cell? ⟨(ad.add (k * 5)).block, (ad.add (k * 5)).off + 3, none⟩ = some (.int .i64 (ls[k]).inv) ∧
        w.cell? ⟨(ad.add (k * 5)).block, (ad.add (k * 5)).off + 4, none⟩ = some (.map (some b))) ∧
      Row w B u (ls[k]).left ∧ b < B ∧ MapAt w b 64 (ls[k]).by_
theorem LinesAt.below {w w' : World} {B : Nat} {v : Value} {ls : List Line} (h : LinesAt w B v ls) (hb : Below B w w') : LinesAt w' B v ls := by
  obtain ⟨A, c, hv, hn, hk⟩ := h
  refine ⟨A, c, hv, hn, fun k hlt => ?_⟩
  obtain ⟨ad, u, b, hA, hB, ⟨h0, h1, h2, h3, h4⟩, h5, h6, h7⟩ := hk k hlt
  have hab : (ad.add (k * 5)).block < B := by rw [add_block]; exact hB
  exact ⟨ad, u, b, hA, hB, ⟨(hb.cell hab).trans h0, (hb.cell (p := ⟨_, _, none⟩) hab).trans h1, (hb.cell (p := ⟨_, _, none⟩) hab).trans h2, (hb.cell (p := ⟨_, _, none⟩) hab).trans h3, (hb.cell (p := ⟨_, _, none⟩) hab).trans h4⟩, h5.below hb, h6, h7.below hb h6⟩
theorem LinesAt.mono {w : World} {B B' : Nat} {v : Value} {ls : List Line} (h : LinesAt w B v ls) (hB : B ≤ B') : LinesAt w B' v ls := by
  obtain ⟨A, c, hv, hn, hk⟩ := h
  refine ⟨A, c, hv, hn, fun k hlt => ?_⟩
  obtain ⟨ad, u, b, hA, hb, h0, h5, h6, h7⟩ := hk k hlt
  exact ⟨ad, u, b, hA, by omega, h0, h5.mono hB, by omega, h7⟩
theorem LinesAt.up {w w' : World} {v : Value} {ls : List Line} (h : LinesAt w w.heap.size v ls) (hb : Below w.heap.size w w') : LinesAt w' w'.heap.size v ls := (h.below hb).mono hb.size

/-! ### Lines that the call itself makes -/
def flatL : List (Value × Nat × Line) → List Value
  | [] => []
  | (u, b, l) :: r => lineCells u b l ++ flatL r
theorem flatL_length : ∀ ns, (flatL ns).length = ns.length * 5
  | [] => rfl
  | (u, b, l) :: r => by
    simp [flatL, lineCells, flatL_length r]
    omega
theorem flatL_append : ∀ (a b : List (Value × Nat × Line)), flatL (a ++ b) = flatL a ++ flatL b
  | [], b => rfl
  | (u, c, l) :: a, b => by simp [flatL, flatL_append a b]
theorem flatL_at : ∀ (ns : List (Value × Nat × Line)) (k i : Nat) (hk : k < ns.length), i < 5 → (flatL ns)[k * 5 + i]? = (lineCells ns[k].1 ns[k].2.1 ns[k].2.2)[i]?
  | [], k, i, h, _ => absurd h (by simp)
  | (u, b, l) :: r, 0, i, _, hi => by
    simp only [flatL, Nat.zero_mul, Nat.zero_add, List.getElem_cons_zero]
    rw [List.getElem?_append_left (by simp [lineCells]; omega)]
  | (u, b, l) :: r, k + 1, i, h, hi => by
    have ih := flatL_at r k i (by simp at h; omega) hi
    have e1 : (k + 1) * 5 + i = 5 + (k * 5 + i) := by omega
    rw [e1]
    simp only [flatL, List.getElem_cons_succ]
    rw [List.getElem?_append_right (by simp [lineCells]), show 5 + (k * 5 + i) - (lineCells u b l).length = k * 5 + i by simp [lineCells]]
    exact ih
theorem flatL_one (ns : List (Value × Nat × Line)) (h : ∀ x ∈ ns, x.1.oneCell' = true) : ∀ u ∈ flatL ns, u.oneCell' = true := by
  induction ns with
  | nil => intro u hu; simp [flatL] at hu
  | cons e r ih =>
    obtain ⟨v, b, l⟩ := e
    intro u hu
    simp only [flatL, lineCells, List.mem_append, List.mem_cons, List.not_mem_nil, or_false] at hu
    rcases hu with (rfl | rfl | rfl | rfl | rfl) | hu
    · rfl
    · exact h (u, b, l) (by simp)
    · rfl
    · rfl
    · rfl
    · exact ih (fun x hx => h x (by simp [hx])) u hu

/-- The call's own lines: each has a row and a map of the call's own. -/
structure OwnL (w : World) (base : Nat) (v : Value) (ns : List (Value × Nat × Line)) : Prop where
  own : w.ownsRow base 43 5 v ns.length (flatL ns)
  rows : ∀ x ∈ ns, w.ownsRow base 3 1 x.1 x.2.2.left.length (ints x.2.2.left)
  maps : ∀ x ∈ ns, base ≤ x.2.1 ∧ MapAt w x.2.1 64 x.2.2.by_
theorem ownL_nil (w : World) (base : Nat) : OwnL w base (.slice none 0 0) [] := ⟨World.ownsRow_nil _ _ _ _, fun _ h => (by cases h), fun _ h => (by cases h)⟩
/-- Something is done, but not to what lies here. -/
theorem OwnL.kept {w w' : World} {base : Nat} {v : Value} {ns : List (Value × Nat × Line)} (h : OwnL w base v ns) (hg : w.grownBy w' none) : OwnL w' base v ns := by
  have hn : ∀ (u : Value), u.ownBlock = none ∨ u.ownBlock ≠ none := fun u => by
    rcases u.ownBlock with _ | k
    · exact .inl rfl
    · exact .inr (by simp)
  exact ⟨h.own.kept hg (hn v), fun x hx => (h.rows x hx).kept hg (hn x.1), fun x hx => ⟨(h.maps x hx).1, (h.maps x hx).2.kept hg (by simp)⟩⟩
/-- The slice itself has grown, in its block or a new one. -/
theorem OwnL.grow {w w' : World} {base : Nat} {v v' : Value} {ns ns' : List (Value × Nat × Line)} (h : OwnL w base v ns) (hg : w.grownBy w' v.ownBlock) (ho : w'.ownsRow base 43 5 v' ns'.length (flatL ns'))
    (hn : ∀ x ∈ ns', x ∈ ns ∨ (w.ownsRow base 3 1 x.1 x.2.2.left.length (ints x.2.2.left) ∧ base ≤ x.2.1 ∧ MapAt w x.2.1 64 x.2.2.by_)) : OwnL w' base v' ns' := by
  have hr : ∀ x ∈ ns', w.ownsRow base 3 1 x.1 x.2.2.left.length (ints x.2.2.left) := fun x hx => (hn x hx).elim (fun hm => h.rows x hm) fun hm => hm.1
  have hm : ∀ x ∈ ns', base ≤ x.2.1 ∧ MapAt w x.2.1 64 x.2.2.by_ := fun x hx => (hn x hx).elim (fun hm => h.maps x hm) fun hm => hm.2
  exact ⟨ho, fun x hx => (hr x hx).kept hg (own_ne (hr x hx) h.own (by decide)), fun x hx => ⟨(hm x hx).1, (hm x hx).2.kept hg ((hm x hx).2.not_row h.own)⟩⟩
theorem OwnL.lines {w : World} {base : Nat} {v : Value} {ns : List (Value × Nat × Line)} (h : OwnL w base v ns) : LinesAt w w.heap.size v (ns.map fun x => x.2.2) := by
  have hc := h.own
  rcases hc.2 with ⟨rfl, h0⟩ | ⟨g, cap, cur, rfl, hb, hg, hcl, hcm, _⟩
  · have : ns = [] := List.eq_nil_of_length_eq_zero h0
    subst this
    exact ⟨none, 0, rfl, ⟨Nat.le_refl _, by decide, fun _ => rfl⟩, fun k hk => absurd hk (by simp)⟩
  · refine ⟨_, cap, by rw [List.length_map], ⟨by rw [List.length_map]; exact hcl, hcm, fun e => by cases e⟩, fun k hk => ?_⟩
    have hkn : k < ns.length := by simpa using hk
    have hmem : ns[k] ∈ ns := List.getElem_mem hkn
    have cell : ∀ i u, i < 5 → (lineCells ns[k].1 ns[k].2.1 ns[k].2.2)[i]? = some u → w.cell? (Addr.add ⟨g, 0, none⟩ (k * 5 + i)) = some u := fun i u hi hu =>
      World.ownsRow.cells hc (g := g) rfl _ _ ((flatL_at ns k i hkn hi).trans hu)
    have sp : ∀ i, (⟨((⟨g, 0, none⟩ : Addr).add (k * 5)).block, ((⟨g, 0, none⟩ : Addr).add (k * 5)).off + i, none⟩ : Addr) = (⟨g, 0, none⟩ : Addr).add (k * 5 + i) := by
      intro i
      unfold Addr.add
      by_cases hj : k * 5 = 0
      · by_cases hi : i = 0
        · simp [hj, hi]
        · simp [hj, hi]
      · simp [hj]
    refine ⟨_, ns[k].1, ns[k].2.1, rfl, (World.ownsRow.lt hc g rfl).2, ?_, ?_, (h.maps _ hmem).2.lt, ?_⟩
    · simp only [List.getElem_map]
      refine ⟨cell 0 _ (by omega) rfl, ?_, ?_, ?_, ?_⟩
      · rw [sp]; exact cell 1 _ (by omega) rfl
      · rw [sp]; exact cell 2 _ (by omega) rfl
      · rw [sp]; exact cell 3 _ (by omega) rfl
      · rw [sp]; exact cell 4 _ (by omega) rfl
    · simp only [List.getElem_map]
      exact Row.of_own (h.rows _ hmem) rfl
    · simp only [List.getElem_map]
      exact (h.maps _ hmem).2

end Wp
end Go.Proofs.YtmnhpccdhefddaaDoor
