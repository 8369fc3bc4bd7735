/- What the laws on graphs share: each call told by what it comes to; literals of edges and of lists of lists. -/
import Derived.Test.YtfpfhnkboakejaaJRefR
import Derived.Test.YtfpfhnkboakejaaJSets
import Derived.Test.YtfpfhnkboakejaaSSame
namespace Go.Proofs.Ytfpfhnkboakejaa
open Go.RowKit
namespace Wp

/-- The labels, as a list. -/
def compL (m : Nat) (ns : List (Nat × Nat)) : List Int := castL ((List.range m).map (compF ns))
theorem compL_length (m : Nat) (ns : List (Nat × Nat)) : (compL m ns).length = m := by simp [compL, castL]
theorem compL_getD {m : Nat} {ns : List (Nat × Nat)} {k : Nat} (hk : k < m) : (compL m ns).getD k 0 = (compF ns k : Int) := by
  unfold compL castL
  rw [List.getD_eq_getElem?_getD, List.getElem?_map, List.getElem?_map, List.getElem?_range hk]
  rfl
/-- A call gives a list, and no error. -/
def GivesTwo (w : World) (l : List Int) (e : Ending) (w' : World) : Prop :=
  ∃ v, e = .returned (.tuple #[v, .int .i64 0]) ∧ Row w' w'.heap.size v l ∧ Below w.heap.size w w'
theorem labels_row {w : World} {g m : Nat} {ns : List (Nat × Nat)} (h : Labels w g m (compF ns)) (hm : m ≤ 64) : Row w w.heap.size (.slice (some ⟨g, 0, none⟩) m m) (compL m ns) := by
  refine ⟨some ⟨g, 0, none⟩, m, by rw [compL_length], ⟨by rw [compL_length]; exact Nat.le_refl _, by unfold maxLen; omega, fun e => by cases e⟩, fun k hk => ⟨_, rfl, World.rowIs.lt h, ?_⟩⟩
  rw [compL_length] at hk
  rw [compL_getD hk]
  have := World.rowIs.cell h hk
  unfold Addr.add
  split <;> simp_all
theorem gives_of_labels {w : World} {m : Nat} {ns : List (Nat × Nat)} (hm : m ≤ 64) {e : Ending} {w' : World} (h : GivesLabels w m (compF ns) e w') : GivesTwo w (compL m ns) e w' := by
  obtain ⟨g, he, hl, _, hb⟩ := h
  exact ⟨_, he, labels_row hl hm, hb⟩
/-- A graph, as the calls take it. -/
def GraphN (m : Nat) (ns : List (Nat × Nat)) : Prop := 1 ≤ m ∧ m ≤ 64 ∧ ns.length ≤ 4096 ∧ Lies m ns
instance (m : Nat) (ns : List (Nat × Nat)) : Decidable (Lies m ns) := inferInstanceAs (Decidable (∀ e ∈ ns, e.1 < m ∧ e.2 < m))
instance (m : Nat) (ns : List (Nat × Nat)) : Decidable (GraphN m ns) := inferInstanceAs (Decidable (_ ∧ _))

theorem comps_is (m : Nat) (v : Value) (ns : List (Nat × Nat)) (w : World) (hr : Edges w w.heap.size v (castE ns)) (h : GraphN m ns) :
    Calls Try.prog 9 #[.int .i64 m, v] w (GivesTwo w (compL m ns)) :=
  (comps_good m v ns w hr h.1 h.2.1 h.2.2.1 h.2.2.2).mono fun _ _ k => gives_of_labels h.2.1 k
theorem comps_no (n : Int) (v : Value) (es : List (Int × Int)) (w : World) (hr : Edges w w.heap.size v es) (hl : es.length ≤ 1048576) (hb : isG n es = false) :
    Calls Try.prog 9 #[.int .i64 n, v] w (Refuses w) := comps_bad n v es w hr hl hb
theorem parts_is (m : Nat) (v : Value) (ns : List (Nat × Nat)) (w : World) (hr : Edges w w.heap.size v (castE ns)) (h : GraphN m ns) {pp : List (List Int)} (hp : castP (partsL m (compF ns)) = pp) :
    Calls Try.prog 11 #[.int .i64 m, v] w (GivesRows w pp) := by
  subst hp
  exact parts_good m v ns w hr h.1 h.2.1 h.2.2.1 h.2.2.2
theorem rank_is (m : Nat) (v : Value) (ns : List (Nat × Nat)) (w : World) (hr : Edges w w.heap.size v (castE ns)) (h : GraphN m ns) {x : Int} (hx : rankN m ns = x) :
    Calls Try.prog 15 #[.int .i64 m, v] w (Counts w x) := by
  subst hx
  exact rank_good m v ns w hr h.1 h.2.1 h.2.2.1 h.2.2.2
theorem forest_is (m : Nat) (v : Value) (ns : List (Nat × Nat)) (w : World) (hr : Edges w w.heap.size v (castE ns)) (h : GraphN m ns) {b : Bool} (hb : (rankN m ns == (ns.length : Int)) = b) :
    Calls Try.prog 17 #[.int .i64 m, v] w (Says w b) := forest_good m v ns w hr h.1 h.2.1 h.2.2.1 h.2.2.2 b hb
theorem refcomps_is (m : Nat) (v : Value) (ns : List (Nat × Nat)) (w : World) (hr : Edges w w.heap.size v (castE ns)) (h : GraphN m ns) :
    Calls Try.prog 10 #[.int .i64 m, v] w (GivesTwo w (compL m ns)) :=
  (refcomps_good m v ns w hr h.1 h.2.1 h.2.2.1 h.2.2.2).mono fun _ _ k => gives_of_labels h.2.1 k
theorem refcomps_no (n : Int) (v : Value) (es : List (Int × Int)) (w : World) (hr : Edges w w.heap.size v es) (hl : es.length ≤ 1048576) (hb : isG n es = false) :
    Calls Try.prog 10 #[.int .i64 n, v] w (Refuses w) := refcomps_bad n v es w hr hl hb
theorem refparts_is (m : Nat) (v : Value) (ns : List (Nat × Nat)) (w : World) (hr : Edges w w.heap.size v (castE ns)) (h : GraphN m ns) {pp : List (List Int)} (hp : castP (partsL m (compF ns)) = pp) :
    Calls Try.prog 12 #[.int .i64 m, v] w (GivesRows w pp) := by
  subst hp
  exact refparts_good m v ns w hr h.1 h.2.1 h.2.2.1 h.2.2.2
theorem refrank_is (m : Nat) (v : Value) (ns : List (Nat × Nat)) (w : World) (hr : Edges w w.heap.size v (castE ns)) (h : GraphN m ns) {x : Int} (hx : rankN m ns = x) :
    Calls Try.prog 16 #[.int .i64 m, v] w (Counts w x) := by
  subst hx
  exact refrank_good m v ns w hr h.1 h.2.1 h.2.2.1 h.2.2.2
theorem refforest_is (m : Nat) (v : Value) (ns : List (Nat × Nat)) (w : World) (hr : Edges w w.heap.size v (castE ns)) (h : GraphN m ns) {b : Bool} (hb : (rankN m ns == (ns.length : Int)) = b) :
    Calls Try.prog 18 #[.int .i64 m, v] w (Says w b) := refforest_good m v ns w hr h.1 h.2.1 h.2.2.1 h.2.2.2 b hb

/-! ### Literals -/
theorem Edges.nil_ (w : World) (B : Nat) : Edges w B (.slice none 0 0) [] := ⟨none, 0, rfl, ⟨Nat.le_refl _, by decide, fun _ => rfl⟩, fun k hk => absurd hk (by simp)⟩
theorem Edges.here {w : World} {o : Obj} {v : Value} {es : List (Int × Int)} (h : Edges (w.alloc o) (w.heap.size + 1) v es) : Edges (w.alloc o) (w.alloc o).heap.size v es := by
  have e : (w.alloc o).heap.size = w.heap.size + 1 := by simp
  rw [e]; exact h
theorem Edges.lit1 (W : World) (a b : Int) : Edges (W.alloc (.cells #[.int .i64 a, .int .i64 b] 37)) (W.alloc (.cells #[.int .i64 a, .int .i64 b] 37)).heap.size (.slice (some ⟨W.heap.size, 0, none⟩) 1 1) [(a, b)] := by
  refine Edges.here ⟨_, 1, rfl, ⟨Nat.le_refl _, by decide, fun h => (by cases h)⟩, fun k hk => ⟨⟨W.heap.size, 0, none⟩, rfl, by show W.heap.size < _; omega, ?_⟩⟩
  have hb := Blk.new W 37 #[.int .i64 a, .int .i64 b]
  match k, hk with
  | 0, _ => exact ⟨hb.cell 0, hb.cell 1⟩
theorem Edges.lit2 (W : World) (a b c d : Int) : Edges (W.alloc (.cells #[.int .i64 a, .int .i64 b, .int .i64 c, .int .i64 d] 37)) (W.alloc (.cells #[.int .i64 a, .int .i64 b, .int .i64 c, .int .i64 d] 37)).heap.size (.slice (some ⟨W.heap.size, 0, none⟩) 2 2) [(a, b), (c, d)] := by
  refine Edges.here ⟨_, 2, rfl, ⟨Nat.le_refl _, by decide, fun h => (by cases h)⟩, fun k hk => ⟨⟨W.heap.size, 0, none⟩, rfl, by show W.heap.size < _; omega, ?_⟩⟩
  have hb := Blk.new W 37 #[.int .i64 a, .int .i64 b, .int .i64 c, .int .i64 d]
  match k, hk with
  | 0, _ => exact ⟨hb.cell 0, hb.cell 1⟩
  | 1, _ => exact ⟨hb.cell 2, hb.cell 3⟩
theorem Rows2.upA {w : World} {v : Value} {pp : List (List Int)} (h : Rows2 w w.heap.size v pp) (o : Obj) : Rows2 (w.alloc o) (w.alloc o).heap.size v pp := h.up ((Below.refl _ w).alloc (Nat.le_refl _) o)
theorem Rows2.nil_ (w : World) (B : Nat) : Rows2 w B (.slice none 0 0) [] := ⟨none, 0, rfl, ⟨Nat.le_refl _, by decide, fun _ => rfl⟩, fun k hk => absurd hk (by simp)⟩
theorem Rows2.lit2 (W : World) {va vb : Value} {a b : List Int} (ha : Row W W.heap.size va a) (hb : Row W W.heap.size vb b) : Rows2 (W.alloc (.cells #[va, vb] 24)) (W.alloc (.cells #[va, vb] 24)).heap.size (.slice (some ⟨W.heap.size, 0, none⟩) 2 2) [a, b] := by
  have hB := Blk.new W 24 #[va, vb]
  refine ⟨_, 2, rfl, ⟨Nat.le_refl _, by decide, fun h => (by cases h)⟩, fun k hk => ?_⟩
  match k, hk with
  | 0, _ => exact ⟨⟨W.heap.size, 0, none⟩, va, rfl, by simp, hB.cell 0, ha.upA _⟩
  | 1, _ => exact ⟨⟨W.heap.size, 0, none⟩, vb, rfl, by simp, hB.cell 1, hb.upA _⟩

end Wp
end Go.Proofs.Ytfpfhnkboakejaa
