/- Matroids in memory, as the walks take them. -/
import Derived.Test.YtimmmfppehmfcaaGreatDoorQPure
namespace Go.Proofs.YtimmmfppehmfcaaGreatDoor.Wp
open Go Go.RowKit

/-- Six cells from a place on. -/
def SixV (w : World) (p : Addr) (v : Value) : Prop :=
  ∃ x0 x1 x2 x3 x4 x5, v = .agg #[x0, x1, x2, x3, x4, x5] ∧ w.cell? p = some x0 ∧ w.cell? ⟨p.block, p.off + 1, none⟩ = some x1 ∧ w.cell? ⟨p.block, p.off + 2, none⟩ = some x2 ∧
    w.cell? ⟨p.block, p.off + 3, none⟩ = some x3 ∧ w.cell? ⟨p.block, p.off + 4, none⟩ = some x4 ∧ w.cell? ⟨p.block, p.off + 5, none⟩ = some x5
theorem SixV.below {w w' : World} {B : Nat} {p : Addr} {v : Value} (h : SixV w p v) (hb : Below B w w') (hp : p.block < B) : SixV w' p v := by
  obtain ⟨x0, x1, x2, x3, x4, x5, hv, h0, h1, h2, h3, h4, h5⟩ := h
  exact ⟨x0, x1, x2, x3, x4, x5, hv, (hb.cell (by exact hp)).trans h0, (hb.cell (by exact hp)).trans h1, (hb.cell (by exact hp)).trans h2, (hb.cell (by exact hp)).trans h3, (hb.cell (by exact hp)).trans h4, (hb.cell (by exact hp)).trans h5⟩

/-- The value of a matroid whose lists and inner ones lie below block B. -/
inductive MatV (w : World) (B : Nat) : Value → Mat → Prop
  | mk {t n a b : Int} {l : List (List Int)} {i : List Mat} {lv : Value} {A : Option Addr} {c : Nat} (V : Nat → Value)
      (hl : Rows2 w B lv l) (hn : i.length ≤ c ∧ c ≤ maxLen ∧ (A = none → c = 0))
      (hc : ∀ k, k < i.length → ∃ ad : Addr, A = some ad ∧ ad.block < B ∧ SixV w (ad.add (k * 6)) (V k))
      (hi : ∀ k, k < i.length → MatV w B (V k) (i.getD k default)) :
      MatV w B (.agg #[.int .i64 t, .int .i64 n, .int .i64 a, .int .i64 b, lv, .slice A i.length c]) (.mk t n a b l i)

/-- A list of them. -/
def MatL (w : World) (B : Nat) (v : Value) (i : List Mat) : Prop :=
  ∃ A c, v = .slice A i.length c ∧ (i.length ≤ c ∧ c ≤ maxLen ∧ (A = none → c = 0)) ∧
    ∀ k, k < i.length → ∃ (ad : Addr) (u : Value), A = some ad ∧ ad.block < B ∧ SixV w (ad.add (k * 6)) u ∧ MatV w B u (i.getD k default)

theorem MatV.open {w : World} {B : Nat} {v : Value} {m : Mat} (h : MatV w B v m) :
    ∃ lv iv, v = .agg #[.int .i64 m.t, .int .i64 m.n, .int .i64 m.a, .int .i64 m.b, lv, iv] ∧ Rows2 w B lv m.l ∧ MatL w B iv m.i := by
  obtain ⟨V, hl, hn, hc, hi⟩ := h
  refine ⟨_, _, rfl, hl, _, _, rfl, hn, fun k hk => ?_⟩
  obtain ⟨ad, hA, hB, hs⟩ := hc k hk
  exact ⟨ad, V k, hA, hB, hs, hi k hk⟩
theorem MatV.shut {w : World} {B : Nat} {lv iv : Value} {t n a b : Int} {l : List (List Int)} {i : List Mat} (hl : Rows2 w B lv l) (hi : MatL w B iv i) :
    MatV w B (.agg #[.int .i64 t, .int .i64 n, .int .i64 a, .int .i64 b, lv, iv]) (.mk t n a b l i) := by
  obtain ⟨A, c, rfl, hn, hk⟩ := hi
  have h : ∀ k, ∃ u, k < i.length → ∃ ad : Addr, A = some ad ∧ ad.block < B ∧ SixV w (ad.add (k * 6)) u ∧ MatV w B u (i.getD k default) := fun k => by
    by_cases h : k < i.length
    · obtain ⟨ad, u, h1, h2, h3, h4⟩ := hk k h
      exact ⟨u, fun _ => ⟨ad, h1, h2, h3, h4⟩⟩
    · exact ⟨.nilIface, fun h' => absurd h' h⟩
  obtain ⟨V, hV⟩ := Classical.axiomOfChoice h
  refine .mk V hl hn (fun k h => ?_) (fun k h => ?_)
  · obtain ⟨ad, h1, h2, h3, _⟩ := hV k h
    exact ⟨ad, h1, h2, h3⟩
  · obtain ⟨ad, _, _, _, h4⟩ := hV k h
    exact h4
theorem MatV.bel {w w' : World} {B : Nat} {v : Value} {m : Mat} (h : MatV w B v m) (hb : Below B w w') : MatV w' B v m := by
  induction h with
  | mk V hl hn hc _ ih =>
    refine .mk V (hl.below hb) hn (fun k hk => ?_) ih
    obtain ⟨ad, hA, hB, hs⟩ := hc k hk
    exact ⟨ad, hA, hB, hs.below hb (by rw [add_block]; exact hB)⟩
theorem MatV.mono {w : World} {B B' : Nat} {v : Value} {m : Mat} (h : MatV w B v m) (hB : B ≤ B') : MatV w B' v m := by
  induction h with
  | mk V hl hn hc _ ih =>
    refine .mk V (hl.mono hB) hn (fun k hk => ?_) ih
    obtain ⟨ad, hA, hlt, hs⟩ := hc k hk
    exact ⟨ad, hA, by omega, hs⟩
theorem MatL.below {w w' : World} {B : Nat} {v : Value} {i : List Mat} (h : MatL w B v i) (hb : Below B w w') : MatL w' B v i := by
  obtain ⟨A, c, hv, hn, hk⟩ := h
  refine ⟨A, c, hv, hn, fun k hlt => ?_⟩
  obtain ⟨ad, u, hA, hB, hs, hm⟩ := hk k hlt
  exact ⟨ad, u, hA, hB, hs.below hb (by rw [add_block]; exact hB), hm.bel hb⟩
theorem MatL.mono {w : World} {B B' : Nat} {v : Value} {i : List Mat} (h : MatL w B v i) (hB : B ≤ B') : MatL w B' v i := by
  obtain ⟨A, c, hv, hn, hk⟩ := h
  refine ⟨A, c, hv, hn, fun k hlt => ?_⟩
  obtain ⟨ad, u, hA, hb, hs, hm⟩ := hk k hlt
  exact ⟨ad, u, hA, by omega, hs, hm.mono hB⟩
theorem MatV.up {w w' : World} {v : Value} {m : Mat} (h : MatV w w.heap.size v m) (hb : Below w.heap.size w w') : MatV w' w'.heap.size v m := (h.bel hb).mono hb.size
theorem MatL.up {w w' : World} {v : Value} {m : List Mat} (h : MatL w w.heap.size v m) (hb : Below w.heap.size w w') : MatL w' w'.heap.size v m := (h.below hb).mono hb.size
theorem MatV.upA {w : World} {v : Value} {m : Mat} (h : MatV w w.heap.size v m) (o : Obj) : MatV (w.alloc o) (w.alloc o).heap.size v m := h.up ((Below.refl _ w).alloc (Nat.le_refl _) o)
theorem MatL.upA {w : World} {v : Value} {m : List Mat} (h : MatL w w.heap.size v m) (o : Obj) : MatL (w.alloc o) (w.alloc o).heap.size v m := h.up ((Below.refl _ w).alloc (Nat.le_refl _) o)
theorem MatL.nil_ (w : World) (B : Nat) : MatL w B (.slice none 0 0) [] := ⟨none, 0, rfl, ⟨Nat.le_refl _, by decide, fun _ => rfl⟩, fun k hk => absurd hk (by simp)⟩

/-! ### Package-level variables -/
def eS (a : Addr) : Value := .iface 164 (.pointer (some a))
def formV (f : Form) : Value := .agg #[.bool f.fa, .bool f.fb, .int .i64 f.lists, .int .i64 f.least, .int .i64 f.most]
/-- What the variables hold that the program reads. -/
structure Env (E : Nat → Addr) (w : World) : Prop where
  tab : Met w
  gt : w.cell? ⟨1, 0, none⟩ = some (.iface 125 (.agg #[.pointer (some ⟨9, 64, none⟩)]))
  g0 : w.cell? ⟨0, 0, none⟩ = some (eS (E 0))
  g1 : w.cell? ⟨2, 0, none⟩ = some (eS (E 1))
  g2 : w.cell? ⟨3, 0, none⟩ = some (eS (E 2))
  g3 : w.cell? ⟨5, 0, none⟩ = some (eS (E 3))
  g4 : w.cell? ⟨6, 0, none⟩ = some (eS (E 4))
  f0 : ∀ t : Nat, t < 10 → w.cell? ⟨4, t * 5, none⟩ = some (.bool (form t).fa)
  f1 : ∀ t : Nat, t < 10 → w.cell? ⟨4, t * 5 + 1, none⟩ = some (.bool (form t).fb)
  f2 : ∀ t : Nat, t < 10 → w.cell? ⟨4, t * 5 + 2, none⟩ = some (.int .i64 (form t).lists)
  f3 : ∀ t : Nat, t < 10 → w.cell? ⟨4, t * 5 + 3, none⟩ = some (.int .i64 (form t).least)
  f4 : ∀ t : Nat, t < 10 → w.cell? ⟨4, t * 5 + 4, none⟩ = some (.int .i64 (form t).most)
  nine : 9 ≤ w.heap.size
  blk : ∀ k, k ≤ 4 → ∃ cs t, w.heap[(E k).block]? = some (.cells cs t (0, 0))
  ne : ∀ k, 1 ≤ k → k ≤ 4 → E k ≠ E 0

theorem lt_of_block {w : World} {b : Nat} {o : Obj} (h : w.heap[b]? = some o) : b < w.heap.size := by
  rcases Nat.lt_or_ge b w.heap.size with h' | h'
  · exact h'
  · rw [Array.getElem?_eq_none h'] at h; cases h
theorem Env.up {E : Nat → Addr} {w w' : World} (h : Env E w) (hb : Below w.heap.size w w') : Env E w' := by
  have h9 := h.nine
  have c : ∀ {g o : Nat} {v : Value}, g < 9 → w.cell? ⟨g, o, none⟩ = some v → w'.cell? ⟨g, o, none⟩ = some v := fun {g o v} hg hv => (hb.cell (p := ⟨g, o, none⟩) (by show g < _; omega)).trans hv
  exact ⟨h.tab.up hb, c (by decide) h.gt, c (by decide) h.g0, c (by decide) h.g1, c (by decide) h.g2, c (by decide) h.g3, c (by decide) h.g4,
    fun t ht => c (by decide) (h.f0 t ht), fun t ht => c (by decide) (h.f1 t ht), fun t ht => c (by decide) (h.f2 t ht), fun t ht => c (by decide) (h.f3 t ht), fun t ht => c (by decide) (h.f4 t ht),
    Nat.le_trans h9 hb.size, fun k hk => by
      obtain ⟨cs, t, hc⟩ := h.blk k hk
      exact ⟨cs, t, (hb.block _ (lt_of_block hc)).trans hc⟩, h.ne⟩
theorem Env.upA {E : Nat → Addr} {w : World} (h : Env E w) (o : Obj) : Env E (w.alloc o) := h.up ((Below.refl _ w).alloc (Nat.le_refl _) o)

end Go.Proofs.YtimmmfppehmfcaaGreatDoor.Wp
