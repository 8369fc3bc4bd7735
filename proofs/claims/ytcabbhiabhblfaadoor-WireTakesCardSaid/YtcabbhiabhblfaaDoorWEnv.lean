/- What a reader of bytes does, step by step, as plain functions; and what the memory of this program holds while it runs. -/
import Derived.Test.YtcabbhiabhblfaaDoorWFront
import Derived.Test.YtcabbhiabhblfaaDoorWInt
import Derived.Deep.RegionWith
import Derived.Deep.DeepFit
import Derived.Lib.Strings
import Derived.Lib.IndexBytes
namespace Go.Proofs.YtcabbhiabhblfaaDoor
open Go.RowKit
namespace Wp

/-- A reader's place, and what is wrong (1 cut off, 2 too long, 3 too many, 4 left) and where. -/
abbrev St := Nat × Option (Nat × Nat)

/-- A number is taken. -/
def stepN (T : List UInt8) : St → Nat × St
  | (at_, some e) => (0, (at_, some e))
  | (at_, none) =>
    match dec 8 0 0 (T.drop at_) with
    | (n, sz, 0) => (n, (at_ + sz, none))
    | (_, _, k + 1) => (0, (at_, some (at_, k + 1)))

theorem stepN_err (T : List UInt8) (p : Nat) (e : Nat × Nat) : stepN T (p, some e) = (0, (p, some e)) := rfl
theorem stepN_ok (T : List UInt8) (p n sz : Nat) (h : dec 8 0 0 (T.drop p) = (n, sz, 0)) : stepN T (p, none) = (n, (p + sz, none)) := by
  simp only [stepN, h]
theorem stepN_bad (T : List UInt8) (p k : Nat) (h : dec 8 0 0 (T.drop p) = (0, 0, k + 1)) : stepN T (p, none) = (0, (p, some (p, k + 1))) := by
  simp only [stepN, h]

def errV (E : Nat → Addr) : Option (Nat × Nat) → Value
  | none => .nilIface
  | some (p, k) => .iface 53 (.agg #[.int .i64 (p : Nat), .iface 101 (.pointer (some (E k)))])

/-- The package-level variables: the four errors, and the type of errors. -/
structure Met (E : Nat → Addr) (B : Nat) (w : World) : Prop where
  g1 : w.cell? ⟨1, 0, none⟩ = some (.iface 101 (.pointer (some (E 1))))
  g2 : w.cell? ⟨2, 0, none⟩ = some (.iface 101 (.pointer (some (E 2))))
  g3 : w.cell? ⟨3, 0, none⟩ = some (.iface 101 (.pointer (some (E 3))))
  g4 : w.cell? ⟨0, 0, none⟩ = some (.iface 101 (.pointer (some (E 4))))
  gt : w.cell? ⟨4, 0, none⟩ = some (.iface 86 (.agg #[.pointer (some ⟨5, 47, none⟩)]))
  five : 5 ≤ B
  blk : ∀ k, 1 ≤ k → k ≤ 4 → ∃ cs t, w.heap[(E k).block]? = some (.cells cs t (0, 0)) ∧ (E k).block < B
  ne : ∀ i j, 1 ≤ i → i < j → j ≤ 4 → E i ≠ E j

theorem Met.below {E : Nat → Addr} {B : Nat} {w w' : World} (h : Met E B w) (hb : Below B w w') : Met E B w' where
  g1 := (hb.cell (p := ⟨1, 0, none⟩) (by have := h.five; show 1 < B; omega)).trans h.g1
  g2 := (hb.cell (p := ⟨2, 0, none⟩) (by have := h.five; show 2 < B; omega)).trans h.g2
  g3 := (hb.cell (p := ⟨3, 0, none⟩) (by have := h.five; show 3 < B; omega)).trans h.g3
  g4 := (hb.cell (p := ⟨0, 0, none⟩) (by have := h.five; show 0 < B; omega)).trans h.g4
  gt := (hb.cell (p := ⟨4, 0, none⟩) (by have := h.five; show 4 < B; omega)).trans h.gt
  five := h.five
  blk := fun k h1 h2 => by
    obtain ⟨cs, t, hc, hl⟩ := h.blk k h1 h2
    exact ⟨cs, t, (hb.block _ hl).trans hc, hl⟩
  ne := h.ne

/-- A reader in block b. -/
def Rd (E : Nat → Addr) (T : ByteArray) (b : Nat) (st : St) (w : World) : Prop := Blk w b 49 #[.string T, .int .i64 (st.1 : Nat), errV E st.2]

/-- What a call of a reader's method leaves: only the reader's block, and what is new, has turned. -/
structure Left (E : Nat → Addr) (B : Nat) (T : ByteArray) (b : Nat) (st : St) (w w' : World) : Prop where
  only : w.grownBy w' (some b)
  rd : Rd E T b st w'

theorem extract_drop (T : ByteArray) (p : Nat) : (T.extract p T.size).data.toList = T.data.toList.drop p := by
  rw [Lib.extract_data]
  exact List.take_of_length_le (by simp)

theorem front_at (s : ByteArray) (c l : Value) (n sz k : Nat) (hd : dec 8 0 0 s.data.toList = (n, sz, k)) (v : Value) (hv : (if k = 0 then .nilIface else if k = 1 then c else l) = v) (w : World) (hs : s.size ≤ maxLen)
    (hc : w.cell? ⟨1, 0, none⟩ = some c) (hl : w.cell? ⟨2, 0, none⟩ = some l) :
    Calls Tryd.prog 34 #[.string s] w fun e w' => e = .returned (.tuple #[.int .i64 n, .int .i64 sz, v]) ∧ ∃ q, w' = w.drewN q := by
  refine (front_any s c l w hs hc hl).mono ?_
  rintro e w' ⟨n', sz', k', hd', rfl, hq⟩
  rw [hd] at hd'
  simp only [Prod.mk.injEq] at hd'
  obtain ⟨rfl, rfl, rfl⟩ := hd'
  rw [hv]
  exact ⟨rfl, hq⟩

end Wp
end Go.Proofs.YtcabbhiabhblfaaDoor
