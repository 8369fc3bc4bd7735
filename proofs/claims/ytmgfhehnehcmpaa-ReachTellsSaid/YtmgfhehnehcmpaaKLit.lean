/- Literals of lists and of lists of lists, where they lie. -/
import Derived.Test.YtmgfhehnehcmpaaLRows
namespace Go.Proofs.Ytmgfhehnehcmpaa
open Go.RowKit
namespace Wp

theorem Rows2.nil_ (W : World) (B : Nat) : Rows2 W B (.slice none 0 0) [] := ⟨none, 0, rfl, ⟨Nat.le_refl _, by decide, fun _ => rfl⟩, fun k hk => absurd hk (by simp)⟩
theorem Rows2.upA {W : World} {v : Value} {pp : List (List Int)} (h : Rows2 W W.heap.size v pp) (o : Obj) : Rows2 (W.alloc o) (W.alloc o).heap.size v pp := h.up ((Below.refl _ W).alloc (Nat.le_refl _) o)
theorem Row.at0 (W : World) (n : Nat) (h : W.heap.size = n) : Row (W.alloc (.cells #[] 3)) (W.alloc (.cells #[] 3)).heap.size (.slice (some ⟨n, 0, none⟩) 0 0) [] := by
  subst h
  exact (Row.lit0 W).here
theorem Row.at1 (W : World) (n : Nat) (h : W.heap.size = n) (x : Int) : Row (W.alloc (.cells #[.int .i64 x] 3)) (W.alloc (.cells #[.int .i64 x] 3)).heap.size (.slice (some ⟨n, 0, none⟩) 1 1) [x] := by
  subst h
  exact (Row.lit1 W x).here
theorem Row.at2 (W : World) (n : Nat) (h : W.heap.size = n) (x y : Int) : Row (W.alloc (.cells #[.int .i64 x, .int .i64 y] 3)) (W.alloc (.cells #[.int .i64 x, .int .i64 y] 3)).heap.size (.slice (some ⟨n, 0, none⟩) 2 2) [x, y] := by
  subst h
  exact (Row.lit2 W x y).here
theorem Row.at3 (W : World) (n : Nat) (h : W.heap.size = n) (x y z : Int) : Row (W.alloc (.cells #[.int .i64 x, .int .i64 y, .int .i64 z] 3)) (W.alloc (.cells #[.int .i64 x, .int .i64 y, .int .i64 z] 3)).heap.size (.slice (some ⟨n, 0, none⟩) 3 3) [x, y, z] := by
  subst h
  exact (Row.lit3 W x y z).here
theorem Rows2.at0 (W : World) (n : Nat) (h : W.heap.size = n) : Rows2 (W.alloc (.cells #[] 25)) (W.alloc (.cells #[] 25)).heap.size (.slice (some ⟨n, 0, none⟩) 0 0) [] := by
  subst h
  refine ⟨_, 0, rfl, ⟨Nat.le_refl _, by decide, fun h => (by cases h)⟩, fun k hk => absurd hk (by simp)⟩
theorem Rows2.at1 (W : World) (n : Nat) (h : W.heap.size = n) {v0 : Value} {l0 : List Int} (h0 : Row W W.heap.size v0 l0) : Rows2 (W.alloc (.cells #[v0] 25)) (W.alloc (.cells #[v0] 25)).heap.size (.slice (some ⟨n, 0, none⟩) 1 1) [l0] := by
  subst h
  refine ⟨_, 1, rfl, ⟨Nat.le_refl _, by decide, fun h => (by cases h)⟩, fun k hk => ?_⟩
  match k, hk with
  | 0, _ => exact ⟨⟨W.heap.size, 0, none⟩, v0, rfl, by simp, (Blk.new W 25 #[v0]).cell 0, h0.upA _⟩
theorem Rows2.at2 (W : World) (n : Nat) (h : W.heap.size = n) {v0 v1 : Value} {l0 l1 : List Int} (h0 : Row W W.heap.size v0 l0) (h1 : Row W W.heap.size v1 l1) : Rows2 (W.alloc (.cells #[v0, v1] 25)) (W.alloc (.cells #[v0, v1] 25)).heap.size (.slice (some ⟨n, 0, none⟩) 2 2) [l0, l1] := by
  subst h
  refine ⟨_, 2, rfl, ⟨Nat.le_refl _, by decide, fun h => (by cases h)⟩, fun k hk => ?_⟩
  match k, hk with
  | 0, _ => exact ⟨⟨W.heap.size, 0, none⟩, v0, rfl, by simp, (Blk.new W 25 #[v0, v1]).cell 0, h0.upA _⟩
  | 1, _ => exact ⟨⟨W.heap.size, 0, none⟩, v1, rfl, by simp, (Blk.new W 25 #[v0, v1]).cell 1, h1.upA _⟩
theorem Rows2.at3 (W : World) (n : Nat) (h : W.heap.size = n) {v0 v1 v2 : Value} {l0 l1 l2 : List Int} (h0 : Row W W.heap.size v0 l0) (h1 : Row W W.heap.size v1 l1) (h2 : Row W W.heap.size v2 l2) : Rows2 (W.alloc (.cells #[v0, v1, v2] 25)) (W.alloc (.cells #[v0, v1, v2] 25)).heap.size (.slice (some ⟨n, 0, none⟩) 3 3) [l0, l1, l2] := by
  subst h
  refine ⟨_, 3, rfl, ⟨Nat.le_refl _, by decide, fun h => (by cases h)⟩, fun k hk => ?_⟩
  match k, hk with
  | 0, _ => exact ⟨⟨W.heap.size, 0, none⟩, v0, rfl, by simp, (Blk.new W 25 #[v0, v1, v2]).cell 0, h0.upA _⟩
  | 1, _ => exact ⟨⟨W.heap.size, 0, none⟩, v1, rfl, by simp, (Blk.new W 25 #[v0, v1, v2]).cell 1, h1.upA _⟩
  | 2, _ => exact ⟨⟨W.heap.size, 0, none⟩, v2, rfl, by simp, (Blk.new W 25 #[v0, v1, v2]).cell 2, h2.upA _⟩
theorem Rows2.at4 (W : World) (n : Nat) (h : W.heap.size = n) {v0 v1 v2 v3 : Value} {l0 l1 l2 l3 : List Int} (h0 : Row W W.heap.size v0 l0) (h1 : Row W W.heap.size v1 l1) (h2 : Row W W.heap.size v2 l2) (h3 : Row W W.heap.size v3 l3) : Rows2 (W.alloc (.cells #[v0, v1, v2, v3] 25)) (W.alloc (.cells #[v0, v1, v2, v3] 25)).heap.size (.slice (some ⟨n, 0, none⟩) 4 4) [l0, l1, l2, l3] := by
  subst h
  refine ⟨_, 4, rfl, ⟨Nat.le_refl _, by decide, fun h => (by cases h)⟩, fun k hk => ?_⟩
  match k, hk with
  | 0, _ => exact ⟨⟨W.heap.size, 0, none⟩, v0, rfl, by simp, (Blk.new W 25 #[v0, v1, v2, v3]).cell 0, h0.upA _⟩
  | 1, _ => exact ⟨⟨W.heap.size, 0, none⟩, v1, rfl, by simp, (Blk.new W 25 #[v0, v1, v2, v3]).cell 1, h1.upA _⟩
  | 2, _ => exact ⟨⟨W.heap.size, 0, none⟩, v2, rfl, by simp, (Blk.new W 25 #[v0, v1, v2, v3]).cell 2, h2.upA _⟩
  | 3, _ => exact ⟨⟨W.heap.size, 0, none⟩, v3, rfl, by simp, (Blk.new W 25 #[v0, v1, v2, v3]).cell 3, h3.upA _⟩

end Wp
end Go.Proofs.Ytmgfhehnehcmpaa
