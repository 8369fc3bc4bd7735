/- Three rows grown side by side: one of integers, one of rows that are it, one of rows of none. -/
import Derived.Test.YtjhkmilfhecdfaaKApp
import Derived.Test.YtjhkmilfhecdfaaKFixed
namespace Go.Proofs.Ytjhkmilfhecdfaa
open Go.RowKit
namespace Wp

structure AKeep (w0 wr : World) (va vn vl : Value) (ka kn m : Nat) : Prop where
  a : wr.ownsRow w0.heap.size 25 1 va (List.replicate ka vl).length (List.replicate ka vl)
  n : wr.ownsRow w0.heap.size 25 1 vn (List.replicate kn (Value.slice none 0 0)).length (List.replicate kn (Value.slice none 0 0))
  l : wr.ownsRow w0.heap.size 3 1 vl (ints (upTo m)).length (ints (upTo m))
  dis : va.ownBlock ≠ vn.ownBlock
  bel : Below w0.heap.size w0 wr
section
variable {w0 wr w2 : World} {va vn vl : Value} {ka kn m : Nat}
theorem AKeep.start (w : World) : AKeep w (((w.alloc (.cells #[] 25)).alloc (.cells #[] 25)).alloc (.cells #[] 3)) (.slice (some ⟨w.heap.size, 0, none⟩) 0 0) (.slice (some ⟨w.heap.size + 1, 0, none⟩) 0 0) (.slice (some ⟨w.heap.size + 1 + 1, 0, none⟩) 0 0) 0 0 0 := by
  have h1 := World.ownsRow_lit (base := w.heap.size) (e := 25) (size := 1) w #[] 0 (Nat.le_refl _) (by unfold maxLen; omega) rfl
  have h2 := World.ownsRow_lit (base := w.heap.size) (e := 25) (size := 1) (w.alloc (.cells #[] 25)) #[] 0 (by simp) (by unfold maxLen; omega) rfl
  have h3 := World.ownsRow_lit (base := w.heap.size) (e := 3) (size := 1) ((w.alloc (.cells #[] 25)).alloc (.cells #[] 25)) #[] 0 (by simp; omega) (by unfold maxLen; omega) rfl
  rw [show (w.alloc (.cells #[] 25)).heap.size = w.heap.size + 1 by simp] at h2
  rw [show ((w.alloc (.cells #[] 25)).alloc (.cells #[] 25)).heap.size = w.heap.size + 1 + 1 by simp] at h3
  exact ⟨World.ownsRow.alloc (World.ownsRow.alloc h1 _) _, World.ownsRow.alloc h2 _, h3, by simp [Value.ownBlock], ((((Below.refl _ w).alloc (Nat.le_refl _) _).alloc (by simp) _).alloc (by simp; omega) _)⟩
theorem AKeep.below (h : AKeep w0 wr va vn vl ka kn m) (hb : Below wr.heap.size wr w2) : AKeep w0 w2 va vn vl ka kn m :=
  ⟨own_kept_none h.a hb, own_kept_none h.n hb, own_kept_none h.l hb, h.dis, below_next h.bel (Nat.le_refl _) hb⟩
theorem AKeep.upA (h : AKeep w0 wr va vn vl ka kn m) (o : Obj) : AKeep w0 (wr.alloc o) va vn vl ka kn m := h.below ((Below.refl _ wr).alloc (Nat.le_refl _) o)
theorem AKeep.pushL (h : AKeep w0 wr va vn vl 0 0 m) {v' : Value} (hown : w2.ownsRow w0.heap.size 3 1 v' ((ints (upTo m)).length + 1) (ints (upTo m) ++ [.int .i64 (m : Int)])) (hg : wr.grownBy w2 vl.ownBlock) : AKeep w0 w2 va vn v' 0 0 (m + 1) :=
  ⟨h.a.kept hg (own_ne h.a h.l (by decide)), h.n.kept hg (own_ne h.n h.l (by decide)), by
    rw [upTo_succ, ints_append, List.length_append]
    exact hown, h.dis, h.bel.grown hg h.bel.size (fun k hk => (h.l.lt k hk).1)⟩
theorem AKeep.pushA (h : AKeep w0 wr va vn vl ka kn m) {v' : Value} (hown : w2.ownsRow w0.heap.size 25 1 v' (ka + 1) (List.replicate ka vl ++ [vl])) (hg : wr.grownBy w2 va.ownBlock)
    (hl : v'.ownBlock = va.ownBlock ∨ v'.ownBlock = some wr.heap.size) : AKeep w0 w2 v' vn vl (ka + 1) kn m := by
  refine ⟨by rw [List.replicate_succ', List.length_append, List.length_replicate]; exact hown, h.n.kept hg (.inr fun e => h.dis e.symm), h.l.kept hg (own_ne h.l h.a (by decide)), ?_, h.bel.grown hg h.bel.size (fun k hk => (h.a.lt k hk).1)⟩
  rcases hl with e | e
  · rw [e]; exact h.dis
  · rw [e]
    intro e2
    have := (h.n.lt _ e2.symm).2
    omega
theorem AKeep.pushN (h : AKeep w0 wr va vn vl ka kn m) {v' : Value} (hown : w2.ownsRow w0.heap.size 25 1 v' (kn + 1) (List.replicate kn (Value.slice none 0 0) ++ [Value.slice none 0 0])) (hg : wr.grownBy w2 vn.ownBlock)
    (hl : v'.ownBlock = vn.ownBlock ∨ v'.ownBlock = some wr.heap.size) : AKeep w0 w2 va v' vl ka (kn + 1) m := by
  refine ⟨h.a.kept hg (.inr h.dis), by rw [List.replicate_succ', List.length_append, List.length_replicate]; exact hown, h.l.kept hg (own_ne h.l h.n (by decide)), ?_, h.bel.grown hg h.bel.size (fun k hk => (h.n.lt k hk).1)⟩
  rcases hl with e | e
  · rw [e]; exact h.dis
  · rw [e]
    intro e2
    have := (h.a.lt _ e2).2
    omega
/-- A row of rows that are all one. -/
theorem rows_one {w : World} {base : Nat} {v u : Value} {k : Nat} {l : List Int} (h : w.ownsRow base 25 1 v (List.replicate k u).length (List.replicate k u)) (hu : Row w w.heap.size u l) : Rows2 w w.heap.size v (List.replicate k l) := by
  rcases h.2 with ⟨rfl, h0⟩ | ⟨g, cap, cur, rfl, hb, hg, hcl, hcm, _⟩
  · have : k = 0 := by simpa using h0
    subst this
    exact ⟨none, 0, rfl, ⟨Nat.le_refl _, by decide, fun _ => rfl⟩, fun k hk => absurd hk (by simp)⟩
  · refine ⟨some ⟨g, 0, none⟩, cap, by simp, ⟨by simpa using hcl, hcm, fun e => by cases e⟩, fun j hj => ?_⟩
    have hjk : j < k := by simpa using hj
    refine ⟨_, u, rfl, (h.lt g rfl).2, h.cells (g := g) rfl j _ (by simp [hjk]), ?_⟩
    rw [show (List.replicate k l).getD j [] = l by simp [List.getD, hjk]]
    exact hu
theorem AKeep.rowsA (h : AKeep w0 wr va vn vl ka kn m) : Rows2 wr wr.heap.size va (List.replicate ka (upTo m)) := rows_one h.a (Row.of_own (zs := upTo m) h.l (ints_length _))
theorem AKeep.rowsN (h : AKeep w0 wr va vn vl ka kn m) : Rows2 wr wr.heap.size vn (List.replicate kn []) := rows_one h.n (Row.nil_ _ _)
end

theorem upTo_mem {m : Nat} {x : Int} : x ∈ upTo m ↔ ∃ r : Nat, r < m ∧ x = (r : Int) := by
  unfold upTo
  rw [List.mem_map]
  constructor
  · rintro ⟨r, hr, rfl⟩
    exact ⟨r, List.mem_range.1 hr, rfl⟩
  · rintro ⟨r, hr, rfl⟩
    exact ⟨r, List.mem_range.2 hr, rfl⟩
theorem upTo_set {m : Nat} (h : m ≤ 100000) : IsSet (upTo m) := by
  rcases Nat.eq_zero_or_pos m with rfl | h0
  · exact isSet_nil
  · rw [← all_yes h0 h]
    exact all_set _
theorem may_rep {R k : Nat} {l : List Int} (hR : R ≤ 64) (hk : k ≤ 64) (hs : IsSet l) (hl : ∀ x ∈ l, x < (R : Int)) : mayM R (List.replicate k l) = true := by
  unfold mayM
  rw [Bool.and_eq_true, Bool.and_eq_true, decide_eq_true_iff, decide_eq_true_iff, List.all_eq_true]
  refine ⟨⟨by omega, by simpa using hk⟩, fun y hy => ?_⟩
  rw [List.eq_of_mem_replicate hy]
  unfold okL
  rw [Bool.and_eq_true, mayB_iff]
  refine ⟨hs, ?_⟩
  rcases Nat.eq_zero_or_pos l.length with h0 | h0
  · rw [decide_eq_true h0]; rfl
  · rw [Bool.or_eq_true]
    right
    refine decide_eq_true (hl _ ?_)
    rw [show l.getD (l.length - 1) 0 = l[l.length - 1]'(by omega) by simp [List.getD, show l.length - 1 < l.length by omega]]
    exact List.getElem_mem _
theorem rep_getD {k i : Nat} {l : List Int} : (List.replicate k l).getD i [] = if i < k then l else [] := by
  rw [List.getD_eq_getElem?_getD, List.getElem?_replicate]
  split <;> rfl
theorem big_rep (k R : Nat) (_hR : R ≤ 64) : Big R (List.replicate k (upTo R)) (min k R) := by
  refine big_all k R _ (by simp) (fun i hi r hr => ?_) fun i x hx => ?_
  · unfold Goes
    rw [rep_getD, if_pos hi]
    exact upTo_mem.2 ⟨r, hr, rfl⟩
  · rw [rep_getD] at hx
    split at hx
    · obtain ⟨r, hr, e⟩ := upTo_mem.1 hx
      exact ⟨r, e, hr⟩
    · simp at hx
theorem big_nil (k R : Nat) : Big R (List.replicate k []) 0 := big_none R _ fun i r h => by
  unfold Goes at h
  rw [rep_getD] at h
  split at h <;> simp at h

end Wp
end Go.Proofs.Ytjhkmilfhecdfaa
