/- The places of a list, the greatest ahead, plain. Nothing of the program here. -/
import Derived.Test.YtolnkgghejhaeaaGreatDoorZA
namespace Go.Proofs.YtolnkgghejhaeaaGreatDoor.Wp

/-- Does the place i come ahead of the place j? -/
def bef (l : List Int) (i j : Int) : Prop := l.getD j.toNat 0 < l.getD i.toNat 0 ∨ (l.getD i.toNat 0 = l.getD j.toNat 0 ∧ i < j)
instance (l : List Int) (i j : Int) : Decidable (bef l i j) := by unfold bef; infer_instance
theorem bef_irrefl (l : List Int) (i : Int) : ¬ bef l i i := by unfold bef; omega
theorem bef_trans {l : List Int} {i j k : Int} (h1 : bef l i j) (h2 : bef l j k) : bef l i k := by unfold bef at *; omega
theorem bef_total {l : List Int} {i j : Int} (h : i ≠ j) (h1 : ¬ bef l j i) : bef l i j := by unfold bef at *; omega
theorem bef_asymm {l : List Int} {i j : Int} (h : bef l i j) : ¬ bef l j i := by unfold bef at *; omega

def idxs (n : Nat) : List Int := (List.range n).map Int.ofNat
theorem idxs_nodup (n : Nat) : (idxs n).Nodup := by
  unfold idxs
  exact List.Pairwise.map _ (fun a b (hab : a ≠ b) e => hab (by have : (a : Int) = (b : Int) := e; omega)) List.nodup_range
theorem mem_idxs {n : Nat} {x : Int} : x ∈ idxs n ↔ 0 ≤ x ∧ x < (n : Int) := by
  unfold idxs
  rw [List.mem_map]
  refine ⟨fun ⟨k, hk, e⟩ => ?_, fun ⟨h0, h1⟩ => ⟨x.toNat, List.mem_range.2 (by omega), by show (x.toNat : Int) = x; omega⟩⟩
  rw [List.mem_range] at hk
  have : (k : Int) = x := e
  omega
theorem idxs_length (n : Nat) : (idxs n).length = n := by simp [idxs]
theorem idxs_succ (n : Nat) : idxs (n + 1) = idxs n ++ [(n : Int)] := by simp [idxs, List.range_succ]

/-- All places, each ahead of those behind it. -/
structure Places (l r : List Int) : Prop where
  perm : r.Perm (idxs l.length)
  sorted : r.Pairwise (bef l)
theorem sorted_unique {l : List Int} : ∀ {r s : List Int}, r.Perm s → r.Pairwise (bef l) → s.Pairwise (bef l) → r = s
  | [], s, hp, _, _ => (List.nil_perm.1 hp).symm
  | x :: r, [], hp, _, _ => absurd hp.length_eq (by simp)
  | x :: r, y :: s, hp, h1, h2 => by
    have e : x = y := by
      refine Classical.byContradiction fun hne => ?_
      have hx : x ∈ s := by
        have := hp.mem_iff.1 (List.mem_cons_self (a := x) (l := r))
        rw [List.mem_cons] at this
        exact this.resolve_left hne
      have hy : y ∈ r := by
        have := hp.mem_iff.2 (List.mem_cons_self (a := y) (l := s))
        rw [List.mem_cons] at this
        exact this.resolve_left fun e => hne e.symm
      exact bef_asymm ((List.pairwise_cons.1 h1).1 y hy) ((List.pairwise_cons.1 h2).1 x hx)
    subst e
    rw [sorted_unique ((List.perm_cons x).1 hp) (List.pairwise_cons.1 h1).2 (List.pairwise_cons.1 h2).2]
theorem Places.unique {l r s : List Int} (h : Places l r) (k : Places l s) : r = s := sorted_unique (h.perm.trans k.perm.symm) h.sorted k.sorted
theorem Places.nodup {l r : List Int} (h : Places l r) : r.Nodup := h.perm.nodup_iff.2 (idxs_nodup _)
theorem Places.length {l r : List Int} (h : Places l r) : r.length = l.length := by rw [h.perm.length_eq, idxs_length]
theorem Places.mem {l r : List Int} (h : Places l r) (x : Int) : x ∈ r ↔ 0 ≤ x ∧ x < (l.length : Int) := by rw [h.perm.mem_iff, mem_idxs]

/-- One more place is laid where it belongs. -/
def layB (l : List Int) (i : Int) : List Int → List Int
  | [] => [i]
  | k :: r => if l.getD k.toNat 0 < l.getD i.toNat 0 then i :: k :: r else k :: layB l i r
def placesR (l : List Int) : Nat → List Int
  | 0 => []
  | n + 1 => layB l (n : Int) (placesR l n)
theorem layB_perm (l : List Int) (i : Int) : ∀ r, (layB l i r).Perm (i :: r)
  | [] => .refl _
  | k :: r => by
    unfold layB
    split
    · exact .refl _
    · exact ((layB_perm l i r).cons k).trans (.swap i k r)
theorem layB_sorted (l : List Int) (i : Int) : ∀ r, r.Pairwise (bef l) → (∀ x ∈ r, x < i) → (layB l i r).Pairwise (bef l)
  | [], _, _ => by simp [layB]
  | k :: r, h, hi => by
    have hk := hi k (by simp)
    unfold layB
    split
    · rename_i hlt
      refine List.pairwise_cons.2 ⟨fun x hx => ?_, h⟩
      rw [List.mem_cons] at hx
      rcases hx with rfl | hx
      · exact .inl hlt
      · exact bef_trans (.inl hlt) ((List.pairwise_cons.1 h).1 x hx)
    · rename_i hlt
      refine List.pairwise_cons.2 ⟨fun x hx => ?_, layB_sorted l i r (List.pairwise_cons.1 h).2 fun x hx => hi x (by simp [hx])⟩
      have hx := (layB_perm l i r).mem_iff.1 hx
      rw [List.mem_cons] at hx
      rcases hx with rfl | hx
      · unfold bef; omega
      · exact (List.pairwise_cons.1 h).1 x hx
theorem placesR_ok (l : List Int) : ∀ n, (placesR l n).Perm (idxs n) ∧ (placesR l n).Pairwise (bef l)
  | 0 => ⟨by simp [placesR, idxs], by simp [placesR]⟩
  | n + 1 => by
    obtain ⟨h1, h2⟩ := placesR_ok l n
    refine ⟨?_, ?_⟩
    · unfold placesR
      rw [idxs_succ]
      exact ((layB_perm l n _).trans (h1.cons _)).trans (List.perm_append_comm (l₁ := [(n : Int)]) (l₂ := idxs n))
    · unfold placesR
      refine layB_sorted l n _ h2 fun x hx => ?_
      have := mem_idxs.1 (h1.mem_iff.1 hx)
      omega
def greatL (l : List Int) : List Int := placesR l l.length
theorem great_places (l : List Int) : Places l (greatL l) := ⟨(placesR_ok l _).1, (placesR_ok l _).2⟩

end Go.Proofs.YtolnkgghejhaeaaGreatDoor.Wp
