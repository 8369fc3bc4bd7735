/- What is put in, and how it comes out, plain. Nothing of the program here. -/
import Derived.Test.YtcdfjhmlpdhelaaOPlaces
namespace Go.Proofs.Ytcdfjhmlpdhelaa.Wp

/-- The last one put in ahead: the n-th has key f n, and id n. -/
def keyed (f : Nat → Int) : Nat → List (Int × Int)
  | 0 => []
  | n + 1 => (f n, (n : Int)) :: keyed f n
theorem keyed_length (f : Nat → Int) : ∀ n, (keyed f n).length = n
  | 0 => rfl
  | n + 1 => by simp [keyed, keyed_length f n]
theorem keyed_perm (f : Nat → Int) : ∀ n, (keyed f n).Perm ((idxs n).map fun j => (f j.toNat, j))
  | 0 => by simp [keyed, idxs]
  | n + 1 => by
    rw [idxs_succ, List.map_append]
    unfold keyed
    exact ((keyed_perm f n).cons _).trans (List.perm_append_comm (l₁ := [(n : Int)].map fun j : Int => (f j.toNat, j)) (l₂ := (idxs n).map fun j : Int => (f j.toNat, j)))
theorem mem_keyed {f : Nat → Int} {n : Nat} {x : Int × Int} : x ∈ keyed f n ↔ 0 ≤ x.2 ∧ x.2 < (n : Int) ∧ x.1 = f x.2.toNat := by
  rw [(keyed_perm f n).mem_iff, List.mem_map]
  refine ⟨fun ⟨j, hj, e⟩ => ?_, fun ⟨h0, h1, h2⟩ => ⟨x.2, mem_idxs.2 ⟨h0, h1⟩, by rw [← h2]⟩⟩
  subst e
  have := mem_idxs.1 hj
  exact ⟨this.1, this.2, rfl⟩

/-- What comes out: each no later than those behind it. -/
def Rise (s : List (Int × Int)) : Prop := s.Pairwise fun a b => ¬ ltP b a
theorem Rise.drop {s : List (Int × Int)} (h : Rise s) (t : Nat) (ht : t < s.length) : s.drop t = atP s t :: s.drop (t + 1) ∧ ∀ y ∈ s.drop t, ¬ ltP y (atP s t) := by
  have e : s.drop t = s[t] :: s.drop (t + 1) := List.drop_eq_getElem_cons ht
  have ea : atP s t = s[t] := by unfold atP; simp [List.getD, ht]
  have hp : (s.drop t).Pairwise fun a b => ¬ ltP b a := h.sublist (List.drop_sublist t s)
  rw [ea]
  refine ⟨e, fun y hy => ?_⟩
  rw [e] at hy hp
  rw [List.mem_cons] at hy
  rcases hy with rfl | hy
  · exact ltP_irrefl _
  · exact (List.pairwise_cons.1 hp).1 y hy
/-- What is in, sorted. -/
def sortP (ms : List (Int × Int)) : List (Int × Int) := ms.mergeSort fun a b => decide (¬ ltP b a)
theorem sortP_perm (ms : List (Int × Int)) : (sortP ms).Perm ms := List.mergeSort_perm _ _
theorem sortP_rise (ms : List (Int × Int)) : Rise (sortP ms) := by
  have := List.pairwise_mergeSort (le := fun a b : Int × Int => decide (¬ ltP b a)) (fun a b c h1 h2 => decide_eq_true (leP_trans (of_decide_eq_true h1) (of_decide_eq_true h2))) (fun a b => by
    by_cases h : ltP b a
    · rw [decide_eq_true (ltP_asymm h)]; simp
    · rw [decide_eq_true h]; rfl) ms
  exact this.imp fun h => of_decide_eq_true h

/-- The places of Greatest, with their numbers' amounts below 0. -/
def leastS (l : List Int) : List (Int × Int) := (greatL l).map fun j => (-l.getD j.toNat 0, j)
theorem leastS_length (l : List Int) : (leastS l).length = l.length := by unfold leastS; rw [List.length_map, (great_places l).length]
theorem leastS_perm (l : List Int) : (keyed (fun j => -l.getD j 0) l.length).Perm (leastS l) := (keyed_perm _ _).trans ((great_places l).perm.symm.map _)
theorem leastS_rise (l : List Int) : Rise (leastS l) := by
  unfold Rise leastS
  rw [List.pairwise_map]
  refine (great_places l).sorted.imp fun {a b} h => ?_
  unfold bef at h
  unfold ltP
  simp only
  omega
theorem leastS_at (l : List Int) (t : Nat) (ht : t < l.length) : ∃ j : Nat, j < l.length ∧ (greatL l).getD t 0 = (j : Int) ∧ atP (leastS l) t = (-l.getD j 0, (j : Int)) := by
  have hg : t < (greatL l).length := by rw [(great_places l).length]; exact ht
  have hm : (greatL l)[t] ∈ greatL l := List.getElem_mem hg
  have hr := ((great_places l).mem _).1 hm
  refine ⟨(greatL l)[t].toNat, by omega, ?_, ?_⟩
  · rw [show (greatL l).getD t 0 = (greatL l)[t] by simp [List.getD, hg]]
    omega
  · have e2 : (leastS l)[t]? = some (-l.getD (greatL l)[t].toNat 0, (greatL l)[t]) := by
      unfold leastS
      rw [List.getElem?_map, List.getElem?_eq_getElem hg]
      rfl
    unfold atP
    rw [List.getD_eq_getElem?_getD, e2]
    refine Prod.ext rfl ?_
    show (greatL l)[t] = _
    omega

end Go.Proofs.Ytcdfjhmlpdhelaa.Wp
