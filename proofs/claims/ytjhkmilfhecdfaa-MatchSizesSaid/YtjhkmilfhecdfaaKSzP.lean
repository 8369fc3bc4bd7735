/- By what sets on the left lack: the least of how many are outside of a set and how many its own may go with is as many as a greatest matching has. Nothing of the program here. -/
import Derived.Test.YtjhkmilfhecdfaaKMat
import Derived.Test.YtjhkmilfhecdfaaKSize
namespace Go.Proofs.Ytjhkmilfhecdfaa.Wp

/-- Whom the first k of set s may go with, and how many of the first k are outside of it. -/
def nearL (adj : List (List Int)) (s : Nat) : Nat → List Int
  | 0 => []
  | k + 1 => if s.testBit k = true then unionL (nearL adj s k) (adj.getD k []) else nearL adj s k
def outN (s : Nat) (k : Nat) : Nat := cntP k fun i => !s.testBit i
theorem near_set (adj : List (List Int)) (s : Nat) : ∀ k, IsSet (nearL adj s k)
  | 0 => isSet_nil
  | k + 1 => by
    rw [show nearL adj s (k + 1) = if s.testBit k = true then unionL (nearL adj s k) (adj.getD k []) else nearL adj s k from rfl]
    split
    · exact union_set _ _
    · exact near_set adj s k
theorem near_mem {right : Int} {adj : List (List Int)} (h : mayM right adj = true) (s : Nat) : ∀ k x, x ∈ nearL adj s k ↔ ∃ i, i < k ∧ s.testBit i = true ∧ x ∈ adj.getD i []
  | 0, x => by simp [nearL]
  | k + 1, x => by
    have ih := near_mem h s k x
    rw [show nearL adj s (k + 1) = if s.testBit k = true then unionL (nearL adj s k) (adj.getD k []) else nearL adj s k from rfl]
    split
    · rename_i e
      rw [mem_union (near_set adj s k) (may_set h k), ih]
      constructor
      · rintro (⟨i, hi, h1⟩ | h1)
        · exact ⟨i, by omega, h1⟩
        · exact ⟨k, by omega, e, h1⟩
      · rintro ⟨i, hi, h1, h2⟩
        rcases Nat.lt_or_ge i k with hlt | hge
        · exact .inl ⟨i, hlt, h1, h2⟩
        · have : i = k := by omega
          subst this
          exact .inr h2
    · rename_i e
      rw [ih]
      constructor
      · rintro ⟨i, hi, h1⟩
        exact ⟨i, by omega, h1⟩
      · rintro ⟨i, hi, h1, h2⟩
        rcases Nat.lt_or_ge i k with hlt | hge
        · exact ⟨i, hlt, h1, h2⟩
        · have : i = k := by omega
          subst this
          exact absurd h1 e
/-- A set of numbers on the right has as many as there are there. -/
theorem set_count {R : Nat} {l : List Int} (hs : IsSet l) (hR : ∀ x ∈ l, ∃ r : Nat, x = (r : Int) ∧ r < R) : l.length = cntP R fun r => decide ((r : Int) ∈ l) := by
  unfold cntP
  have h1 := nodup_le (a := l) (b := ((List.range R).filter fun r : Nat => decide ((r : Int) ∈ l)).map Int.ofNat) (set_nodup hs) fun x hx => by
    obtain ⟨r, e, hr⟩ := hR x hx
    rw [e] at hx ⊢
    exact List.mem_map.2 ⟨r, List.mem_filter.2 ⟨List.mem_range.2 hr, decide_eq_true hx⟩, rfl⟩
  have h2 := nodup_le (a := ((List.range R).filter fun r : Nat => decide ((r : Int) ∈ l)).map Int.ofNat) (b := l) (List.pairwise_map.2 (((range_nodup R).sublist List.filter_sublist).imp fun hab e => hab (Int.ofNat.inj e))) fun x hx => by
    obtain ⟨r, hr, rfl⟩ := List.mem_map.1 hx
    exact of_decide_eq_true (List.mem_filter.1 hr).2
  rw [List.length_map] at h1 h2
  omega
theorem near_len {right : Int} {adj : List (List Int)} (h : mayM right adj = true) (s k : Nat) : (nearL adj s k).length = cntP right.toNat fun r => decide ((r : Int) ∈ nearL adj s k) :=
  set_count (near_set adj s k) fun x hx => by
    obtain ⟨i, _, _, h3⟩ := (near_mem h s k x).1 hx
    exact onR_of_may h i x h3
def costN (adj : List (List Int)) (s : Nat) : Nat := outN s adj.length + (nearL adj s adj.length).length
/-- Each set is a cover: no less than a greatest matching has. -/
theorem cost_ge {right : Int} {adj : List (List Int)} {n : Nat} (h : mayM right adj = true) (hb : Big right.toNat adj n) (s : Nat) : n ≤ costN adj s := by
  obtain ⟨⟨hs, a1, rfl⟩, _⟩ := hb
  have := mat_le_cov a1 (A := fun i => !s.testBit i) (B := fun r => decide ((r : Int) ∈ nearL adj s adj.length)) fun i r hg => by
    rcases hbit : s.testBit i with _ | _
    · exact .inl (show (!s.testBit i) = true by rw [hbit]; rfl)
    · exact .inr (decide_eq_true ((near_mem h s _ _).2 ⟨i, goes_lt hg, hbit, hg⟩))
  unfold costN outN
  rw [near_len h]
  exact this
/-- The set of given ones. -/
def bitsOf (p : Nat → Bool) : Nat → Nat
  | 0 => 0
  | n + 1 => (if p 0 then 1 else 0) + 2 * bitsOf (fun i => p (i + 1)) n
theorem bits_lt : ∀ (n : Nat) (p : Nat → Bool), bitsOf p n < 2 ^ n
  | 0, _ => by simp [bitsOf]
  | n + 1, p => by
    have := bits_lt n fun i => p (i + 1)
    unfold bitsOf
    rw [Nat.pow_succ]
    split <;> omega
theorem bits_test : ∀ (n : Nat) (p : Nat → Bool) (i : Nat), i < n → (bitsOf p n).testBit i = p i
  | n + 1, p, 0, _ => by
    rw [Nat.testBit_zero]
    unfold bitsOf
    cases p 0 <;> simp <;> omega
  | n + 1, p, i + 1, hi => by
    have ih := bits_test n (fun i => p (i + 1)) i (by omega)
    rw [Nat.testBit_succ, ← ih]
    congr 1
    show ((if p 0 then 1 else 0) + 2 * bitsOf (fun i => p (i + 1)) n) / 2 = _
    split <;> omega
/-- One set does. -/
theorem cost_le {right : Int} {adj : List (List Int)} {n : Nat} (h : mayM right adj = true) (hb : Big right.toNat adj n) : ∃ s, s < 2 ^ adj.length ∧ costN adj s ≤ n := by
  obtain ⟨_, A, B, hc, hn⟩ := hb
  refine ⟨bitsOf (fun i => !A i) adj.length, bits_lt _ _, ?_⟩
  have h1 : outN (bitsOf (fun i => !A i) adj.length) adj.length = cntP adj.length A := cntP_congr fun i hi => by
    rw [bits_test _ _ _ hi]
    simp
  have h2 : (nearL adj (bitsOf (fun i => !A i) adj.length) adj.length).length ≤ cntP right.toNat B := by
    rw [near_len h]
    refine cntP_mono fun r _ hr => ?_
    obtain ⟨i, hi, hbit, hx⟩ := (near_mem h _ _ _).1 (of_decide_eq_true hr)
    rw [bits_test _ _ _ hi] at hbit
    rcases hc i r hx with e | e
    · rw [e] at hbit; cases hbit
    · exact e
  unfold costN
  omega
/-- The least of the first k sets, and of how many there are. -/
def bestN (adj : List (List Int)) : Nat → Nat
  | 0 => adj.length
  | k + 1 => min (bestN adj k) (costN adj k)
theorem best_le (adj : List (List Int)) : ∀ k s, s < k → bestN adj k ≤ costN adj s
  | k + 1, s, h => by
    unfold bestN
    by_cases e : s = k
    · subst e; omega
    · have := best_le adj k s (by omega)
      omega
theorem best_ge {right : Int} {adj : List (List Int)} {n : Nat} (h : mayM right adj = true) (hb : Big right.toNat adj n) : ∀ k, n ≤ bestN adj k
  | 0 => hb.le.1
  | k + 1 => by
    have h1 := best_ge h hb k
    have h2 := cost_ge h hb k
    unfold bestN
    omega
theorem best_all {right : Int} {adj : List (List Int)} {n : Nat} (h : mayM right adj = true) (hb : Big right.toNat adj n) : bestN adj (2 ^ adj.length) = n := by
  obtain ⟨s, hs, hc⟩ := cost_le h hb
  have h1 := best_le adj _ s hs
  have h2 := best_ge h hb (2 ^ adj.length)
  omega

end Go.Proofs.Ytjhkmilfhecdfaa.Wp
