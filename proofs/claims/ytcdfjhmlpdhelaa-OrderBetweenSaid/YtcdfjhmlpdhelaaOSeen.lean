/- Which ids have come out: plain, and as a row of bools that the call has made. -/
import Derived.Test.YtcdfjhmlpdhelaaOFixed
import Derived.Test.YtcdfjhmlpdhelaaOLawP
namespace Go.Proofs.Ytcdfjhmlpdhelaa
open Go Go.RowKit
namespace Wp

def seenA (S0 : Nat → Bool) (s : List (Int × Int)) (t : Nat) (i : Nat) : Bool := S0 i || (s.take t).any fun p => p.2 == (i : Int)
/-- Ids that may come out: each once, none that was seen before, all below n. -/
structure Outs (S0 : Nat → Bool) (n : Nat) (s : List (Int × Int)) : Prop where
  pt : ∀ p ∈ s, 0 ≤ p.2 ∧ p.2 < (n : Int)
  new : ∀ p ∈ s, S0 p.2.toNat = false
  once : (s.map Prod.snd).Nodup
  rise : Rise s
theorem seenA_zero (S0 : Nat → Bool) (s : List (Int × Int)) : seenA S0 s 0 = S0 := by
  funext i
  simp [seenA]
theorem take_at {s : List (Int × Int)} {t : Nat} (ht : t < s.length) : s.take (t + 1) = s.take t ++ [atP s t] := by
  rw [List.take_succ_eq_append_getElem ht]
  congr 2
  unfold atP
  simp [List.getD, ht]
theorem seenA_succ {S0 : Nat → Bool} {s : List (Int × Int)} {t j : Nat} (ht : t < s.length) (hj : (atP s t).2 = (j : Int)) : seenA S0 s (t + 1) = fun i => seenA S0 s t i || decide (i = j) := by
  funext i
  unfold seenA
  rw [take_at ht, List.any_append, List.any_cons, List.any_nil, Bool.or_false, ← Bool.or_assoc, hj]
  congr 1
  by_cases e : i = j
  · subst e; simp
  · rw [decide_eq_false e, beq_eq_false_iff_ne]; omega
theorem Outs.fresh {S0 : Nat → Bool} {n : Nat} {s : List (Int × Int)} (h : Outs S0 n s) {t : Nat} (ht : t < s.length) : ∃ j : Nat, j < n ∧ (atP s t).2 = (j : Int) ∧ seenA S0 s t j = false := by
  have hm : atP s t ∈ s := atP_mem ht
  have hp := h.pt _ hm
  refine ⟨(atP s t).2.toNat, by omega, by omega, ?_⟩
  unfold seenA
  rw [h.new _ hm, Bool.false_or, List.any_eq_false]
  intro p hp' hc
  have hc : p.2 = ((atP s t).2.toNat : Int) := by simpa using hc
  have hs : s = s.take t ++ atP s t :: s.drop (t + 1) := by
    have := (h.rise.drop t ht).1
    rw [← this, List.take_append_drop]
  have hn := h.once
  rw [hs, List.map_append, List.nodup_append] at hn
  exact hn.2.2 _ (List.mem_map_of_mem hp') _ (by rw [List.map_cons]; exact List.mem_cons_self) (by omega)
/-- Behind one, none ahead of it. -/
theorem Outs.after {S0 : Nat → Bool} {n : Nat} {s : List (Int × Int)} (h : Outs S0 n s) {t : Nat} (ht : t + 1 < s.length) : ¬ ltP (atP s (t + 1)) (atP s t) := by
  refine (h.rise.drop t (by omega)).2 _ ?_
  rw [(h.rise.drop t (by omega)).1, (h.rise.drop (t + 1) ht).1]
  simp
theorem outs_keyed (f : Nat → Int) (n : Nat) : Outs (fun _ => false) n (sortP (keyed f n)) := by
  have hp := (sortP_perm (keyed f n)).trans (keyed_perm f n)
  refine ⟨fun p h => ?_, fun _ _ => rfl, ?_, sortP_rise _⟩
  · have := mem_keyed.1 ((sortP_perm _).mem_iff.1 h)
    exact ⟨this.1, this.2.1⟩
  · refine (hp.map Prod.snd).nodup_iff.2 ?_
    rw [List.map_map, show (Prod.snd ∘ fun j : Int => (f j.toNat, j)) = id from rfl, List.map_id]
    exact idxs_nodup n

theorem infoB : (Try.prog.info? 4).map (fun i => (i.zero, i.size, i.bytes)) = some (some (.bool false), 1, 1) := by kernel_rfl
/-- A row of bools. -/
def Seen (w : World) (g n : Nat) (S : Nat → Bool) : Prop := ∃ cs : Array Value, Blk w g 4 cs ∧ cs.size = n ∧ ∀ i, i < n → cs[i]? = some (.bool (S i))
theorem Seen.lt {w : World} {g n : Nat} {S : Nat → Bool} (h : Seen w g n S) : g < w.heap.size := let ⟨_, h1, _⟩ := h; h1.lt
theorem Seen.cell {w : World} {g n : Nat} {S : Nat → Bool} (h : Seen w g n S) {i : Nat} (hi : i < n) : w.cell? ⟨g, i, none⟩ = some (.bool (S i)) := let ⟨_, h1, _, h3⟩ := h; (h1.cell i).trans (h3 i hi)
theorem Seen.frozen {w : World} {g n : Nat} {S : Nat → Bool} (h : Seen w g n S) (i : Nat) : w.frozen? ⟨g, i, none⟩ = false := let ⟨_, h1, _⟩ := h; h1.frozen i
theorem Seen.fk {w w' : World} {F : Nat → Prop} {g n : Nat} {S : Nat → Bool} (h : Seen w g n S) (hk : Fk F w w') (hF : F g) : Seen w' g n S := by
  obtain ⟨cs, h1, h2, h3⟩ := h
  exact ⟨cs, (hk.block g h1.lt hF).trans h1, h2, h3⟩
theorem Seen.below {w w' : World} {g n : Nat} {S : Nat → Bool} (h : Seen w g n S) (hb : Below w.heap.size w w') : Seen w' g n S := by
  obtain ⟨cs, h1, h2, h3⟩ := h
  exact ⟨cs, h1.below hb h1.lt, h2, h3⟩
theorem Seen.set_ {w : World} {g n : Nat} {S : Nat → Bool} (h : Seen w g n S) (j : Nat) : Seen (w.setCell ⟨g, j, none⟩ (.bool true)) g n (fun i => S i || decide (i = j)) := by
  obtain ⟨cs, h1, h2, h3⟩ := h
  refine ⟨_, h1.set_ j _, by simpa using h2, fun i hi => ?_⟩
  rw [Array.getElem?_setIfInBounds]
  by_cases e : j = i
  · subst e
    rw [if_pos rfl, if_pos (by omega)]
    simp
  · rw [if_neg e, h3 i hi]
    show some (Value.bool (S i)) = some (Value.bool (S i || decide (i = j)))
    rw [decide_eq_false (p := i = j) (fun e' => e e'.symm), Bool.or_false]
theorem seen_made (w : World) (base g n : Nat) (h : w.ownsRow base 4 1 (.slice (some ⟨g, 0, none⟩) n n) n (madeCells (Value.bool false).cells (n * 1)).toList) : Seen w g n (fun _ => false) := by
  rcases h.2 with ⟨e, _⟩ | ⟨g', cap, cur, hv, hb, hg, h1, h2, h3, h4⟩
  · cases e
  · injection hv with e1 _ e3
    injection e1 with e1
    injection e1 with e1
    subst e1 e3
    refine ⟨cur, hg, by omega, fun i hi => ?_⟩
    have hc : cur.toList = (madeCells (Value.bool false).cells (n * 1)).toList := by
      rw [← h4, List.take_of_length_le]
      rw [Array.length_toList, h3]
      exact Nat.le_refl _
    rw [← Array.getElem?_toList, hc]
    unfold madeCells
    simp [Value.cells, hi, Nat.mod_one]
/-- Turning a row of others' leaves the queue. -/
theorem HQ.setOther {w : World} {F : Nat → Prop} {q g : Nat} {ms : List (Int × Int)} (h : HQ w F q ms) (hF : F g) (j : Nat) (u : Value) : HQ (w.setCell ⟨g, j, none⟩ u) F q ms := by
  obtain ⟨ps, h1, h2, v, hv⟩ := h
  have hg := hv.far g hF
  have hgr := only_setCell (only_self w (some g)) (p := ⟨g, j, none⟩) (.inl rfl) u
  exact ⟨ps, h1, h2, v, hv.blk.far (fun e => hg.2.1 e.symm) u, hv.own.kept hgr (.inr hg.2.2), hv.apart, fun i hi => ⟨Nat.lt_of_lt_of_le (hv.far i hi).1 hgr.size, (hv.far i hi).2⟩⟩

end Wp
end Go.Proofs.Ytcdfjhmlpdhelaa
