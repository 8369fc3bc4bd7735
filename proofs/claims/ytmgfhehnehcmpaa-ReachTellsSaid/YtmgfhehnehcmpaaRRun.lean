/- What is come to, step by step, as the program does it: it keeps what RPure asks. Nothing of the program here. -/
import Derived.Test.YtmgfhehnehcmpaaRPure
namespace Go.Proofs.Ytmgfhehnehcmpaa.Wp

def visitS (p : Int) (st : List Int × (Nat → Int)) (q : Int) : List Int × (Nat → Int) := if st.2 q.toNat = -1 then (st.1 ++ [q], updI st.2 q.toNat p) else st
def innerS (adj : List (List Int)) (st : List Int × (Nat → Int)) (i k : Nat) : List Int × (Nat → Int) := ((arcsOf adj st.1 i).take k).foldl (visitS (cAt st.1 i)) st
def stepS (adj : List (List Int)) (st : List Int × (Nat → Int)) (i : Nat) : List Int × (Nat → Int) := if i < st.1.length then innerS adj st i (arcsOf adj st.1 i).length else st
def startS (src : List Int) : List Int × (Nat → Int) := (src, fun x => if (x : Int) ∈ src then -2 else -1)
def runS (adj : List (List Int)) (src : List Int) : Nat → List Int × (Nat → Int)
  | 0 => startS src
  | i + 1 => stepS adj (runS adj src i) i
def finS (adj : List (List Int)) (src : List Int) : List Int × (Nat → Int) := runS adj src adj.length
section
variable {adj : List (List Int)} {src : List Int} {st : List Int × (Nat → Int)} {i k : Nat}
theorem inner_zero : innerS adj st i 0 = st := rfl
theorem inner_succ (h : k < (arcsOf adj st.1 i).length) : innerS adj st i (k + 1) = visitS (cAt st.1 i) (innerS adj st i k) ((arcsOf adj st.1 i).getD k 0) := by
  unfold innerS
  rw [List.take_succ_eq_append_getElem h, List.foldl_append]
  rw [show (arcsOf adj st.1 i).getD k 0 = (arcsOf adj st.1 i)[k] by simp [List.getD, h]]
  rfl
/-- Through one round. -/
theorem inner_bfs (hd : Dig adj) (par : Nat → Nat) (hi : i < st.1.length) (h : Bfs adj src st.1 st.2 par i 0) : ∀ k, k ≤ (arcsOf adj st.1 i).length → (∃ rest, (innerS adj st i k).1 = st.1 ++ rest) ∧ ∃ par', Bfs adj src (innerS adj st i k).1 (innerS adj st i k).2 par' i k
  | 0, _ => ⟨⟨[], by simp [inner_zero]⟩, par, h⟩
  | k + 1, hk => by
    obtain ⟨⟨rest, hr⟩, par', hb⟩ := inner_bfs hd par hi h k (by omega)
    have hk' : k < (arcsOf adj st.1 i).length := by omega
    have hlen : i < (innerS adj st i k).1.length := by rw [hr, List.length_append]; omega
    have hc : cAt (innerS adj st i k).1 i = cAt st.1 i := by
      unfold cAt
      rw [hr, List.getD_eq_getElem?_getD, List.getElem?_append_left hi, ← List.getD_eq_getElem?_getD]
    have ha : arcsOf adj (innerS adj st i k).1 i = arcsOf adj st.1 i := by unfold arcsOf; rw [hc]
    have hmem : (arcsOf adj st.1 i)[k] ∈ arcsOf adj st.1 i := List.getElem_mem hk'
    have hq := hd.pt _ _ hmem
    obtain ⟨q, hqe⟩ : ∃ q : Nat, (arcsOf adj st.1 i)[k] = (q : Int) := ⟨(arcsOf adj st.1 i)[k].toNat, by omega⟩
    have hqk : (arcsOf adj (innerS adj st i k).1 i)[k]? = some (q : Int) := by rw [ha, List.getElem?_eq_getElem hk', hqe]
    rw [inner_succ hk', show (arcsOf adj st.1 i).getD k 0 = (q : Int) by rw [← hqe]; simp [List.getD, hk']]
    unfold visitS
    rw [Int.toNat_natCast]
    split
    · rename_i e
      have := hb.visit hd hlen q hqk (by omega) e
      rw [hc] at this
      exact ⟨⟨rest ++ [(q : Int)], by rw [hr, List.append_assoc]⟩, _, this⟩
    · rename_i e
      exact ⟨⟨rest, hr⟩, par', hb.skip hlen q hqk (by omega) e⟩
theorem step_bfs (hd : Dig adj) (par : Nat → Nat) (h : Bfs adj src st.1 st.2 par i 0) : ∃ par', Bfs adj src (stepS adj st i).1 (stepS adj st i).2 par' (i + 1) 0 := by
  unfold stepS
  split
  · rename_i hi
    obtain ⟨⟨rest, hr⟩, par', hb⟩ := inner_bfs hd par hi h (arcsOf adj st.1 i).length (Nat.le_refl _)
    refine ⟨par', hb.next ?_⟩
    have hc : cAt (innerS adj st i (arcsOf adj st.1 i).length).1 i = cAt st.1 i := by
      unfold cAt
      rw [hr, List.getD_eq_getElem?_getD, List.getElem?_append_left hi, ← List.getD_eq_getElem?_getD]
    unfold arcsOf at hb ⊢
    rw [show adj.getD (cAt st.1 i).toNat [] = arcsOf adj st.1 i from rfl] at *
    rw [hc]
    exact Nat.le_refl _
  · rename_i hi
    refine ⟨par, h.nodup, h.pt, h.new, h.pre, h.start, fun j h1 h2 => ?_, h.first, h.mono, fun m hm hmc => ?_, fun h1 => by omega⟩
    · obtain ⟨a, b, c, d, e⟩ := h.old j h1 h2
      exact ⟨a, by omega, c, d, fun hp => by omega⟩
    · exact h.closed m (by omega) hmc
theorem run_bfs (hd : Dig adj) (hs : Pts adj.length src) : ∀ i, ∃ par, Bfs adj src (runS adj src i).1 (runS adj src i).2 par i 0
  | 0 => ⟨fun _ => 0, bfs_start hs fun _ => rfl⟩
  | i + 1 => by
    obtain ⟨par, h⟩ := run_bfs hd hs i
    exact step_bfs hd par h
theorem fin_done (hd : Dig adj) (hs : Pts adj.length src) : ∃ par, Done adj src (finS adj src).1 (finS adj src).2 par := by
  obtain ⟨par, h⟩ := run_bfs hd hs adj.length
  have hl := h.len
  refine ⟨par, h.nodup, h.pt, h.new, h.pre, h.start, fun j h1 h2 => ?_, h.first, h.mono, fun m hm hmc => h.closed m (by unfold finS at hm; omega) hmc, fun h1 => by omega⟩
  obtain ⟨a, b, c, d, e⟩ := h.old j h1 h2
  unfold finS at *
  exact ⟨a, by omega, c, d, fun hp => by omega⟩
/-- When all has been left nothing more is done. -/
theorem run_stop (hl : (runS adj src i).1.length ≤ i) : ∀ m, i ≤ m → runS adj src m = runS adj src i
  | 0, h => by
    have : i = 0 := by omega
    rw [this]
  | m + 1, h => by
    by_cases e : i = m + 1
    · rw [e]
    · have ih := run_stop hl m (by omega)
      show stepS adj (runS adj src m) m = _
      rw [ih]
      unfold stepS
      rw [if_neg (by omega)]
end

end Go.Proofs.Ytmgfhehnehcmpaa.Wp
