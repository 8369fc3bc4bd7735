/- A graph's matroid, a uniform one, a truncated one and a sum of two: their ranks, plain. -/
import Derived.Test.YtbjngggcpojefaaGreatDoorIMinP
import Derived.Test.YtbjngggcpojefaaGreatDoorZJ
namespace Go.Proofs.YtbjngggcpojefaaGreatDoor.Wp
open Go Go.RowKit

def rowsE (ns : List (Nat × Nat)) : List (List Int) := ns.map fun e => [(e.1 : Int), (e.2 : Int)]
def graphM (n : Nat) (ns : List (Nat × Nat)) : Mat := .mk 1 (ns.length : Int) (n : Int) 0 (rowsE ns) []
def uniM (L k : Nat) : Mat := .mk 0 (L : Int) (k : Int) 0 [] []
def trunM (L k : Nat) (g : Mat) : Mat := .mk 7 (L : Int) (k : Int) 0 [] [g]
def sumM (L : Nat) (g u : Mat) : Mat := .mk 9 (2 * (L : Int)) 0 0 [] [g, u]
theorem rowsE_length (ns : List (Nat × Nat)) : (rowsE ns).length = ns.length := by simp [rowsE]
theorem rowsE_at {ns : List (Nat × Nat)} {i : Nat} (h : i < ns.length) : (rowsE ns).getD i [] = [((ns[i]).1 : Int), ((ns[i]).2 : Int)] := by simp [rowsE, List.getD, h]

section
variable {n : Nat} {ns : List (Nat × Nat)} (h1 : 1 ≤ n) (h2 : n ≤ 8) (h3 : ns.length ≤ 8) (h4 : Lies n ns)
include h1 h2 h3 h4
theorem bad_graphM : bad (graphM n ns) = 0 := by
  refine bad_of (by show (0 : Int) ≤ 1 ∧ (1 : Int) < 10; omega) ⟨by show (0 : Int) ≤ (ns.length : Int); omega, by show (ns.length : Int) ≤ 64; omega, by show (0 : Int) ≤ (n : Int); omega, by show (n : Int) ≤ 64; omega⟩ ?_ ?_
  · show (true && decide ((0 : Int) = 0) && decide (((rowsE ns).length : Int) = (ns.length : Int)) && decide ((0 : Int) ≤ (([] : List Mat).length : Int)) && decide ((([] : List Mat).length : Int) ≤ 0)) = true
    rw [rowsE_length]
    simp
  · show (decide (1 ≤ (n : Int)) && !(rowsE ns).any (edgeB (n : Int))) = true
    rw [Bool.and_eq_true, decide_eq_true_iff, Bool.not_eq_true', List.any_eq_false]
    refine ⟨by omega, fun r hr => ?_⟩
    obtain ⟨e, he, rfl⟩ := List.mem_map.1 hr
    have := h4 e he
    unfold edgeB numsB outB
    simp
    omega
theorem chk_graphM : chk (graphM n ns) = 0 ∧ dp 4 (graphM n ns) = 1 := by
  have hd : dp 4 (graphM n ns) = 1 := by show (if nest (1 : Int) then _ else 1) = 1; rw [if_neg (by decide)]
  exact ⟨chk_ok.2 ⟨by omega, ok_mk (bad_graphM h1 h2 h3 h4) fun x hx => absurd hx (by show x ∉ []; simp)⟩, hd⟩
end
theorem rk_graphM {n : Nat} {ns : List (Nat × Nat)} {P : Nat → Bool} (hP : ∀ i, i < ns.length → P i = true) (k : Nat) : rkP (k + 1) (graphM n ns) P = n - nparts n ns := by
  rw [rkP_1 rfl]
  show n - nparts n (edgP ns.length (edgOf (graphM n ns)) P) = _
  have e : edgP ns.length (edgOf (graphM n ns)) P = ns := by
    unfold edgP
    rw [pick_ext (Q := allP) fun i hi => hP i hi, show pickN ns.length allP = List.range ns.length from List.filter_eq_self.2 fun _ _ => rfl]
    apply List.ext_getElem
    · simp
    · intro i a b
      simp only [List.getElem_map, List.getElem_range]
      unfold edgOf
      show ((((rowsE ns).getD i []).getD 0 0).toNat, (((rowsE ns).getD i []).getD 1 0).toNat) = ns[i]
      rw [rowsE_at b]
      rfl
  rw [e]
theorem chk_uniM {L k : Nat} (hL : L ≤ 8) (hk : k ≤ L) : chk (uniM L k) = 0 ∧ dp 4 (uniM L k) = 1 := by
  have hd : dp 4 (uniM L k) = 1 := by show (if nest (0 : Int) then _ else 1) = 1; rw [if_neg (by decide)]
  refine ⟨chk_ok.2 ⟨by omega, ok_mk (bad_of (by show (0 : Int) ≤ 0 ∧ (0 : Int) < 10; omega) ⟨by show (0 : Int) ≤ (L : Int); omega, by show (L : Int) ≤ 64; omega, by show (0 : Int) ≤ (k : Int); omega, by show (k : Int) ≤ 64; omega⟩ rfl ?_) fun x hx => absurd hx (by show x ∉ []; simp)⟩, hd⟩
  show decide ((k : Int) ≤ (L : Int)) = true
  rw [decide_eq_true_iff]
  omega
theorem rk_uniM {L k : Nat} {P : Nat → Bool} (hk : k ≤ L) (hP : ∀ i, i < L → P i = true) (j : Nat) : rkP (j + 1) (uniM L k) P = k := by
  rw [rkP_0 rfl]
  show min ((k : Int)).toNat (cnt P L) = k
  rw [cnt_ext (Q := allP) fun i hi => hP i hi, cnt_allP]
  omega
theorem dp_one {t n a : Int} {m : Mat} (ht : nest t) (_hm : chk m = 0) (h1 : dp 4 m = 1) : dp 4 (.mk t n a 0 [] [m]) = 2 := by
  show (if nest t then 1 + maxN [dp 3 m] else 1) = 2
  rw [if_pos ht, maxN_one]
  have : dp 3 m = min 4 (dp 4 m) := dp_step 3 m
  omega
theorem chk_trunM {L k : Nat} {g : Mat} (hL : L ≤ 8) (hk : k ≤ L) (hg : chk g = 0) (hd : dp 4 g = 1) (hn : g.n = (L : Int)) : chk (trunM L k g) = 0 := by
  have e2 := (chk3.1 ⟨hg, by omega⟩).2
  refine chk_ok.2 ⟨by have : dp 4 (trunM L k g) = 2 := dp_one (by decide) hg hd; omega, ok_mk (bad_of (by show (0 : Int) ≤ 7 ∧ (7 : Int) < 10; omega) ⟨by show (0 : Int) ≤ (L : Int); omega, by show (L : Int) ≤ 64; omega, by show (0 : Int) ≤ (k : Int); omega, by show (k : Int) ≤ 64; omega⟩ rfl ?_) fun x hx => ?_⟩
  · rw [fits_seven (.inl rfl)]
    show decide ((L : Int) = tog [g]) = true
    rw [tog_one _ hg, hn]
    simp
  · have : x = g := by simpa using (show x ∈ [g] from hx)
    subst this
    exact e2
theorem chk_sumM {L : Nat} {g u : Mat} (hL : L ≤ 8) (hg : chk g = 0) (hd : dp 4 g = 1) (hn : g.n = (L : Int)) (hu : chk u = 0) (hdu : dp 4 u = 1) (hnu : u.n = (L : Int)) : chk (sumM L g u) = 0 := by
  have e1 := (chk3.1 ⟨hg, by omega⟩).2
  have e2 := (chk3.1 ⟨hu, by omega⟩).2
  have d1 : dp 3 g = min 4 (dp 4 g) := dp_step 3 g
  have d2 : dp 3 u = min 4 (dp 4 u) := dp_step 3 u
  have hdd : dp 4 (sumM L g u) = 2 := by
    show (if nest (9 : Int) then 1 + maxN [dp 3 g, dp 3 u] else 1) = 2
    rw [if_pos (by decide)]
    simp only [maxN]
    omega
  refine chk_ok.2 ⟨by omega, ok_mk (bad_of (by show (0 : Int) ≤ 9 ∧ (9 : Int) < 10; omega) ⟨by show (0 : Int) ≤ 2 * (L : Int); omega, by show 2 * (L : Int) ≤ 64; omega, by show (0 : Int) ≤ 0; decide, by show (0 : Int) ≤ 64; decide⟩ rfl ?_) fun x hx => ?_⟩
  · rw [fits_seven (.inr (.inr rfl))]
    show decide (2 * (L : Int) = tog ([g] ++ [u])) = true
    rw [tog_snoc, tog_one _ hg, hn, hnu, wrap_small (by omega) (by omega), decide_eq_true_iff]
    omega
  · have : x = g ∨ x = u := by simpa using (show x ∈ [g, u] from hx)
    rcases this with rfl | rfl
    · exact e1
    · exact e2
/-- What IndepKinds asks, of numbers. -/
theorem kinds_fact {n k : Nat} {ns : List (Nat × Nat)} (h1 : 1 ≤ n) (h2 : n ≤ 8) (h3 : ns.length ≤ 8) (h4 : Lies n ns) (hk : k ≤ ns.length) : ∃ r : Nat, rankN n ns = (r : Int) ∧ r ≤ 8 ∧
    rankT (uniM ns.length k) (allL (ns.length : Int)) = (k : Int) ∧ rankT (graphM n ns) (allL (ns.length : Int)) = (r : Int) ∧ rankT (trunM ns.length k (graphM n ns)) (allL (ns.length : Int)) = ((min r k : Nat) : Int) ∧
    rankT (sumM ns.length (graphM n ns) (uniM ns.length k)) (allL (2 * (ns.length : Int))) = ((r + k : Nat) : Int) ∧ indT (graphM n ns) (allL (ns.length : Int)) = ((r : Int) == (ns.length : Int)) := by
  obtain ⟨cg, dg⟩ := chk_graphM h1 h2 h3 h4
  obtain ⟨cu, du⟩ := chk_uniM h3 hk
  have ct := chk_trunM (g := graphM n ns) h3 hk cg dg rfl
  have cs := chk_sumM (g := graphM n ns) (u := uniM ns.length k) h3 cg dg rfl cu du rfl
  have hn := nparts_le n ns
  have hall : InN ns.length (allL (ns.length : Int)) := inN_all (n := (ns.length : Int)) (by omega) (by omega)
  have hal : ∀ i, i < ns.length → memP (allL (ns.length : Int)) i = true := fun i hi => memP_all (by omega) (by omega) (by simpa using hi)
  have hall2 : InN (2 * ns.length) (allL (2 * (ns.length : Int))) := by
    have := inN_all (n := 2 * (ns.length : Int)) (by omega) (by omega)
    rwa [show (2 * (ns.length : Int)).toNat = 2 * ns.length by omega] at this
  have hal2 : ∀ i, i < 2 * ns.length → memP (allL (2 * (ns.length : Int))) i = true := fun i hi => memP_all (by omega) (by omega) (by omega)
  have mu : mayI (uniM ns.length k) (allL (ns.length : Int)) = true := mayI_iff.2 ⟨cu, hall⟩
  have mg : mayI (graphM n ns) (allL (ns.length : Int)) = true := mayI_iff.2 ⟨cg, hall⟩
  have mt : mayI (trunM ns.length k (graphM n ns)) (allL (ns.length : Int)) = true := mayI_iff.2 ⟨ct, hall⟩
  have ms : mayI (sumM ns.length (graphM n ns) (uniM ns.length k)) (allL (2 * (ns.length : Int))) = true := mayI_iff.2 ⟨cs, by
    have e : nN (sumM ns.length (graphM n ns) (uniM ns.length k)) = 2 * ns.length := by show (2 * (ns.length : Int)).toNat = _; omega
    rw [e]; exact hall2⟩
  have er : rankT (graphM n ns) (allL (ns.length : Int)) = ((n - nparts n ns : Nat) : Int) := by rw [rank_yes mg, rk_graphM hal]
  refine ⟨n - nparts n ns, by unfold rankN; omega, by omega, by rw [rank_yes mu, rk_uniM hk hal], er, ?_, ?_, ?_⟩
  · rw [rank_yes mt, rkP_7 rfl]
    show ((min ((k : Int)).toNat (rkP 3 (graphM n ns) _) : Nat) : Int) = _
    rw [rk_graphM hal]
    omega
  · rw [rank_yes ms, rkP_9 (by show (9 : Int) ≤ 9; decide)]
    show ((rkP 3 (graphM n ns) _ + (rkP 3 (uniM ns.length k) _ + 0) : Nat) : Int) = _
    rw [rk_graphM (fun i hi => hal2 i (by omega)), rk_uniM hk (fun i hi => hal2 _ (by
      have e : nN (graphM n ns) = ns.length := rfl
      omega))]
    omega
  · unfold indT
    rw [er]
    have hl : (allL (ns.length : Int)).length = ns.length := by have := all_len_n (n := (ns.length : Int)) (by omega) (by omega); omega
    rw [hl, Bool.eq_iff_iff, decide_eq_true_iff, beq_iff_eq]

end Go.Proofs.YtbjngggcpojefaaGreatDoor.Wp
