/- Edges turned round and laid twice: plain facts. -/
import Derived.Test.YtfpfhnkboakejaaJApp
namespace Go.Proofs.Ytfpfhnkboakejaa.Wp

/-- An edge of v alone, and each edge twice, once turned round, from the last one on. -/
def backN (v : Nat) : List (Nat × Nat) → List (Nat × Nat)
  | [] => [(v, v)]
  | e :: l => backN v l ++ [(e.2, e.1), e]
theorem backN_length (v : Nat) : ∀ l, (backN v l).length = 2 * l.length + 1
  | [] => rfl
  | e :: l => by
    simp [backN, backN_length v l]
    omega
theorem backN_cst (v : Nat) (g : Nat → Nat) : ∀ l, Cst (backN v l) g ↔ Cst l g
  | [] => by simp [backN, Cst]
  | e :: l => by
    rw [backN, cst_append, backN_cst v g l, cst_cons, cst_cons, cst_cons]
    constructor
    · rintro ⟨h, h1, h2, _⟩
      exact ⟨h2, h⟩
    · rintro ⟨h1, h⟩
      exact ⟨h, h1.symm, h1, cst_nil g⟩
theorem backN_lies {v m : Nat} (hv : v < m) : ∀ l, Lies m l → Lies m (backN v l)
  | [], _ => by
    intro e he
    simp [backN] at he
    subst he
    exact ⟨hv, hv⟩
  | e :: l, h => by
    rw [backN]
    have he := h e (by simp)
    refine Lies.append.2 ⟨backN_lies hv l (fun x hx => h x (by simp [hx])), fun x hx => ?_⟩
    simp at hx
    rcases hx with rfl | rfl
    · exact ⟨he.2, he.1⟩
    · exact he
theorem backN_comp (v : Nat) (l : List (Nat × Nat)) : compF (backN v l) = compF l := comp_same fun g => backN_cst v g l
theorem backN_parts (m v : Nat) (l : List (Nat × Nat)) : nparts m (backN v l) = nparts m l := nparts_same fun g => backN_cst v g l
theorem drop_at {ns : List (Nat × Nat)} {j : Nat} (hj : j < ns.length) : ns.drop j = ns.getD j (0, 0) :: ns.drop (j + 1) := by
  rw [List.drop_eq_getElem_cons hj]
  simp [List.getD, hj]
theorem nparts_low {m : Nat} {ns : List (Nat × Nat)} (h : Lies m ns) : m ≤ nparts m ns + ns.length := by
  have := nparts_edges ns [] h
  rw [nparts_nil, List.nil_append] at this
  exact this

end Go.Proofs.Ytfpfhnkboakejaa.Wp
