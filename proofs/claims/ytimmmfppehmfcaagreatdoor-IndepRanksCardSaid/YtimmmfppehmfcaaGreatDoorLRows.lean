/- Memory of this seat: a list of lists of integers; a family of rows that the call itself makes, no two in one block. -/
import Derived.Test.YtimmmfppehmfcaaGreatDoorSKit
import Derived.Maps.AppendAt
import Derived.Lib.OwnBridge
namespace Go.Proofs.YtimmmfppehmfcaaGreatDoor
open Go.RowKit
namespace Wp

/-- A list of lists in memory, below block B. -/
def Rows2 (w : World) (B : Nat) (v : Value) (pp : List (List Int)) : Prop :=
  ∃ A c, v = .slice A pp.length c ∧ (pp.length ≤ c ∧ c ≤ maxLen ∧ (A = none → c = 0)) ∧
    ∀ k, k < pp.length → ∃ (ad : Addr) (u : Value), A = some ad ∧ ad.block < B ∧ w.cell? (ad.add k) = some u ∧ Row w B u (pp.getD k [])

theorem Rows2.below {w w' : World} {B : Nat} {v : Value} {pp : List (List Int)} (h : Rows2 w B v pp) (hb : Below B w w') : Rows2 w' B v pp := by
  obtain ⟨A, c, hv, hn, hk⟩ := h
  refine ⟨A, c, hv, hn, fun k hlt => ?_⟩
  obtain ⟨ad, u, hA, hB, h1, h2⟩ := hk k hlt
  exact ⟨ad, u, hA, hB, (hb.cell (by rw [add_block]; exact hB)).trans h1, h2.below hb⟩
theorem Rows2.mono {w : World} {B B' : Nat} {v : Value} {pp : List (List Int)} (h : Rows2 w B v pp) (hB : B ≤ B') : Rows2 w B' v pp := by
  obtain ⟨A, c, hv, hn, hk⟩ := h
  refine ⟨A, c, hv, hn, fun k hlt => ?_⟩
  obtain ⟨ad, u, hA, hb, h1, h2⟩ := hk k hlt
  exact ⟨ad, u, hA, by omega, h1, h2.mono hB⟩
theorem Rows2.up {w w' : World} {v : Value} {pp : List (List Int)} (h : Rows2 w w.heap.size v pp) (hb : Below w.heap.size w w') : Rows2 w' w'.heap.size v pp := (h.below hb).mono hb.size

/-- Rows of two kinds of elements lie in two blocks. -/
theorem own_ne {w : World} {b1 b2 : Nat} {e1 e2 : TypeId} {s1 s2 n1 n2 : Nat} {v1 v2 : Value} {x1 x2 : List Value} (h1 : w.ownsRow b1 e1 s1 v1 n1 x1) (h2 : w.ownsRow b2 e2 s2 v2 n2 x2) (hne : e1 ≠ e2) :
    v1.ownBlock = none ∨ v1.ownBlock ≠ v2.ownBlock := by
  rcases h1.2 with ⟨rfl, _⟩ | ⟨g, cap, cur, rfl, _, hg, _⟩
  · exact .inl rfl
  · right
    rcases h2.2 with ⟨rfl, _⟩ | ⟨g', cap', cur', rfl, _, hg', _⟩
    · simp [Value.ownBlock]
    · intro he
      have he' : g = g' := by simpa [Value.ownBlock] using he
      subst he'
      rw [hg] at hg'
      injection hg' with hg'
      injection hg' with _ ht
      exact hne ht

/-- The rows vs hold the lists pp, no two of them in one block. -/
def Fam (w : World) (B : Nat) (vs : List Value) (pp : List (List Int)) : Prop :=
  vs.length = pp.length ∧ (∀ (i : Nat) (v : Value) (p : List Int), vs[i]? = some v → pp[i]? = some p → w.ownsRow B 3 1 v p.length (ints p)) ∧
    ∀ (i j : Nat) (v u : Value), vs[i]? = some v → vs[j]? = some u → i ≠ j → v.ownBlock = none ∨ v.ownBlock ≠ u.ownBlock

theorem fam_nil (w : World) (B : Nat) : Fam w B [] [] := ⟨rfl, fun i v p h => by simp at h, fun i j v u h => by simp at h⟩
theorem Fam.kept {w w' : World} {B : Nat} {vs : List Value} {pp : List (List Int)} (h : Fam w B vs pp) {row : Option Nat} (hg : w.grownBy w' row) (hr : ∀ v ∈ vs, v.ownBlock = none ∨ v.ownBlock ≠ row) : Fam w' B vs pp :=
  ⟨h.1, fun i v p hv hp => (h.2.1 i v p hv hp).kept hg (hr v (List.mem_of_getElem? hv)), h.2.2⟩
/-- Another block is written that is none of theirs. -/
theorem Fam.apart {w w' : World} {B : Nat} {vs : List Value} {pp : List (List Int)} (h : Fam w B vs pp) {g : Nat} (hg : w.grownBy w' (some g)) (hr : g < B) : Fam w' B vs pp := by
  refine h.kept hg fun v hv => ?_
  obtain ⟨i, hi, rfl⟩ := List.mem_iff_getElem.1 hv
  have hip : i < pp.length := by rw [← h.1]; exact hi
  have ho := h.2.1 i _ _ (List.getElem?_eq_getElem hi) (List.getElem?_eq_getElem hip)
  rcases hb : vs[i].ownBlock with _ | k
  · exact .inl rfl
  · right
    have := ho.lt k hb
    intro he
    injection he with he
    omega
theorem Fam.new {w w' : World} {B : Nat} {vs : List Value} {pp : List (List Int)} (h : Fam w B vs pp) (hg : w.grownBy w' none) : Fam w' B vs pp :=
  h.kept hg fun v _ => by
    rcases v.ownBlock with _ | k
    · exact .inl rfl
    · exact .inr (by simp)
/-- One empty row more. -/
theorem Fam.more {w : World} {B : Nat} {vs : List Value} {pp : List (List Int)} (h : Fam w B vs pp) : Fam w B (vs ++ [.slice none 0 0]) (pp ++ [[]]) := by
  have hn : (Value.slice none 0 0).ownBlock = none := rfl
  refine ⟨by simp [h.1], fun i v p hv hp => ?_, fun i j v u hv hu hij => ?_⟩
  · by_cases hi : i < vs.length
    · rw [List.getElem?_append_left hi] at hv
      rw [List.getElem?_append_left (by rw [← h.1]; exact hi)] at hp
      exact h.2.1 i v p hv hp
    · have hi2 : i = vs.length := by
        have := (List.getElem?_eq_some_iff.1 hv).1
        simp at this
        omega
      subst hi2
      rw [List.getElem?_append_right (Nat.le_refl _)] at hv
      rw [h.1, List.getElem?_append_right (Nat.le_refl _)] at hp
      simp at hv hp
      subst hv hp
      exact World.ownsRow_nil _ _ _ _
  · by_cases hi : i < vs.length
    · rw [List.getElem?_append_left hi] at hv
      by_cases hj : j < vs.length
      · rw [List.getElem?_append_left hj] at hu
        exact h.2.2 i j v u hv hu hij
      · have hj2 : j = vs.length := by
          have := (List.getElem?_eq_some_iff.1 hu).1
          simp at this
          omega
        subst hj2
        rw [List.getElem?_append_right (Nat.le_refl _)] at hu
        simp at hu
        subst hu
        rw [hn]
        rcases v.ownBlock with _ | k
        · exact .inl rfl
        · exact .inr (by simp)
    · have hi2 : i = vs.length := by
        have := (List.getElem?_eq_some_iff.1 hv).1
        simp at this
        omega
      subst hi2
      rw [List.getElem?_append_right (Nat.le_refl _)] at hv
      simp at hv
      subst hv
      exact .inl rfl
/-- One of the rows has grown, in its own block or a new one. -/
theorem Fam.grow {w w' : World} {B : Nat} {vs : List Value} {pp : List (List Int)} (h : Fam w B vs pp) {at_ : Nat} {u u' : Value} {q : List Int} (hu : vs[at_]? = some u) (hg : w.grownBy w' u.ownBlock)
    (ho : w'.ownsRow B 3 1 u' q.length (ints q)) (hl : u'.ownBlock = u.ownBlock ∨ u'.ownBlock = some w.heap.size) : Fam w' B (vs.set at_ u') (pp.set at_ q) := by
  have hat : at_ < vs.length := (List.getElem?_eq_some_iff.1 hu).1
  have hblk : ∀ (j : Nat) (v : Value), vs[j]? = some v → ∀ k, v.ownBlock = some k → k < w.heap.size := by
    intro j v hv k hk
    have hj := (List.getElem?_eq_some_iff.1 hv).1
    have hjp : j < pp.length := by rw [← h.1]; exact hj
    exact ((h.2.1 j v _ hv (List.getElem?_eq_getElem hjp)).lt k hk).2
  refine ⟨by simp [h.1], fun i v p hv hp => ?_, fun i j v z hv hz hij => ?_⟩
  · by_cases hi : i = at_
    · subst hi
      rw [List.getElem?_set_self hat] at hv
      rw [List.getElem?_set_self (by rw [← h.1]; exact hat)] at hp
      injection hv with hv
      injection hp with hp
      subst hv hp
      exact ho
    · rw [List.getElem?_set_ne (fun e => hi e.symm)] at hv hp
      exact (h.2.1 i v p hv hp).kept hg (h.2.2 i at_ v u hv hu hi)
  · by_cases hi : i = at_
    · subst hi
      rw [List.getElem?_set_self hat] at hv
      injection hv with hv
      subst hv
      rw [List.getElem?_set_ne hij] at hz
      rcases hl with hl | hl
      · rw [hl]
        exact h.2.2 i j u z hu hz hij
      · right
        rw [hl]
        intro he
        have := hblk j z hz _ he.symm
        omega
    · rw [List.getElem?_set_ne (fun e => hi e.symm)] at hv
      by_cases hj : j = at_
      · subst hj
        rw [List.getElem?_set_self hat] at hz
        injection hz with hz
        subst hz
        rcases hl with hl | hl
        · rw [hl]
          exact h.2.2 i j v u hv hu hi
        · rcases hb : v.ownBlock with _ | k
          · exact .inl rfl
          · right
            rw [hl]
            intro he
            injection he with he
            have := hblk i v hv k hb
            omega
      · rw [List.getElem?_set_ne (fun e => hj e.symm)] at hz
        exact h.2.2 i j v z hv hz hij

/-- 'append(v, u)' onto a row of the call's own, of one cell each: where the new row lies. -/
theorem wpList_append_cell {w : World} {ops : Array Oper} {rest : List Oper} {o : Oper} {a : Act} {Q : Exit → Act → World → Prop} (hgd : o.guard = none) (s x : Operand) (T e : TypeId) (z : Value) (bytes : Nat)
    (ho : o.op = .call { callee := .builtin .append, args := #[s, x], argTypes := #[T, T] }) (ht : Tryz.prog.underlying T = some (.slice e)) (hinfo : (Tryz.prog.info? e).map (fun i => (i.zero, i.size, i.bytes)) = some (some z, 1, bytes)) (hzc : z.cells.size = 1)
    (base : Nat) (v u : Value) (xs : List Value) (hs : a.eval s = v) (hown : w.ownsRow base e 1 v xs.length xs) (g : Nat) (hx : a.eval x = .slice (some ⟨g, 0, none⟩) 1 1) (hc : w.cell? ⟨g, 0, none⟩ = some u) (h1 : u.oneCell' = true)
    (hl : xs.length ≤ 4194304) (hby : bytes ≤ 1024) (hb : base ≤ w.heap.size)
    (h : ∀ v' w', w'.ownsRow base e 1 v' (xs.length + 1) (xs ++ [u]) → w.grownBy w' v.ownBlock → (v'.ownBlock = v.ownBlock ∨ v'.ownBlock = some w.heap.size) → wpList Tryz.prog ops Q rest (a.put o.dst v') w') : wpList Tryz.prog ops Q (o :: rest) a w := by
  obtain ⟨i0, hi, hz0, hz1, hz2⟩ := info_parts hinfo
  refine wpList_append_own_at w hgd s x T ho base e i0 z 1 bytes ht hi hz0 hz1 hz2 hzc (by decide) v xs.length xs hs hown ⟨g, 0, none⟩ 1 1 [u] hx (by simp) ?_ ?_ ?_ ?_ hb ?_
  · intro j y hj
    match j, hj with
    | 0, hj =>
      simp at hj
      subst hj
      rw [add_zero]
      exact hc
  · intro y hy
    simp at hy
    subst hy
    exact h1
  · unfold maxLen; omega
  · have : (xs.length + 1) * bytes ≤ 4194305 * 1024 := Nat.mul_le_mul (by omega) hby
    omega
  · intro v' w' k1 k2 _ k3
    exact h v' w' k1 k2 k3

theorem own_form {w : World} {B : Nat} {e : TypeId} {v : Value} {n : Nat} {xs : List Value} (h : w.ownsRow B e 1 v n xs) (hn : 0 < n) : ∃ g cap, v = .slice (some ⟨g, 0, none⟩) n cap ∧ B ≤ g := by
  rcases h.2 with ⟨_, rfl⟩ | ⟨g, cap, _, hv, hb, _⟩
  · omega
  · exact ⟨g, cap, hv, hb⟩

theorem own_slice {w : World} {B : Nat} {e : TypeId} {v : Value} {n : Nat} {xs : List Value} (h : w.ownsRow B e 1 v n xs) : ∃ A cap, v = .slice A n cap := by
  rcases h.2 with ⟨rfl, rfl⟩ | ⟨g, cap, _, hv, _⟩
  · exact ⟨none, 0, rfl⟩
  · exact ⟨_, cap, hv⟩

/-- The whole, read as a list of lists. -/
theorem Fam.rows {w : World} {B : Nat} {v : Value} {vs : List Value} {pp : List (List Int)} (h : Fam w B vs pp) (ho : w.ownsRow B 26 1 v vs.length vs) : Rows2 w w.heap.size v pp := by
  have hin : ∀ k, k < pp.length → ∃ u, vs[k]? = some u ∧ Row w w.heap.size u (pp.getD k []) := by
    intro k hk
    have hkv : k < vs.length := by rw [h.1]; exact hk
    refine ⟨vs[k], List.getElem?_eq_getElem hkv, ?_⟩
    have := h.2.1 k _ _ (List.getElem?_eq_getElem hkv) (List.getElem?_eq_getElem hk)
    rw [show pp.getD k [] = pp[k] from by simp [List.getD, hk]]
    exact Row.of_own this rfl
  rcases ho.2 with ⟨rfl, h0⟩ | ⟨g, cap, cur, rfl, hb, hg, hcl, hcm, _⟩
  · have hp0 : pp.length = 0 := by rw [← h.1]; exact h0
    have : pp = [] := List.eq_nil_of_length_eq_zero hp0
    subst this
    exact ⟨none, 0, rfl, ⟨Nat.le_refl _, by decide, fun _ => rfl⟩, fun k hk => absurd hk (by simp)⟩
  · refine ⟨some ⟨g, 0, none⟩, cap, by rw [h.1], ⟨by rw [← h.1]; exact hcl, hcm, fun e => by cases e⟩, fun k hk => ?_⟩
    obtain ⟨u, hu, hr⟩ := hin k hk
    exact ⟨_, u, rfl, (ho.lt g rfl).2, ho.cells (g := g) rfl k u hu, hr⟩

end Wp
end Go.Proofs.YtimmmfppehmfcaaGreatDoor
