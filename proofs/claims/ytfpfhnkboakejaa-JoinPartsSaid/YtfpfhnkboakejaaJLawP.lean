/- The parts are sets, apart from one another, and all vertices: plain facts. -/
import Derived.Test.YtfpfhnkboakejaaJPartsW
import Derived.Test.YtfpfhnkboakejaaSPlain
namespace Go.Proofs.Ytfpfhnkboakejaa.Wp

theorem castL_mem {l : List Nat} {z : Int} : z ∈ castL l ↔ ∃ v, v ∈ l ∧ z = (v : Int) := by
  unfold castL
  rw [List.mem_map]
  constructor
  · rintro ⟨v, h, rfl⟩; exact ⟨v, h, rfl⟩
  · rintro ⟨v, h, rfl⟩; exact ⟨v, h, rfl⟩
theorem castL_set {l : List Nat} (h : l.Pairwise (· < ·)) (hm : ∀ v ∈ l, v ≤ 64) : IsSet (castL l) := by
  refine ⟨?_, fun z hz => ?_⟩
  · unfold castL
    rw [List.pairwise_map]
    exact h.imp fun h => by omega
  · obtain ⟨v, hv, rfl⟩ := castL_mem.1 hz
    have := hm v hv
    unfold Fit
    omega
theorem part_isSet {m : Nat} (hm : m ≤ 64) (f : Nat → Nat) (r : Nat) : IsSet (castL (partAt m f r)) :=
  castL_set (partAt_sorted m f r) fun v hv => by have := mem_partAt.1 hv; omega

/-- The first i lists, put together. -/
def unionUpto (pp : List (List Int)) (i : Nat) : List Int := (pp.take i).foldl unionL []
theorem unionUpto_succ {pp : List (List Int)} {i : Nat} (hi : i < pp.length) : unionUpto pp (i + 1) = unionL (unionUpto pp i) (pp.getD i []) := by
  unfold unionUpto
  rw [List.take_succ_eq_append_getElem hi, List.foldl_append]
  simp [List.getD, hi]
theorem unionUpto_set (pp : List (List Int)) : ∀ i, i ≤ pp.length → IsSet (unionUpto pp i)
  | 0, _ => by
    unfold unionUpto
    simp
    exact isSet_nil
  | i + 1, h => by
    rw [unionUpto_succ (by omega)]
    exact union_set _ _
theorem unionUpto_mem {pp : List (List Int)} (hs : ∀ p ∈ pp, IsSet p) (z : Int) : ∀ i, i ≤ pp.length → (z ∈ unionUpto pp i ↔ ∃ j, j < i ∧ z ∈ pp.getD j [])
  | 0, _ => by
    unfold unionUpto
    simp
  | i + 1, h => by
    have hi : i < pp.length := by omega
    have hp : IsSet (pp.getD i []) := hs _ (by simp [List.getD, hi])
    rw [unionUpto_succ hi, mem_union (unionUpto_set pp i (by omega)) hp, unionUpto_mem hs z i (by omega)]
    constructor
    · rintro (⟨j, hj, hz⟩ | hz)
      · exact ⟨j, by omega, hz⟩
      · exact ⟨i, by omega, hz⟩
    · rintro ⟨j, hj, hz⟩
      by_cases hji : j = i
      · subst hji; exact .inr hz
      · exact .inl ⟨j, by omega, hz⟩
theorem unionUpto_len {pp : List (List Int)} (hs : ∀ p ∈ pp, p.length ≤ 64) : ∀ i, i ≤ pp.length → (unionUpto pp i).length ≤ 64 * i
  | 0, _ => by simp [unionUpto]
  | i + 1, h => by
    have hi : i < pp.length := by omega
    have hp : (pp.getD i []).length ≤ 64 := hs _ (by simp [List.getD, hi])
    have ih := unionUpto_len hs i (by omega)
    have hu := union_length (unionUpto pp i) (pp.getD i [])
    rw [unionUpto_succ hi]
    omega

section
variable {m : Nat} {f : Nat → Nat}
theorem pp_at {i : Nat} (hi : i < (partsL m f).length) : ∃ r, (rootsL m f)[i]? = some r ∧ r < m ∧ f r = r ∧ (castP (partsL m f)).getD i [] = castL (partAt m f r) := by
  have hl : (partsL m f).length = (rootsL m f).length := by simp [partsL]
  have hr : (rootsL m f)[i]? = some ((rootsL m f)[i]'(by omega)) := List.getElem?_eq_getElem (by omega)
  have hm := mem_rootsL.1 (List.mem_of_getElem? hr)
  refine ⟨_, hr, hm.1, hm.2, ?_⟩
  unfold castP partsL
  rw [List.getD_eq_getElem?_getD, List.getElem?_map, List.getElem?_map, hr]
  rfl
theorem pp_sets (hm : m ≤ 64) : ∀ p ∈ castP (partsL m f), IsSet p := by
  intro p hp
  obtain ⟨q, hq, rfl⟩ := List.mem_map.1 hp
  obtain ⟨r, _, rfl⟩ := List.mem_map.1 hq
  exact part_isSet hm f r
theorem pp_short (hm : m ≤ 64) : ∀ p ∈ castP (partsL m f), p.length ≤ 64 := by
  intro p hp
  obtain ⟨q, hq, rfl⟩ := List.mem_map.1 hp
  obtain ⟨r, _, rfl⟩ := List.mem_map.1 hq
  rw [castL_length]
  have := partAt_length m f r
  omega
/-- What comes next is apart from all that was. -/
theorem pp_apart (hm : m ≤ 64) {i : Nat} (hi : i < (partsL m f).length) : meetL (unionUpto (castP (partsL m f)) i) ((castP (partsL m f)).getD i []) = [] := by
  have hl : (castP (partsL m f)).length = (partsL m f).length := castP_length _
  have hs := unionUpto_set (castP (partsL m f)) i (by omega)
  obtain ⟨r, hr, hrm, hrr, he⟩ := pp_at hi
  have hp : IsSet ((castP (partsL m f)).getD i []) := by rw [he]; exact part_isSet hm f r
  refine (meet_set _ _).ext isSet_nil fun z => ?_
  rw [mem_meet hs hp, unionUpto_mem (pp_sets hm) z i (by omega), he]
  constructor
  · rintro ⟨⟨j, hj, hz⟩, hz2⟩
    exfalso
    obtain ⟨r', hr', _, _, he'⟩ := pp_at (f := f) (m := m) (i := j) (by omega)
    rw [he'] at hz
    obtain ⟨v, hv, rfl⟩ := castL_mem.1 hz
    obtain ⟨v', hv', e⟩ := castL_mem.1 hz2
    have ev : v = v' := by omega
    subst ev
    have h1 := (mem_partAt.1 hv).2
    have h2 := (mem_partAt.1 hv').2
    rw [h1] at h2
    subst h2
    have := rise_inj (rootsL_rise m f) hr' hr
    omega
  · intro h
    simp at h
/-- All parts together are all vertices. -/
theorem pp_all (hm : m ≤ 64) (hle : ∀ v, f v ≤ v) (hid : ∀ v, f (f v) = f v) : (unionUpto (castP (partsL m f)) (castP (partsL m f)).length).length = m := by
  have hs := unionUpto_set (castP (partsL m f)) _ (Nat.le_refl _)
  have hr : IsSet (castL (List.range m)) := castL_set List.pairwise_lt_range fun v hv => by have := List.mem_range.1 hv; omega
  have he : unionUpto (castP (partsL m f)) (castP (partsL m f)).length = castL (List.range m) := by
    refine hs.ext hr fun z => ?_
    rw [unionUpto_mem (pp_sets hm) z _ (Nat.le_refl _), castL_mem]
    constructor
    · rintro ⟨j, hj, hz⟩
      rw [castP_length] at hj
      obtain ⟨r, _, _, _, he⟩ := pp_at (f := f) (m := m) hj
      rw [he] at hz
      obtain ⟨v, hv, rfl⟩ := castL_mem.1 hz
      exact ⟨v, List.mem_range.2 (mem_partAt.1 hv).1, rfl⟩
    · rintro ⟨v, hv, rfl⟩
      have hvm := List.mem_range.1 hv
      have hfv : f v < m := by have := hle v; omega
      have hat := roots_at (hid v) hfv
      have hlt : cnt (rootB f) (f v) < (partsL m f).length := by
        have := (List.getElem?_eq_some_iff.1 hat).1
        simpa [partsL] using this
      refine ⟨cnt (rootB f) (f v), by rw [castP_length]; exact hlt, ?_⟩
      obtain ⟨r, hr', _, _, he⟩ := pp_at (f := f) (m := m) hlt
      rw [hat] at hr'
      injection hr' with hr'
      rw [he, castL_mem]
      exact ⟨v, mem_partAt.2 ⟨hvm, hr'⟩, rfl⟩
  rw [he, castL_length, List.length_range]
end

/-- One edge less joins one part less at most. -/
theorem rank_less {m : Nat} {e : Nat × Nat} {t : List (Nat × Nat)} (h : Lies m (e :: t)) : nparts m (e :: t) ≤ nparts m t ∧ nparts m t ≤ nparts m (e :: t) + 1 := by
  have hs : nparts m (e :: t) = nparts m (t ++ [e]) := nparts_same fun g => by
    rw [cst_cons, cst_append, cst_one, and_comm]
  have he := h e (by simp)
  have := nparts_step (es := t) he.1 he.2
  rw [hs]
  exact this

end Go.Proofs.Ytfpfhnkboakejaa.Wp
