/- The document's own way to what is come to, and to the shortest way, plain. Nothing of the program here. -/
import Derived.Test.YtmgfhehnehcmpaaRShortP
namespace Go.Proofs.Ytmgfhehnehcmpaa
open Go.RowKit
namespace Wp

/-- A set, and what an arc leads to from its first k. -/
def nearK (adj : List (List Int)) (l : List Int) : Nat → List Int
  | 0 => l
  | k + 1 => unionL (nearK adj l k) (adj.getD (l.getD k 0).toNat [])
def nearL (adj : List (List Int)) (l : List Int) : List Int := nearK adj l l.length
def itL (adj : List (List Int)) (l : List Int) : Nat → List Int
  | 0 => l
  | k + 1 => nearL adj (itL adj l k)
theorem itL_front {adj : List (List Int)} (l : List Int) : ∀ k, itL adj (nearL adj l) k = itL adj l (k + 1)
  | 0 => rfl
  | k + 1 => by
    show nearL adj (itL adj (nearL adj l) k) = nearL adj (itL adj l (k + 1))
    rw [itL_front l k]
section
variable {adj : List (List Int)} (hd : digB adj = true)
include hd
theorem arcs_set (x : Nat) : IsSet (adj.getD x []) := ⟨(digB_dig hd).1.up x, fun z hz => by have := (digB_dig hd).1.pt x z hz; have := (digB_dig hd).2; unfold Fit; omega⟩
theorem nearK_ok {l : List Int} (hl : Pts adj.length l) : ∀ k, k ≤ l.length → Pts adj.length (nearK adj l k) ∧ ∀ x, x ∈ nearK adj l k ↔ x ∈ l ∨ ∃ y ∈ l.take k, x ∈ adj.getD y.toNat []
  | 0, _ => ⟨hl, fun x => by simp [nearK]⟩
  | k + 1, hk => by
    obtain ⟨h1, h2⟩ := nearK_ok hl k (by omega)
    have hset : IsSet (nearK adj l k) := ok_set (pts_ok (digB_dig hd).2 h1)
    have hm := mem_union hset (arcs_set hd (l.getD k 0).toNat)
    have ht : l.take (k + 1) = l.take k ++ [l.getD k 0] := by
      rw [List.take_succ_eq_append_getElem (by omega : k < l.length)]
      simp [List.getD, show k < l.length by omega]
    refine ⟨⟨(union_set _ _).1, fun x hx => ?_⟩, fun x => ?_⟩
    · rcases (hm x).1 hx with h | h
      · exact h1.pt x h
      · exact (digB_dig hd).1.pt _ x h
    · show x ∈ unionL (nearK adj l k) (adj.getD (l.getD k 0).toNat []) ↔ _
      rw [hm x, h2 x, ht]
      constructor
      · rintro ((h | ⟨y, hy, h⟩) | h)
        · exact .inl h
        · exact .inr ⟨y, List.mem_append.2 (.inl hy), h⟩
        · exact .inr ⟨_, List.mem_append.2 (.inr (List.mem_singleton.2 rfl)), h⟩
      · rintro (h | ⟨y, hy, h⟩)
        · exact .inl (.inl h)
        · rcases List.mem_append.1 hy with hy | hy
          · exact .inl (.inr ⟨y, hy, h⟩)
          · rw [List.mem_singleton] at hy
            rw [hy] at h
            exact .inr h
theorem nearL_ok {l : List Int} (hl : Pts adj.length l) : Pts adj.length (nearL adj l) ∧ ∀ x, x ∈ nearL adj l ↔ x ∈ l ∨ ∃ y ∈ l, x ∈ adj.getD y.toNat [] := by
  have := nearK_ok hd hl l.length (Nat.le_refl _)
  rw [List.take_length] at this
  exact this
theorem itL_ok {l : List Int} (hl : Pts adj.length l) : ∀ k, Pts adj.length (itL adj l k)
  | 0 => hl
  | k + 1 => (nearL_ok hd (itL_ok hl k)).1
theorem itL_near {dst : List Int} : ∀ k l, Pts adj.length l → ((∃ z ∈ itL adj l k, z ∈ dst) ↔ ∃ y ∈ l, Near adj dst k y)
  | 0, l, _ => Iff.rfl
  | k + 1, l, hl => by
    have hn := nearL_ok hd hl
    rw [← itL_front l k, itL_near k _ hn.1]
    constructor
    · rintro ⟨y, hy, h⟩
      rcases (hn.2 y).1 hy with hy | ⟨z, hz, hy⟩
      · exact ⟨y, hy, .inl h⟩
      · exact ⟨z, hz, .inr ⟨y, hy, h⟩⟩
    · rintro ⟨y, hy, h | ⟨z, hz, h⟩⟩
      · exact ⟨y, (hn.2 y).2 (.inl hy), h⟩
      · exact ⟨z, (hn.2 z).2 (.inr ⟨y, hy, hz⟩), h⟩
/-- What one comes to, step by step, is what one comes to. -/
theorem from_it {src : List Int} (hs : okL adj.length src = true) : itL adj src adj.length = fromL adj src := by
  obtain ⟨par, h⟩ := fin_done (digB_dig hd).1 (ok_pts hs)
  have hp := itL_ok hd (ok_pts hs) adj.length
  have hset : IsSet (itL adj src adj.length) := ok_set (pts_ok (digB_dig hd).2 hp)
  have hin : ∀ k x, x ∈ itL adj src k → x ∈ fromL adj src := by
    intro k
    induction k with
    | zero => exact fun x hx => from_has hd hs hx
    | succ k ih =>
      intro x hx
      rcases ((nearL_ok hd (itL_ok hd (ok_pts hs) k)).2 x).1 hx with hx | ⟨y, hy, hx⟩
      · exact ih x hx
      · exact from_closed hd hs (ih y hy) hx
  have hup : ∀ k m, k ≤ m → ∀ x, x ∈ itL adj src k → x ∈ itL adj src m := by
    intro k m hkm
    induction m with
    | zero => intro x hx; rw [show k = 0 by omega] at hx; exact hx
    | succ m ih =>
      intro x hx
      by_cases e : k = m + 1
      · rw [← e]; exact hx
      · exact ((nearL_ok hd (itL_ok hd (ok_pts hs) m)).2 x).2 (.inl (ih (by omega) x hx))
  have hout : ∀ j k, Lev par src.length j k → j < (finS adj src).1.length → cAt (finS adj src).1 j ∈ itL adj src k := by
    intro j k hk
    induction hk with
    | z j hj => exact fun _ => cAt_src h hj
    | s j k hs' hk ih =>
      intro hj
      obtain ⟨hpj, _, _, harc, _⟩ := Bfs.old h j hs' hj
      exact ((nearL_ok hd (itL_ok hd (ok_pts hs) k)).2 _).2 (.inr ⟨_, ih (by omega), harc⟩)
  have hlev : ∀ j k, Lev par src.length j k → j < (finS adj src).1.length → k ≤ j := by
    intro j k hk
    induction hk with
    | z => exact fun _ => Nat.zero_le _
    | s j k hs' hk ih =>
      intro hj
      obtain ⟨hpj, _⟩ := Bfs.old h j hs' hj
      have := ih (by omega)
      omega
  refine hset.ext from_set fun x => ⟨hin _ x, fun hx => ?_⟩
  obtain ⟨j, hj, e⟩ := mem_cAt ((mem_from hd hs x).1 hx)
  obtain ⟨k, hk⟩ := lev_ex h j hj
  have h1 := hlev j k hk hj
  have h2 := h.len
  rw [← e]
  exact hup k _ (by omega) _ (hout j k hk hj)
/-- What is near is near by fewer arcs than points. -/
theorem near_bound {dst : List Int} (ht : okL adj.length dst = true) {v : Int} (hv : 0 ≤ v ∧ v < (adj.length : Int)) {k : Nat} (hk : Near adj dst k v) : ∃ m, m ≤ adj.length ∧ m ≤ k ∧ Near adj dst m v := by
  have hs : okL adj.length [v] = true := pts_ok (digB_dig hd).2 ⟨by simp, fun y hy => by rw [List.mem_singleton] at hy; rw [hy]; exact hv⟩
  obtain ⟨l, b, _, hok⟩ := path_ok_ex hd hs ht
  cases b with
  | true =>
    obtain ⟨n, hg⟩ := path_greedy hs hok
    have hlen := (path_pf hd hs ht hok).len
    rw [hg.length] at hlen
    have hnk : n ≤ k := Nat.le_of_not_lt fun hlt => hg.none v (by simp) k hlt hk
    match l, hg with
    | [], hg => exact absurd hg.length (by simp)
    | x :: l, hg =>
      have hx := hg.mem
      rw [List.mem_singleton] at hx
      have := hg.near 0 (by simp)
      rw [hx] at this
      exact ⟨n, by omega, hnk, this⟩
  | false =>
    exfalso
    rcases hok with ⟨h0, _⟩ | ⟨_, ⟨_, _, hno⟩ | ⟨h, _⟩⟩
    · rw [good_yes hd hs, ht] at h0
      cases h0
    · obtain ⟨par, hdone⟩ := fin_done (digB_dig hd).1 (ok_pts hs)
      obtain ⟨y, h1, h2⟩ := near_come hdone k v (hdone.has (by simp)) hk
      exact hno y h1 h2
    · cases h
end
/-- By how many arcs at least; -1: not at all. -/
def StepsIs (adj : List (List Int)) (dst : List Int) (v s : Int) : Prop :=
  (∃ k : Nat, s = (k : Int) ∧ Near adj dst k v ∧ ∀ m, m < k → ¬ Near adj dst m v) ∨ (s = -1 ∧ ∀ m, ¬ Near adj dst m v)
/-- Of the first i of some the one from which it is nearest. -/
def LeastIs (adj : List (List Int)) (dst S : List Int) (i : Nat) (b : Int) : Prop :=
  (b = -1 ∧ ∀ y ∈ S.take i, ∀ k, ¬ Near adj dst k y) ∨
  (∃ k, b ∈ S.take i ∧ Near adj dst k b ∧ (∀ y ∈ S.take i, ∀ m, m < k → ¬ Near adj dst m y) ∧ ∀ y ∈ S.take i, y < b → ¬ Near adj dst k y)
section
variable {adj : List (List Int)} {dst S : List Int} {i : Nat} {b s : Int}
theorem steps_near {v : Int} {k : Nat} (h : StepsIs adj dst v s) (hn : Near adj dst k v) (hno : ∀ m, m < k → ¬ Near adj dst m v) : s = (k : Int) := by
  rcases h with ⟨k', rfl, h1, h2⟩ | ⟨_, h⟩
  · rcases Nat.lt_trichotomy k k' with h | h | h
    · exact absurd hn (h2 k h)
    · rw [h]
    · exact absurd h1 (hno k' h)
  · exact absurd hn (h k)
theorem least_zero : LeastIs adj dst S 0 (-1) := .inl ⟨rfl, fun y hy => by simp at hy⟩
theorem take_next (hi : i < S.length) : S.take (i + 1) = S.take i ++ [S.getD i 0] := by
  rw [List.take_succ_eq_append_getElem hi]; simp [List.getD, hi]
theorem take_all {p : Int → Prop} (hi : i < S.length) (h : ∀ y ∈ S.take i, p y) (h2 : p (S.getD i 0)) : ∀ y ∈ S.take (i + 1), p y := fun y hy => by
  rw [take_next hi, List.mem_append, List.mem_singleton] at hy
  rcases hy with hy | rfl
  · exact h y hy
  · exact h2
theorem take_less (hu : S.Pairwise (· < ·)) (hi : i < S.length) : ∀ y ∈ S.take i, y < S.getD i 0 := fun y hy => by
  have h := hu
  rw [← List.take_append_drop i S, List.pairwise_append] at h
  refine h.2.2 y hy _ ?_
  have e : S.drop i = S[i] :: S.drop (i + 1) := List.drop_eq_getElem_cons hi
  rw [e]
  exact List.mem_cons.2 (.inl (by simp [List.getD, hi]))
/-- It cannot be come to from there. -/
theorem least_never (hi : i < S.length) (h : LeastIs adj dst S i b) (hs : StepsIs adj dst (S.getD i 0) s) (hneg : s < 0) : LeastIs adj dst S (i + 1) b := by
  have hno : ∀ m, ¬ Near adj dst m (S.getD i 0) := by
    rcases hs with ⟨k, rfl, _⟩ | ⟨_, h⟩
    · omega
    · exact h
  rcases h with ⟨e, h⟩ | ⟨k, h1, h2, h3, h4⟩
  · exact .inl ⟨e, take_all hi h hno⟩
  · exact .inr ⟨k, by rw [take_next hi]; exact List.mem_append.2 (.inl h1), h2, take_all hi h3 fun m _ => hno m, take_all hi h4 fun _ => hno k⟩
theorem least_first (hi : i < S.length) (h : LeastIs adj dst S i b) (hb : b = -1) (hpt : ∀ y ∈ S.take i, 0 ≤ y) (hs : StepsIs adj dst (S.getD i 0) s) (hpos : 0 ≤ s) : LeastIs adj dst S (i + 1) (S.getD i 0) := by
  rcases hs with ⟨k, rfl, h1, h2⟩ | ⟨e, _⟩
  · have hall : ∀ y ∈ S.take i, ∀ k, ¬ Near adj dst k y := by
      rcases h with ⟨_, h⟩ | ⟨_, h, _⟩
      · exact h
      · have := hpt _ h
        omega
    exact .inr ⟨k, by rw [take_next hi]; exact List.mem_append.2 (.inr (by simp)), h1, take_all hi (fun y hy m _ => hall y hy m) h2, take_all hi (fun y hy _ => hall y hy k) (fun hlt => by omega)⟩
  · omega
theorem least_better (hi : i < S.length) (h : LeastIs adj dst S i b) (hb : 0 ≤ b) {sb : Int} (hsb : StepsIs adj dst b sb) (hs : StepsIs adj dst (S.getD i 0) s) (hpos : 0 ≤ s) (hlt : s < sb) : LeastIs adj dst S (i + 1) (S.getD i 0) := by
  rcases h with ⟨e, _⟩ | ⟨k, h1, h2, h3, h4⟩
  · omega
  · have hk := steps_near hsb h2 (h3 b h1)
    rcases hs with ⟨k', rfl, g1, g2⟩ | ⟨e, _⟩
    · have hkk : k' < k := by omega
      exact .inr ⟨k', by rw [take_next hi]; exact List.mem_append.2 (.inr (by simp)), g1, take_all hi (fun y hy m hm => h3 y hy m (by omega)) g2, take_all hi (fun y hy _ => h3 y hy k' hkk) (fun hlt => by omega)⟩
    · omega
theorem least_keep (hu : S.Pairwise (· < ·)) (hi : i < S.length) (h : LeastIs adj dst S i b) (hb : 0 ≤ b) {sb : Int} (hsb : StepsIs adj dst b sb) (hs : StepsIs adj dst (S.getD i 0) s) (hpos : 0 ≤ s) (hlt : ¬ s < sb) : LeastIs adj dst S (i + 1) b := by
  rcases h with ⟨e, _⟩ | ⟨k, h1, h2, h3, h4⟩
  · omega
  · have hk := steps_near hsb h2 (h3 b h1)
    have hlb := take_less hu hi b h1
    rcases hs with ⟨k', rfl, g1, g2⟩ | ⟨e, _⟩
    · exact .inr ⟨k, by rw [take_next hi]; exact List.mem_append.2 (.inl h1), h2, take_all hi h3 (fun m hm => g2 m (by omega)), take_all hi h4 (fun hlt => by omega)⟩
    · omega
/-- The least one is the first of the way. -/
theorem least_greedy {n : Nat} {x : Int} {l : List Int} (hg : Greedy adj dst S n (x :: l)) (h : LeastIs adj dst S S.length b) : b = x := by
  unfold LeastIs at h
  rw [List.take_length] at h
  have hx := hg.near 0 (by simp)
  have hm := hg.mem
  rcases h with ⟨_, h⟩ | ⟨k, h1, h2, h3, h4⟩
  · exact absurd hx (h x hm _)
  · have hkn : k = n := by
      rcases Nat.lt_trichotomy k n with h | h | h
      · exact absurd h2 (hg.none b h1 k h)
      · exact h
      · exact absurd hx (h3 x hm n h)
    subst hkn
    rcases Int.lt_trichotomy b x with h | h | h
    · cases hg with
      | stop _ _ _ _ hl => exact absurd h2 (hl b h1 h)
      | step _ _ _ _ _ _ _ hl _ => exact absurd h2 (hl b h1 h)
    · exact h
    · exact absurd hx (h4 x hm h)
theorem least_none {n : Nat} {x : Int} {l : List Int} (hg : Greedy adj dst S n (x :: l)) (h : LeastIs adj dst S S.length b) (hpt : ∀ y ∈ S, 0 ≤ y) : ¬ b < 0 := by
  rw [least_greedy hg h]
  have := hpt x hg.mem
  omega
end
theorem no_least {adj : List (List Int)} {src dst : List Int} (hd : digB adj = true) (hs : okL adj.length src = true) (ht : okL adj.length dst = true) (h : PathOK adj src dst [] false) {b : Int} (hb : LeastIs adj dst src src.length b) : b = -1 := by
  unfold LeastIs at hb
  rw [List.take_length] at hb
  rcases hb with ⟨e, _⟩ | ⟨k, h1, h2, _⟩
  · exact e
  · exfalso
    rcases h with ⟨h0, _⟩ | ⟨_, ⟨_, _, hno⟩ | ⟨h, _⟩⟩
    · rw [good_yes hd hs, ht] at h0
      cases h0
    · obtain ⟨par, hdone⟩ := fin_done (digB_dig hd).1 (ok_pts hs)
      obtain ⟨y, g1, g2⟩ := near_come hdone k b (hdone.has h1) h2
      exact hno y g1 g2
    · cases h

end Wp
end Go.Proofs.Ytmgfhehnehcmpaa
