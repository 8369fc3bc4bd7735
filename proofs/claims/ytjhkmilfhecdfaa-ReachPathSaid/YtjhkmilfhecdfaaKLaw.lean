/- What the program's Max and Cover answer, told as the laws need it: a matching and a cover of one size. -/
import Derived.Test.YtjhkmilfhecdfaaKCover
import Derived.Test.YtjhkmilfhecdfaaKMat
import Derived.Test.YtjhkmilfhecdfaaKCov
import Derived.Test.YtjhkmilfhecdfaaKSize
namespace Go.Proofs.Ytjhkmilfhecdfaa
open Go.RowKit
namespace Wp

theorem max_yes (right : Int) (v : Value) (adj : List (List Int)) (h : mayM right adj = true) (w : World) (hr : Rows2 w w.heap.size v adj) :
    Calls Try.prog 15 #[.int .i64 right, v] w fun e w' => ∃ (u : Value) (hs : Nat → Int) (n : Nat), e = .returned (.tuple #[u, .int .i64 n]) ∧ Row w' w'.heap.size u ((List.range adj.length).map hs) ∧ Below w.heap.size w w' ∧ Mat right.toNat adj hs ∧ n = msize adj hs ∧ Big right.toNat adj n := by
  refine (max_any right v adj w hr).mono fun e w' ⟨u, l, n, he, hrow, hb, hc⟩ => ?_
  rcases hc with ⟨h0, _⟩ | ⟨_, hs, os, hg, hl, hn⟩
  · rw [h] at h0; cases h0
  · subst hl
    exact ⟨u, hs, n, he, hrow, hb, hg.p.mat, hn, hn ▸ great_big hg (onR_of_may h)⟩
theorem max_no (right : Int) (v : Value) (adj : List (List Int)) (h : mayM right adj = false) (w : World) (hr : Rows2 w w.heap.size v adj) :
    Calls Try.prog 15 #[.int .i64 right, v] w fun e w' => ∃ u : Value, e = .returned (.tuple #[u, .int .i64 0]) ∧ Row w' w'.heap.size u [] ∧ Below w.heap.size w w' := by
  refine (max_any right v adj w hr).mono fun e w' ⟨u, l, n, he, hrow, hb, hc⟩ => ?_
  rcases hc with ⟨_, hl, hn⟩ | ⟨h0, _⟩
  · subst hl hn
    exact ⟨u, he, hrow, hb⟩
  · rw [h] at h0; cases h0

/-- What is told is a cover of the least size. -/
structure CovOK (right : Int) (adj : List (List Int)) (a b : List Int) : Prop where
  la : a.length ≤ 64
  lb : b.length ≤ 64
  c : ∀ i : Nat, i < adj.length → hasB a i = true ∨ subB (adj.getD i []) b = true
  s1 : subB a (allL adj.length) = true
  s2 : subB b (allL right) = true
  size : ∃ n, Big right.toNat adj n ∧ a.length + b.length = n

theorem mem_lefts {hs : Nat → Int} {al : Nat → Bool} {n : Nat} {x : Int} : x ∈ leftsL hs al n ↔ ∃ i : Nat, i < n ∧ isL hs al i = true ∧ x = (i : Int) := by
  unfold leftsL
  rw [List.mem_map]
  constructor
  · rintro ⟨i, hi, rfl⟩
    rw [List.mem_filter, List.mem_range] at hi
    exact ⟨i, hi.1, hi.2, rfl⟩
  · rintro ⟨i, h1, h2, rfl⟩
    exact ⟨i, List.mem_filter.2 ⟨List.mem_range.2 h1, h2⟩, rfl⟩
theorem mem_rights {hs : Nat → Int} {al : Nat → Bool} {n : Nat} {x : Int} : x ∈ rightsL hs al n ↔ ∃ i : Nat, i < n ∧ isR hs al i = true ∧ x = hs i := by
  unfold rightsL
  rw [List.mem_map]
  constructor
  · rintro ⟨i, hi, rfl⟩
    rw [List.mem_filter, List.mem_range] at hi
    exact ⟨i, hi.1, hi.2, rfl⟩
  · rintro ⟨i, h1, h2, rfl⟩
    exact ⟨i, List.mem_filter.2 ⟨List.mem_range.2 h1, h2⟩, rfl⟩
theorem lefts_set {hs : Nat → Int} {al : Nat → Bool} {n : Nat} (hn : n ≤ 64) : IsSet (leftsL hs al n) := by
  refine ⟨?_, fun x hx => ?_⟩
  · unfold leftsL
    rw [List.pairwise_map]
    refine List.Pairwise.filter _ ?_
    exact (List.pairwise_lt_range (n := n)).imp fun h => by omega
  · obtain ⟨i, hi, _, rfl⟩ := mem_lefts.1 hx
    unfold Fit
    omega
theorem isR_one {R : Nat} {adj : List (List Int)} {hs os : Nat → Int} {al : Nat → Bool} (hP : Pairs R adj hs os) {i : Nat} (hi : i < adj.length) (h : isR hs al i = true) : ∃ r : Nat, r < R ∧ hs i = (r : Int) := by
  unfold isR at h
  rw [Bool.and_eq_true, decide_eq_true_iff] at h
  rcases hP.l i hi with e | ⟨r, hr, e, _⟩
  · exact absurd e h.1
  · exact ⟨r, hr, e⟩
theorem rights_len {R : Nat} {adj : List (List Int)} {hs os : Nat → Int} {al : Nat → Bool} (hP : Pairs R adj hs os) (hR : R ≤ 64) : (sortL (rightsL hs al adj.length)).length = (rightsL hs al adj.length).length := by
  have hfit : ∀ x ∈ rightsL hs al adj.length, Fit x := fun x hx => by
    obtain ⟨i, hi, h1, rfl⟩ := mem_rights.1 hx
    obtain ⟨r, hr, e⟩ := isR_one hP hi h1
    rw [e]
    unfold Fit
    omega
  have hnd : (rightsL hs al adj.length).Nodup := by
    unfold rightsL
    refine List.pairwise_map.2 (List.Pairwise.imp_of_mem ?_ ((range_nodup adj.length).sublist List.filter_sublist))
    intro a b ha hb hab e
    rw [List.mem_filter, List.mem_range] at ha hb
    obtain ⟨r, _, e1⟩ := isR_one hP ha.1 ha.2
    exact hab (hP.mat.inj a b ha.1 hb.1 e (by rw [e1]; omega))
  have h1 := nodup_le (set_nodup (sortL_set (rightsL hs al adj.length))) fun x hx => ((mem_sortL x _).1 hx).1
  have h2 := nodup_le hnd fun x hx => (mem_sortL x _).2 ⟨hx, hfit x hx⟩
  omega
theorem cov_ok {right : Int} {adj : List (List Int)} {hs os : Nat → Int} {al : Nat → Bool} (hmay : mayM right adj = true) (hg : Great right.toNat adj hs os adj.length) (hr : Reach adj hs os adj.length al) : CovOK right adj (leftsL hs al adj.length) (sortL (rightsL hs al adj.length)) := by
  obtain ⟨h0, h64, hn⟩ := may_bounds hmay
  have hR : right.toNat ≤ 64 := by omega
  have hOn := onR_of_may hmay
  have hset := lefts_set (hs := hs) (al := al) hn
  have hlen := rights_len (al := al) hg.p hR
  have hsum := reach_size hs al adj.length
  have hcov := reach_cov hg.p hr hOn
  have l1 := leftsL_length hs al adj.length
  have l2 := rightsL_length hs al adj.length
  have b1 := cntP_le (isL hs al) adj.length
  have b2 := cntP_le (isR hs al) adj.length
  refine ⟨by omega, by omega, fun i hi => ?_, ?_, ?_, msize adj hs, great_big hg hOn, ?_⟩
  · rcases hL : isL hs al i with _ | _
    · right
      refine (sub_iff (may_set hmay i) (sortL_set _)).2 fun x hx => ?_
      obtain ⟨r, rfl, hrR⟩ := hOn i x hx
      rcases hcov i r hx with h | h
      · rw [hL] at h; cases h
      · obtain ⟨j, hj, h1, h2⟩ := of_decide_eq_true h
        exact (mem_sortL _ _).2 ⟨mem_rights.2 ⟨j, hj, h1, h2.symm⟩, by unfold Fit; omega⟩
    · exact .inl ((has_iff hset _).2 (mem_lefts.2 ⟨i, hi, hL, rfl⟩))
  · refine (sub_iff hset (all_set _)).2 fun x hx => ?_
    obtain ⟨i, hi, _, rfl⟩ := mem_lefts.1 hx
    exact (mem_all (by omega) (by omega) _).2 ⟨by omega, by omega⟩
  · refine (sub_iff (sortL_set _) (all_set _)).2 fun x hx => ?_
    obtain ⟨i, hi, h1, rfl⟩ := mem_rights.1 ((mem_sortL x _).1 hx).1
    obtain ⟨r, hrR, e⟩ := isR_one hg.p hi h1
    rw [e]
    exact (mem_all h0 (by omega) _).2 ⟨by omega, by omega⟩
  · unfold msize
    omega

theorem cover_yes (right : Int) (v : Value) (adj : List (List Int)) (h : mayM right adj = true) (w : World) (hr : Rows2 w w.heap.size v adj) :
    Calls Try.prog 16 #[.int .i64 right, v] w fun e w' => ∃ (ua ub : Value) (a b : List Int), e = .returned (.tuple #[ua, ub]) ∧ Row w' w'.heap.size ua a ∧ Row w' w'.heap.size ub b ∧ Below w.heap.size w w' ∧ CovOK right adj a b := by
  refine (cover_any right v adj w hr).mono fun e w' ⟨ua, ub, a, b, he, ha, hb, hB, hc⟩ => ?_
  rcases hc with ⟨h0, _⟩ | ⟨_, hs, os, al, hg, hre, rfl, rfl⟩
  · rw [h] at h0; cases h0
  · exact ⟨ua, ub, _, _, he, ha, hb, hB, cov_ok h hg hre⟩
theorem cover_no (right : Int) (v : Value) (adj : List (List Int)) (h : mayM right adj = false) (w : World) (hr : Rows2 w w.heap.size v adj) :
    Calls Try.prog 16 #[.int .i64 right, v] w fun e w' => ∃ (ua ub : Value), e = .returned (.tuple #[ua, ub]) ∧ Row w' w'.heap.size ua [] ∧ Row w' w'.heap.size ub [] ∧ Below w.heap.size w w' := by
  refine (cover_any right v adj w hr).mono fun e w' ⟨ua, ub, a, b, he, ha, hb, hB, hc⟩ => ?_
  rcases hc with ⟨_, rfl, rfl⟩ | ⟨h0, _⟩
  · exact ⟨ua, ub, he, ha, hb, hB⟩
  · rw [h] at h0; cases h0
theorem k6may_is (right : Int) (v : Value) (adj : List (List Int)) (b : Bool) (h : mayM right adj = b) (w : World) (hr : Rows2 w w.heap.size v adj) :
    Calls Try.prog 13 #[.int .i64 right, v] w (Says w b) := by
  subst h
  exact k6may_any right v adj w hr
theorem covers_ok (R : Nat) (va vl vr : Value) (adj : List (List Int)) (a b : List Int) (h : mayM R adj = true) (hc : CovOK R adj a b) (w : World) (hr : Rows2 w w.heap.size va adj) (hl : Row w w.heap.size vl a) (hrr : Row w w.heap.size vr b) :
    Calls Try.prog 20 #[.int .i64 R, va, vl, vr] w (Says w true) :=
  covers_true R va vl vr adj a b w hr hl hrr (may_bounds h).2.2 hc.la hc.lb (may_len h) hc.c hc.s1 hc.s2

end Wp
end Go.Proofs.Ytjhkmilfhecdfaa
