/- What the laws of kinds say, plain; and which elements of the inner one a matroid's are. -/
import Derived.Test.YtolnkgghejhaeaaGreatDoorZQ
namespace Go.Proofs.YtolnkgghejhaeaaGreatDoor.Wp
open Go Go.RowKit

def dualOf (m : Mat) : Mat := .mk 8 m.n 0 0 [] [m]
def sumOf (n : Int) (l : List Mat) : Mat := .mk 9 n 0 0 [] l
def restOf (n : Int) (r : List Int) (m : Mat) : Mat := .mk 5 n 0 0 [r] [m]
def contOf (n : Int) (r : List Int) (m : Mat) : Mat := .mk 6 n 0 0 [r] [m]

theorem chk_bad {m : Mat} (h : bad m ≠ 0) : chk m ≠ 0 := by
  intro e
  have h2 := (chk_ok.1 e).2
  rw [ok, decide_eq_false h] at h2
  cases h2
theorem ok_bad {k : Nat} {m : Mat} (h : ok (k + 1) m = true) : bad m = 0 := by
  rw [ok, Bool.and_eq_true] at h
  exact of_decide_eq_true h.1
theorem ok_inner {k : Nat} {m x : Mat} (h : ok (k + 1) m = true) (hx : x ∈ m.i) : ok k x = true := by
  rw [ok, Bool.and_eq_true] at h
  exact List.all_eq_true.1 h.2 x hx
theorem ok_mk {k : Nat} {m : Mat} (h : bad m = 0) (hi : ∀ x ∈ m.i, ok k x = true) : ok (k + 1) m = true := by
  rw [ok, decide_eq_true h, Bool.true_and]
  exact List.all_eq_true.2 hi
theorem chk_zero_bad {m : Mat} (h : chk m = 0) : bad m = 0 := ok_bad (chk_ok.1 h).2
/-- Of what is no more than 3 deep: as far as 3 is far enough. -/
theorem chk3 {m : Mat} : chk m = 0 ∧ dp 4 m ≤ 3 ↔ dp 3 m ≤ 3 ∧ ok 3 m = true := by
  have h1 : dp 3 m = min 4 (dp 4 m) := dp_step 3 m
  constructor
  · rintro ⟨h, h3⟩
    have h3' : dp 3 m ≤ 3 := by omega
    exact ⟨h3', by rw [← ok_step h3']; exact (chk_ok.1 h).2⟩
  · rintro ⟨h, h2⟩
    exact ⟨chk_ok.2 ⟨by omega, by rw [ok_step h]; exact h2⟩, by omega⟩
theorem maxN_one (x : Nat) : maxN [x] = x := by simp [maxN]
theorem dp_dual (m : Mat) : dp 4 (dualOf m) = 1 + dp 3 m := by
  show (if nest 8 then 1 + maxN [dp 3 m] else 1) = _
  rw [if_pos (by decide), maxN_one]
theorem wrap_small {x : Int} (h1 : -1000000 ≤ x) (h2 : x ≤ 1000000) : IntKind.i64.wrap x = x := by rw [IntKind.wrap_i64]; omega
theorem wrap_le {x : Int} (h1 : -9223372036854775808 ≤ x) (h2 : x ≤ 9223372036854775807) : IntKind.i64.wrap x = x := by rw [IntKind.wrap_i64]; omega
theorem fits_seven {m : Mat} (h : m.t = 7 ∨ m.t = 8 ∨ m.t = 9) : fitsB m = decide (m.n = tog m.i) := by
  unfold fitsB
  rw [if_neg (by omega), if_neg (by omega), if_neg (by omega), if_neg (by omega), if_neg (by omega), if_neg (by omega), if_neg (by omega)]

/-! ### One deeper, as its own dual -/
theorem bounds_no {m : Mat} (h : chk m ≠ 0) : chk (dualOf m) ≠ 0 := by
  intro e
  obtain ⟨h1, h2⟩ := chk_ok.1 e
  rw [dp_dual] at h1
  have h3 : ok 3 m = true := ok_inner (k := 3) (m := dualOf m) h2 (by show m ∈ [m]; simp)
  exact h (chk3.2 ⟨by omega, h3⟩).1
theorem within {m x : Mat} (h : chk m = 0) (hx : x ∈ m.i) : chk x = 0 ∧ dp 4 x < dp 4 m := by
  obtain ⟨h1, h2⟩ := chk_ok.1 h
  have hb := ok_bad h2
  have hn : nest m.t := by
    refine Decidable.by_contra fun hn => ?_
    rw [bad_plain hb hn] at hx
    cases hx
  have h3 : dp 3 x + 1 ≤ dp 4 m := dp_inner (k := 3) hn hx
  obtain ⟨h4, h5⟩ := chk3.2 ⟨by omega, ok_inner h2 hx⟩
  have h6 : dp 3 x = min 4 (dp 4 x) := dp_step 3 x
  exact ⟨h4, by omega⟩
theorem deep_dual {m : Mat} (h : chk m = 0) : dp 4 (dualOf m) = dp 4 m + 1 := by
  have h1 := (chk_ok.1 h).1
  have h2 : dp 3 m = min 4 (dp 4 m) := dp_step 3 m
  rw [dp_dual]
  omega
theorem chk_n {m : Mat} (h : chk m = 0) : 0 ≤ m.n ∧ m.n ≤ 64 := by
  obtain ⟨_, h2, _⟩ := bad_zero (chk_zero_bad h)
  exact ⟨h2.1, h2.2.1⟩
theorem tog_one (m : Mat) (h : chk m = 0) : tog [m] = m.n := by
  obtain ⟨h1, h2⟩ := chk_n h
  show IntKind.i64.wrap (0 + m.n) = _
  rw [wrap_small (by omega) (by omega)]
  omega
theorem bad_dual {m : Mat} (h : chk m = 0) : bad (dualOf m) = 0 := by
  obtain ⟨h1, h2⟩ := chk_n h
  refine bad_of (by show (0 : Int) ≤ 8 ∧ (8 : Int) < 10; omega) ⟨h1, h2, by show (0 : Int) ≤ 0; decide, by show (0 : Int) ≤ 64; decide⟩ (by rfl) ?_
  rw [fits_seven (.inr (.inl rfl))]
  exact decide_eq_true (tog_one m h).symm
theorem dual_four {m : Mat} (h : chk m = 0) (h4 : dp 4 m = 4) : chk (dualOf m) = 91 := by
  unfold chk
  rw [deep_dual h, h4, if_pos rfl]
theorem dual_less {m : Mat} (h : chk m = 0) (h4 : dp 4 m ≤ 3) : chk (dualOf m) = 0 := by
  refine chk_ok.2 ⟨by rw [deep_dual h]; omega, ok_mk (bad_dual h) fun x hx => ?_⟩
  have : x = m := by simpa using (show x ∈ [m] from hx)
  subst this
  exact (chk3.1 ⟨h, h4⟩).2

/-! ### Another kind, a list more, one more within -/
theorem tag_off {t n a b : Int} {l : List (List Int)} {i : List Mat} (h : t < 0 ∨ 9 < t) : chk (.mk t n a b l i) ≠ 0 := by
  apply chk_bad
  have : bad (.mk t n a b l i) = 1 := if_pos (by show t < 0 ∨ 10 ≤ t; omega)
  omega
theorem form_of {t n a b : Int} {l l' : List (List Int)} {i i' : List Mat} (h : chk (.mk t n a b l i) = 0) (h' : chk (.mk t n a b l' i') = 0) : l.length = l'.length := by
  have h1 := (takes_iff.1 (bad_zero (chk_zero_bad h)).2.2.1).2.2.1
  have h2 := (takes_iff.1 (bad_zero (chk_zero_bad h')).2.2.1).2.2.1
  have h3 : (l.length : Int) = l'.length := h1.trans h2.symm
  omega
theorem list_more {t n a b : Int} {l x : List (List Int)} {i : List Mat} (h : chk (.mk t n a b l i) = 0) (hx : x ≠ []) : chk (.mk t n a b (l ++ x) i) ≠ 0 := by
  intro e
  have := form_of h e
  rw [List.length_append] at this
  cases x with
  | nil => exact hx rfl
  | cons y r => simp at this
theorem tog_snoc (l : List Mat) (x : Mat) : tog (l ++ [x]) = IntKind.i64.wrap (tog l + x.n) := by
  unfold tog
  rw [List.foldl_append]
  rfl
theorem inner_more {t n a b : Int} {l : List (List Int)} {i : List Mat} (h : chk (.mk t n a b l i) = 0) : chk (.mk t n a b l (i ++ [.mk 0 1 1 0 [] []])) ≠ 0 := by
  intro e
  obtain ⟨⟨a1, a2⟩, ⟨a3, a4, _⟩, a5, a6⟩ := bad_zero (chk_zero_bad h)
  obtain ⟨_, _, b5, b6⟩ := bad_zero (chk_zero_bad e)
  have c1 := (takes_iff.1 a5).2.2.2.1
  have c2 := (takes_iff.1 b5).2.2.2.2
  have c1' : (form t).least ≤ (i.length : Int) := c1
  have c2' : ((i ++ [Mat.mk 0 1 1 0 [] []]).length : Int) ≤ (form t).most := c2
  have a1' : 0 ≤ t := a1
  have a2' : t < 10 := a2
  rw [List.length_append] at c2'
  rcases (by omega : t = 0 ∨ t = 1 ∨ t = 2 ∨ t = 3 ∨ t = 4 ∨ t = 5 ∨ t = 6 ∨ t = 7 ∨ t = 8 ∨ t = 9) with rfl | rfl | rfl | rfl | rfl | rfl | rfl | rfl | rfl | rfl
  · have : (form 0).most = 0 := rfl
    simp only [List.length_singleton] at c2'; omega
  · have : (form 1).most = 0 := rfl
    simp only [List.length_singleton] at c2'; omega
  · have : (form 2).most = 0 := rfl
    simp only [List.length_singleton] at c2'; omega
  · have : (form 3).most = 0 := rfl
    simp only [List.length_singleton] at c2'; omega
  · have : (form 4).most = 0 := rfl
    simp only [List.length_singleton] at c2'; omega
  · have : (form 5).most = 1 := rfl
    have : (form 5).least = 1 := rfl
    simp only [List.length_singleton] at c2'; omega
  · have : (form 6).most = 1 := rfl
    have : (form 6).least = 1 := rfl
    simp only [List.length_singleton] at c2'; omega
  · have : (form 7).most = 1 := rfl
    have : (form 7).least = 1 := rfl
    simp only [List.length_singleton] at c2'; omega
  · have : (form 8).most = 1 := rfl
    have : (form 8).least = 1 := rfl
    simp only [List.length_singleton] at c2'; omega
  · rw [fits_seven (.inr (.inr rfl))] at a6 b6
    have d1 : n = tog i := of_decide_eq_true a6
    have d2 : n = tog (i ++ [Mat.mk 0 1 1 0 [] []]) := of_decide_eq_true b6
    have a3' : 0 ≤ n := a3
    have a4' : n ≤ 64 := a4
    rw [tog_snoc, ← d1] at d2
    have : IntKind.i64.wrap (n + Mat.n (.mk 0 1 1 0 [] [])) = n + 1 := wrap_small (by show _ ≤ n + 1; omega) (by show n + 1 ≤ _; omega)
    omega

/-! ### Sums -/
theorem tog_le {l : List Mat} (h : ∀ x ∈ l, 0 ≤ x.n ∧ x.n ≤ 64) (hl : l.length ≤ 10) : 0 ≤ tog l ∧ tog l ≤ 64 * l.length := by
  have key : ∀ (l : List Mat) (s : Int), (∀ x ∈ l, 0 ≤ x.n ∧ x.n ≤ 64) → 0 ≤ s → s + 64 * l.length ≤ 1000000 → s ≤ l.foldl (fun n x => IntKind.i64.wrap (n + x.n)) s ∧ l.foldl (fun n x => IntKind.i64.wrap (n + x.n)) s ≤ s + 64 * l.length := by
    intro l
    induction l with
    | nil => intro s _ _ _; simp
    | cons x r ih =>
      intro s hx h0 hs
      have h1 := hx x (by simp)
      rw [List.length_cons] at hs
      rw [List.foldl_cons, wrap_small (by omega) (by omega)]
      have := ih (s + x.n) (fun y hy => hx y (by simp [hy])) (by omega) (by omega)
      rw [List.length_cons]
      omega
  have := key l 0 h (by omega) (by omega)
  unfold tog
  omega
theorem dp_sum (n : Int) (l : List Mat) : dp 4 (sumOf n l) = 1 + maxN (l.map (dp 3)) := by
  show (if nest 9 then 1 + maxN (l.map (dp 3)) else 1) = _
  rw [if_pos (by decide)]
theorem dp34 (l : List Mat) : maxN (l.map (dp 3)) = min 4 (maxN (l.map (dp 4))) := by
  rw [← min_maxN, List.map_map]
  congr 1
  exact List.map_congr_left fun x _ => dp_step 3 x
theorem sums_iff {l : List Mat} (h : ∀ x ∈ l, chk x = 0) (hl : l.length ≤ 10) : chk (sumOf (tog l) l) = 0 ↔ 1 ≤ l.length ∧ l.length ≤ 8 ∧ tog l ≤ 64 ∧ maxN (l.map (dp 4)) ≤ 3 := by
  have hn := tog_le (fun x hx => chk_n (h x hx)) hl
  constructor
  · intro e
    obtain ⟨h1, h2⟩ := chk_ok.1 e
    rw [dp_sum, dp34] at h1
    obtain ⟨_, ⟨_, b2, _⟩, b3, _⟩ := bad_zero (ok_bad h2)
    have c1 : (1 : Int) ≤ (l.length : Int) := (takes_iff.1 b3).2.2.2.1
    have c2 : (l.length : Int) ≤ 8 := (takes_iff.1 b3).2.2.2.2
    have b2' : tog l ≤ 64 := b2
    omega
  · rintro ⟨h1, h2, h3, h4⟩
    refine chk_ok.2 ⟨by rw [dp_sum, dp34]; omega, ok_mk (bad_of (by show (0 : Int) ≤ 9 ∧ (9 : Int) < 10; omega) ⟨hn.1, h3, by show (0 : Int) ≤ 0; decide, by show (0 : Int) ≤ 64; decide⟩ (takes_iff.2 ⟨.inr rfl, .inr rfl, rfl, ?_, ?_⟩) ?_) fun x hx => ?_⟩
    · show (1 : Int) ≤ (l.length : Int); omega
    · show (l.length : Int) ≤ 8; omega
    · rw [fits_seven (.inr (.inr rfl))]
      exact decide_eq_true rfl
    · have hx' : x ∈ l := hx
      have := le_maxN (List.mem_map_of_mem (f := dp 4) hx')
      exact (chk3.1 ⟨h x hx', by omega⟩).2
theorem sums_other {l : List Mat} {n : Int} (h : n ≠ tog l) : chk (sumOf n l) ≠ 0 := by
  intro e
  have h4 := (bad_zero (chk_zero_bad e)).2.2.2
  rw [fits_seven (.inr (.inr rfl))] at h4
  exact h (of_decide_eq_true h4)

end Go.Proofs.YtolnkgghejhaeaaGreatDoor.Wp

namespace Go.Proofs.YtolnkgghejhaeaaGreatDoor.Wp
open Go Go.RowKit

def stayL (m : Mat) : List Int := if m.t = 6 then minusL (allL (inn m).n) (row m 0) else row m 0
def imgB (m : Mat) (s : List Int) : Bool := decide (m.t = 5 ∨ m.t = 6) && decide (chk m = 0) && subB s (allL m.n)
def imgM (m : Mat) (s : List Int) : List Int := s.map fun x => (stayL m).getD x.toNat 0
def imgL (m : Mat) (s : List Int) : List Int := if imgB m s then imgM m s else []

theorem sub_len {a b : List Int} (ha : IsSet a) (hb : IsSet b) (h : ∀ x ∈ a, x ∈ b) : b.length = (minusL b a).length + a.length := by
  refine len_split (minus_set b a) ha hb (fun x hx => ((mem_minus hb ha x).1 hx).2) fun x => ?_
  rw [mem_minus hb ha x]
  constructor
  · intro hx
    by_cases hxa : x ∈ a
    · exact .inr hxa
    · exact .inl ⟨hx, hxa⟩
  · rintro (hx | hx)
    · exact hx.1
    · exact h x hx
theorem subB_iff {a b : List Int} : subB a b = true ↔ IsSet a ∧ IsSet b ∧ ∀ x ∈ a, x ∈ b := by
  constructor
  · intro h
    have h' := h
    unfold subB at h'
    rw [Bool.and_eq_true, Bool.and_eq_true] at h'
    have ha := mayB_iff.1 h'.1.1
    have hb := mayB_iff.1 h'.1.2
    exact ⟨ha, hb, (sub_iff ha hb).1 h⟩
  · rintro ⟨ha, hb, h⟩
    exact (sub_iff ha hb).2 h
theorem all_len_n {n : Int} (h0 : 0 ≤ n) (h1 : n ≤ 64) : ((allL n).length : Int) = n := by
  by_cases h : 1 ≤ n
  · exact (all_length n).2 h (by omega)
  · have : n = 0 := by omega
    subst this
    rfl
theorem form_lists {m : Mat} (h : chk m = 0) (ht : m.t = 5 ∨ m.t = 6) : m.l.length = 1 ∧ m.i.length = 1 := by
  have h3 := takes_iff.1 (bad_zero (chk_zero_bad h)).2.2.1
  rcases ht with e | e
  · rw [e] at h3
    have e1 : (m.l.length : Int) = 1 := h3.2.2.1
    have e2 : (1 : Int) ≤ (m.i.length : Int) := h3.2.2.2.1
    have e3 : (m.i.length : Int) ≤ 1 := h3.2.2.2.2
    omega
  · rw [e] at h3
    have e1 : (m.l.length : Int) = 1 := h3.2.2.1
    have e2 : (1 : Int) ≤ (m.i.length : Int) := h3.2.2.2.1
    have e3 : (m.i.length : Int) ≤ 1 := h3.2.2.2.2
    omega
theorem inn_mem {m : Mat} (h : 0 < m.i.length) : inn m ∈ m.i := by
  unfold inn
  rw [show m.i.getD 0 default = m.i[0] by simp [List.getD, h]]
  exact List.getElem_mem h
theorem stay_len {m : Mat} (h : chk m = 0) (ht : m.t = 5 ∨ m.t = 6) : ((stayL m).length : Int) = m.n := by
  have hf := (bad_zero (chk_zero_bad h)).2.2.2
  have hl := form_lists h ht
  have hi := chk_n (within h (inn_mem (m := m) (by omega))).1
  have hn := chk_n h
  rcases ht with e | e
  · have h5 : fitsB m = (partB m && decide (m.n = (row m 0).length)) := by
      unfold fitsB
      rw [if_neg (by omega), if_neg (by omega), if_neg (by omega), if_neg (by omega), if_neg (by omega), if_pos e]
    rw [h5, Bool.and_eq_true] at hf
    unfold stayL
    rw [if_neg (by omega)]
    exact (of_decide_eq_true hf.2).symm
  · have h5 : fitsB m = (partB m && decide (IntKind.i64.wrap (m.n + (row m 0).length) = (inn m).n)) := by
      unfold fitsB
      rw [if_neg (by omega), if_neg (by omega), if_neg (by omega), if_neg (by omega), if_neg (by omega), if_neg (by omega), if_pos e]
    rw [h5, Bool.and_eq_true] at hf
    obtain ⟨hs1, hs2, hs3⟩ := subB_iff.1 hf.1
    have hlen := sub_len hs1 hs2 hs3
    have hal := all_len_n hi.1 hi.2
    have hw := of_decide_eq_true hf.2
    unfold stayL
    rw [if_pos e]
    rw [wrap_le (by omega) (by omega)] at hw
    omega
theorem img_in {m : Mat} {s : List Int} (h : chk m = 0) (hs : subB s (allL m.n) = true) : ∀ k, k < s.length → 0 ≤ s.getD k 0 ∧ s.getD k 0 < m.n := by
  intro k hk
  have hn := chk_n h
  obtain ⟨_, _, h3⟩ := subB_iff.1 hs
  have hm := h3 (s.getD k 0) (by rw [show s.getD k 0 = s[k] by simp [List.getD, hk]]; exact List.getElem_mem hk)
  exact (mem_all hn.1 (by omega) _).1 hm
theorem img_len (m : Mat) (s : List Int) : (imgM m s).length = s.length := by simp [imgM]
theorem img_at (m : Mat) (s : List Int) (k : Nat) (hk : k < s.length) : (imgM m s).getD k 0 = (stayL m).getD (s.getD k 0).toNat 0 := by
  simp [imgM, List.getD, hk]

/-- n cells, the first k of them those of a list. -/
def fillM (f : List Int) (n k : Nat) : Array Value := (ints (f.take k ++ List.replicate (n - k) 0)).toArray
theorem fillM_size {f : List Int} {n k : Nat} (hf : f.length = n) (h : k ≤ n) : (fillM f n k).size = n := by
  simp [fillM, ints_length]
  omega
theorem fillM_set {f : List Int} {n k : Nat} (hf : f.length = n) (h : k < n) : (fillM f n k).setIfInBounds k (.int .i64 (f.getD k 0)) = fillM f n (k + 1) := by
  unfold fillM
  rw [List.setIfInBounds_toArray]
  congr 1
  have ht : f.take (k + 1) = f.take k ++ [f.getD k 0] := by
    rw [List.take_succ_eq_append_getElem (by omega)]
    simp [List.getD, hf, h]
  rw [ht, ints_append, ints_append, ints_append, List.append_assoc]
  have e : List.replicate (n - k) (0 : Int) = 0 :: List.replicate (n - (k + 1)) 0 := by
    rw [show n - k = (n - (k + 1)) + 1 from by omega, List.replicate_succ]
  have hl : (ints (f.take k)).length = k := by rw [ints_length, List.length_take]; omega
  rw [e, List.set_append_right _ _ (by omega), hl, Nat.sub_self]
  rfl
theorem fillM_none (f : List Int) (n : Nat) : fillM f n 0 = filled n 0 := by simp [fillM, filled, upTo]
theorem fillM_all {f : List Int} {n : Nat} (hf : f.length = n) : fillM f n n = (ints f).toArray := by
  unfold fillM
  rw [Nat.sub_self, List.replicate_zero, List.append_nil, ← hf, List.take_length]
theorem row_fillM {w : World} {g n : Nat} {f : List Int} (hf : f.length = n) (h : Blk w g 3 (fillM f n n)) (hn : n ≤ maxLen) : Row w w.heap.size (.slice (some ⟨g, 0, none⟩) n n) f := by
  rw [fillM_all hf] at h
  refine ⟨_, n, by rw [hf], ⟨by omega, hn, fun e => by cases e⟩, fun k hk => ⟨_, rfl, h.lt, ?_⟩⟩
  have e : (⟨g, 0, none⟩ : Addr).add k = ⟨g, k, none⟩ := by unfold Addr.add; split <;> simp_all
  rw [e, h.cell]
  simp [ints, List.getD, hk]

end Go.Proofs.YtolnkgghejhaeaaGreatDoor.Wp

