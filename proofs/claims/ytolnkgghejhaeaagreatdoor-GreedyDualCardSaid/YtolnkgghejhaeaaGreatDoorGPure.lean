/- What is taken one by one, the heaviest ahead, plain: with one more taken the others stay, no independent set of as many is heavier, and the weights of a base and of the dual's lightest one come to all. -/
import Derived.Test.YtolnkgghejhaeaaGreatDoorIMinP
import Derived.Test.YtolnkgghejhaeaaGreatDoorIExchP
import Derived.Test.YtolnkgghejhaeaaGreatDoorGPlaces
namespace Go.Proofs.YtolnkgghejhaeaaGreatDoor.Wp
open Go Go.RowKit

/-! ### What the program tells -/
/-- What is taken of a row of elements, behind what was taken already. -/
noncomputable def takeK (m : Mat) (on : Int → Nat → Bool) : List Int → List Int → List Int
  | s, [] => s
  | s, x :: o => if on x s.length = true then takeK m on (if indT m (unionL s [x]) = true then unionL s [x] else s) o else s
def outW (x : Int) : Bool := decide (x < -1099511627776) || decide (1099511627776 < x)
def mayW (m : Mat) (w : List Int) : Bool := decide (chk m = 0) && (decide ((w.length : Int) = m.n) && !w.any outW)
noncomputable def takeT (m : Mat) (w : List Int) (on : Int → Nat → Bool) : List Int := if mayW m w = true then takeK m on [] (greatL w) else []
def lessB (k : Int) : Int → Nat → Bool := fun _ n => decide ((n : Int) < k)
def bestB (w : List Int) : Int → Nat → Bool := fun x _ => decide (0 < w.getD x.toNat 0)
def wt (w : List Int) (x : Int) : Int := w.getD x.toNat 0
/-- The weights of a set together, as they are added up. -/
def addW (w : List Int) (s : List Int) : Int := s.foldl (fun n x => IntKind.i64.wrap (n + wt w x)) 0
def weightT (w s : List Int) : Int := if mayB s = true ∧ (∀ x ∈ s, x < (w.length : Int)) then addW w s else 0
def sumW (w s : List Int) : Int := (s.map fun x => wt w x).sum

theorem mayW_iff {m : Mat} {w : List Int} : mayW m w = true ↔ chk m = 0 ∧ w.length = nN m ∧ ∀ x ∈ w, -1099511627776 ≤ x ∧ x ≤ 1099511627776 := by
  unfold mayW
  rw [Bool.and_eq_true, Bool.and_eq_true, decide_eq_true_iff, decide_eq_true_iff, Bool.not_eq_true', List.any_eq_false]
  constructor
  · rintro ⟨h1, h2, h3⟩
    refine ⟨h1, by have := nN_cast h1; omega, fun x hx => ?_⟩
    have := h3 x hx
    unfold outW at this
    simp at this
    omega
  · rintro ⟨h1, h2, h3⟩
    refine ⟨h1, by have := nN_cast h1; omega, fun x hx => ?_⟩
    have := h3 x hx
    unfold outW
    simp
    omega

/-! ### What is taken, one by one -/
theorem inN_one {n : Nat} {x : Int} (hn : n ≤ 64) (h0 : 0 ≤ x) (h1 : x < (n : Int)) : InN n [x] :=
  ⟨⟨by simp, fun z hz => by rw [List.mem_singleton.1 hz]; exact ⟨by omega, by omega⟩⟩, fun z hz => by rw [List.mem_singleton.1 hz]; exact ⟨h0, h1⟩⟩
/-- A row of elements. -/
def Ele (n : Nat) (o : List Int) : Prop := ∀ x ∈ o, 0 ≤ x ∧ x < (n : Int)
theorem Ele.tail {n : Nat} {x : Int} {o : List Int} (h : Ele n (x :: o)) : Ele n o := fun y hy => h y (by simp [hy])
theorem Ele.one {n : Nat} {x : Int} {o : List Int} (hn : n ≤ 64) (h : Ele n (x :: o)) : InN n [x] := inN_one hn (h x (by simp)).1 (h x (by simp)).2
section
variable {m : Mat} {on : Int → Nat → Bool} {n : Nat}
theorem next_in {s : List Int} {x : Int} (hs : InN n s) (hx : InN n [x]) : InN n (if indT m (unionL s [x]) = true then unionL s [x] else s) := by
  split
  · exact inN_union hs hx
  · exact hs
theorem next_sub {s : List Int} {x y : Int} (hs : IsSet s) (hx : IsSet [x]) (hy : y ∈ s) : y ∈ (if indT m (unionL s [x]) = true then unionL s [x] else s) := by
  split
  · exact (mem_union hs hx y).2 (.inl hy)
  · exact hy
theorem next_len {s : List Int} {x : Int} : (if indT m (unionL s [x]) = true then unionL s [x] else s).length ≤ s.length + 1 := by
  have := union_length s [x]
  simp only [List.length_cons, List.length_nil] at this
  split <;> omega
theorem takeK_in (hn : n ≤ 64) : ∀ {o s : List Int}, InN n s → Ele n o → InN n (takeK m on s o)
  | [], s, hs, _ => by rw [takeK]; exact hs
  | x :: o, s, hs, ho => by
    rw [takeK]
    split
    · exact takeK_in hn (next_in hs (ho.one hn)) ho.tail
    · exact hs
theorem takeK_ind : ∀ {o s : List Int}, indT m s = true → indT m (takeK m on s o) = true
  | [], s, hs => by rw [takeK]; exact hs
  | x :: o, s, hs => by
    rw [takeK]
    split
    · refine takeK_ind ?_
      split
      · assumption
      · exact hs
    · exact hs
theorem takeK_sub (hn : n ≤ 64) {y : Int} : ∀ {o s : List Int}, InN n s → Ele n o → y ∈ s → y ∈ takeK m on s o
  | [], s, _, _, hy => by rw [takeK]; exact hy
  | x :: o, s, hs, ho, hy => by
    rw [takeK]
    split
    · exact takeK_sub hn (next_in hs (ho.one hn)) ho.tail (next_sub hs.1 (ho.one hn).1 hy)
    · exact hy
theorem takeK_from (hn : n ≤ 64) {y : Int} : ∀ {o s : List Int}, InN n s → Ele n o → y ∈ takeK m on s o → y ∈ s ∨ y ∈ o
  | [], s, _, _, hy => by rw [takeK] at hy; exact .inl hy
  | x :: o, s, hs, ho, hy => by
    rw [takeK] at hy
    split at hy
    · rcases takeK_from hn (next_in hs (ho.one hn)) ho.tail hy with h | h
      · split at h
        · rcases (mem_union hs.1 (ho.one hn).1 y).1 h with h | h
          · exact .inl h
          · exact .inr (by rw [List.mem_singleton.1 h]; simp)
        · exact .inl h
      · exact .inr (by simp [h])
    · exact .inl hy

/-! ### One more -/
theorem take_stop {k : Int} {s : List Int} (h : k ≤ (s.length : Int)) : ∀ o, takeK m (lessB k) s o = s
  | [] => by rw [takeK]
  | x :: o => by
    rw [takeK, if_neg]
    unfold lessB
    rw [decide_eq_true_iff]
    omega
theorem take_more (hn : n ≤ 64) (k : Int) : ∀ {o s : List Int}, InN n s → Ele n o → (∀ y ∈ takeK m (lessB k) s o, y ∈ takeK m (lessB (k + 1)) s o) ∧ (takeK m (lessB (k + 1)) s o).length ≤ (takeK m (lessB k) s o).length + 1
  | [], s, _, _ => by rw [takeK, takeK]; exact ⟨fun _ h => h, by omega⟩
  | x :: o, s, hs, ho => by
    rcases (by omega : (s.length : Int) < k ∨ (s.length : Int) = k ∨ k + 1 ≤ (s.length : Int)) with h | h | h
    · have e1 : lessB k x s.length = true := decide_eq_true h
      have e2 : lessB (k + 1) x s.length = true := decide_eq_true (by omega)
      rw [takeK, takeK, if_pos e1, if_pos e2]
      exact take_more hn k (next_in hs (ho.one hn)) ho.tail
    · have e2 : lessB (k + 1) x s.length = true := decide_eq_true (by omega)
      rw [take_stop (by omega), takeK, if_pos e2]
      split
      · next hi =>
        by_cases hl : (unionL s [x]).length = s.length + 1
        · rw [take_stop (by omega)]
          exact ⟨fun y hy => (mem_union hs.1 (ho.one hn).1 y).2 (.inl hy), by omega⟩
        · -- nothing was added
          have hu : unionL s [x] = s := by
            have h1 := union_length s [x]
            simp only [List.length_cons, List.length_nil] at h1
            have h2 := alg_len hs.1 (ho.one hn).1
            simp only [List.length_cons, List.length_nil] at h2
            have hm : 0 < (meetL s [x]).length := by omega
            obtain ⟨z, hz⟩ := List.exists_mem_of_length_pos hm
            have hz := (mem_meet hs.1 (ho.one hn).1 z).1 hz
            rw [List.mem_singleton] at hz
            refine IsSet.ext (union_set _ _) hs.1 fun y => ?_
            rw [mem_union hs.1 (ho.one hn).1, List.mem_singleton]
            refine ⟨fun h => h.elim id fun e => ?_, .inl⟩
            rw [e, ← hz.2]
            exact hz.1
          rw [hu]
          have := take_more hn k hs ho.tail
          rw [take_stop (by omega)] at this
          exact this
      · have := take_more hn k hs ho.tail
        rw [take_stop (by omega)] at this
        exact this
    · rw [take_stop (by omega), take_stop (by omega)]
      exact ⟨fun _ h => h, by omega⟩

/-! ### Without a bound -/
theorem take_free (k : Int) : ∀ {o s : List Int}, ((s.length + o.length : Nat) : Int) ≤ k → takeK m (lessB k) s o = takeK m (fun _ _ => true) s o
  | [], s, _ => by rw [takeK, takeK]
  | x :: o, s, h => by
    simp only [List.length_cons] at h
    have e1 : lessB k x s.length = true := decide_eq_true (by omega)
    rw [takeK, takeK, if_pos e1, if_pos rfl]
    refine take_free k ?_
    have := next_len (m := m) (s := s) (x := x)
    omega
theorem takeA_append : ∀ {o1 o2 s : List Int}, takeK m (fun _ _ => true) s (o1 ++ o2) = takeK m (fun _ _ => true) (takeK m (fun _ _ => true) s o1) o2
  | [], o2, s => by rw [List.nil_append, takeK]
  | x :: o1, o2, s => by
    rw [List.cons_append, takeK, takeK, if_pos rfl, if_pos rfl]
    exact takeA_append
end
theorem rank_sub {m : Mat} {s : List Int} (hc : chk m = 0) (hs : InN (nN m) s) : rkP 4 m (memP s) ≤ s.length := by
  rw [len_cnt hs]
  exact (rk_of hc).le_cnt _
/-- Each that came adds nothing to what was taken. -/
theorem takeA_closed {m : Mat} (hc : chk m = 0) : ∀ {o s : List Int}, InN (nN m) s → Ele (nN m) o → indT m s = true → ∀ y ∈ o, rkP 4 m (insP (memP (takeK m (fun _ _ => true) s o)) y.toNat) = rkP 4 m (memP (takeK m (fun _ _ => true) s o))
  | [], s, _, _, _, y, hy => absurd hy (by simp)
  | x :: o, s, hs, ho, hi, y, hy => by
    have hn := (nN_cast hc).2
    have hx1 := ho.one hn
    have hxx := ho x (by simp)
    rw [takeK, if_pos rfl]
    have hin := next_in (m := m) hs hx1
    have hii : indT m (if indT m (unionL s [x]) = true then unionL s [x] else s) = true := by
      split
      · assumption
      · exact hi
    rcases List.mem_cons.1 hy with rfl | hy
    · have hsub : ∀ z, z ∈ s → z ∈ takeK m (fun _ _ => true) (if indT m (unionL s [y]) = true then unionL s [y] else s) o := fun z hz => takeK_sub hn hin ho.tail (next_sub hs.1 hx1.1 hz)
      by_cases hu : indT m (unionL s [y]) = true
      · have hyt : y ∈ takeK m (fun _ _ => true) (if indT m (unionL s [y]) = true then unionL s [y] else s) o := takeK_sub hn hin ho.tail (by rw [if_pos hu]; exact (mem_union hs.1 hx1.1 y).2 (.inr (by simp)))
        rw [insP_in (memP_iff.2 (by rw [show ((y.toNat : Nat) : Int) = y by omega]; exact hyt))]
      · -- it added nothing to s
        have hr := rk_of hc
        have hms : mayI m s = true := mayI_iff.2 ⟨hc, hs⟩
        have hmu : mayI m (unionL s [y]) = true := mayI_iff.2 ⟨hc, inN_union hs hx1⟩
        have e1 := (ind_rank hms).1 hi
        have e2 : ¬ rkP 4 m (memP (unionL s [y])) = (unionL s [y]).length := fun e => hu ((ind_rank hmu).2 e)
        rw [len_cnt hs] at e1
        rw [len_cnt (inN_union hs hx1), memP_union hs.1 hx1.1, memP_one hxx.1] at e2
        have hyn : y.toNat < nN m := by omega
        have hno : memP s y.toNat = false := by
          cases hb : memP s y.toNat
          · rfl
          · rw [insP_in hb] at e2
            exact absurd e1 e2
        rw [cnt_ins hyn hno] at e2
        have u1 := hr.up' (memP s) hyn
        have u2 := hr.one' (memP s) hyn
        have h3 := hr.dim_set (P := memP s) (Q := memP (takeK m (fun _ _ => true) (if indT m (unionL s [y]) = true then unionL s [y] else s) o)) (fun i _ hp => memP_iff.2 (hsub _ (memP_iff.1 hp))) hyn
        have h4 := hr.up' (memP (takeK m (fun _ _ => true) (if indT m (unionL s [y]) = true then unionL s [y] else s) o)) hyn
        omega
    · exact takeA_closed hc hin ho.tail hii y hy
/-- What is independent, of those that came, is no more than what was taken. -/
theorem takeA_most {m : Mat} (hc : chk m = 0) {o : List Int} (ho : Ele (nN m) o) {Q : Nat → Bool} (hq : rkP 4 m Q = cnt Q (nN m)) (hQ : ∀ i, i < nN m → Q i = true → (i : Int) ∈ o) : cnt Q (nN m) ≤ (takeK m (fun _ _ => true) [] o).length := by
  have hn := (nN_cast hc).2
  have hr := rk_of hc
  have hin : InN (nN m) (takeK m (fun _ _ => true) [] o) := takeK_in hn (inN_nil _) ho
  have h1 := hr.closed (memP (takeK m (fun _ _ => true) [] o)) Q (fun x hx hqx => by
    have := takeA_closed hc (inN_nil _) ho (ind_nil hc) (x : Int) (hQ x hx hqx)
    rwa [Int.toNat_natCast] at this) (nN m) (Nat.le_refl _)
  rw [addK_all hr] at h1
  have h2 := hr.mono (P := Q) (Q := orP (memP (takeK m (fun _ _ => true) [] o)) Q) fun i _ h => by unfold orP; rw [h]; simp
  have h3 := rank_sub hc hin
  omega
theorem takeA_full {m : Mat} (hc : chk m = 0) {o : List Int} (ho : Ele (nN m) o) (hall : ∀ i, i < nN m → (i : Int) ∈ o) : (takeK m (fun _ _ => true) [] o).length = rkP 4 m allP := by
  have hn := (nN_cast hc).2
  have hr := rk_of hc
  have hin : InN (nN m) (takeK m (fun _ _ => true) [] o) := takeK_in hn (inN_nil _) ho
  have h1 := hr.closed (memP (takeK m (fun _ _ => true) [] o)) allP (fun x hx _ => by
    have := takeA_closed hc (inN_nil _) ho (ind_nil hc) (x : Int) (hall x hx)
    rwa [Int.toNat_natCast] at this) (nN m) (Nat.le_refl _)
  rw [addK_all hr, hr.ext (P := orP (memP (takeK m (fun _ _ => true) [] o)) allP) (Q := allP) (fun i _ => by simp [orP, allP])] at h1
  rw [h1, (ind_rank (mayI_iff.2 ⟨hc, hin⟩)).1 (takeK_ind (ind_nil hc))]

/-! ### Weights -/
def sumP (f : Nat → Int) (P : Nat → Bool) : Nat → Int
  | 0 => 0
  | n + 1 => sumP f P n + if P n = true then f n else 0
theorem sumP_ext {f g : Nat → Int} {P Q : Nat → Bool} : ∀ {n : Nat}, (∀ i, i < n → P i = Q i) → (∀ i, i < n → f i = g i) → sumP f P n = sumP g Q n
  | 0, _, _ => rfl
  | n + 1, h, k => by rw [sumP, sumP, sumP_ext (fun i hi => h i (by omega)) (fun i hi => k i (by omega)), h n (by omega), k n (by omega)]
theorem sumP_or (f : Nat → Int) (P Q : Nat → Bool) : ∀ n, sumP f (orP P Q) n + sumP f (andP P Q) n = sumP f P n + sumP f Q n
  | 0 => rfl
  | n + 1 => by
    have ih := sumP_or f P Q n
    rw [sumP, sumP, sumP, sumP]
    show _ + (if (P n || Q n) = true then f n else 0) + (_ + (if (P n && Q n) = true then f n else 0)) = _
    cases P n <;> cases Q n <;> simp <;> omega
theorem sumP_not (f : Nat → Int) (P : Nat → Bool) : ∀ n, sumP f (notP P) n = sumP f allP n - sumP f P n
  | 0 => rfl
  | n + 1 => by
    have ih := sumP_not f P n
    rw [sumP, sumP, sumP]
    show _ + (if (!P n) = true then f n else 0) = _ + (if true = true then f n else 0) - _
    cases P n <;> simp <;> omega
theorem sumP_neg (f : Nat → Int) (P : Nat → Bool) : ∀ n, sumP (fun i => - f i) P n = - sumP f P n
  | 0 => rfl
  | n + 1 => by
    rw [sumP, sumP, sumP_neg f P n]
    cases P n <;> simp <;> omega
theorem sumP_range (f : Nat → Int) (P : Nat → Bool) : ∀ n, ((pickN n P).map f).sum = sumP f P n
  | 0 => rfl
  | n + 1 => by
    have ih := sumP_range f P n
    unfold pickN at ih ⊢
    rw [List.range_succ, List.filter_append, List.map_append, List.sum_append_int, ih, sumP]
    cases h : P n <;> simp [List.filter, h]
theorem sumW_sumP {n : Nat} {s : List Int} (w : List Int) (h : InN n s) : sumW w s = sumP (fun i => w.getD i 0) (memP s) n := by
  rw [← sumP_range, ← map_pick h]
  rfl
/-- Two sets weigh what their union and their meet do. -/
theorem sumW_or {n : Nat} {a s : List Int} (w : List Int) (ha : InN n a) (hs : InN n s) : sumW w (unionL a s) + sumW w (meetL a s) = sumW w a + sumW w s := by
  rw [sumW_sumP w (inN_union ha hs), sumW_sumP w (inN_meet ha hs), sumW_sumP w ha, sumW_sumP w hs, memP_union ha.1 hs.1, memP_meet ha.1 hs.1]
  exact sumP_or _ _ _ _
theorem addW_any (w : List Int) {c : Int} (hc : 0 ≤ c) (hw : ∀ x ∈ w, -c ≤ x ∧ x ≤ c) : ∀ (s : List Int) (n : Int), -(4611686018427387904 - c * s.length) ≤ n → n ≤ 4611686018427387904 - c * s.length → s.foldl (fun n x => IntKind.i64.wrap (n + wt w x)) n = n + sumW w s ∧ -(c * s.length) ≤ sumW w s ∧ sumW w s ≤ c * s.length
  | [], n, _, _ => by simp [sumW]
  | x :: s, n, h1, h2 => by
    have hx : -c ≤ wt w x ∧ wt w x ≤ c := by
      unfold wt
      by_cases h : x.toNat < w.length
      · exact hw _ (getD_of 0 h)
      · rw [List.getD_eq_getElem?_getD, List.getElem?_eq_none (by omega)]
        simp
        omega
    have e : c * ((x :: s).length : Int) = c * (s.length : Int) + c := by
      rw [List.length_cons, Int.natCast_succ, Int.mul_add, Int.mul_one]
    rw [e] at h1 h2 ⊢
    have hnn : 0 ≤ c * (s.length : Int) := Int.mul_nonneg hc (by omega)
    have hwr : IntKind.i64.wrap (n + wt w x) = n + wt w x := wrap_le (by omega) (by omega)
    obtain ⟨a1, a2, a3⟩ := addW_any w hc hw s (n + wt w x) (by omega) (by omega)
    rw [List.foldl_cons, hwr, a1]
    unfold sumW at *
    rw [List.map_cons, List.sum_cons]
    refine ⟨by omega, by omega, by omega⟩

/-! ### No independent set of as many is heavier -/
def gain (w : List Int) (A : Int → Bool) : List Int → Int
  | [] => 0
  | x :: o => (if A x = true then wt w x else 0) + gain w A o
theorem gain_append (w : List Int) (A : Int → Bool) : ∀ o1 o2, gain w A (o1 ++ o2) = gain w A o1 + gain w A o2
  | [], o2 => by simp [gain]
  | x :: o1, o2 => by rw [List.cons_append, gain, gain, gain_append w A o1 o2]; omega
theorem gain_perm (w : List Int) (A : Int → Bool) {o r : List Int} (h : o.Perm r) : gain w A o = gain w A r := by
  induction h with
  | nil => rfl
  | cons x _ ih => rw [gain, gain, ih]
  | swap x y l => simp only [gain]; omega
  | trans _ _ i1 i2 => rw [i1, i2]
theorem gain_idxs (w : List Int) (s : List Int) : ∀ n, gain w s.contains (idxs n) = sumP (fun i => w.getD i 0) (memP s) n
  | 0 => rfl
  | n + 1 => by
    rw [idxs_succ, gain_append, gain_idxs w s n, sumP, gain, gain, Int.add_zero]
    rfl
theorem gain_great {n : Nat} {w s : List Int} (hw : w.length = n) (hs : InN n s) : gain w s.contains (greatL w) = sumW w s := by
  rw [gain_perm w _ (great_places w).perm, hw, gain_idxs, sumW_sumP w hs]
theorem abel (w : List Int) (A S : Int → Bool) : ∀ (o : List Int) (d c : Int), 0 ≤ d → o.Pairwise (fun x y => wt w y ≤ wt w x) → (d = 0 ∨ ∀ x ∈ o, wt w x ≤ c) →
    (∀ o1 o2, o = o1 ++ o2 → 0 ≤ d + (o1.countP A : Int) - (o1.countP S : Int)) → d + (o.countP A : Int) - (o.countP S : Int) = 0 → -(d * c) ≤ gain w A o - gain w S o
  | [], d, c, _, _, _, _, h => by
    simp at h
    subst h
    simp [gain]
  | x :: o, d, c, hd, hp, hc, hpre, he => by
    have hx := hpre [x] o rfl
    have e1 : ((x :: o).countP A : Int) = (o.countP A : Int) + if A x = true then 1 else 0 := by rw [List.countP_cons]; split <;> simp
    have e2 : ((x :: o).countP S : Int) = (o.countP S : Int) + if S x = true then 1 else 0 := by rw [List.countP_cons]; split <;> simp
    have f1 : (([x] : List Int).countP A : Int) = if A x = true then 1 else 0 := by rw [List.countP_cons]; split <;> simp
    have f2 : (([x] : List Int).countP S : Int) = if S x = true then 1 else 0 := by rw [List.countP_cons]; split <;> simp
    rw [f1, f2] at hx
    rw [e1, e2] at he
    have ih := abel w A S o (d + (if A x = true then 1 else 0) - (if S x = true then 1 else 0)) (wt w x) hx (List.pairwise_cons.1 hp).2 (.inr (List.pairwise_cons.1 hp).1) (fun o1 o2 e => by
      have h := hpre (x :: o1) o2 (by rw [e]; rfl)
      rw [List.countP_cons, List.countP_cons] at h
      revert h
      split <;> split <;> intro h <;> simp at h ⊢ <;> omega) (by omega)
    have hm : d * wt w x ≤ d * c := by
      rcases hc with h | h
      · subst h; simp
      · exact Int.mul_le_mul_of_nonneg_left (h x (by simp)) hd
    rw [gain, gain]
    have hex : (d + (if A x = true then 1 else 0) - (if S x = true then 1 else 0)) * wt w x = d * wt w x + (if A x = true then wt w x else 0) - (if S x = true then wt w x else 0) := by
      rw [Int.sub_mul, Int.add_mul]
      split <;> split <;> simp
    rw [hex] at ih
    omega
theorem isSet_nodup {s : List Int} (h : IsSet s) : s.Nodup := h.1.imp fun h e => by omega
theorem count_in {o s : List Int} (ho : o.Nodup) (hs : s.Nodup) (h : ∀ x ∈ s, x ∈ o) : o.countP s.contains = s.length := by
  rw [List.countP_eq_length_filter]
  refine ((List.perm_ext_iff_of_nodup (ho.sublist List.filter_sublist) hs).2 fun x => ?_).length_eq
  rw [List.mem_filter, List.contains_iff_mem]
  exact ⟨fun h => h.2, fun hx => ⟨h x hx, hx⟩⟩
theorem great_ele {n : Nat} {w : List Int} (hw : w.length = n) : Ele n (greatL w) := fun x hx => by
  have := ((great_places w).mem x).1 hx
  rw [hw] at this
  exact this
theorem great_all {n : Nat} {w : List Int} (hw : w.length = n) (i : Nat) (hi : i < n) : (i : Int) ∈ greatL w := ((great_places w).mem _).2 (by omega)
theorem great_falls (w : List Int) : (greatL w).Pairwise fun x y => wt w y ≤ wt w x := (great_places w).sorted.imp fun h => by unfold bef at h; unfold wt; omega
theorem take_best {m : Mat} {w S : List Int} (hc : chk m = 0) (hw : w.length = nN m) (hS : InN (nN m) S) (hi : indT m S = true) (hl : S.length = (takeK m (fun _ _ => true) [] (greatL w)).length) : sumW w S ≤ sumW w (takeK m (fun _ _ => true) [] (greatL w)) := by
  have hn := (nN_cast hc).2
  have hr := rk_of hc
  have hT : InN (nN m) (takeK m (fun _ _ => true) [] (greatL w)) := takeK_in hn (inN_nil _) (great_ele hw)
  have hnd := (great_places w).nodup
  rw [← gain_great hw hS, ← gain_great hw hT]
  have hend : ∀ {s : List Int}, InN (nN m) s → (greatL w).countP s.contains = s.length := fun hs => count_in hnd (isSet_nodup hs.1) fun x hx => by
    have := hs.2 x hx
    exact ((great_places w).mem x).2 (by omega)
  have h := abel w (takeK m (fun _ _ => true) [] (greatL w)).contains S.contains (greatL w) 0 0 (Int.le_refl _) (great_falls w) (.inl rfl) (fun o1 o2 e => by
    have he1 : Ele (nN m) o1 := fun x hx => great_ele hw x (by rw [e]; simp [hx])
    have he2 : Ele (nN m) o2 := fun x hx => great_ele hw x (by rw [e]; simp [hx])
    have hnd1 : o1.Nodup := by rw [e] at hnd; exact (List.pairwise_append.1 hnd).1
    have hin1 : InN (nN m) (takeK m (fun _ _ => true) [] o1) := takeK_in hn (inN_nil _) he1
    -- what was taken of the first ones stays
    have a1 : (takeK m (fun _ _ => true) [] o1).length ≤ o1.countP (takeK m (fun _ _ => true) [] (greatL w)).contains := by
      rw [← count_in hnd1 (isSet_nodup hin1.1) (fun x hx => (takeK_from hn (inN_nil _) he1 hx).resolve_left (by simp))]
      refine List.countP_mono_left fun x _ hx => ?_
      rw [List.contains_iff_mem] at hx ⊢
      rw [e, takeA_append]
      exact takeK_sub hn hin1 he2 hx
    -- those of S among the first ones are no more
    have hQi : InN (nN m) (S.filter o1.contains) := ⟨hS.1.filter _, fun x hx => hS.2 x (List.mem_filter.1 hx).1⟩
    have hQ : indT m (S.filter o1.contains) = true := ind_part (mayI_iff.2 ⟨hc, hS⟩) (mayI_iff.2 ⟨hc, hQi⟩) (fun x hx => (List.mem_filter.1 hx).1) hi
    have a2 : o1.countP S.contains = (S.filter o1.contains).length := by
      rw [List.countP_eq_length_filter]
      refine ((List.perm_ext_iff_of_nodup (hnd1.sublist List.filter_sublist) ((isSet_nodup hS.1).sublist List.filter_sublist)).2 fun x => ?_).length_eq
      rw [List.mem_filter, List.mem_filter, List.contains_iff_mem, List.contains_iff_mem]
      exact And.comm
    have a3 := takeA_most hc he1 (Q := memP (S.filter o1.contains)) (by rw [← len_cnt hQi]; exact (ind_rank (mayI_iff.2 ⟨hc, hQi⟩)).1 hQ) (fun i _ h => by
      have := (List.mem_filter.1 (memP_iff.1 h)).2
      rwa [List.contains_iff_mem] at this)
    rw [← len_cnt hQi] at a3
    omega) (by rw [hend hT, hend hS]; omega)
  omega

/-! ### The dual -/
def negL (w : List Int) : List Int := w.map fun x => -x
theorem negL_len (w : List Int) : (negL w).length = w.length := by simp [negL]
theorem negL_at (w : List Int) (i : Nat) : (negL w).getD i 0 = - w.getD i 0 := by
  unfold negL
  simp only [List.getD, List.getElem?_map]
  cases w[i]? <;> simp
theorem sumW_rest {n : Nat} {w a : List Int} (hn : n ≤ 64) (ha : InN n a) : sumW w (minusL (allL n) a) = sumW w (allL n) - sumW w a := by
  have h0 : (0 : Int) ≤ (n : Int) := by omega
  have h1 : (n : Int) ≤ 64 := by omega
  have hr := inN_rest h0 h1 ha.1
  have hA := inN_all h0 h1
  rw [Int.toNat_natCast] at hr hA
  rw [sumW_sumP w hr, sumW_sumP w hA, sumW_sumP w ha, sumP_ext (Q := notP (memP a)) (fun i hi => memP_rest h0 h1 ha.1 (by omega)) (fun _ _ => rfl), sumP_not, sumP_ext (P := memP (allL n)) (Q := allP) (fun i hi => memP_all h0 h1 (by omega)) (fun _ _ => rfl)]
theorem sumW_neg {n : Nat} {w a : List Int} (ha : InN n a) : sumW (negL w) a = - sumW w a := by
  rw [sumW_sumP _ ha, sumW_sumP _ ha, ← sumP_neg]
  exact sumP_ext (fun _ _ => rfl) fun i _ => negL_at w i
/-- What is taken of a matroid, and of its dual by the weights below 0, comes to all, and weighs what all do. -/
theorem take_dual {m : Mat} {w : List Int} (hc : chk m = 0) (h3 : dp 4 m ≤ 3) (hw : w.length = nN m) :
    (takeK m (fun _ _ => true) [] (greatL w)).length + (takeK (dualOf m) (fun _ _ => true) [] (greatL (negL w))).length = nN m ∧
    sumW w (takeK m (fun _ _ => true) [] (greatL w)) + sumW w (takeK (dualOf m) (fun _ _ => true) [] (greatL (negL w))) = sumW w (allL (nN m)) := by
  have hn := (nN_cast hc).2
  have hr := rk_of hc
  have hd : chk (dualOf m) = 0 := dual_less hc h3
  have hnd : nN (dualOf m) = nN m := rfl
  have hwd : (negL w).length = nN (dualOf m) := by rw [negL_len, hw]; rfl
  have hT : InN (nN m) (takeK m (fun _ _ => true) [] (greatL w)) := takeK_in hn (inN_nil _) (great_ele hw)
  have hD : InN (nN m) (takeK (dualOf m) (fun _ _ => true) [] (greatL (negL w))) := takeK_in (m := dualOf m) hn (inN_nil _) (great_ele hwd)
  have l1 := takeA_full hc (great_ele hw) (great_all hw)
  have l2 := takeA_full hd (great_ele hwd) (great_all hwd)
  have i1 : indT m (takeK m (fun _ _ => true) [] (greatL w)) = true := takeK_ind (ind_nil hc)
  have i2 : indT (dualOf m) (takeK (dualOf m) (fun _ _ => true) [] (greatL (negL w))) = true := takeK_ind (ind_nil hd)
  have b1 := take_best (S := minusL (allL (nN m)) (takeK (dualOf m) (fun _ _ => true) [] (greatL (negL w)))) hc hw
  have b2 := take_best (S := minusL (allL (nN m)) (takeK m (fun _ _ => true) [] (greatL w))) hd hwd
  generalize takeK m (fun _ _ => true) [] (greatL w) = a at *
  generalize takeK (dualOf m) (fun _ _ => true) [] (greatL (negL w)) = b at *
  have h0 : (0 : Int) ≤ (nN m : Int) := by omega
  have h1 : (nN m : Int) ≤ 64 := by omega
  have ra := inN_rest h0 h1 hT.1
  have rb := inN_rest h0 h1 hD.1
  rw [Int.toNat_natCast] at ra rb
  have ea : ∀ i, i < nN m → memP (minusL (allL (nN m)) a) i = notP (memP a) i := fun i hi => memP_rest h0 h1 hT.1 (by omega)
  have eb : ∀ i, i < nN m → memP (minusL (allL (nN m)) b) i = notP (memP b) i := fun i hi => memP_rest h0 h1 hD.1 (by omega)
  have la := len_cnt ra
  have lb := len_cnt rb
  rw [cnt_ext ea] at la
  rw [cnt_ext eb] at lb
  have na := cnt_notP (memP a) (nN m)
  have nb := cnt_notP (memP b) (nN m)
  rw [← len_cnt hT] at na
  rw [← len_cnt hD] at nb
  have k1 := (ind_rank (mayI_iff.2 ⟨hc, hT⟩)).1 i1
  have k2 := (ind_rank (m := dualOf m) (mayI_iff.2 ⟨hd, hD⟩)).1 i2
  rw [rk4_dual hc h3, ← len_cnt hD] at k2
  rw [rk4_dual hc h3, cnt_allP, show notP allP = noneP from rfl, hr.zero] at l2
  have low := rk_low hr (memP b)
  rw [← len_cnt hD] at low
  have g1 := hr.le_cnt allP
  rw [cnt_allP] at g1
  have c1 := b1 rb ((ind_rank (mayI_iff.2 ⟨hc, rb⟩)).2 (by rw [hr.ext eb]; have := hr.le_cnt (notP (memP b)); omega)) (by omega)
  have c2 := b2 ra ((ind_rank (m := dualOf m) (mayI_iff.2 ⟨hd, ra⟩)).2 (by
    rw [rk4_dual hc h3, cnt_ext ea, hr.ext (P := notP (memP (minusL (allL (nN m)) a))) (Q := memP a) (fun i hi => by unfold notP; rw [ea i hi]; unfold notP; simp)]
    omega)) (by omega)
  rw [sumW_rest hn hD] at c1
  rw [sumW_neg ra, sumW_neg hD, sumW_rest hn hT] at c2
  omega

/-! ### All weights more -/
def moreL (w : List Int) (c : Int) : List Int := w.map fun x => x + c
theorem moreL_len (w : List Int) (c : Int) : (moreL w c).length = w.length := by simp [moreL]
theorem great_more (w : List Int) (c : Int) : greatL (moreL w c) = greatL w := by
  refine Places.unique (great_places _) ⟨?_, ?_⟩
  · rw [moreL_len]; exact (great_places w).perm
  · refine (great_places w).sorted.imp_of_mem fun {x y} hx hy h => ?_
    have hx := ((great_places w).mem x).1 hx
    have hy := ((great_places w).mem y).1 hy
    have e : ∀ z : Int, 0 ≤ z ∧ z < (w.length : Int) → (moreL w c).getD z.toNat 0 = w.getD z.toNat 0 + c := fun z hz => by
      have hlt : z.toNat < w.length := by omega
      simp [moreL, List.getD, hlt]
    unfold bef at h ⊢
    rw [e x hx, e y hy]
    omega

end Go.Proofs.YtolnkgghejhaeaaGreatDoor.Wp
