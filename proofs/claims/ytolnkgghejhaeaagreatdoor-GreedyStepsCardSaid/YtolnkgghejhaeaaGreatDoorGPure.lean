/- What is taken one by one, the heaviest ahead, plain: with one more taken the others stay, no independent set of as many is heavier, and the weights of a base and of the dual's lightest one come to all. -/
import Derived.Test.YtolnkgghejhaeaaGreatDoorIMinP
import Derived.Test.YtolnkgghejhaeaaGreatDoorIExchP
import Derived.Test.YtolnkgghejhaeaaGreatDoorGPlaces
namespace Go.Proofs.YtolnkgghejhaeaaGreatDoor.Wp
open Go Go.RowKit

/-! ### What the program tells -/
/-- What is taken of a row of elements, behind what was taken already. -/
noncomputable def takeK (m : Mat) (on : Int → Nat → Bool) : List Int → List Int → List Int
  | s, [] => s
  | s, x :: o => if on x s.length = true then takeK m on (if indT m (unionL s [x]) = true then unionL s [x] else s) o else s
def outW (x : Int) : Bool := decide (x < -1099511627776) || decide (1099511627776 < x)
def mayW (m : Mat) (w : List Int) : Bool := decide (chk m = 0) && (decide ((w.length : Int) = m.n) && !w.any outW)
noncomputable def takeT (m : Mat) (w : List Int) (on : Int → Nat → Bool) : List Int := if mayW m w = true then takeK m on [] (greatL w) else []
def lessB (k : Int) : Int → Nat → Bool := fun _ n => decide ((n : Int) < k)
def bestB (w : List Int) : Int → Nat → Bool := fun x _ => decide (0 < w.getD x.toNat 0)
def wt (w : List Int) (x : Int) : Int := w.getD x.toNat 0
/-- The weights of a set together, as they are added up. -/
def addW (w : List Int) (s : List Int) : Int := s.foldl (fun n x => IntKind.i64.wrap (n + wt w x)) 0
def weightT (w s : List Int) : Int := if mayB s = true ∧ (∀ x ∈ s, x < (w.length : Int)) then addW w s else 0
def sumW (w s : List Int) : Int := (s.map fun x => wt w x).sum

theorem mayW_iff {m : Mat} {w : List Int} : mayW m w = true ↔ chk m = 0 ∧ w.length = nN m ∧ ∀ x ∈ w, -1099511627776 ≤ x ∧ x ≤ 1099511627776 := by
  unfold mayW
  rw [Bool.and_eq_true, Bool.and_eq_true, decide_eq_true_iff, decide_eq_true_iff, Bool.not_eq_true', List.any_eq_false]
  constructor
  · rintro ⟨h1, h2, h3⟩
    refine ⟨h1, by have := nN_cast h1; omega, fun x hx => ?_⟩
    have := h3 x hx
    unfold outW at this
    simp at this
    omega
  · rintro ⟨h1, h2, h3⟩
    refine ⟨h1, by have := nN_cast h1; omega, fun x hx => ?_⟩
    have := h3 x hx
    unfold outW
    simp
    omega

/-! ### What is taken, one by one -/
theorem inN_one {n : Nat} {x : Int} (hn : n ≤ 64) (h0 : 0 ≤ x) (h1 : x < (n : Int)) : InN n [x] :=
  ⟨⟨by simp, fun z hz => by rw [List.mem_singleton.1 hz]; exact ⟨by omega, by omega⟩⟩, fun z hz => by rw [List.mem_singleton.1 hz]; exact ⟨h0, h1⟩⟩
/-- A row of elements. -/
def Ele (n : Nat) (o : List Int) : Prop := ∀ x ∈ o, 0 ≤ x ∧ x < (n : Int)
theorem Ele.tail {n : Nat} {x : Int} {o : List Int} (h : Ele n (x :: o)) : Ele n o := fun y hy => h y (by simp [hy])
theorem Ele.one {n : Nat} {x : Int} {o : List Int} (hn : n ≤ 64) (h : Ele n (x :: o)) : InN n [x] := inN_one hn (h x (by simp)).1 (h x (by simp)).2
section
variable {m : Mat} {on : Int → Nat → Bool} {n : Nat}
theorem next_in {s : List Int} {x : Int} (hs : InN n s) (hx : InN n [x]) : InN n (if indT m (unionL s [x]) = true then unionL s [x] else s) := by
  split
  · exact inN_union hs hx
  · exact hs
theorem takeK_in (hn : n ≤ 64) : ∀ {o s : List Int}, InN n s → Ele n o → InN n (takeK m on s o)
  | [], s, hs, _ => by rw [takeK]; exact hs
  | x :: o, s, hs, ho => by
    rw [takeK]
    split
    · exact takeK_in hn (next_in hs (ho.one hn)) ho.tail
    · exact hs
/-! ### One more -/
theorem take_stop {k : Int} {s : List Int} (h : k ≤ (s.length : Int)) : ∀ o, takeK m (lessB k) s o = s
  | [] => by rw [takeK]
  | x :: o => by
    rw [takeK, if_neg]
    unfold lessB
    rw [decide_eq_true_iff]
    omega
theorem take_more (hn : n ≤ 64) (k : Int) : ∀ {o s : List Int}, InN n s → Ele n o → (∀ y ∈ takeK m (lessB k) s o, y ∈ takeK m (lessB (k + 1)) s o) ∧ (takeK m (lessB (k + 1)) s o).length ≤ (takeK m (lessB k) s o).length + 1
  | [], s, _, _ => by rw [takeK, takeK]; exact ⟨fun _ h => h, by omega⟩
  | x :: o, s, hs, ho => by
    rcases (by omega : (s.length : Int) < k ∨ (s.length : Int) = k ∨ k + 1 ≤ (s.length : Int)) with h | h | h
    · have e1 : lessB k x s.length = true := decide_eq_true h
      have e2 : lessB (k + 1) x s.length = true := decide_eq_true (by omega)
      rw [takeK, takeK, if_pos e1, if_pos e2]
      exact take_more hn k (next_in hs (ho.one hn)) ho.tail
    · have e2 : lessB (k + 1) x s.length = true := decide_eq_true (by omega)
      rw [take_stop (by omega), takeK, if_pos e2]
      split
      · next hi =>
        by_cases hl : (unionL s [x]).length = s.length + 1
        · rw [take_stop (by omega)]
          exact ⟨fun y hy => (mem_union hs.1 (ho.one hn).1 y).2 (.inl hy), by omega⟩
        · -- nothing was added
          have hu : unionL s [x] = s := by
            have h1 := union_length s [x]
            simp only [List.length_cons, List.length_nil] at h1
            have h2 := alg_len hs.1 (ho.one hn).1
            simp only [List.length_cons, List.length_nil] at h2
            have hm : 0 < (meetL s [x]).length := by omega
            obtain ⟨z, hz⟩ := List.exists_mem_of_length_pos hm
            have hz := (mem_meet hs.1 (ho.one hn).1 z).1 hz
            rw [List.mem_singleton] at hz
            refine IsSet.ext (union_set _ _) hs.1 fun y => ?_
            rw [mem_union hs.1 (ho.one hn).1, List.mem_singleton]
            refine ⟨fun h => h.elim id fun e => ?_, .inl⟩
            rw [e, ← hz.2]
            exact hz.1
          rw [hu]
          have := take_more hn k hs ho.tail
          rw [take_stop (by omega)] at this
          exact this
      · have := take_more hn k hs ho.tail
        rw [take_stop (by omega)] at this
        exact this
    · rw [take_stop (by omega), take_stop (by omega)]
      exact ⟨fun _ h => h, by omega⟩

/-! ### Without a bound -/
end
/-! ### Weights -/
def sumP (f : Nat → Int) (P : Nat → Bool) : Nat → Int
  | 0 => 0
  | n + 1 => sumP f P n + if P n = true then f n else 0
theorem sumP_or (f : Nat → Int) (P Q : Nat → Bool) : ∀ n, sumP f (orP P Q) n + sumP f (andP P Q) n = sumP f P n + sumP f Q n
  | 0 => rfl
  | n + 1 => by
    have ih := sumP_or f P Q n
    rw [sumP, sumP, sumP, sumP]
    show _ + (if (P n || Q n) = true then f n else 0) + (_ + (if (P n && Q n) = true then f n else 0)) = _
    cases P n <;> cases Q n <;> simp <;> omega
theorem sumP_range (f : Nat → Int) (P : Nat → Bool) : ∀ n, ((pickN n P).map f).sum = sumP f P n
  | 0 => rfl
  | n + 1 => by
    have ih := sumP_range f P n
    unfold pickN at ih ⊢
    rw [List.range_succ, List.filter_append, List.map_append, List.sum_append_int, ih, sumP]
    cases h : P n <;> simp [List.filter, h]
theorem sumW_sumP {n : Nat} {s : List Int} (w : List Int) (h : InN n s) : sumW w s = sumP (fun i => w.getD i 0) (memP s) n := by
  rw [← sumP_range, ← map_pick h]
  rfl
/-- Two sets weigh what their union and their meet do. -/
theorem sumW_or {n : Nat} {a s : List Int} (w : List Int) (ha : InN n a) (hs : InN n s) : sumW w (unionL a s) + sumW w (meetL a s) = sumW w a + sumW w s := by
  rw [sumW_sumP w (inN_union ha hs), sumW_sumP w (inN_meet ha hs), sumW_sumP w ha, sumW_sumP w hs, memP_union ha.1 hs.1, memP_meet ha.1 hs.1]
  exact sumP_or _ _ _ _
theorem addW_any (w : List Int) {c : Int} (hc : 0 ≤ c) (hw : ∀ x ∈ w, -c ≤ x ∧ x ≤ c) : ∀ (s : List Int) (n : Int), -(4611686018427387904 - c * s.length) ≤ n → n ≤ 4611686018427387904 - c * s.length → s.foldl (fun n x => IntKind.i64.wrap (n + wt w x)) n = n + sumW w s ∧ -(c * s.length) ≤ sumW w s ∧ sumW w s ≤ c * s.length
  | [], n, _, _ => by simp [sumW]
  | x :: s, n, h1, h2 => by
    have hx : -c ≤ wt w x ∧ wt w x ≤ c := by
      unfold wt
      by_cases h : x.toNat < w.length
      · exact hw _ (getD_of 0 h)
      · rw [List.getD_eq_getElem?_getD, List.getElem?_eq_none (by omega)]
        simp
        omega
    have e : c * ((x :: s).length : Int) = c * (s.length : Int) + c := by
      rw [List.length_cons, Int.natCast_succ, Int.mul_add, Int.mul_one]
    rw [e] at h1 h2 ⊢
    have hnn : 0 ≤ c * (s.length : Int) := Int.mul_nonneg hc (by omega)
    have hwr : IntKind.i64.wrap (n + wt w x) = n + wt w x := wrap_le (by omega) (by omega)
    obtain ⟨a1, a2, a3⟩ := addW_any w hc hw s (n + wt w x) (by omega) (by omega)
    rw [List.foldl_cons, hwr, a1]
    unfold sumW at *
    rw [List.map_cons, List.sum_cons]
    refine ⟨by omega, by omega, by omega⟩

/-! ### No independent set of as many is heavier -/
def gain (w : List Int) (A : Int → Bool) : List Int → Int
  | [] => 0
  | x :: o => (if A x = true then wt w x else 0) + gain w A o
theorem great_ele {n : Nat} {w : List Int} (hw : w.length = n) : Ele n (greatL w) := fun x hx => by
  have := ((great_places w).mem x).1 hx
  rw [hw] at this
  exact this
/-! ### The dual -/
def negL (w : List Int) : List Int := w.map fun x => -x
/-! ### All weights more -/
def moreL (w : List Int) (c : Int) : List Int := w.map fun x => x + c
theorem moreL_len (w : List Int) (c : Int) : (moreL w c).length = w.length := by simp [moreL]
theorem great_more (w : List Int) (c : Int) : greatL (moreL w c) = greatL w := by
  refine Places.unique (great_places _) ⟨?_, ?_⟩
  · rw [moreL_len]; exact (great_places w).perm
  · refine (great_places w).sorted.imp_of_mem fun {x y} hx hy h => ?_
    have hx := ((great_places w).mem x).1 hx
    have hy := ((great_places w).mem y).1 hy
    have e : ∀ z : Int, 0 ≤ z ∧ z < (w.length : Int) → (moreL w c).getD z.toNat 0 = w.getD z.toNat 0 + c := fun z hz => by
      have hlt : z.toNat < w.length := by omega
      simp [moreL, List.getD, hlt]
    unfold bef at h ⊢
    rw [e x hx, e y hy]
    omega

end Go.Proofs.YtolnkgghejhaeaaGreatDoor.Wp
