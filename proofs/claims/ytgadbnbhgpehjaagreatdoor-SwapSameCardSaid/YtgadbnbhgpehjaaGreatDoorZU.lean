/- What the laws of kinds say, plain; and which elements of the inner one a matroid's are. What is restricted or contracted, and which elements are told of it: plain. -/
import Derived.Test.YtgadbnbhgpehjaaGreatDoorZQ
namespace Go.Proofs.YtgadbnbhgpehjaaGreatDoor.Wp
open Go Go.RowKit
theorem Yo1 {k : Nat} {m : Mat} (h : ok (k + 1) m = true) : bad m = 0 := by
 rw [ok, Bool.and_eq_true] at h
 exact of_decide_eq_true h.1
theorem Xa0 {k : Nat} {m x : Mat} (h : ok (k + 1) m = true) (hx : x ∈ m.i) : ok k x = true := by
 rw [ok, Bool.and_eq_true] at h
 exact List.all_eq_true.1 h.2 x hx
theorem Y4_ {m : Mat} (h : chk m = 0) : bad m = 0 := Yo1 (chk_ok.1 h).2
theorem chk3 {m : Mat} : chk m = 0 ∧ dp 4 m ≤ 3 ↔ dp 3 m ≤ 3 ∧ ok 3 m = true := by
 have h1 : dp 3 m = min 4 (dp 4 m) := Zr0 3 m
 constructor
 ·rintro ⟨h, h3⟩
  have h3' : dp 3 m ≤ 3 := by omega
  exact ⟨h3', by rw [← Zr1 h3']; exact (chk_ok.1 h).2⟩
 ·rintro ⟨h, h2⟩
  exact ⟨chk_ok.2 ⟨by omega, by rw [Zr1 h]; exact h2⟩, by omega⟩
theorem D8_ {x : Int} (h1 : -1000000 ≤ x) (h2 : x ≤ 1000000) : IntKind.i64.wrap x = x := by rw [IntKind.wrap_i64]; omega
theorem Xp5 {x : Int} (h1 : -9223372036854775808 ≤ x) (h2 : x ≤ 9223372036854775807) : IntKind.i64.wrap x = x := by rw [IntKind.wrap_i64]; omega
theorem R9_ {m : Mat} (h : m.t = 7 ∨ m.t = 8 ∨ m.t = 9) : fitsB m = decide (m.n = tog m.i) := by
 unfold fitsB
 rw [if_neg (by omega), if_neg (by omega), if_neg (by omega), if_neg (by omega), if_neg (by omega), if_neg (by omega), if_neg (by omega)]
theorem X4_ {m x : Mat} (h : chk m = 0) (hx : x ∈ m.i) : chk x = 0 ∧ dp 4 x < dp 4 m := by
 obtain ⟨h1, h2⟩ := chk_ok.1 h
 have hb := Yo1 h2
 have hn : nest m.t := by
  refine Decidable.by_contra fun hn => ?_
  rw [N9_ hb hn] at hx
  cases hx
 have h3 : dp 3 x + 1 ≤ dp 4 m := W0_ (k := 3) hn hx
 obtain ⟨h4, h5⟩ := chk3.2 ⟨by omega, Xa0 h2 hx⟩
 have h6 : dp 3 x = min 4 (dp 4 x) := Zr0 3 x
 exact ⟨h4, by omega⟩
theorem chk_n {m : Mat} (h : chk m = 0) : 0 ≤ m.n ∧ m.n ≤ 64 := by
 obtain ⟨_, h2, _⟩ := X0_ (Y4_ h)
 exact ⟨h2.1, h2.2.1⟩
theorem Xp6 (m : Mat) (h : chk m = 0) : tog [m] = m.n := by
 obtain ⟨h1, h2⟩ := chk_n h
 show IntKind.i64.wrap (0 + m.n) = _
 rw [D8_ (by omega) (by omega)]
 omega
theorem Xa1 (l : List Mat) (x : Mat) : tog (l ++ [x]) = IntKind.i64.wrap (tog l + x.n) := by
 unfold tog
 rw [List.foldl_append]
 rfl
theorem Xi5 {l : List Mat} (h : ∀ x ∈ l, 0 ≤ x.n ∧ x.n ≤ 64) (hl : l.length ≤ 10) : 0 ≤ tog l ∧ tog l ≤ 64 * l.length := by
 have key : ∀ (l : List Mat) (s : Int), (∀ x ∈ l, 0 ≤ x.n ∧ x.n ≤ 64) → 0 ≤ s → s + 64 * l.length ≤ 1000000 → s ≤ l.foldl (fun n x => IntKind.i64.wrap (n + x.n)) s ∧ l.foldl (fun n x => IntKind.i64.wrap (n + x.n)) s ≤ s + 64 * l.length := by
  intro l
  induction l with
  | nil => intro s _ _ _; simp
  | cons x r ih =>
   intro s hx h0 hs
   have h1 := hx x (by simp)
   rw [List.length_cons] at hs
   rw [List.foldl_cons, D8_ (by omega) (by omega)]
   have := ih (s + x.n) (fun y hy => hx y (by simp [hy])) (by omega) (by omega)
   rw [List.length_cons]
   omega
 have := key l 0 h (by omega) (by omega)
 unfold tog
 omega
end Go.Proofs.YtgadbnbhgpehjaaGreatDoor.Wp
namespace Go.Proofs.YtgadbnbhgpehjaaGreatDoor.Wp
open Go Go.RowKit
def stayL (m : Mat) : List Int := if m.t = 6 then Z7_ (allL (inn m).n) (row m 0) else row m 0
def imgB (m : Mat) (s : List Int) : Bool := decide (m.t = 5 ∨ m.t = 6) && decide (chk m = 0) && subB s (allL m.n)
def imgM (m : Mat) (s : List Int) : List Int := s.map fun x => (stayL m).getD x.toNat 0
def imgL (m : Mat) (s : List Int) : List Int := if imgB m s then imgM m s else []
theorem Yo2 {a b : List Int} (ha : IsSet a) (hb : IsSet b) (h : ∀ x ∈ a, x ∈ b) : b.length = (Z7_ b a).length + a.length := by
 refine Zz6 (E3_ b a) ha hb (fun x hx => ((X8_ hb ha x).1 hx).2) fun x => ?_
 rw [X8_ hb ha x]
 constructor
 ·intro hx
  by_cases hxa : x ∈ a
  ·exact .inr hxa
  ·exact .inl ⟨hx, hxa⟩
 ·rintro (hx | hx)
  ·exact hx.1
  ·exact h x hx
theorem subB_iff {a b : List Int} : subB a b = true ↔ IsSet a ∧ IsSet b ∧ ∀ x ∈ a, x ∈ b := by
 constructor
 ·intro h
  have h' := h
  unfold subB at h'
  rw [Bool.and_eq_true, Bool.and_eq_true] at h'
  have ha := mayB_iff.1 h'.1.1
  have hb := mayB_iff.1 h'.1.2
  exact ⟨ha, hb, (Yk2 ha hb).1 h⟩
 ·rintro ⟨ha, hb, h⟩
  exact (Yk2 ha hb).2 h
theorem Zl4 {n : Int} (h0 : 0 ≤ n) (h1 : n ≤ 64) : ((allL n).length : Int) = n := by
 by_cases h : 1 ≤ n
 ·exact (Ya6 n).2 h (by omega)
 ·have : n = 0 := by omega
  subst this
  rfl
theorem B9_ {m : Mat} (h : chk m = 0) (ht : m.t = 5 ∨ m.t = 6) : m.l.length = 1 ∧ m.i.length = 1 := by
 have h3 := takes_iff.1 (X0_ (Y4_ h)).2.2.1
 rcases ht with e | e
 ·rw [e] at h3
  have e1 : (m.l.length : Int) = 1 := h3.2.2.1
  have e2 : (1 : Int) ≤ (m.i.length : Int) := h3.2.2.2.1
  have e3 : (m.i.length : Int) ≤ 1 := h3.2.2.2.2
  omega
 ·rw [e] at h3
  have e1 : (m.l.length : Int) = 1 := h3.2.2.1
  have e2 : (1 : Int) ≤ (m.i.length : Int) := h3.2.2.2.1
  have e3 : (m.i.length : Int) ≤ 1 := h3.2.2.2.2
  omega
theorem Yo3 {m : Mat} (h : 0 < m.i.length) : inn m ∈ m.i := by
 unfold inn
 rw [show m.i.getD 0 default = m.i[0] by simp [List.getD, h]]
 exact List.getElem_mem h
theorem P0_ {m : Mat} (h : chk m = 0) (ht : m.t = 5 ∨ m.t = 6) : ((stayL m).length : Int) = m.n := by
 have hf := (X0_ (Y4_ h)).2.2.2
 have hl := B9_ h ht
 have hi := chk_n (X4_ h (Yo3 (m := m) (by omega))).1
 have hn := chk_n h
 rcases ht with e | e
 ·have h5 : fitsB m = (partB m && decide (m.n = (row m 0).length)) := by
   unfold fitsB
   rw [if_neg (by omega), if_neg (by omega), if_neg (by omega), if_neg (by omega), if_neg (by omega), if_pos e]
  rw [h5, Bool.and_eq_true] at hf
  unfold stayL
  rw [if_neg (by omega)]
  exact (of_decide_eq_true hf.2).symm
 ·have h5 : fitsB m = (partB m && decide (IntKind.i64.wrap (m.n + (row m 0).length) = (inn m).n)) := by
   unfold fitsB
   rw [if_neg (by omega), if_neg (by omega), if_neg (by omega), if_neg (by omega), if_neg (by omega), if_neg (by omega), if_pos e]
  rw [h5, Bool.and_eq_true] at hf
  obtain ⟨hs1, hs2, hs3⟩ := subB_iff.1 hf.1
  have hlen := Yo2 hs1 hs2 hs3
  have hal := Zl4 hi.1 hi.2
  have hw := of_decide_eq_true hf.2
  unfold stayL
  rw [if_pos e]
  rw [Xp5 (by omega) (by omega)] at hw
  omega
theorem Yj5 {m : Mat} {s : List Int} (h : chk m = 0) (hs : subB s (allL m.n) = true) : ∀ k, k < s.length → 0 ≤ s.getD k 0 ∧ s.getD k 0 < m.n := by
 intro k hk
 have hn := chk_n h
 obtain ⟨_, _, h3⟩ := subB_iff.1 hs
 have hm := h3 (s.getD k 0) (by rw [show s.getD k 0 = s[k] by simp [List.getD, hk]]; exact List.getElem_mem hk)
 exact (G8_ hn.1 (by omega) _).1 hm
theorem S0_ (m : Mat) (s : List Int) : (imgM m s).length = s.length := by simp [imgM]
theorem Yj6 (m : Mat) (s : List Int) (k : Nat) (hk : k < s.length) : (imgM m s).getD k 0 = (stayL m).getD (s.getD k 0).toNat 0 := by
 simp [imgM, List.getD, hk]
def fillM (f : List Int) (n k : Nat) : Array Value := (ints (f.take k ++ List.replicate (n - k) 0)).toArray
theorem Za9 {f : List Int} {n k : Nat} (hf : f.length = n) (h : k ≤ n) : (fillM f n k).size = n := by
 simp [fillM, A0_]
 omega
theorem Zl5 {f : List Int} {n k : Nat} (hf : f.length = n) (h : k < n) : (fillM f n k).setIfInBounds k (.int .i64 (f.getD k 0)) = fillM f n (k + 1) := by
 unfold fillM
 rw [List.setIfInBounds_toArray]
 congr 1
 have ht : f.take (k + 1) = f.take k ++ [f.getD k 0] := by
  rw [List.take_succ_eq_append_getElem (by omega)]
  simp [List.getD, hf, h]
 rw [ht, V6_, V6_, V6_, List.append_assoc]
 have e : List.replicate (n - k) (0 : Int) = 0 :: List.replicate (n - (k + 1)) 0 := by
  rw [show n - k = (n - (k + 1)) + 1 from by omega, List.replicate_succ]
 have hl : (ints (f.take k)).length = k := by rw [A0_, List.length_take]; omega
 rw [e, List.set_append_right _ _ (by omega), hl, Nat.sub_self]
 rfl
theorem Zb0 (f : List Int) (n : Nat) : fillM f n 0 = filled n 0 := by simp [fillM, filled, upTo]
theorem Yo4 {f : List Int} {n : Nat} (hf : f.length = n) : fillM f n n = (ints f).toArray := by
 unfold fillM
 rw [Nat.sub_self, List.replicate_zero, List.append_nil, ← hf, List.take_length]
theorem Zl6 {w : World} {g n : Nat} {f : List Int} (hf : f.length = n) (h : Blk w g 3 (fillM f n n)) (hn : n ≤ maxLen) : Row w w.heap.size (.slice (some ⟨g, 0, none⟩) n n) f := by
 rw [Yo4 hf] at h
 refine ⟨_, n, by rw [hf], ⟨by omega, hn, fun e => by cases e⟩, fun k hk => ⟨_, rfl, h.lt, ?_⟩⟩
 have e : (⟨g, 0, none⟩ : Addr).add k = ⟨g, k, none⟩ := by unfold Addr.add; split <;> simp_all
 rw [e, h.cell]
 simp [ints, List.getD, hk]
end Go.Proofs.YtgadbnbhgpehjaaGreatDoor.Wp
namespace Go.Proofs.YtgadbnbhgpehjaaGreatDoor.Wp
open Go Go.RowKit
theorem Zf2 {n : Int} {l : List Int} (h : okA n l = true) : IsSet l ∧ ∀ x ∈ l, 0 ≤ x ∧ x < n := by
 unfold okA at h
 rw [Bool.and_eq_true] at h
 have hs := mayB_iff.1 h.1
 refine ⟨hs, fun x hx => ⟨(hs.2 x hx).1, ?_⟩⟩
 obtain ⟨i, hi, rfl⟩ := List.mem_iff_getElem.1 hx
 rw [Bool.or_eq_true, decide_eq_true_iff, decide_eq_true_iff] at h
 rcases h.2 with h2 | h2
 ·omega
 ·have hl : l.length - 1 < l.length := by omega
  rw [show l.getD (l.length - 1) 0 = l[l.length - 1] by simp [List.getD, hl]] at h2
  by_cases e : i = l.length - 1
  ·subst e
   exact h2
  ·have := List.pairwise_iff_getElem.1 hs.1 i (l.length - 1) hi hl (by omega)
   omega
theorem Zt4 {n : Int} {l : List Int} (hn : 0 ≤ n) (h64 : n ≤ 64) (hs : IsSet l) (h : ∀ x ∈ l, 0 ≤ x ∧ x < n) : subB l (allL n) = true :=
 subB_iff.2 ⟨hs, F6_ n, fun x hx => (G8_ hn (by omega) x).2 (h x hx)⟩
theorem Xp7 {n : Int} {l : List Int} (hn : 0 ≤ n) (h64 : n ≤ 64) (hs : IsSet l) (h : ∀ x ∈ l, 0 ≤ x ∧ x < n) : n = (Z7_ (allL n) l).length + l.length := by
 have h1 := Yo2 hs (F6_ n) (subB_iff.1 (Zt4 hn h64 hs h)).2.2
 have h2 := Zl4 hn h64
 omega
section
variable {m : Mat} {l : List Int} (hc : chk m = 0) (h3 : dp 4 m ≤ 3) (hs : IsSet l) (hl : ∀ x ∈ l, 0 ≤ x ∧ x < m.n)
include hc h3 hs hl
end
end Go.Proofs.YtgadbnbhgpehjaaGreatDoor.Wp
