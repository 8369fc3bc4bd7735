/- The document's own independence, kind by kind, plain: when a rank is as great as a set (VInd). -/
import Derived.Test.YtgadbnbhgpehjaaGreatDoorZN
import Derived.Test.YtgadbnbhgpehjaaGreatDoorZI
import Derived.Test.YtgadbnbhgpehjaaGreatDoorIExchP
import Derived.Test.YtgadbnbhgpehjaaGreatDoorZW
namespace Go.Proofs.YtgadbnbhgpehjaaGreatDoor.Wp
open Go Go.RowKit
section
variable {n : Nat} {f : (Nat → Bool) → Nat} {I : List Int → Bool}
theorem Yw4 (hn : n ≤ 64) {x : Int} (hx : 0 ≤ x ∧ x < (n : Int)) : InN n [x] := ⟨⟨by simp, fun z hz => by rw [List.mem_singleton.1 hz]; exact ⟨by omega, by omega⟩⟩, fun z hz => by rw [List.mem_singleton.1 hz]; exact hx⟩
theorem Yw5 (hn : n ≤ 64) {out : List Int} {x : Int} (ho : InN n out) (hx : 0 ≤ x ∧ x < (n : Int)) (hlt : ∀ y ∈ out, y < x) : Y2_ out [x] = out ++ [x] := by
 have h1 := Yw4 hn hx
 refine IsSet.ext (E2_ _ _) ⟨?_, fun y hy => ?_⟩ fun y => ?_
 ·rw [List.pairwise_append]
  exact ⟨ho.1.1, by simp, fun a ha b hb => by rw [List.mem_singleton.1 hb]; exact hlt a ha⟩
 ·rcases List.mem_append.1 hy with hy | hy
  ·exact ho.1.2 y hy
  ·exact h1.1.2 y hy
 ·rw [Q5_ ho.1 h1.1, List.mem_append]
theorem Zj9 (h : Rk n f) (hn : n ≤ 64) (hI : ∀ t, InN n t → (I t = true ↔ f (memP t) = t.length)) : ∀ (r out : List Int), InN n out → InN n r → (∀ y ∈ out, ∀ z ∈ r, y < z) → f (memP out) = out.length →
  InN n (baseL I out r) ∧ (∀ y ∈ out, y ∈ baseL I out r) ∧ (∀ y ∈ baseL I out r, y ∈ out ∨ y ∈ r) ∧ f (memP (baseL I out r)) = (baseL I out r).length ∧ ∀ y ∈ r, f (insP (memP (baseL I out r)) y.toNat) = f (memP (baseL I out r))
 | [], out, ho, _, _, hf => ⟨ho, fun _ h => h, fun _ h => .inl h, hf, fun _ h => absurd h (by simp)⟩
 | x :: r, out, ho, hr, hlt, hf => by
  have hx := hr.2 x (by simp)
  have hr' : InN n r := ⟨⟨(List.pairwise_cons.1 hr.1.1).2, fun y hy => hr.1.2 y (by simp [hy])⟩, fun y hy => hr.2 y (by simp [hy])⟩
  have hxr : ∀ z ∈ r, x < z := (List.pairwise_cons.1 hr.1.1).1
  have hu := Yw5 hn ho hx fun y hy => hlt y hy x (by simp)
  have h1 := Yw4 hn hx
  have hou : InN n (out ++ [x]) := by rw [← hu]; exact B1_ ho h1
  have hmem : memP (out ++ [x]) = insP (memP out) x.toNat := by rw [← hu, G3_ ho.1 h1.1, Zg5 hx.1]
  have hIu := hI _ hou
  rw [baseL, hu]
  by_cases hb : I (out ++ [x]) = true
  ·rw [if_pos hb]
   obtain ⟨a1, a2, a3, a4, a5⟩ := Zj9 h hn hI r (out ++ [x]) hou hr' (fun y hy z hz => by
    rcases List.mem_append.1 hy with hy | hy
    ·exact hlt y hy z (by simp [hz])
    ·rw [List.mem_singleton.1 hy]; exact hxr z hz) (hIu.1 hb)
   refine ⟨a1, fun y hy => a2 y (by simp [hy]), fun y hy => ?_, a4, fun y hy => ?_⟩
   ·rcases a3 y hy with c | c
    ·rcases List.mem_append.1 c with c | c
     ·exact .inl c
     ·exact .inr (by rw [List.mem_singleton.1 c]; simp)
    ·exact .inr (by simp [c])
   ·rcases List.mem_cons.1 hy with rfl | hy
    ·rw [I9_ (memP_iff.2 (by rw [show ((y.toNat : Nat) : Int) = y by omega]; exact a2 y (by simp)))]
    ·exact a5 y hy
  ·rw [if_neg hb]
   obtain ⟨a1, a2, a3, a4, a5⟩ := Zj9 h hn hI r out ho hr' (fun y hy z hz => hlt y hy z (by simp [hz])) hf
   refine ⟨a1, a2, fun y hy => ?_, a4, fun y hy => ?_⟩
   ·rcases a3 y hy with c | c
    ·exact .inl c
    ·exact .inr (by simp [c])
   ·rcases List.mem_cons.1 hy with rfl | hy
    ·have hyn : y.toNat < n := by omega
     have e2 : ¬ f (memP (out ++ [y])) = (out ++ [y]).length := fun e => hb (hIu.2 e)
     rw [hmem, List.length_append, List.length_singleton] at e2
     have u1 := h.up' (memP out) hyn
     have u2 := h.one' (memP out) hyn
     have u3 := h.dim_set (P := memP out) (Q := memP (baseL I out r)) (fun i _ hp => memP_iff.2 (a2 _ (memP_iff.1 hp))) hyn
     have u4 := h.up' (memP (baseL I out r)) hyn
     omega
    ·exact a5 y hy
theorem K8_ (h : Rk n f) (hn : n ≤ 64) (hI : ∀ t, InN n t → (I t = true ↔ f (memP t) = t.length)) {s : List Int} (hs : InN n s) :
  InN n (baseL I [] s) ∧ (∀ y ∈ baseL I [] s, y ∈ s) ∧ (baseL I [] s).length = f (memP s) ∧ f (memP (baseL I [] s)) = (baseL I [] s).length ∧ ∀ Q, f (orP Q (memP (baseL I [] s))) = f (orP Q (memP s)) := by
 obtain ⟨a1, _, a3, a4, a5⟩ := Zj9 h hn hI s [] (Xp8 n) hs (fun y hy => absurd hy (by simp)) (by rw [Zf3, h.zero]; rfl)
 have hsub : ∀ y ∈ baseL I [] s, y ∈ s := fun y hy => (a3 y hy).resolve_left (by simp)
 have hall : ∀ Q, f (orP Q (memP (baseL I [] s))) = f (orP Q (memP s)) := fun Q => by
  have hcl := h.closed (orP Q (memP (baseL I [] s))) (memP s) (fun x hx hsx => by
   have e := a5 x (memP_iff.1 hsx)
   rw [Int.toNat_natCast] at e
   have u3 := h.dim_set (P := memP (baseL I [] s)) (Q := orP Q (memP (baseL I [] s))) (fun i _ hp => by unfold orP; rw [hp]; simp) hx
   have u4 := h.up' (orP Q (memP (baseL I [] s))) hx
   omega) n (Nat.le_refl _)
  rw [E9_ h] at hcl
  rw [← hcl]
  refine h.ext fun i _ => ?_
  unfold orP
  cases hq : Q i
  ·cases hb : memP (baseL I [] s) i
   ·rfl
   ·have := memP_iff.2 (hsub _ (memP_iff.1 hb))
    rw [this]; rfl
  ·rfl
 refine ⟨a1, hsub, ?_, a4, hall⟩
 have := hall noneP
 rw [show orP noneP (memP (baseL I [] s)) = memP (baseL I [] s) from rfl, show orP noneP (memP s) = memP s from rfl] at this
 omega
end
theorem Yw6 {g h : Nat → Nat} : ∀ {k : Nat}, (∀ c, c < k → g c ≤ h c) → sumN g k ≤ sumN h k
 | 0, _ => Nat.le_refl _
 | k + 1, e => by
  rw [sumN, sumN]
  have := Yw6 (g := g) (h := h) (k := k) fun c hc => e c (by omega)
  have := e k (by omega)
  omega
theorem Yw7 {g h : Nat → Nat} : ∀ {k : Nat}, (∀ c, c < k → g c ≤ h c) → sumN g k = sumN h k → ∀ c, c < k → g c = h c
 | 0, _, _, c, hc => by omega
 | k + 1, e, he, c, hc => by
  rw [sumN, sumN] at he
  have h1 := Yw6 (g := g) (h := h) (k := k) fun c hc => e c (by omega)
  have h2 := e k (by omega)
  by_cases hck : c = k
  ·rw [hck]; omega
  ·exact Yw7 (k := k) (fun c hc => e c (by omega)) (by omega) c (by omega)
theorem Xu4 {A n : Nat} {cls : Nat → Nat} (hc : ∀ i, i < n → cls i < A) (P : Nat → Bool) : sumN (clsN n cls P) A = cnt P n := by
 have h := (Zs8 (A := A) (n := n) (cls := cls) (most := fun _ => n) hc)
 have e : partR A n cls (fun _ => n) P = sumN (clsN n cls P) A := O7_ fun c _ => Nat.min_eq_right (by unfold clsN; exact A1_ _ _)
 rw [← e]
 have key : ∀ k, k ≤ n → partR A n cls (fun _ => n) (addK noneP P k) = cnt (addK noneP P k) n := fun k => by
  induction k with
  | zero => intro _; rw [E6_, h.zero, F0_]
  | succ k ih =>
   intro hk
   have ih := ih (by omega)
   cases hp : P k
   ·rw [M8_ hp]; exact ih
   ·have hno : addK noneP P k k = false := by simp [addK, noneP]
    have c1 := H6_ (n := n) (by omega : k < n) hno
    have c2 := A1_ (insP (addK noneP P k) k) n
    have c3 : clsN n cls (addK noneP P k) (cls k) ≤ cnt (addK noneP P k) n := (F8_ n).mono (P := fun i => addK noneP P k i && cls i == cls k) fun i _ hi => by
     rw [Bool.and_eq_true] at hi
     exact hi.1
    rw [H5_ hp, Zm6 (hc k (by omega)) (by omega) hno, if_pos (by omega), c1, ih]
 have e1 := key n (Nat.le_refl _)
 rw [E9_ h, E9_ (F8_ n)] at e1
 exact e1
theorem Xg2 {A n : Nat} {cls most : Nat → Nat} (hc : ∀ i, i < n → cls i < A) (P : Nat → Bool) : partR A n cls most P = cnt P n ↔ ∀ c, c < A → clsN n cls P c ≤ most c := by
 rw [← Xu4 hc P]
 constructor
 ·intro h c hca
  have := Yw7 (g := fun c => min (most c) (clsN n cls P c)) (h := clsN n cls P) (fun c _ => Nat.min_le_right _ _) h c hca
  have this : min (most c) (clsN n cls P c) = clsN n cls P c := this
  omega
 ·intro h
  exact O7_ fun c hca => Nat.min_eq_right (h c hca)
theorem Xg3 {n : Nat} {cl s : List Int} (hs : InN n s) (hcl : ∀ i, i < n → 0 ≤ cl.getD i 0) (c : Nat) : cntC cl s (c : Int) = clsN n (fun i => (cl.getD i 0).toNat) (memP s) c := by
 have hf : InN n (s.filter fun x => cl.getD x.toNat 0 == (c : Int)) := ⟨⟨hs.1.1.filter _, fun x hx => hs.1.2 x (List.mem_filter.1 hx).1⟩, fun x hx => hs.2 x (List.mem_filter.1 hx).1⟩
 unfold cntC
 rw [V1_ hf]
 unfold clsN
 refine K0_ fun i hi => ?_
 have h0 := hcl i hi
 rw [Bool.eq_iff_iff, memP_iff, List.mem_filter, Bool.and_eq_true, memP_iff, beq_iff_eq, beq_iff_eq, Int.toNat_natCast]
 constructor
 ·rintro ⟨a, b⟩
  refine ⟨a, ?_⟩
  show (cl.getD i 0).toNat = c
  omega
 ·rintro ⟨a, b⟩
  have b : (cl.getD i 0).toNat = c := b
  exact ⟨a, by omega⟩
inductive SDR (l : List (List Int)) : List Int → List Int → Prop
 | nil : SDR l [] []
 | cons {x r : Int} {s rs : List Int} : r ∈ l.getD x.toNat [] → r ∉ rs → SDR l s rs → SDR l (x :: s) (r :: rs)
theorem S7_ {l : List (List Int)} (hl : ∀ i, IsSet (l.getD i [])) : ∀ {s used : List Int}, IsSet used → (D7_ l s used = true ↔ ∃ rs, SDR l s rs ∧ ∀ r ∈ rs, r ∉ used)
 | [], used, _ => ⟨fun _ => ⟨[], .nil, fun r hr => absurd hr (by simp)⟩, fun _ => rfl⟩
 | x :: s, used, hu => by
  rw [D7_, List.any_eq_true]
  have h1 : ∀ r ∈ l.getD x.toNat [], IsSet [r] := fun r hr => ⟨by simp, fun z hz => by rw [List.mem_singleton.1 hz]; exact (hl _).2 r hr⟩
  constructor
  ·rintro ⟨r, hr, hm⟩
   obtain ⟨a, b⟩ := (X8_ (hl _) hu r).1 hr
   obtain ⟨rs, hrs, hno⟩ := (S7_ hl (E2_ _ _)).1 hm
   have hn2 : ∀ q ∈ rs, q ∉ used ∧ q ≠ r := fun q hq => ⟨fun h => hno q hq ((Q5_ hu (h1 r a) q).2 (.inl h)), fun h => hno q hq ((Q5_ hu (h1 r a) q).2 (.inr (by simp [h])))⟩
   refine ⟨r :: rs, .cons a (fun h => (hn2 r h).2 rfl) hrs, fun q hq => ?_⟩
   rcases List.mem_cons.1 hq with rfl | hq
   ·exact b
   ·exact (hn2 q hq).1
  ·rintro ⟨rs, hrs, hno⟩
   cases hrs with
   | cons a b hrs =>
    rename_i r rs
    refine ⟨r, (X8_ (hl _) hu r).2 ⟨a, hno r (by simp)⟩, (S7_ hl (E2_ _ _)).2 ⟨rs, hrs, fun q hq h => ?_⟩⟩
    rcases (Q5_ hu (h1 r a) q).1 h with h | h
    ·exact hno q (by simp [hq]) h
    ·rw [List.mem_singleton.1 h] at hq
     exact b hq
theorem Yw8 {n R : Nat} {g : Nat → Nat → Prop} {P : Nat → Bool} {x : Nat} (hx : x < n) (hg : ∀ r, g x r → r < R) (hP : covR n R g P ≤ cnt P n) (h : covR n R g (insP P x) = cnt P n + 1) : ∃ r, g x r ∧ covR n R (fun i q => g i q ∧ q ≠ r) P = cnt P n := by
 refine Classical.byContradiction fun hno => ?_
 have hno : ∀ r, g x r → covR n R (fun i q => g i q ∧ q ≠ r) P ≠ cnt P n := fun r hr e => hno ⟨r, hr, e⟩
 have hlow : ∀ A B, CovP n g P A B → cnt P n ≤ cnt A n + cnt B R := fun A B hc => by
  have h1 := H7_ (R := R) ⟨A, B, hc, Nat.le_refl _⟩
  have h2 := (Zk5 n R g).one' P hx
  omega
 have key : ∀ k, k ≤ R → ∃ A B, CovP n g P A B ∧ cnt A n + cnt B R ≤ cnt P n ∧ ∀ r, r < k → g x r → B r = true := fun k => by
  induction k with
  | zero => exact fun _ => ⟨P, noneP, fun i r _ hp _ => .inl hp, by rw [F0_]; exact Nat.le_refl _, fun r hr => by omega⟩
  | succ k ih =>
   intro hk
   obtain ⟨A, B, hc, hs, hB⟩ := ih (by omega)
   by_cases hgk : g x k
   ·obtain ⟨A', B', hc', hs'⟩ := F1_ n R (fun i q => g i q ∧ q ≠ k) P
    have hle : covR n R (fun i q => g i q ∧ q ≠ k) P ≤ cnt P n := (Zk5 n R _).le_cnt P
    have hne := hno k hgk
    have hcc : CovP n g P A' (insP B' k) := fun i r hi hp hgr => by
     by_cases e : r = k
     ·rw [e, Q2_]; exact .inr rfl
     ·rw [V7_ e]; exact hc' i r hi hp ⟨hgr, e⟩
    have hB1 := (F8_ R).one' B' (show k < R by omega)
    have c2 := hlow (orP A A') (andP B (insP B' k)) fun i r hi hp hgr => by
     unfold orP andP
     rcases hc i r hi hp hgr with e | e
     ·exact .inl (by rw [e]; rfl)
     ·rcases hcc i r hi hp hgr with e' | e'
      ·exact .inl (by rw [e', Bool.or_true])
      ·exact .inr (by rw [e, e']; rfl)
    have s1 := (F8_ n).submod A A'
    have s2 := (F8_ R).submod B (insP B' k)
    refine ⟨andP A A', orP B (insP B' k), fun i r hi hp hgr => ?_, ?_, fun r hr hgr => ?_⟩
    ·unfold orP andP
     rcases hc i r hi hp hgr with e | e
     ·rcases hcc i r hi hp hgr with e' | e'
      ·exact .inl (by rw [e, e']; rfl)
      ·exact .inr (by rw [e', Bool.or_true])
     ·exact .inr (by rw [e]; rfl)
    ·omega
    ·unfold orP
     by_cases e : r = k
     ·rw [e, Q2_, Bool.or_true]
     ·rw [hB r (by omega) hgr]; rfl
   ·exact ⟨A, B, hc, hs, fun r hr hgr => hB r (by
     rcases Nat.lt_or_ge r k with h | h
     ·exact h
     ·exact absurd (show g x k by rw [show k = r by omega]; exact hgr) hgk) hgr⟩
 obtain ⟨A, B, hc, hs, hB⟩ := key R (Nat.le_refl _)
 have := H7_ (n := n) (R := R) (g := g) (P := insP P x) (k := cnt P n) ⟨A, B, fun i r hi hp hgr => by
  by_cases e : i = x
  ·rw [e] at hgr; exact .inr (hB r (hg r hgr) hgr)
  ·rw [V7_ e] at hp; exact hc i r hi hp hgr, hs⟩
 omega
theorem Xg4 {n : Nat} {x : Int} {s : List Int} (h : InN n (x :: s)) : InN n s ∧ 0 ≤ x ∧ x < (n : Int) ∧ memP s x.toNat = false ∧ memP (x :: s) = insP (memP s) x.toNat := by
 have hx := h.2 x (by simp)
 have hp := List.pairwise_cons.1 h.1.1
 refine ⟨⟨⟨hp.2, fun y hy => h.1.2 y (by simp [hy])⟩, fun y hy => h.2 y (by simp [hy])⟩, hx.1, hx.2, ?_, ?_⟩
 ·rw [← Bool.not_eq_true, memP_iff, show ((x.toNat : Nat) : Int) = x by omega]
  exact fun hm => by have := hp.1 x hm; omega
 ·funext i
  rw [Bool.eq_iff_iff, memP_iff]
  unfold insP
  rw [Bool.or_eq_true, beq_iff_eq, memP_iff, List.mem_cons]
  constructor
  ·rintro (e | e)
   ·exact .inl (by omega)
   ·exact .inr e
  ·rintro (e | e)
   ·exact .inl (by omega)
   ·exact .inr e
theorem Xk6 {l : List (List Int)} {n R : Nat} (hR : ∀ (i r : Nat), (r : Int) ∈ l.getD i [] → r < R) : ∀ {s U : List Int}, InN n s → covR n R (fun i r => (r : Int) ∈ l.getD i [] ∧ (r : Int) ∉ U) (memP s) = s.length → ∃ rs, SDR l s rs ∧ ∀ r ∈ rs, r ∉ U
 | [], U, _, _ => ⟨[], .nil, fun r hr => absurd hr (by simp)⟩
 | x :: s, U, hs, h => by
  obtain ⟨h1, h2, h3, h4, h5⟩ := Xg4 hs
  have hx : x.toNat < n := by omega
  rw [h5, List.length_cons, V1_ h1] at h
  obtain ⟨r, ⟨hr1, hr2⟩, hr⟩ := Yw8 hx (fun r hr => hR _ r hr.1) ((Zk5 n R _).le_cnt _) h
  have e : (fun (i q : Nat) => ((q : Int) ∈ l.getD i [] ∧ (q : Int) ∉ U) ∧ q ≠ r) = fun (i q : Nat) => (q : Int) ∈ l.getD i [] ∧ (q : Int) ∉ (r : Int) :: U := by
   funext i q
   refine propext ⟨fun ⟨⟨a, b⟩, c⟩ => ⟨a, fun hq => ?_⟩, fun ⟨a, b⟩ => ⟨⟨a, fun hq => b (by simp [hq])⟩, fun e => b (by simp [e])⟩⟩
   rcases List.mem_cons.1 hq with e | e
   ·exact c (by omega)
   ·exact b e
  rw [e, ← V1_ h1] at hr
  obtain ⟨rs, hrs, hno⟩ := Xk6 hR h1 hr
  refine ⟨(r : Int) :: rs, .cons hr1 (fun hm => hno _ hm (by simp)) hrs, fun q hq => ?_⟩
  rcases List.mem_cons.1 hq with rfl | hq
  ·exact hr2
  ·exact fun hm => hno q hq (by simp [hm])
theorem Zo1 {l : List (List Int)} {A B : Nat → Bool} : ∀ {s rs : List Int}, SDR l s rs → (∀ x ∈ s, ∀ r ∈ l.getD x.toNat [], A x.toNat = true ∨ B r.toNat = true) → s.length ≤ (s.filter fun x => A x.toNat).length + (rs.filter fun r => B r.toNat).length
 | _, _, .nil, _ => Nat.le_refl _
 | _, _, .cons (x := x) (r := r) (s := s) (rs := rs) a b hrs, h => by
  have ih := Zo1 hrs fun y hy => h y (by simp [hy])
  rw [List.filter_cons, List.filter_cons, List.length_cons]
  rcases h x (by simp) r a with e | e
  ·rw [if_pos e, List.length_cons]
   split <;> (try simp only [List.length_cons]) <;> omega
  ·rw [if_pos e, List.length_cons]
   split <;> (try simp only [List.length_cons]) <;> omega
theorem Zo2 {l : List (List Int)} {R : Nat} (hR : ∀ (i : Nat) (r : Int), r ∈ l.getD i [] → 0 ≤ r ∧ r < (R : Int)) : ∀ {s rs : List Int}, SDR l s rs → rs.Nodup ∧ ∀ r ∈ rs, 0 ≤ r ∧ r < (R : Int)
 | _, _, .nil => ⟨List.nodup_nil, fun r hr => absurd hr (by simp)⟩
 | _, _, .cons a b hrs => by
  obtain ⟨h1, h2⟩ := Zo2 hR hrs
  refine ⟨List.nodup_cons.2 ⟨b, h1⟩, fun q hq => ?_⟩
  rcases List.mem_cons.1 hq with rfl | hq
  ·exact hR _ _ a
  ·exact h2 q hq
theorem Yw9 {l : List (List Int)} {n R : Nat} {s : List Int} (hl : ∀ i, IsSet (l.getD i [])) (hR : ∀ (i : Nat) (r : Int), r ∈ l.getD i [] → 0 ≤ r ∧ r < (R : Int)) (hs : InN n s) : D7_ l s [] = true ↔ covR n R (fun i r => (r : Int) ∈ l.getD i []) (memP s) = s.length := by
 rw [S7_ hl V4_]
 constructor
 ·rintro ⟨rs, hrs, -⟩
  have hle := (Zk5 n R (fun i r => (r : Int) ∈ l.getD i [])).le_cnt (memP s)
  rw [← V1_ hs] at hle
  refine Nat.le_antisymm hle ?_
  obtain ⟨A, B, hc, hk⟩ := F1_ n R (fun i r => (r : Int) ∈ l.getD i []) (memP s)
  have h1 := Zo1 (A := A) (B := B) hrs fun x hx r hr => by
   have hxb := hs.2 x hx
   have hrb := hR _ r hr
   exact hc x.toNat r.toNat (by omega) (memP_iff.2 (by rw [show ((x.toNat : Nat) : Int) = x by omega]; exact hx)) (show ((r.toNat : Nat) : Int) ∈ l.getD x.toNat [] by rw [show ((r.toNat : Nat) : Int) = r by omega]; exact hr)
  obtain ⟨n1, n2⟩ := Zo2 hR hrs
  have h2 : (s.filter fun x => A x.toNat).length ≤ cnt A n := by
   have hf : InN n (s.filter fun x => A x.toNat) := ⟨⟨hs.1.1.filter _, fun x hx => hs.1.2 x (List.mem_filter.1 hx).1⟩, fun x hx => hs.2 x (List.mem_filter.1 hx).1⟩
   rw [V1_ hf]
   exact (F8_ n).mono fun i _ hi => by
    have := (List.mem_filter.1 (memP_iff.1 hi)).2
    rwa [Int.toNat_natCast] at this
  have h3 : (rs.filter fun r => B r.toNat).length ≤ cnt B R := by
   have := K.nodup_le (a := rs.filter fun r => B r.toNat) (b := ((List.range R).filter B).map fun (q : Nat) => (q : Int)) (n1.filter _) fun r hr => by
    obtain ⟨a, b⟩ := List.mem_filter.1 hr
    have := n2 r a
    exact List.mem_map.2 ⟨r.toNat, List.mem_filter.2 ⟨List.mem_range.2 (by omega), b⟩, by omega⟩
   rw [List.length_map] at this
   exact this
  omega
 ·intro h
  obtain ⟨rs, hrs, _⟩ := Xk6 (l := l) (n := n) (R := R) (U := []) (fun i r hr => by have := hR i _ hr; omega) hs (by
   rw [show (fun (i r : Nat) => (r : Int) ∈ l.getD i [] ∧ (r : Int) ∉ []) = fun (i r : Nat) => (r : Int) ∈ l.getD i [] by funext i r; simp]
   exact h)
  exact ⟨rs, hrs, fun r _ => by simp⟩
noncomputable def indB (k : Nat) (m : Mat) (s : List Int) : Bool := decide (rkP k m (memP s) = s.length)
theorem X5_ {k : Nat} {m : Mat} {s : List Int} : indB k m s = true ↔ rkP k m (memP s) = s.length := by unfold indB; rw [decide_eq_true_iff]
theorem Vq4 {m : Mat} {s : List Int} (h : mayI m s = true) : indT m s = indB 4 m s := by rw [Bool.eq_iff_iff, X5_]; exact L6_ h
theorem Zw7 (P : Nat → Bool) (a : Nat) : ∀ b, cnt P (a + b) = cnt P a + cnt (fun i => P (a + i)) b
 | 0 => by simp [cnt]
 | b + 1 => by rw [← Nat.add_assoc, X3_, X3_, Zw7 P a b]; omega
theorem Xz0 {f : Mat → (Nat → Bool) → Nat} : ∀ {l : List Mat} {P : Nat → Bool}, (∀ x ∈ l, ∀ Q, f x Q ≤ cnt Q (nN x)) → sumR f l P ≤ cnt P (l.map nN).sum
 | [], P, _ => by simp [sumR]
 | x :: r, P, h => by
  rw [sumR, List.map_cons, List.sum_cons, Zw7]
  have := h x (by simp) P
  have := Xz0 (f := f) (l := r) (P := fun i => P (nN x + i)) fun y hy => h y (by simp [hy])
  omega
theorem Ya2 {f : Mat → (Nat → Bool) → Nat} : ∀ {l : List Mat} {P : Nat → Bool}, (∀ x ∈ l, ∀ Q, f x Q ≤ cnt Q (nN x)) → (sumR f l P = cnt P (l.map nN).sum ↔ ∀ j, j < l.length → f (l.getD j default) (fun i => P (offN l j + i)) = cnt (fun i => P (offN l j + i)) (nN (l.getD j default)))
 | [], P, _ => ⟨fun _ j hj => absurd hj (by simp), fun _ => by simp [sumR, cnt]⟩
 | x :: r, P, h => by
  have h1 := h x (by simp) P
  have h2 := Xz0 (f := f) (l := r) (P := fun i => P (nN x + i)) fun y hy => h y (by simp [hy])
  have ih := Ya2 (f := f) (l := r) (P := fun i => P (nN x + i)) fun y hy => h y (by simp [hy])
  have e : ∀ j, offN (x :: r) (j + 1) = nN x + offN r j := fun j => by unfold offN; simp
  rw [sumR, List.map_cons, List.sum_cons, Zw7]
  constructor
  ·intro hs j hj
   match j with
   | 0 =>
    have e0 : (fun i => P (offN (x :: r) 0 + i)) = P := by funext i; simp [offN]
    rw [e0]
    show f x P = cnt P (nN x)
    omega
   | j + 1 =>
    have := ih.1 (by omega) j (by simp at hj; omega)
    rw [e j]
    simp only [Nat.add_assoc]
    exact this
  ·intro hj
   have a := hj 0 (by simp)
   have e0 : (fun i => P (offN (x :: r) 0 + i)) = P := by funext i; simp [offN]
   rw [e0] at a
   have a : f x P = cnt P (nN x) := a
   have b := ih.2 fun j hjr => by
    have := hj (j + 1) (by simp; omega)
    rw [e j] at this
    simp only [Nat.add_assoc] at this
    exact this
   omega
section
variable {k : Nat} {m : Mat} {s : List Int} (hc : chk m = 0) (hd : dp 4 m ≤ k + 1) (hs : InN (nN m) s)
include hc hs
theorem ind_0 (ht : m.t = 0) : indB (k + 1) m s = decide ((s.length : Int) ≤ m.a) := by
 have := V1_ hs
 have ha := chk_a hc
 rw [Bool.eq_iff_iff, X5_, decide_eq_true_iff, rkP_0 ht]
 omega
theorem ind_2 (ht : m.t = 2) : indB (k + 1) m s = (List.range m.a.toNat).all fun c => decide ((cntC (row m 0) s (c : Int) : Int) ≤ (row m 1).getD c 0) := by
 obtain ⟨_, p1, p2, p3, p4⟩ := W3_ hc ht
 have hn := Z8_ hc
 have ha := chk_a hc
 have hcl : ∀ i, i < nN m → clsOf m i < m.a.toNat := fun i hi => by have := p3 i (by omega); unfold clsOf; omega
 rw [Bool.eq_iff_iff, X5_, rkP_2 ht, V1_ hs, Xg2 hcl, List.all_eq_true]
 have key : ∀ c, c < m.a.toNat → (clsN (nN m) (clsOf m) (memP s) c ≤ Zl9 m c ↔ decide ((cntC (row m 0) s (c : Int) : Int) ≤ (row m 1).getD c 0) = true) := fun c hca => by
  rw [decide_eq_true_iff, Xg3 hs (fun i hi => (p3 i (by omega)).1)]
  have := p4 c (by omega)
  show clsN (nN m) (clsOf m) (memP s) c ≤ ((row m 1).getD c 0).toNat ↔ ((clsN (nN m) (clsOf m) (memP s) c : Nat) : Int) ≤ _
  omega
 exact ⟨fun h c hcm => (key c (List.mem_range.1 hcm)).1 (h c (List.mem_range.1 hcm)), fun h c hca => (key c hca).2 (h c (List.mem_range.2 hca))⟩
theorem ind_3 (ht : m.t = 3) : indB (k + 1) m s = D7_ m.l s [] := by
 obtain ⟨p1, p2⟩ := Zx7 hc ht
 have ha := chk_a hc
 have hrow : ∀ i, IsSet (m.l.getD i []) ∧ ∀ r ∈ m.l.getD i [], 0 ≤ r ∧ r < (m.a.toNat : Int) := fun i => by
  rcases Nat.lt_or_ge i m.l.length with hi | hi
  ·unfold mayM at p2
   rw [Bool.and_eq_true, List.all_eq_true] at p2
   have h1 := Zf2 (p2.2 _ (C0_ [] hi))
   exact ⟨h1.1, fun r hr => by have := h1.2 r hr; omega⟩
  ·rw [List.getD_eq_getElem?_getD, List.getElem?_eq_none hi]
   exact ⟨V4_, fun r hr => absurd hr (by simp)⟩
 rw [Bool.eq_iff_iff, X5_, rkP_3 ht, Yw9 (R := m.a.toNat) (fun i => (hrow i).1) (fun i => (hrow i).2) hs]
 exact Iff.rfl
theorem ind_5 (ht : m.t = 5) : indB (k + 1) m s = indB k (inn m) (imgM m s) := by
 rw [Bool.eq_iff_iff, X5_, X5_, rkP_5 ht, P1_ hc (.inl ht) hs, show (imgM m s).length = s.length by unfold imgM; rw [List.length_map]]
include hd
theorem ind_7 (ht : m.t = 7) : indB (k + 1) m s = (decide ((s.length : Int) ≤ m.a) && indB k (inn m) s) := by
 obtain ⟨h1, h2, h3⟩ := J0_ hc (by omega)
 have ha := chk_a hc
 have hsame := F3_ hc (.inl ht)
 have hr := rk_ok k (inn m) h2 (by omega)
 have hle := hr.le_cnt (memP s)
 have hl := V1_ hs
 have e : nN (inn m) = nN m := by unfold nN; rw [hsame]
 rw [e] at hle
 rw [Bool.eq_iff_iff, X5_, rkP_7 ht, Bool.and_eq_true, decide_eq_true_iff, X5_]
 omega
theorem ind_6 (ht : m.t = 6) : indB (k + 1) m s = indB k (inn m) (Y2_ (imgM m s) (baseL (indB k (inn m)) [] (row m 0))) := by
 obtain ⟨h1, h2, h3⟩ := J0_ hc (by omega)
 have hn := Z8_ h2
 have hr := rk_ok k (inn m) h2 (by omega)
 have hrow := Zx8 hc (.inr ht)
 have himg := Zx9 hc (.inr ht) hs
 obtain ⟨b1, b2, b3, b4, b5⟩ := K8_ hr hn.2 (I := indB k (inn m)) (fun t _ => X5_) hrow
 have hdis : ∀ y ∈ imgM m s, y ∉ baseL (indB k (inn m)) [] (row m 0) := fun y hy hb => by
  have hyr := b2 y hb
  have hyi : memP (imgM m s) y.toNat = true := memP_iff.2 (by rw [show ((y.toNat : Nat) : Int) = y by have := himg.2 y hy; omega]; exact hy)
  rw [P1_ hc (.inr ht) hs, imgP_iff] at hyi
  obtain ⟨i, hi, _, e⟩ := hyi
  have := Zm1 hc ht hi
  rw [e, ← Bool.not_eq_true, memP_iff] at this
  exact this (by rw [show ((y.toNat : Nat) : Int) = y by have := himg.2 y hy; omega]; exact hyr)
 have hul : (Y2_ (imgM m s) (baseL (indB k (inn m)) [] (row m 0))).length = s.length + rkP k (inn m) (memP (row m 0)) := by
  have h1 := Xl6 himg.1 b1.1
  have h2 : meetL (imgM m s) (baseL (indB k (inn m)) [] (row m 0)) = [] := by
   cases hm : meetL (imgM m s) (baseL (indB k (inn m)) [] (row m 0)) with
   | nil => rfl
   | cons y l =>
    have hy := (Zd5 himg.1 b1.1 y).1 (by rw [hm]; simp)
    exact absurd hy.2 (hdis y hy.1)
  rw [h2] at h1
  have h3 : (imgM m s).length = s.length := by unfold imgM; rw [List.length_map]
  simp only [List.length_nil] at h1
  omega
 have hor : rkP k (inn m) (memP (Y2_ (imgM m s) (baseL (indB k (inn m)) [] (row m 0)))) = rkP k (inn m) (orP (memP (row m 0)) (imgP (nN m) (stayN m) (memP s))) := by
  rw [G3_ himg.1 b1.1, b5, P1_ hc (.inr ht) hs]
  exact hr.ext fun i _ => by unfold orP; rw [Bool.or_comm]
 have hup := hr.mono (P := memP (row m 0)) (Q := orP (memP (row m 0)) (imgP (nN m) (stayN m) (memP s))) fun i _ hp => by unfold orP; rw [hp]; rfl
 rw [Bool.eq_iff_iff, X5_, X5_, rkP_6 ht, hul, hor]
 omega
theorem ind_8 (ht : m.t = 8) : indB (k + 1) m s = decide ((baseL (indB k (inn m)) [] (Z7_ (allL m.n) s)).length = (baseL (indB k (inn m)) [] (allL m.n)).length) := by
 obtain ⟨h1, h2, h3⟩ := J0_ hc (by omega)
 have hn := Z8_ h2
 have hnm := chk_n hc
 have hr := rk_ok k (inn m) h2 (by omega)
 have hsame := F3_ hc (.inr ht)
 have e : nN (inn m) = nN m := by unfold nN; rw [hsame]
 have hall : InN (nN (inn m)) (allL m.n) := by rw [e]; exact Zx6 hnm.1 hnm.2
 have hrest : InN (nN (inn m)) (Z7_ (allL m.n) s) := by rw [e]; exact F2_ hnm.1 hnm.2 hs.1
 obtain ⟨_, _, a3, _⟩ := K8_ hr hn.2 (I := indB k (inn m)) (fun t _ => X5_) hall
 obtain ⟨_, _, c3, _⟩ := K8_ hr hn.2 (I := indB k (inn m)) (fun t _ => X5_) hrest
 have ea : rkP k (inn m) (memP (allL m.n)) = rkP k (inn m) allP := hr.ext fun i hi => by rw [e] at hi; exact Zf4 hnm.1 hnm.2 hi
 have ec : rkP k (inn m) (memP (Z7_ (allL m.n) s)) = rkP k (inn m) (notP (memP s)) := hr.ext fun i hi => by rw [e] at hi; exact Zx5 hnm.1 hnm.2 hs.1 hi
 have hl := V1_ hs
 have hmono := hr.mono (P := notP (memP s)) (Q := allP) fun _ _ _ => rfl
 rw [a3, c3, ea, ec, Bool.eq_iff_iff, X5_, rkP_8 ht, decide_eq_true_iff]
 rcases Nat.eq_zero_or_pos s.length with h0 | h0
 ·have hs0 : s = [] := List.eq_nil_of_length_eq_zero h0
  subst hs0
  have : notP (memP []) = allP := by funext i; rfl
  rw [this]
  simp only [List.length_nil] at hl
  rw [← hl]
  simp
 ·omega
theorem ind_9 (ht : m.t = 9) : indB (k + 1) m s = (List.range m.i.length).all fun j => indB k (m.i.getD j default) (betL s (offN m.i j : Nat) (nN (m.i.getD j default) : Nat)) := by
 obtain ⟨hsum, hlen⟩ := Zf6 hc ht
 have hle : ∀ x ∈ m.i, ∀ Q, rkP k x Q ≤ cnt Q (nN x) := fun x hx Q => (rk_ok k x (X4_ hc hx).1 (by have := (X4_ hc hx).2; omega)).le_cnt Q
 have hi := Ya2 (f := rkP k) (l := m.i) (P := memP s) hle
 rw [hsum] at hi
 rw [Bool.eq_iff_iff, X5_, rkP_9 (by omega), V1_ hs, hi, List.all_eq_true]
 have key : ∀ j, j < m.i.length → ((rkP k (m.i.getD j default) fun i => memP s (offN m.i j + i)) = cnt (fun i => memP s (offN m.i j + i)) (nN (m.i.getD j default)) ↔ indB k (m.i.getD j default) (betL s (offN m.i j : Nat) (nN (m.i.getD j default) : Nat)) = true) := fun j hj => by
  have hx := C0_ default hj
  have hxc := (X4_ hc hx).1
  have hb := Zu5 (N := nN m) (f := offN m.i j) hs (Z8_ hxc).2
  have hr := rk_ok k _ hxc (by have := (X4_ hc hx).2; omega)
  rw [X5_, V1_ hb, hr.ext fun i hi => Zg0 (s := s) (f := offN m.i j) hi, K0_ fun i hi => Zg0 (s := s) (f := offN m.i j) hi]
 exact ⟨fun h j hj => (key j (List.mem_range.1 hj)).1 (h j (List.mem_range.1 hj)), fun h j hj => (key j hj).2 (h j (List.mem_range.2 hj))⟩
end
end Go.Proofs.YtgadbnbhgpehjaaGreatDoor.Wp
