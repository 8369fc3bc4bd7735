/- Duals, and what is restricted or contracted: their ranks, plain. -/
import Derived.Test.YtolnkgghejhaeaaGreatDoorZF
namespace Go.Proofs.YtolnkgghejhaeaaGreatDoor.Wp
open Go Go.RowKit

theorem sumR_congr {f g : Mat → (Nat → Bool) → Nat} : ∀ {l : List Mat}, (∀ x ∈ l, f x = g x) → ∀ P, sumR f l P = sumR g l P
  | [], _, _ => rfl
  | x :: r, h, P => by rw [sumR, sumR, h x (by simp), sumR_congr fun y hy => h y (by simp [hy])]
/-- As far as is deep enough, it is the same. -/
theorem rkP_fuel : ∀ (k j : Nat) (m : Mat), chk m = 0 → dp 4 m ≤ k → dp 4 m ≤ j → rkP k m = rkP j m
  | 0, _, m, _, h, _ => absurd h (by have := dp_pos 4 m; omega)
  | _ + 1, 0, m, _, _, h => absurd h (by have := dp_pos 4 m; omega)
  | k + 1, j + 1, m, hc, hk, hj => by
    funext P
    have htag := chk_tag hc
    have hone : 5 ≤ m.t ∧ m.t ≤ 8 → rkP k (inn m) = rkP j (inn m) := fun ht => by
      obtain ⟨_, h2, h3⟩ := chk_one hc ht
      exact rkP_fuel k j (inn m) h2 (by omega) (by omega)
    rcases (by omega : m.t = 0 ∨ m.t = 1 ∨ m.t = 2 ∨ m.t = 3 ∨ m.t = 4 ∨ m.t = 5 ∨ m.t = 6 ∨ m.t = 7 ∨ m.t = 8 ∨ 9 ≤ m.t) with ht | ht | ht | ht | ht | ht | ht | ht | ht | ht
    · rw [rkP_0 ht, rkP_0 ht]
    · rw [rkP_1 ht, rkP_1 ht]
    · rw [rkP_2 ht, rkP_2 ht]
    · rw [rkP_3 ht, rkP_3 ht]
    · rw [rkP_4 ht, rkP_4 ht]
    · rw [rkP_5 ht, rkP_5 ht, hone (by omega)]
    · rw [rkP_6 ht, rkP_6 ht, hone (by omega)]
    · rw [rkP_7 ht, rkP_7 ht, hone (by omega)]
    · rw [rkP_8 ht, rkP_8 ht, hone (by omega)]
    · rw [rkP_9 ht, rkP_9 ht]
      exact sumR_congr (fun x hx => rkP_fuel k j x (within hc hx).1 (by have := (within hc hx).2; omega) (by have := (within hc hx).2; omega)) P
theorem rk_of {m : Mat} (h : chk m = 0) : Rk (nN m) (rkP 4 m) := rk_ok 4 m h (chk_ok.1 h).1
theorem rkP_34 {m : Mat} (h : chk m = 0) (h3 : dp 4 m ≤ 3) : rkP 3 m = rkP 4 m := rkP_fuel 3 4 m h h3 (by omega)

theorem cnt_or (P Q : Nat → Bool) : ∀ n, cnt (orP P Q) n + cnt (andP P Q) n = cnt P n + cnt Q n
  | 0 => by simp [cnt]
  | n + 1 => by
    have ih := cnt_or P Q n
    rw [cnt_succ, cnt_succ, cnt_succ, cnt_succ]
    show _ + (if (P n || Q n) = true then 1 else 0) + (_ + (if (P n && Q n) = true then 1 else 0)) = _
    cases P n <;> cases Q n <;> simp <;> omega
theorem cnt_allP (n : Nat) : cnt allP n = n := by have := cnt_notP noneP n; rw [cnt_none, show notP noneP = allP from rfl] at this; omega
theorem rk_low {n : Nat} {f : (Nat → Bool) → Nat} (h : Rk n f) (P : Nat → Bool) : f allP ≤ cnt P n + f (notP P) := by
  have h1 := h.submod (notP P) P
  have h2 := h.le_cnt P
  have h3 : orP (notP P) P = allP := by funext i; simp only [orP, notP, allP]; cases P i <;> rfl
  rw [h3] at h1
  omega
theorem notP_notP (P : Nat → Bool) : notP (notP P) = P := by funext i; simp [notP]

/-! ### The dual -/
theorem rk4_dual {m : Mat} (h : chk m = 0) (h3 : dp 4 m ≤ 3) (P : Nat → Bool) : rkP 4 (dualOf m) P = cnt P (nN m) + rkP 4 m (notP P) - rkP 4 m allP := by
  rw [rkP_8 rfl]
  show cnt P (nN m) + rkP 3 m (notP P) - rkP 3 m allP = _
  rw [rkP_34 h h3]
theorem mayI_dual {m : Mat} {s : List Int} (h3 : dp 4 m ≤ 3) (hs : mayI m s = true) : mayI (dualOf m) s = true := by
  obtain ⟨hc, hS⟩ := mayI_iff.1 hs
  exact mayI_iff.2 ⟨dual_less hc h3, hS⟩
theorem rank_yes {m : Mat} {s : List Int} (h : mayI m s = true) : rankT m s = (rkP 4 m (memP s) : Nat) := if_pos h
/-- The dual's dual is the matroid. -/
theorem dual_dual {m : Mat} {s : List Int} (h2 : dp 4 m ≤ 2) (hs : mayI m s = true) : rankT (dualOf (dualOf m)) s = rankT m s := by
  obtain ⟨hc, hS⟩ := mayI_iff.1 hs
  have hd : chk (dualOf m) = 0 := dual_less hc (by omega)
  have hd3 : dp 4 (dualOf m) ≤ 3 := by rw [deep_dual hc]; omega
  have hr := rk_of hc
  rw [rank_yes hs, rank_yes (mayI_dual hd3 (mayI_dual (by omega) hs)), rk4_dual hd hd3, rk4_dual hc (by omega), rk4_dual hc (by omega), notP_notP]
  have e : nN (dualOf m) = nN m := rfl
  have h4 := cnt_notP (memP s) (nN m)
  have h5 := rk_low hr (notP (memP s))
  rw [notP_notP] at h5
  have h6 := hr.le_cnt allP
  have h7 := cnt_allP (nN m)
  have h8 : rkP 4 m (notP allP) = 0 := hr.zero
  rw [e, h8]
  omega
/-- Both ranks of all come to all. -/
theorem dual_all {m : Mat} (hc : chk m = 0) (h3 : dp 4 m ≤ 3) : ∃ p q : Nat, rankT m (allL m.n) = (p : Int) ∧ rankT (dualOf m) (allL m.n) = (q : Int) ∧ ((p + q : Nat) : Int) = m.n ∧ p + q ≤ 64 := by
  have hn := chk_n hc
  have hm : mayI m (allL m.n) = true := mayI_iff.2 ⟨hc, inN_all hn.1 hn.2⟩
  have hr := rk_of hc
  refine ⟨_, _, rank_yes hm, rank_yes (mayI_dual h3 hm), ?_⟩
  rw [rk4_dual hc h3]
  have e1 : rkP 4 m (memP (allL m.n)) = rkP 4 m allP := hr.ext fun i hi => memP_all hn.1 hn.2 hi
  have e2 : rkP 4 m (notP (memP (allL m.n))) = rkP 4 m noneP := hr.ext fun i hi => by unfold notP; rw [memP_all hn.1 hn.2 hi]; rfl
  have e3 : cnt (memP (allL m.n)) (nN m) = cnt allP (nN m) := cnt_ext fun i hi => memP_all hn.1 hn.2 hi
  have h6 := hr.le_cnt allP
  have h7 := cnt_allP (nN m)
  have h8 := nN_cast hc
  rw [e1, e2, e3, hr.zero]
  omega

/-! ### What is restricted, what is contracted -/
def atN (l : List Int) (i : Nat) : Nat := (l.getD i 0).toNat
theorem rk4_rest {m : Mat} (h : chk m = 0) (h3 : dp 4 m ≤ 3) (l : List Int) (P : Nat → Bool) : rkP 4 (restOf l.length l m) P = rkP 4 m (imgP l.length (atN l) P) := by
  rw [rkP_5 rfl]
  show rkP 3 m _ = _
  rw [rkP_34 h h3]
  rfl
theorem rk4_cont {m : Mat} (h : chk m = 0) (h3 : dp 4 m ≤ 3) (l : List Int) (P : Nat → Bool) : rkP 4 (contOf (minusL (allL m.n) l).length l m) P = rkP 4 m (orP (memP l) (imgP (minusL (allL m.n) l).length (atN (minusL (allL m.n) l)) P)) - rkP 4 m (memP l) := by
  rw [rkP_6 rfl]
  show rkP 3 m _ - rkP 3 m _ = _
  rw [rkP_34 h h3]
  rfl
theorem rank_rest {m : Mat} {l t : List Int} (hl : mayI m l = true) (h3 : dp 4 m ≤ 3) (ht : InN l.length t) : rankT (restOf l.length l m) t = rankT m (imgM (restOf l.length l m) t) := by
  obtain ⟨hc, hL⟩ := mayI_iff.1 hl
  have hc' : chk (restOf l.length l m) = 0 := parts_rest hc h3 hL.1 fun x hx => by have := hL.2 x hx; have := nN_cast hc; omega
  have hi : InN (nN m) (imgM (restOf l.length l m) t) := inN_img (m := restOf l.length l m) hc' (.inl rfl) ht
  rw [rank_yes (mayI_iff.2 ⟨hc', ht⟩), rank_yes (mayI_iff.2 ⟨hc, hi⟩), rk4_rest hc h3, memP_img (m := restOf l.length l m) hc' (.inl rfl) ht]
  rfl
theorem rank_cont {m : Mat} {l t : List Int} (hl : mayI m l = true) (h3 : dp 4 m ≤ 3) (ht : InN (minusL (allL m.n) l).length t) :
    ∃ p q : Nat, rankT m (unionL l (imgM (contOf (minusL (allL m.n) l).length l m) t)) = (p : Int) ∧ rankT m l = (q : Int) ∧ q ≤ p ∧ p ≤ 64 ∧ rankT (contOf (minusL (allL m.n) l).length l m) t = (p : Int) - (q : Int) := by
  obtain ⟨hc, hL⟩ := mayI_iff.1 hl
  have hc' : chk (contOf (minusL (allL m.n) l).length l m) = 0 := parts_cont hc h3 hL.1 fun x hx => by have := hL.2 x hx; have := nN_cast hc; omega
  have hi : InN (nN m) (imgM (contOf (minusL (allL m.n) l).length l m) t) := inN_img (m := contOf (minusL (allL m.n) l).length l m) hc' (.inr rfl) ht
  have hr := rk_of hc
  have hu := inN_union hL hi
  refine ⟨_, _, rank_yes (mayI_iff.2 ⟨hc, hu⟩), rank_yes hl, ?_⟩
  have e : memP (unionL l (imgM (contOf (minusL (allL m.n) l).length l m) t)) = orP (memP l) (imgP (minusL (allL m.n) l).length (atN (minusL (allL m.n) l)) (memP t)) := by
    rw [memP_union hL.1 hi.1, memP_img (m := contOf (minusL (allL m.n) l).length l m) hc' (.inr rfl) ht]
    rfl
  have h1 : rkP 4 m (memP l) ≤ rkP 4 m (orP (memP l) (imgP (minusL (allL m.n) l).length (atN (minusL (allL m.n) l)) (memP t))) := hr.mono fun i _ h => by unfold orP; rw [h]; rfl
  have h2 := hr.le_cnt (orP (memP l) (imgP (minusL (allL m.n) l).length (atN (minusL (allL m.n) l)) (memP t)))
  have h4 := cnt_le (orP (memP l) (imgP (minusL (allL m.n) l).length (atN (minusL (allL m.n) l)) (memP t))) (nN m)
  have h5 := (nN_cast hc).2
  rw [e, rank_yes (mayI_iff.2 ⟨hc', ht⟩), rk4_cont hc h3]
  omega
/-- What is contracted, of the dual, is the dual of what stays without it. -/
theorem dual_minor {m : Mat} {t L : List Int} (ht : mayI m t = true) (h2 : dp 4 m ≤ 2) (hL : InN (minusL (allL m.n) t).length L) :
    rankT (contOf (minusL (allL m.n) t).length t (dualOf m)) L = rankT (dualOf (restOf (minusL (allL m.n) t).length (minusL (allL m.n) t) m)) L := by
  obtain ⟨hc, hT⟩ := mayI_iff.1 ht
  have hn := chk_n hc
  have hS : InN (nN m) (minusL (allL m.n) t) := inN_rest hn.1 hn.2 hT.1
  have hd : chk (dualOf m) = 0 := dual_less hc (by omega)
  have hd3 : dp 4 (dualOf m) ≤ 3 := by rw [deep_dual hc]; omega
  have b : ∀ {l : List Int}, InN (nN m) l → ∀ x ∈ l, 0 ≤ x ∧ x < m.n := fun h x hx => by have := h.2 x hx; have := nN_cast hc; omega
  have hX : chk (contOf (minusL (allL m.n) t).length t (dualOf m)) = 0 := parts_cont hd hd3 hT.1 (b hT)
  have hR : chk (restOf (minusL (allL m.n) t).length (minusL (allL m.n) t) m) = 0 := parts_rest hc (by omega) hS.1 (b hS)
  have hR3 : dp 4 (restOf (minusL (allL m.n) t).length (minusL (allL m.n) t) m) ≤ 3 := by
    unfold restOf
    rw [dp_five _ _ _ _ (by decide)]
    have : dp 3 m = min 4 (dp 4 m) := dp_step 3 m
    omega
  have hr := rk_of hc
  have hi : InN (nN (dualOf m)) (imgM (contOf (minusL (allL m.n) t).length t (dualOf m)) L) := inN_img (m := contOf (minusL (allL m.n) t).length t (dualOf m)) hX (.inr rfl) hL
  have hmi := memP_img (m := contOf (minusL (allL m.n) t).length t (dualOf m)) hX (.inr rfl) hL
  have hlen := img_len (contOf (minusL (allL m.n) t).length t (dualOf m)) L
  rw [len_cnt hi, hmi, len_cnt hL] at hlen
  have hinj : ∀ i j, i < (minusL (allL m.n) t).length → j < (minusL (allL m.n) t).length → atN (minusL (allL m.n) t) i = atN (minusL (allL m.n) t) j → i = j := fun i j hi hj e => stayN_inj (m := contOf (minusL (allL m.n) t).length t (dualOf m)) hX (.inr rfl) hi hj e
  have hout : ∀ i, i < (minusL (allL m.n) t).length → memP t (atN (minusL (allL m.n) t) i) = false := fun i hi => stayN_out (m := contOf (minusL (allL m.n) t).length t (dualOf m)) hX rfl hi
  rw [rank_yes (mayI_iff.2 ⟨hX, hL⟩), rank_yes (mayI_dual hR3 (mayI_iff.2 ⟨hR, hL⟩))]
  have hdn : (dualOf m).n = m.n := rfl
  have e1 := rk4_cont hd hd3 t (memP L)
  rw [hdn] at e1
  have e2 := rk4_dual hR hR3 (memP L)
  rw [rk4_dual hc (by omega), rk4_dual hc (by omega)] at e1
  rw [rk4_rest hc (by omega), rk4_rest hc (by omega)] at e2
  have hall : ∀ x, x < nN m → memP t x = false → ∃ j, j < (minusL (allL m.n) t).length ∧ atN (minusL (allL m.n) t) j = x := fun x hx hx0 => by
    have h1 : ((x : Nat) : Int) ∈ minusL (allL m.n) t := (mem_minus (all_set _) hT.1 _).2 ⟨(mem_all hn.1 (by omega) _).2 (by have := nN_cast hc; omega), fun h => by rw [memP_iff.2 h] at hx0; cases hx0⟩
    obtain ⟨j, hj, he⟩ := List.mem_iff_getElem.1 h1
    refine ⟨j, hj, ?_⟩
    unfold atN
    simp [List.getD, hj, he]
  have hA : rkP 4 m (notP (orP (memP t) (imgP (minusL (allL m.n) t).length (atN (minusL (allL m.n) t)) (memP L)))) = rkP 4 m (imgP (minusL (allL m.n) t).length (atN (minusL (allL m.n) t)) (notP (memP L))) := hr.ext fun x hx => by
    rw [Bool.eq_iff_iff, imgP_iff]
    unfold notP orP
    rw [Bool.not_eq_true', Bool.or_eq_false_iff]
    constructor
    · rintro ⟨h1, h2⟩
      obtain ⟨j, hj, rfl⟩ := hall x hx h1
      refine ⟨j, hj, ?_, rfl⟩
      cases hp : memP L j
      · rfl
      · exact absurd (imgP_iff.2 ⟨j, hj, hp, rfl⟩) (by rw [h2]; decide)
    · rintro ⟨j, hj, hp, rfl⟩
      refine ⟨hout j hj, imgP_no hinj hj (by simpa using hp)⟩
  have hB : rkP 4 m (notP (memP t)) = rkP 4 m (imgP (minusL (allL m.n) t).length (atN (minusL (allL m.n) t)) allP) := hr.ext fun x hx => by
    rw [Bool.eq_iff_iff, imgP_iff]
    unfold notP
    rw [Bool.not_eq_true']
    constructor
    · intro h1
      obtain ⟨j, hj, rfl⟩ := hall x hx h1
      exact ⟨j, hj, rfl, rfl⟩
    · rintro ⟨j, hj, _, rfl⟩
      exact hout j hj
  have hcnt := cnt_or (memP t) (imgP (minusL (allL m.n) t).length (atN (minusL (allL m.n) t)) (memP L)) (nN m)
  have hnone : cnt (andP (memP t) (imgP (minusL (allL m.n) t).length (atN (minusL (allL m.n) t)) (memP L))) (nN m) = 0 := by
    rw [cnt_ext (Q := noneP) (fun x _ => ?_)]
    · exact cnt_none _
    · refine Bool.eq_false_iff.2 fun h => ?_
      unfold andP at h
      rw [Bool.and_eq_true, imgP_iff] at h
      obtain ⟨h1, j, hj, _, rfl⟩ := h
      rw [hout j hj] at h1
      cases h1
  have l1 := rk_low hr (memP t)
  have l2 := rk_low hr (orP (memP t) (imgP (minusL (allL m.n) t).length (atN (minusL (allL m.n) t)) (memP L)))
  have e3 : cnt (imgP (minusL (allL m.n) t).length (atN (minusL (allL m.n) t)) (memP L)) (nN m) = cnt (memP L) (minusL (allL m.n) t).length := hlen
  rw [hA] at e1 l2
  rw [hB] at e1 l1
  have e4 : nN (restOf (minusL (allL m.n) t).length (minusL (allL m.n) t) m) = (minusL (allL m.n) t).length := rfl
  rw [e4] at e2
  have e5 : rkP 4 (contOf (minusL (allL m.n) t).length t (dualOf m)) (memP L) = rkP 4 (dualOf (restOf (minusL (allL m.n) t).length (minusL (allL m.n) t) m)) (memP L) := by
    rw [e2]
    refine e1.trans ?_
    omega
  rw [e5]

/-! ### Places of those of a list that are in a set -/
def plcL (s l : List Int) (k : Nat) : List Int := (upTo k).filter fun i => s.contains (l.getD i.toNat 0)
def gotL (s l : List Int) (k : Nat) : List Int := (plcL s l k).map fun i => l.getD i.toNat 0
theorem plc_no {s l : List Int} {k : Nat} (h : s.contains (l.getD k 0) = false) : plcL s l (k + 1) = plcL s l k := by
  unfold plcL
  rw [upTo_succ, List.filter_append]
  have h' : s.contains (l.getD ((k : Nat) : Int).toNat 0) = false := h
  simp only [List.filter_cons, h', List.filter_nil]
  simp
theorem plc_yes {s l : List Int} {k : Nat} (h : s.contains (l.getD k 0) = true) : plcL s l (k + 1) = plcL s l k ++ [(k : Int)] := by
  unfold plcL
  rw [upTo_succ, List.filter_append]
  have h' : s.contains (l.getD ((k : Nat) : Int).toNat 0) = true := h
  simp only [List.filter_cons, h', List.filter_nil]
  simp
theorem got_no {s l : List Int} {k : Nat} (h : s.contains (l.getD k 0) = false) : gotL s l (k + 1) = gotL s l k := by unfold gotL; rw [plc_no h]
theorem got_yes {s l : List Int} {k : Nat} (h : s.contains (l.getD k 0) = true) : gotL s l (k + 1) = gotL s l k ++ [l.getD k 0] := by unfold gotL; rw [plc_yes h, List.map_append]; rfl
theorem plc_len (s l : List Int) (k : Nat) : (plcL s l k).length ≤ k := by
  unfold plcL
  have := List.length_filter_le (fun i : Int => s.contains (l.getD i.toNat 0)) (upTo k)
  rw [upTo_length] at this
  exact this
theorem got_len (s l : List Int) (k : Nat) : (gotL s l k).length = (plcL s l k).length := by unfold gotL; rw [List.length_map]
theorem plc_in (s l : List Int) {k : Nat} (h : k ≤ 64) : InN k (plcL s l k) := by
  have hb : ∀ x ∈ plcL s l k, 0 ≤ x ∧ x < (k : Int) := fun x hx => by
    have := (List.mem_filter.1 hx).1
    unfold upTo at this
    obtain ⟨i, hi, rfl⟩ := List.mem_map.1 this
    have := List.mem_range.1 hi
    exact ⟨Int.natCast_nonneg _, by show (i : Int) < _; omega⟩
  refine ⟨⟨?_, fun x hx => ⟨(hb x hx).1, by have := (hb x hx).2; omega⟩⟩, hb⟩
  unfold plcL upTo
  exact (cast_sorted (range_sorted k)).sublist List.filter_sublist
/-- What IndepMinors asks, of numbers. -/
theorem minors_fact {m : Mat} {l s : List Int} (hl : mayI m l = true) (h3 : dp 4 m ≤ 3) :
    rankT (restOf l.length l m) (plcL s l l.length) = rankT m (gotL s l l.length) ∧ (gotL s l l.length).length ≤ 64 ∧
    ∃ p q : Nat, rankT m (unionL l (gotL s (minusL (allL m.n) l) (minusL (allL m.n) l).length)) = (p : Int) ∧ rankT m l = (q : Int) ∧ q ≤ p ∧ p ≤ 64 ∧ rankT (contOf (minusL (allL m.n) l).length l m) (plcL s (minusL (allL m.n) l) (minusL (allL m.n) l).length) = (p : Int) - (q : Int) := by
  obtain ⟨hc, hL⟩ := mayI_iff.1 hl
  have hn := chk_n hc
  have h64 := (nN_cast hc).2
  have h1 := inN_len hL
  have h2 := inN_len (inN_rest hn.1 hn.2 hL.1)
  have h2' : nN m = m.n.toNat := rfl
  refine ⟨rank_rest hl h3 (plc_in s l (by omega)), ?_, rank_cont hl h3 (plc_in s _ (by omega))⟩
  have := plc_len s l l.length
  rw [got_len]
  omega

end Go.Proofs.YtolnkgghejhaeaaGreatDoor.Wp
