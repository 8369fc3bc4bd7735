/- Of two independent sets the larger one has an element that may be added to the other one: plain. -/
import Derived.Test.YtolnkgghejhaeaaGreatDoorZF
namespace Go.Proofs.YtolnkgghejhaeaaGreatDoor.Wp
open Go Go.RowKit

theorem Rk.closed {n : Nat} {f : (Nat → Bool) → Nat} (h : Rk n f) (P S : Nat → Bool) (hs : ∀ x, x < n → S x = true → f (insP P x) = f P) : ∀ k, k ≤ n → f (addK P S k) = f P
  | 0, _ => by rw [addK_zero]
  | k + 1, hk => by
    have ih := h.closed P S hs k (by omega)
    cases e : S k
    · rw [addK_no e]; exact ih
    · have h1 := h.dim_add P S (x := k) (by omega) k (by omega)
      have h2 := hs k (by omega) e
      have h3 := h.up' (addK P S k) (x := k) (by omega)
      rw [addK_yes e]
      omega
theorem ind_rank {m : Mat} {s : List Int} (h : mayI m s = true) : indT m s = true ↔ rkP 4 m (memP s) = s.length := by
  unfold indT
  rw [show rankT m s = _ from if_pos h, decide_eq_true_iff]
  omega
theorem ind_nil {m : Mat} (h : chk m = 0) : indT m [] = true := by
  have hm : mayI m [] = true := mayI_iff.2 ⟨h, inN_nil _⟩
  rw [ind_rank hm, memP_nil, (rk_ok 4 m h (chk_ok.1 h).1).zero]
  rfl
/-- A part of what is independent is. -/
theorem ind_part {m : Mat} {a s : List Int} (ha : mayI m a = true) (hs : mayI m s = true) (hsub : ∀ x ∈ s, x ∈ a) (h : indT m a = true) : indT m s = true := by
  obtain ⟨hc, hA⟩ := mayI_iff.1 ha
  obtain ⟨_, hS⟩ := mayI_iff.1 hs
  have hk := rk_ok 4 m hc (chk_ok.1 hc).1
  rw [ind_rank ha] at h
  rw [ind_rank hs, len_cnt hS]
  rw [len_cnt hA] at h
  have h1 := hk.le_cnt (memP s)
  -- what is taken away of a adds no more than it has
  have h2 := hk.submod (memP s) (fun i => memP a i && !memP s i)
  have h3 := hk.le_cnt (fun i => memP a i && !memP s i)
  have e : ∀ i, i < nN m → orP (memP s) (fun i => memP a i && !memP s i) i = memP a i := fun i _ => by
    unfold orP
    cases e1 : memP s i
    · simp [e1]
    · have : memP a i = true := memP_iff.2 (hsub _ (memP_iff.1 e1))
      simp [this]
  rw [hk.ext e] at h2
  have h4 : cnt (memP a) (nN m) = cnt (memP s) (nN m) + cnt (fun i => memP a i && !memP s i) (nN m) := by
    have := K.cntP_split (memP a) (memP s) (nN m)
    have e5 : K.cntP (nN m) (fun i => memP a i && memP s i) = cnt (memP s) (nN m) := (cnt_ext fun i _ => by
      cases e1 : memP s i
      · simp
      · have : memP a i = true := memP_iff.2 (hsub _ (memP_iff.1 e1))
        simp [this])
    have e6 : K.cntP (nN m) (memP a) = cnt (memP a) (nN m) := rfl
    have e7 : K.cntP (nN m) (fun i => memP a i && !memP s i) = cnt (fun i => memP a i && !memP s i) (nN m) := rfl
    omega
  omega
theorem memP_one {x : Int} (h : 0 ≤ x) (P : Nat → Bool) : orP P (memP [x]) = insP P x.toNat := by
  funext i
  unfold orP insP
  have : memP [x] i = (i == x.toNat) := by rw [Bool.eq_iff_iff, memP_iff, beq_iff_eq, List.mem_singleton]; omega
  rw [this, Bool.or_comm]
theorem exchange {m : Mat} {a b : List Int} (ha : mayI m a = true) (hb : mayI m b = true) (h1 : indT m a = true) (h2 : indT m b = true) (hlt : b.length < a.length) : ∃ i, i < (minusL a b).length ∧ indT m (unionL b [(minusL a b).getD i 0]) = true := by
  obtain ⟨hc, hA⟩ := mayI_iff.1 ha
  obtain ⟨_, hB⟩ := mayI_iff.1 hb
  have hk := rk_ok 4 m hc (chk_ok.1 hc).1
  rw [ind_rank ha] at h1
  rw [ind_rank hb] at h2
  by_cases hex : ∃ i, i < (minusL a b).length ∧ indT m (unionL b [(minusL a b).getD i 0]) = true
  · exact hex
  · exfalso
    have hcl : ∀ x, x < nN m → memP a x = true → rkP 4 m (insP (memP b) x) = rkP 4 m (memP b) := fun x hx hax => by
      cases hbx : memP b x
      · have hxm : ((x : Nat) : Int) ∈ minusL a b := (mem_minus hA.1 hB.1 _).2 ⟨memP_iff.1 hax, fun hm => by rw [memP_iff.2 hm] at hbx; cases hbx⟩
        obtain ⟨i, hi, hie⟩ := List.mem_iff_getElem.1 hxm
        have e : (minusL a b).getD i 0 = (x : Int) := by simp [List.getD, hi, hie]
        have h1x : InN (nN m) [(x : Int)] := ⟨⟨by simp, fun z hz => by rw [List.mem_singleton.1 hz]; have := (nN_cast hc).2; exact ⟨by omega, by omega⟩⟩, fun z hz => by rw [List.mem_singleton.1 hz]; omega⟩
        have hmu : mayI m (unionL b [(x : Int)]) = true := mayI_iff.2 ⟨hc, inN_union hB h1x⟩
        have hno : ¬ indT m (unionL b [(x : Int)]) = true := fun hh => hex ⟨i, hi, by rw [e]; exact hh⟩
        have hme : memP (unionL b [(x : Int)]) = insP (memP b) x := by rw [memP_union hB.1 h1x.1, memP_one (by omega)]; rfl
        rw [ind_rank hmu, hme, len_cnt (mayI_iff.1 hmu).2, hme, cnt_ins hx hbx, ← len_cnt hB] at hno
        have u1 := hk.up' (memP b) hx
        have u2 := hk.one' (memP b) hx
        omega
      · rw [insP_in hbx]
    have h3 := hk.closed (memP b) (memP a) hcl (nN m) (Nat.le_refl _)
    rw [addK_all hk] at h3
    have h4 := hk.mono (P := memP a) (Q := orP (memP b) (memP a)) fun i _ h => by unfold orP; rw [h]; simp
    omega

end Go.Proofs.YtolnkgghejhaeaaGreatDoor.Wp
