/- The document's matched of layer 10, walked: by trying all. -/
import Derived.Test.YtgadbnbhgpehjaaGreatDoorZI
import Derived.Test.YtgadbnbhgpehjaaGreatDoorZR
import Derived.Test.YtgadbnbhgpehjaaGreatDoorZT
import Derived.Deep.Slices
set_option maxHeartbeats 8000000
set_option maxRecDepth 100000
open Go.Lib (hid)
namespace Go.Proofs.YtgadbnbhgpehjaaGreatDoor
open Go Go.RowKit
namespace Wp
theorem Row.behindV {w : World} {B : Nat} {ad : Addr} {n c : Nat} {x : Int} {l : List Int} (h : Row w B (.slice (some ad) n c) (x :: l)) : Row w B (.slice (some (ad.add 1)) l.length (c - 1)) l ∧ n = l.length + 1 ∧ 1 ≤ c := by
 obtain ⟨A, c0, e, ⟨h1, h2, _⟩, hcell⟩ := h
 injection e with e1 e2 e3
 subst e1 e2 e3
 simp only [List.length_cons] at h1
 refine ⟨⟨some (ad.add 1), c - 1, rfl, ⟨by omega, by omega, fun e => by cases e⟩, fun i hi => ?_⟩, rfl, by omega⟩
 obtain ⟨ad', e', hb, hcc⟩ := hcell (i + 1) (by simp only [List.length_cons]; omega)
 injection e' with e'
 subst e'
 refine ⟨ad.add 1, rfl, by rw [Z2_]; exact hb, ?_⟩
 rw [Go.Deep.add_add, Nat.add_comm 1 i, hcc]
 rfl
theorem Zj7 (a b : List Int) : (Z7_ a b).length ≤ a.length := by
 unfold Z7_ partL
 split
 ·exact List.length_filter_le _ _
 ·exact Nat.zero_le _
theorem Xg1 {l : List Int} {p : Int → Bool} {k : Nat} (hk : k < l.length) (h : (l.take k).any p = false) : (l.take (k + 1)).any p = p (l.getD k 0) := by
 rw [List.take_succ_eq_append_getElem hk, List.any_append, h, show l[k] = l.getD k 0 by simp [List.getD, hk]]
 simp
theorem Zj8 (l : List (List Int)) (hl : ∀ i, IsSet (l.getD i [])) (hll : ∀ i, (l.getD i []).length ≤ 64) (hL : l.length ≤ 64) : ∀ (s used : List Int) (lv sv uv : Value) (w : World), (∀ x ∈ s, 0 ≤ x ∧ x < (l.length : Int)) → IsSet used → used.length + s.length ≤ 1000 → Rows2 w w.heap.size lv l → Row w w.heap.size sv s → Row w w.heap.size uv used →
  Calls Tryz.prog 77 #[lv, sv, uv] w (Says w (D7_ l s used))
 | [], used, lv, sv, uv, w, _, _, _, hv, hs, hu => by
  obtain ⟨As, cs, rfl, _⟩ := hs
  go_enter Tryz.func77, Tryz.ntmps77
  go_wp2
  go_ret
  exact ⟨rfl, Below.refl _ _⟩
 | x :: s, used, lv, sv, uv, w, hin, hus, hsz, hv, hs, hu => by
  have ih : Hid (∀ (used : List Int) (lv sv uv : Value) (w : World), IsSet used → used.length + s.length ≤ 1000 → Rows2 w w.heap.size lv l → Row w w.heap.size sv s → Row w w.heap.size uv used →
   Calls Tryz.prog 77 #[lv, sv, uv] w (Says w (D7_ l s used))) := hid fun used lv sv uv w h1 h2 h3 h4 h5 => Zj8 l hl hll hL s used lv sv uv w (fun y hy => hin y (by simp [hy])) h1 h2 h3 h4 h5
  have HV := hid hv
  have HS := hid hs
  have HU := hid hu
  have HUS := hid hus
  obtain ⟨X, hX⟩ : ∃ X : Nat, x = (X : Int) := ⟨x.toNat, by have := hin x (by simp); omega⟩
  have hXl : X < l.length := by have := hin x (by simp); omega
  have hXI : (X : Int) < (l.length : Int) := by omega
  have HRW := hid (hl X)
  have HRL := hid (hll X)
  obtain ⟨Al, cl, rfl, _⟩ := id hv
  obtain ⟨As, cs, rfl, _⟩ := id hs
  obtain ⟨Au, cu, rfl, _⟩ := id hu
  obtain ⟨ads, hA, hcs⟩ := Row.nthV hs (k := 0) (by simp)
  subst hA
  have gx := hcs w (Below.refl _ _)
  rw [show (x :: s).getD 0 0 = (X : Int) from hX, add_zero] at gx
  obtain ⟨adl, ul, hAl, gl, hrow⟩ := Rows2.read hv X hXl
  subst hAl
  have HROW := hid hrow
  obtain ⟨hbeh, _, hc1⟩ := Row.behindV hs
  have HBEH := hid hbeh
  have hc1I : (1 : Int) ≤ (cs : Int) := by omega
  have hc2I : (s.length : Int) + 1 ≤ (cs : Int) := by obtain ⟨_, _, e, ⟨h1, _⟩, _⟩ := id hs; injection e with e1 e2 e3; subst e3; simp only [List.length_cons] at h1; omega
  have hul : used.length ≤ 1048576 := by omega
  have hml : (Z7_ (l.getD X []) used).length ≤ 64 := Nat.le_trans (Zj7 _ _) (hll X)
  have hmlI : ((Z7_ (l.getD X []) used).length : Int) ≤ 64 := by omega
  have HAny : Hid (D7_ l (x :: s) used = (Z7_ (l.getD X []) used).any fun r => D7_ l s (Y2_ used [r])) := hid (by rw [D7_, hX, Int.toNat_natCast])
  have HMS := hid (E3_ (l.getD X []) used)
  clear hv hs hu hin hus hbeh hrow hcs hX
  go_enter Tryz.func77, Tryz.ntmps77
  go_wp2_with fail
  refine (K7_ _ _ (l.getD X []) used _ HROW.out HU.out (by have := HRL.out; omega) hul).mono ?_
  rintro e w1 ⟨v1, rfl, hr1, hb1⟩
  have HR1 := hid hr1
  have HB1 := hid hb1
  obtain ⟨M, hM⟩ : ∃ M, Z7_ (l.getD X []) used = M := ⟨_, rfl⟩
  rw [hM] at HR1 hml hmlI HAny HMS
  obtain ⟨Am, cm, rfl, _⟩ := id HR1.out
  have HGX := hid gx
  have hads : ads.block < w.heap.size := by obtain ⟨_, _, e, _, hk⟩ := HS.out; injection e with e1; subst e1; obtain ⟨a, e2, hb, _⟩ := hk 0 (by simp); injection e2 with e2; rw [e2]; exact hb
  clear hr1 hb1 hM gx gl
  go_wp2
  go_loopw [6, 8] (fun _ vi wr => ∃ k : Nat, vi = .int .i64 (k : Int) ∧ k ≤ M.length ∧ Hid ((M.take k).any (fun r => D7_ l s (Y2_ used [r])) = false ∧ Below w1.heap.size w1 wr)) (fun _ vi _ => M.length - (intOf vi).toNat)
  case atStart => exact ⟨0, rfl, Nat.zero_le _, by simp, Below.refl _ _⟩
  case round =>
   obtain ⟨k, rfl, hk, HT⟩ := hrel
   by_cases hlt : k < M.length
   ·have hltI : (k : Int) < (M.length : Int) := by omega
    have hw1 : IntKind.i64.wrap ((k : Int) + 1) = (k : Int) + 1 := by rw [IntKind.wrap_i64]; omega
    obtain ⟨ad, hA, _, hic, hone⟩ := Row.oneV (HR1.out.up HT.out.2) hlt
    subst hA
    have hicI : (k : Int) + 1 ≤ (cm : Int) := by omega
    have hii : (k : Int) ≤ (k : Int) + 1 := by omega
    have HBW := hid (Z0_ HB1.out (Nat.le_refl _) HT.out.2)
    obtain ⟨r, hr⟩ : ∃ r, M.getD k 0 = r := ⟨_, rfl⟩
    rw [hr] at hone
    have Hone : Hid (∀ (A : Option Addr) (n c : Nat), A = some (ad.add k) → n = 1 → c = cm - k → Row wr wr.heap.size (.slice A n c) [r]) := hid fun A n c h1 h2 h3 => by subst h1 h2 h3; exact hone
    have HST := hid (Xg1 hlt HT.out.1)
    rw [hr] at HST
    have HL1 : Hid ((Y2_ used [r]).length + s.length ≤ 1000) := hid (by have := T1_ used [r]; simp only [List.length_cons, List.length_nil] at this hsz; omega)
    clear hone hr
    obtain ⟨z, hz⟩ : ∃ z, D7_ l s (Y2_ used [r]) = z := ⟨_, rfl⟩
    have hbd := (Below.refl wr.heap.size wr).drew
    have HUr := hid ((HU.out.up HBW.out).up hbd)
    have HVr := hid ((HV.out.up HBW.out).up hbd)
    have hbeh := (HBEH.out.up HBW.out).up hbd
    have Hs0 : Hid (cs = 1 → s = []) := hid fun h => List.eq_nil_of_length_eq_zero (by omega)
    have HSr : Hid (∀ (A : Option Addr) (n c : Nat), (A = some (ads.add 1) ∨ (s = [] ∧ A = some ads)) → n = s.length → c = cs - 1 → ∀ W, Below wr.drew.heap.size wr.drew W → Row W W.heap.size (.slice A n c) s) := hid fun A n c h1 h2 h3 W hW => by
     subst h2 h3
     rcases h1 with rfl | ⟨h1, rfl⟩
     ·exact hbeh.up hW
     ·have hc := hbeh.up hW
      obtain ⟨_, _, e, ⟨q1, q2, _⟩, _⟩ := hc
      injection e with _ _ e3
      subst e3
      subst h1
      exact ⟨_, _, rfl, ⟨q1, q2, fun e => by cases e⟩, fun i hi => absurd hi (by simp)⟩
    have hS1 : (1 : Int) ≤ (s.length : Int) + 1 := by omega
    have hS3 : (0 : Int) ≤ 1 := by omega
    have hS4 : ((s.length : Int) + 1 - 1).toNat = s.length := by omega
    have Hone' : Hid (∀ (A : Option Addr) (n c : Nat), A = some (ad.add k) → n = 1 → c = cm - k → Row wr.drew wr.drew.heap.size (.slice A n c) [r]) := hid fun A n c h1 h2 h3 => (Hone.out A n c h1 h2 h3).up hbd
    have HB : Hid (Below wr.drew.heap.size wr.drew wr.drew) := hid (Below.refl _ _)
    have K5 : Hid (∀ W, Below wr.drew.heap.size wr.drew W → W.cell? ads = some (.int .i64 (X : Int))) := hid fun W hW => ((Z0_ HBW.out.drew (Nat.le_refl _) hW).cell hads).trans HGX.out
    have HM : Hid (∀ (lv sv uv : Value) (W : World), Rows2 W W.heap.size lv l → Row W W.heap.size sv s → Row W W.heap.size uv (Y2_ used [r]) → Calls Tryz.prog 77 #[lv, sv, uv] W (Says W z)) := hid fun lv sv uv W h1 h2 h3 => by rw [← hz]; exact ih.out _ lv sv uv W (E2_ _ _) HL1.out h1 h2 h3
    rw [hz] at HST
    clear hz hbd Hone ih hbeh
    have hmk : ¬ cm = k := by omega
    by_cases hcs1 : cs = 1
    all_goals
     go_wp2
     go_region_held3 (fun W => W.cell? ads = some (.int .i64 (X : Int)))
      (exact K5.out _ HB.out)
      (first
      | (go_at_call 42; refine (I5_ _ _ used [r] _ HUr.out (Hone'.out _ _ _ (by first | rfl | (simp [Addr.add]; done) | (simp [Addr.add]; omega) | (simp; intro h; omega)) (by first | rfl | omega | (simp; try omega)) (by first | rfl | omega | (simp; try omega))) hul (by simp)).mono ?_; rintro e w11 ⟨v11, rfl, hr11, hb11⟩; replace HB := hid (Z0_ HB.out (Nat.le_refl _) hb11); replace HVr := hid (HVr.out.up hb11); have HU2 := hid hr11; clear hr11 hb11)
      | (go_at_call_of 77 v11; refine (HM.out _ _ _ _ HVr.out (HSr.out _ _ _ (by first | exact .inl rfl | exact .inr ⟨Hs0.out hcs1, rfl⟩ | exact .inl (by simp [hcs1]) | exact .inr ⟨Hs0.out hcs1, by simp [hcs1]⟩) (by first | rfl | omega | (simp; done) | (simp; omega)) (by first | rfl | omega | (simp; done) | (simp; omega)) _ HB.out) HU2.out).mono ?_; rintro e w12 ⟨rfl, hb12⟩; replace HB := hid (Z0_ HB.out (Nat.le_refl _) hb12); clear hb12))
     go_simp
     have HB6 := hid (Z0_ HBW.out.drew (Nat.le_refl _) HB.out)
     have HB16 := hid (Z0_ HT.out.2.drew (Nat.le_refl _) HB.out)
     cases z
     ·go_wp2
      go_roundw
      case rel => first | exact ⟨k + 1, by go_num, by omega, HST.out, HB16.out⟩ | exact ⟨_, .int .i64 ((k : Int) + 1), _, _, _, _, _, _, _, _, _, _, _, _, _, _, _, _, _, ⟨k + 1, by go_num, by omega, HST.out, HB16.out⟩, by rw [hcs1]⟩
      case measure => simp [intOf]; omega
     ·have HF : Hid (D7_ l (x :: s) used = true) := hid (by
       rw [HAny.out]
       have h1 := HST.out
       rw [List.any_eq_true] at h1 ⊢
       obtain ⟨q, hq, hqm⟩ := h1
       exact ⟨q, List.mem_of_mem_take hq, hqm⟩)
      go_wp2
      go_ret
      exact ⟨by rw [HF.out]; rfl, HB6.out⟩
   ·have hke : k = M.length := by omega
    subst hke
    have HF : Hid (D7_ l (x :: s) used = false) := hid (by rw [HAny.out, ← HT.out.1, List.take_length])
    have HBW := hid (Z0_ HB1.out (Nat.le_refl _) HT.out.2)
    go_wp2
    go_ret
    exact ⟨by rw [HF.out]; rfl, HBW.out⟩
end Wp
end Go.Proofs.YtgadbnbhgpehjaaGreatDoor
