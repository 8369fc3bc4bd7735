/- The document's size and Small, walked: whether a matroid has little; of what has little nothing is long. The document's Few, walked. -/
import Derived.Test.YtgadbnbhgpehjaaGreatDoorZO
import Derived.Test.YtgadbnbhgpehjaaGreatDoorZG
import Derived.Deep.RegionHeld3
import Derived.Test.YtgadbnbhgpehjaaGreatDoorZT
set_option maxHeartbeats 8000000
set_option maxRecDepth 100000
open Go.Lib (hid)
open Nat (le_refl)
namespace Go.Proofs.YtgadbnbhgpehjaaGreatDoor
open Go.RowKit
namespace Wp
def addc (n x : Nat) : Nat := if n < 10000 then n + x else n
def addF {α : Type} (g : α → Nat) (s : Nat) (l : List α) : Nat := l.foldl (fun n x => addc n (g x)) s
def rs (m : Mat) : Nat := addF List.length (1 + m.l.length) m.l
def sz : Nat → Mat → Nat
 | 0, m => addF (fun _ => 10000) (rs m) m.i
 | k + 1, m => addF (sz k) (rs m) m.i
section
variable {α : Type} {g : α → Nat}
theorem Ya3 (s : Nat) : addF g s ([] : List α) = s := rfl
theorem L1_ (s : Nat) (x : α) (l : List α) : addF g s (x :: l) = addF g (addc s (g x)) l := rfl
theorem D0_ {s j : Nat} {l : List α} (d : α) (h : j < l.length) : addF g s (l.take (j + 1)) = addc (addF g s (l.take j)) (g (l.getD j d)) := by
 rw [Zv3 l j d h]
 unfold addF
 rw [List.foldl_append]
 rfl
theorem Xz8 {l : List α} : ∀ {s : Nat}, 10000 ≤ s → addF g s l = s := by
 induction l with
 | nil => intro s _; rfl
 | cons x r ih =>
  intro s h
  rw [L1_, show addc s (g x) = s from if_neg (by omega)]
  exact ih h
theorem D1_ {s j : Nat} {l : List α} (h : 10000 ≤ addF g s (l.take j)) : addF g s (l.take j) = addF g s l := by
 have e : addF g s l = addF g (addF g s (l.take j)) (l.drop j) := by
  unfold addF
  rw [← List.foldl_append, List.take_append_drop]
 rw [e, Xz8 h]
theorem F5_ {s : Nat} {l : List α} : addF g s (l.take l.length) = addF g s l := by rw [List.take_length]
theorem Yz3 {X : Nat} {l : List α} (h : ∀ x ∈ l, g x ≤ X) : ∀ {s : Nat}, addF g s l ≤ max s (9999 + X) := by
 induction l with
 | nil => intro s; rw [Ya3]; omega
 | cons x r ih =>
  intro s
  have h1 := h x (by simp)
  have h2 := ih (fun y hy => h y (by simp [hy])) (s := addc s (g x))
  rw [L1_]
  have h3 : addc s (g x) ≤ max s (9999 + X) := by unfold addc; split <;> omega
  omega
theorem Zg8 {l : List α} : ∀ {s : Nat}, s ≤ addF g s l := by
 induction l with
 | nil => intro s; exact le_refl _
 | cons x r ih =>
  intro s
  rw [L1_]
  have : s ≤ addc s (g x) := by unfold addc; split <;> omega
  exact Nat.le_trans this ih
theorem E0_ {l : List α} : ∀ {s : Nat}, addF g s l ≤ 300 → ∀ x ∈ l, g x ≤ 300 := by
 induction l with
 | nil => intro s _ x hx; cases hx
 | cons y r ih =>
  intro s h x hx
  rw [L1_] at h
  have h1 := Zg8 (g := g) (l := r) (s := addc s (g y))
  have h2 : addc s (g y) ≤ 300 := Nat.le_trans h1 h
  rcases List.mem_cons.1 hx with rfl | hx
  ·unfold addc at h2
   split at h2 <;> omega
  ·exact ih h x hx
end
theorem rs_ge (m : Mat) : 1 + m.l.length ≤ rs m := Zg8
theorem sz_ge (k : Nat) (m : Mat) : rs m ≤ sz k m := by
 cases k <;> exact Zg8
theorem Xg9 {α : Type} {g : α → Nat} (h : ∀ x, 1 ≤ g x) {l : List α} : ∀ {s : Nat}, addF g s l ≤ 300 → s + l.length ≤ 300 := by
 induction l with
 | nil => intro s h; rw [Ya3] at h; simpa using h
 | cons y r ih =>
  intro s hs
  rw [L1_] at hs
  have h1 := Zg8 (g := g) (l := r) (s := addc s (g y))
  have h2 := ih hs
  have h3 := h y
  unfold addc at *
  rw [List.length_cons]
  split at h2 <;> omega
theorem Vb0 (k : Nat) (m : Mat) : 1 ≤ sz k m := by
 have := sz_ge k m
 have := rs_ge m
 omega
theorem Xz9 : ∀ (k : Nat) (m : Mat), sz k m ≤ 300 → Sml m := by
 intro k
 induction k with
 | zero =>
  intro m h
  have h1 := rs_ge m
  have h2 := sz_ge 0 m
  have hr := E0_ (g := List.length) (l := m.l) (s := 1 + m.l.length) (show rs m ≤ 300 by omega)
  have hi := E0_ (g := fun _ : Mat => 10000) (l := m.i) (s := rs m) h
  obtain ⟨t, n, a, b, l, i⟩ := m
  cases i with
  | nil => exact .mk (by simp only [Mat.l] at h1; omega) (fun r hr' => by have := hr r hr'; omega) (by simp) (fun x hx => by cases hx)
  | cons x r =>
   have := hi x (by simp [Mat.i])
   omega
 | succ k ih =>
  intro m h
  have h1 := rs_ge m
  have h2 := sz_ge (k + 1) m
  have hr := E0_ (g := List.length) (l := m.l) (s := 1 + m.l.length) (show rs m ≤ 300 by omega)
  have hi := E0_ (g := sz k) (l := m.i) (s := rs m) h
  have hn := Xg9 (g := sz k) (fun x => Vb0 k x) (l := m.i) (s := rs m) h
  obtain ⟨t, n, a, b, l, i⟩ := m
  simp only [Mat.l, Mat.i] at *
  exact .mk (by omega) (fun r hr' => by have := hr r hr'; omega) (by omega) (fun x hx => ih x (hi x hx))
theorem lim_l {m : Mat} (h : Lim m) : m.l.length ≤ 140737488355328 := by cases h; assumption
theorem lim_r {m : Mat} (h : Lim m) : ∀ r ∈ m.l, r.length ≤ 140737488355328 := by cases h; assumption
theorem lim_i {m : Mat} (h : Lim m) : m.i.length ≤ 140737488355328 := by cases h; assumption
theorem lim_x {m : Mat} (h : Lim m) : ∀ x ∈ m.i, Lim x := by cases h; assumption
theorem rs_le {m : Mat} (h : Lim m) : rs m ≤ 140737488365328 := by
 have h1 := Yz3 (g := List.length) (X := 140737488355328) (l := m.l) (lim_r h) (s := 1 + m.l.length)
 have h2 := lim_l h
 unfold rs
 omega
theorem sz_le : ∀ (k : Nat) (m : Mat), Lim m → sz k m ≤ 140737488365328 + 10000 * (k + 1) := by
 intro k
 induction k with
 | zero =>
  intro m h
  have h1 := Yz3 (g := fun _ : Mat => 10000) (X := 10000) (l := m.i) (fun _ _ => le_refl _) (s := rs m)
  have h2 := rs_le h
  show addF _ _ _ ≤ _
  omega
 | succ k ih =>
  intro m h
  have h1 := Yz3 (g := sz k) (X := 140737488365328 + 10000 * (k + 1)) (l := m.i) (fun x hx => ih x (lim_x h x hx)) (s := rs m)
  have h2 := rs_le h
  show addF _ _ _ ≤ _
  omega
theorem Xh0 : ∀ (k : Nat) (m : Mat) (v : Value) (w : World), k ≤ 8 → MatV w w.heap.size v m → Lim m → Calls Tryz.prog 51 #[v, .int .i64 (k : Nat)] w (Tells w (sz k m)) := by
 intro k
 induction k with
 | zero =>
  intro m v w _ hv hs
  obtain ⟨lv, iv, rfl, hl, hi⟩ := hv.open
  obtain ⟨Al, cl, rfl, _, hlk⟩ := hl
  obtain ⟨Ai, ci, rfl, _, hik⟩ := hi
  have Hlk := hid hlk
  have Hik := hid hik
  have Hs := hid hs
  have h1 := lim_l hs
  have h2 := lim_i hs
  have h1I : (m.l.length : Int) ≤ 140737488355328 := by omega
  have h2I : (m.i.length : Int) ≤ 140737488355328 := by omega
  have Hb0 := hid (Z1_ w m (.slice Al m.l.length cl) (.slice Ai m.i.length ci))
  have Hblk := hid (Z3_ w m (.slice Al m.l.length cl) (.slice Ai m.i.length ci))
  have g4 := Hblk.out.cell 4
  have g5 := Hblk.out.cell 5
  clear hlk hik hs h1 h2 hv
  unfold boxed at *
  go_enter Tryz.func51, Tryz.ntmps51
  go_wp2
  go_loop [5, 6] (fun vn vi => ∃ (N j : Nat), vn = .int .i64 N ∧ vi = .int .i64 j ∧ j ≤ m.l.length ∧ N = addF List.length (1 + m.l.length) (m.l.take j)) (fun _ vi => m.l.length - (intOf vi).toNat)
  case atStart => exact ⟨1 + m.l.length, 0, by go_num, rfl, Nat.zero_le _, rfl⟩
  case round =>
   obtain ⟨N, j, rfl, rfl, hj, hN⟩ := hrel
   have HN0 := hid hN
   clear hN
   by_cases hlt : j < m.l.length
   ·have hltI : (j : Int) < (m.l.length : Int) := by omega
    by_cases hN : N < 10000
    ·have hNI : (N : Int) < 10000 := by omega
     obtain ⟨ad, u, hA, hab, hcu, hru⟩ := Hlk.out j hlt
     subst hA
     have hrl := lim_r Hs.out _ (Y1_ m.l j [] hlt)
     have g1 := (Hb0.out.cell (p := ad.add j) (by rw [Z2_]; exact hab)).trans hcu
     have Hnext : Hid (N + (m.l.getD j []).length = addF List.length (1 + m.l.length) (m.l.take (j + 1))) := by
      show _ = _
      rw [D0_ [] hlt, ← HN0.out]
      exact (if_pos hN).symm
     generalize m.l.getD j [] = r at *
     obtain ⟨Ar, cr, rfl, _⟩ := hru
     have hrI : (r.length : Int) ≤ 140737488355328 := by omega
     clear hcu
     go_wp2
     go_round
     case rel => exact ⟨N + r.length, j + 1, by go_num, by go_num, by omega, Hnext.out⟩
     case measure => simp [intOf]; omega
    ·have hNI : (10000 : Int) ≤ (N : Int) := by omega
     have HN : Hid (N = rs m) := by
      show _ = _
      rw [HN0.out]
      exact D1_ (by rw [← HN0.out]; omega)
     go_wp2
     go_loopw [5, 7] (fun vn vi wr => ∃ (N i : Nat), vn = .int .i64 N ∧ vi = .int .i64 i ∧ i ≤ m.i.length ∧ N = addF (fun _ : Mat => 10000) (rs m) (m.i.take i) ∧ Blk wr w.heap.size 25 #[.int .i64 m.t, .int .i64 m.n, .int .i64 m.a, .int .i64 m.b, .slice Al m.l.length cl, .slice Ai m.i.length ci] ∧ Below w.heap.size w wr) (fun _ vi _ => m.i.length - (intOf vi).toNat)
     case atStart => exact ⟨rs m, 0, by rw [HN.out], rfl, Nat.zero_le _, rfl, Hblk.out, Hb0.out⟩
     case round =>
      obtain ⟨N2, i, rfl, rfl, hi, hN2, hblk, hbr⟩ := hrel
      have Hblk2 := hid hblk
      have Hbr := hid hbr
      have HN2 := hid hN2
      have c5 := hblk.cell 5
      clear hblk hbr hN2
      by_cases hlt : i < m.i.length
      ·have hltI : (i : Int) < (m.i.length : Int) := by omega
       by_cases hN : N2 < 10000
       ·have hNI : (N2 : Int) < 10000 := by omega
        have Hnext : Hid (N2 + 10000 = addF (fun _ : Mat => 10000) (rs m) (m.i.take (i + 1))) := by
         show _ = _
         rw [D0_ default hlt, ← HN2.out]
         exact (if_pos hN).symm
        go_wp2
        go_roundw
        case rel => exact ⟨N2 + 10000, i + 1, by go_num, by go_num, by omega, Hnext.out, Hblk2.out, Hbr.out⟩
        case measure => simp [intOf]; omega
       ·have hNI : (10000 : Int) ≤ (N2 : Int) := by omega
        have Hend : Hid (N2 = sz 0 m) := by
         show _ = _
         rw [HN2.out]
         exact D1_ (by rw [← HN2.out]; omega)
        go_wp2
        go_ret
        exact ⟨by rw [← Hend.out]; rfl, Hbr.out⟩
      ·have hie : i = m.i.length := by omega
       subst hie
       have Hend : Hid (N2 = sz 0 m) := by
        show _ = _
        rw [HN2.out, F5_]
        rfl
       go_wp2
       go_ret
       exact ⟨by rw [← Hend.out]; rfl, Hbr.out⟩
   ·have hje : j = m.l.length := by omega
    subst hje
    have HN : Hid (N = rs m) := by
     show _ = _
     rw [HN0.out, F5_]
     rfl
    by_cases hN : N < 10000
    ·have hNI : (N : Int) < 10000 := by omega
     go_wp2
     go_loopw [5, 7] (fun vn vi wr => ∃ (N i : Nat), vn = .int .i64 N ∧ vi = .int .i64 i ∧ i ≤ m.i.length ∧ N = addF (fun _ : Mat => 10000) (rs m) (m.i.take i) ∧ Blk wr w.heap.size 25 #[.int .i64 m.t, .int .i64 m.n, .int .i64 m.a, .int .i64 m.b, .slice Al m.l.length cl, .slice Ai m.i.length ci] ∧ Below w.heap.size w wr) (fun _ vi _ => m.i.length - (intOf vi).toNat)
     case atStart => exact ⟨rs m, 0, by rw [HN.out], rfl, Nat.zero_le _, rfl, Hblk.out, Hb0.out⟩
     case round =>
      obtain ⟨N2, i, rfl, rfl, hi, hN2, hblk, hbr⟩ := hrel
      have Hblk2 := hid hblk
      have Hbr := hid hbr
      have HN2 := hid hN2
      have c5 := hblk.cell 5
      clear hblk hbr hN2
      by_cases hlt : i < m.i.length
      ·have hltI : (i : Int) < (m.i.length : Int) := by omega
       by_cases hN : N2 < 10000
       ·have hNI : (N2 : Int) < 10000 := by omega
        have Hnext : Hid (N2 + 10000 = addF (fun _ : Mat => 10000) (rs m) (m.i.take (i + 1))) := by
         show _ = _
         rw [D0_ default hlt, ← HN2.out]
         exact (if_pos hN).symm
        go_wp2
        go_roundw
        case rel => exact ⟨N2 + 10000, i + 1, by go_num, by go_num, by omega, Hnext.out, Hblk2.out, Hbr.out⟩
        case measure => simp [intOf]; omega
       ·have hNI : (10000 : Int) ≤ (N2 : Int) := by omega
        have Hend : Hid (N2 = sz 0 m) := by
         show _ = _
         rw [HN2.out]
         exact D1_ (by rw [← HN2.out]; omega)
        go_wp2
        go_ret
        exact ⟨by rw [← Hend.out]; rfl, Hbr.out⟩
      ·have hie : i = m.i.length := by omega
       subst hie
       have Hend : Hid (N2 = sz 0 m) := by
        show _ = _
        rw [HN2.out, F5_]
        rfl
       go_wp2
       go_ret
       exact ⟨by rw [← Hend.out]; rfl, Hbr.out⟩
    ·have hNI : (10000 : Int) ≤ (N : Int) := by omega
     go_wp2
     go_loopw [5, 7] (fun vn vi wr => ∃ (N i : Nat), vn = .int .i64 N ∧ vi = .int .i64 i ∧ i ≤ m.i.length ∧ N = addF (fun _ : Mat => 10000) (rs m) (m.i.take i) ∧ Blk wr w.heap.size 25 #[.int .i64 m.t, .int .i64 m.n, .int .i64 m.a, .int .i64 m.b, .slice Al m.l.length cl, .slice Ai m.i.length ci] ∧ Below w.heap.size w wr) (fun _ vi _ => m.i.length - (intOf vi).toNat)
     case atStart => exact ⟨rs m, 0, by rw [HN.out], rfl, Nat.zero_le _, rfl, Hblk.out, Hb0.out⟩
     case round =>
      obtain ⟨N2, i, rfl, rfl, hi, hN2, hblk, hbr⟩ := hrel
      have Hblk2 := hid hblk
      have Hbr := hid hbr
      have HN2 := hid hN2
      have c5 := hblk.cell 5
      clear hblk hbr hN2
      by_cases hlt : i < m.i.length
      ·have hltI : (i : Int) < (m.i.length : Int) := by omega
       by_cases hN : N2 < 10000
       ·have hNI : (N2 : Int) < 10000 := by omega
        have Hnext : Hid (N2 + 10000 = addF (fun _ : Mat => 10000) (rs m) (m.i.take (i + 1))) := by
         show _ = _
         rw [D0_ default hlt, ← HN2.out]
         exact (if_pos hN).symm
        go_wp2
        go_roundw
        case rel => exact ⟨N2 + 10000, i + 1, by go_num, by go_num, by omega, Hnext.out, Hblk2.out, Hbr.out⟩
        case measure => simp [intOf]; omega
       ·have hNI : (10000 : Int) ≤ (N2 : Int) := by omega
        have Hend : Hid (N2 = sz 0 m) := by
         show _ = _
         rw [HN2.out]
         exact D1_ (by rw [← HN2.out]; omega)
        go_wp2
        go_ret
        exact ⟨by rw [← Hend.out]; rfl, Hbr.out⟩
      ·have hie : i = m.i.length := by omega
       subst hie
       have Hend : Hid (N2 = sz 0 m) := by
        show _ = _
        rw [HN2.out, F5_]
        rfl
       go_wp2
       go_ret
       exact ⟨by rw [← Hend.out]; rfl, Hbr.out⟩
 | succ k ih0 =>
  intro m v w hk hv hs
  have ih : ∀ (m : Mat) (v : Value) (w : World), MatV w w.heap.size v m → Lim m → Calls Tryz.prog 51 #[v, .int .i64 (k : Nat)] w (Tells w (sz k m)) := fun m v w => ih0 m v w (by omega)
  clear ih0
  obtain ⟨lv, iv, rfl, hl, hi⟩ := hv.open
  obtain ⟨Al, cl, rfl, _, hlk⟩ := hl
  obtain ⟨Ai, ci, rfl, _, hik⟩ := hi
  have Hlk := hid hlk
  have Hik := hid hik
  have Hs := hid hs
  have h1 := lim_l hs
  have h2 := lim_i hs
  have h1I : (m.l.length : Int) ≤ 140737488355328 := by omega
  have h2I : (m.i.length : Int) ≤ 140737488355328 := by omega
  have Hb0 := hid (Z1_ w m (.slice Al m.l.length cl) (.slice Ai m.i.length ci))
  have Hblk := hid (Z3_ w m (.slice Al m.l.length cl) (.slice Ai m.i.length ci))
  have g4 := Hblk.out.cell 4
  have g5 := Hblk.out.cell 5
  have Ih := hid ih
  have hkI : (k : Int) ≤ 8 := by omega
  have hwk : IntKind.i64.wrap ((k : Int) + 1 - 1) = (k : Int) := by rw [IntKind.wrap_i64]; omega
  have hwk2 : (0 : Int) < (k : Int) + 1 := by omega
  rw [show (((k + 1 : Nat)) : Int) = (k : Int) + 1 from rfl]
  clear hlk hik hs h1 h2 hv ih
  unfold boxed at *
  go_enter Tryz.func51, Tryz.ntmps51
  go_wp2
  go_loop [5, 6] (fun vn vi => ∃ (N j : Nat), vn = .int .i64 N ∧ vi = .int .i64 j ∧ j ≤ m.l.length ∧ N = addF List.length (1 + m.l.length) (m.l.take j)) (fun _ vi => m.l.length - (intOf vi).toNat)
  case atStart => exact ⟨1 + m.l.length, 0, by go_num, rfl, Nat.zero_le _, rfl⟩
  case round =>
   obtain ⟨N, j, rfl, rfl, hj, hN⟩ := hrel
   have HN0 := hid hN
   clear hN
   by_cases hlt : j < m.l.length
   ·have hltI : (j : Int) < (m.l.length : Int) := by omega
    by_cases hN : N < 10000
    ·have hNI : (N : Int) < 10000 := by omega
     obtain ⟨ad, u, hA, hab, hcu, hru⟩ := Hlk.out j hlt
     subst hA
     have hrl := lim_r Hs.out _ (Y1_ m.l j [] hlt)
     have g1 := (Hb0.out.cell (p := ad.add j) (by rw [Z2_]; exact hab)).trans hcu
     have Hnext : Hid (N + (m.l.getD j []).length = addF List.length (1 + m.l.length) (m.l.take (j + 1))) := by
      show _ = _
      rw [D0_ [] hlt, ← HN0.out]
      exact (if_pos hN).symm
     generalize m.l.getD j [] = r at *
     obtain ⟨Ar, cr, rfl, _⟩ := hru
     have hrI : (r.length : Int) ≤ 140737488355328 := by omega
     clear hcu
     go_wp2
     go_round
     case rel => exact ⟨N + r.length, j + 1, by go_num, by go_num, by omega, Hnext.out⟩
     case measure => simp [intOf]; omega
    ·have hNI : (10000 : Int) ≤ (N : Int) := by omega
     have HN : Hid (N = rs m) := by
      show _ = _
      rw [HN0.out]
      exact D1_ (by rw [← HN0.out]; omega)
     go_wp2
     go_loopw [5, 7] (fun vn vi wr => ∃ (N i : Nat), vn = .int .i64 N ∧ vi = .int .i64 i ∧ i ≤ m.i.length ∧ N = addF (sz k) (rs m) (m.i.take i) ∧ Blk wr w.heap.size 25 #[.int .i64 m.t, .int .i64 m.n, .int .i64 m.a, .int .i64 m.b, .slice Al m.l.length cl, .slice Ai m.i.length ci] ∧ Below w.heap.size w wr) (fun _ vi _ => m.i.length - (intOf vi).toNat)
     case atStart => exact ⟨rs m, 0, by rw [HN.out], rfl, Nat.zero_le _, rfl, Hblk.out, Hb0.out⟩
     case round =>
      obtain ⟨N2, i, rfl, rfl, hi, hN2, hblk, hbr⟩ := hrel
      have Hblk2 := hid hblk
      have Hbr := hid hbr
      have HN2 := hid hN2
      have c5 := hblk.cell 5
      clear hblk hbr hN2
      by_cases hlt : i < m.i.length
      ·have hltI : (i : Int) < (m.i.length : Int) := by omega
       by_cases hN : N2 < 10000
       ·have hNI : (N2 : Int) < 10000 := by omega
        obtain ⟨ad, u, hA, hab, hsix, hmv⟩ := Hik.out i hlt
        subst hA
        have hsix1 := hsix.below Hbr.out (by rw [Z2_]; exact hab)
        have hmv1 := (hmv.bel Hbr.out).mono Hbr.out.size
        have hx := lim_x Hs.out _ (Y1_ m.i i default hlt)
        have hD := sz_le k _ hx
        have Hcall := hid (Ih.out (m.i.getD i default) u wr hmv1 hx)
        have Hnext : Hid (N2 + sz k (m.i.getD i default) = addF (sz k) (rs m) (m.i.take (i + 1))) := by
         show _ = _
         rw [D0_ default hlt, ← HN2.out]
         exact (if_pos hN).symm
        obtain ⟨x0, x1, x2, x3, x4, x5, rfl, s0, s1, s2, s3, s4, s5⟩ := hsix1
        obtain ⟨D, hDD⟩ : ∃ D, sz k (m.i.getD i default) = D := ⟨_, rfl⟩
        rw [hDD] at Hcall Hnext hD
        have hDI : (D : Int) ≤ 140737489000000 := by omega
        clear hsix hmv hmv1 hx hDD hD
        go_wp2_with fail
        refine (Hcall.out).mono ?_
        rintro e w1 ⟨rfl, hb1⟩
        have Hb1 := hid (Z0_ Hbr.out (le_refl _) hb1)
        have Hblk3 := hid (Hblk2.out.below hb1 (by have := Hblk2.out.lt; exact this))
        clear hb1
        go_wp2
        go_roundw
        case rel => exact ⟨N2 + D, i + 1, by go_num, by go_num, by omega, Hnext.out, Hblk3.out, Hb1.out⟩
        case measure => simp [intOf]; omega
       ·have hNI : (10000 : Int) ≤ (N2 : Int) := by omega
        have Hend : Hid (N2 = sz (k + 1) m) := by
         show _ = _
         rw [HN2.out]
         exact D1_ (by rw [← HN2.out]; omega)
        go_wp2
        go_ret
        exact ⟨by rw [← Hend.out]; rfl, Hbr.out⟩
      ·have hie : i = m.i.length := by omega
       subst hie
       have Hend : Hid (N2 = sz (k + 1) m) := by
        show _ = _
        rw [HN2.out, F5_]
        rfl
       go_wp2
       go_ret
       exact ⟨by rw [← Hend.out]; rfl, Hbr.out⟩
   ·have hje : j = m.l.length := by omega
    subst hje
    have HN : Hid (N = rs m) := by
     show _ = _
     rw [HN0.out, F5_]
     rfl
    by_cases hN : N < 10000
    ·have hNI : (N : Int) < 10000 := by omega
     go_wp2
     go_loopw [5, 7] (fun vn vi wr => ∃ (N i : Nat), vn = .int .i64 N ∧ vi = .int .i64 i ∧ i ≤ m.i.length ∧ N = addF (sz k) (rs m) (m.i.take i) ∧ Blk wr w.heap.size 25 #[.int .i64 m.t, .int .i64 m.n, .int .i64 m.a, .int .i64 m.b, .slice Al m.l.length cl, .slice Ai m.i.length ci] ∧ Below w.heap.size w wr) (fun _ vi _ => m.i.length - (intOf vi).toNat)
     case atStart => exact ⟨rs m, 0, by rw [HN.out], rfl, Nat.zero_le _, rfl, Hblk.out, Hb0.out⟩
     case round =>
      obtain ⟨N2, i, rfl, rfl, hi, hN2, hblk, hbr⟩ := hrel
      have Hblk2 := hid hblk
      have Hbr := hid hbr
      have HN2 := hid hN2
      have c5 := hblk.cell 5
      clear hblk hbr hN2
      by_cases hlt : i < m.i.length
      ·have hltI : (i : Int) < (m.i.length : Int) := by omega
       by_cases hN : N2 < 10000
       ·have hNI : (N2 : Int) < 10000 := by omega
        obtain ⟨ad, u, hA, hab, hsix, hmv⟩ := Hik.out i hlt
        subst hA
        have hsix1 := hsix.below Hbr.out (by rw [Z2_]; exact hab)
        have hmv1 := (hmv.bel Hbr.out).mono Hbr.out.size
        have hx := lim_x Hs.out _ (Y1_ m.i i default hlt)
        have hD := sz_le k _ hx
        have Hcall := hid (Ih.out (m.i.getD i default) u wr hmv1 hx)
        have Hnext : Hid (N2 + sz k (m.i.getD i default) = addF (sz k) (rs m) (m.i.take (i + 1))) := by
         show _ = _
         rw [D0_ default hlt, ← HN2.out]
         exact (if_pos hN).symm
        obtain ⟨x0, x1, x2, x3, x4, x5, rfl, s0, s1, s2, s3, s4, s5⟩ := hsix1
        obtain ⟨D, hDD⟩ : ∃ D, sz k (m.i.getD i default) = D := ⟨_, rfl⟩
        rw [hDD] at Hcall Hnext hD
        have hDI : (D : Int) ≤ 140737489000000 := by omega
        clear hsix hmv hmv1 hx hDD hD
        go_wp2_with fail
        refine (Hcall.out).mono ?_
        rintro e w1 ⟨rfl, hb1⟩
        have Hb1 := hid (Z0_ Hbr.out (le_refl _) hb1)
        have Hblk3 := hid (Hblk2.out.below hb1 (by have := Hblk2.out.lt; exact this))
        clear hb1
        go_wp2
        go_roundw
        case rel => exact ⟨N2 + D, i + 1, by go_num, by go_num, by omega, Hnext.out, Hblk3.out, Hb1.out⟩
        case measure => simp [intOf]; omega
       ·have hNI : (10000 : Int) ≤ (N2 : Int) := by omega
        have Hend : Hid (N2 = sz (k + 1) m) := by
         show _ = _
         rw [HN2.out]
         exact D1_ (by rw [← HN2.out]; omega)
        go_wp2
        go_ret
        exact ⟨by rw [← Hend.out]; rfl, Hbr.out⟩
      ·have hie : i = m.i.length := by omega
       subst hie
       have Hend : Hid (N2 = sz (k + 1) m) := by
        show _ = _
        rw [HN2.out, F5_]
        rfl
       go_wp2
       go_ret
       exact ⟨by rw [← Hend.out]; rfl, Hbr.out⟩
    ·have hNI : (10000 : Int) ≤ (N : Int) := by omega
     go_wp2
     go_loopw [5, 7] (fun vn vi wr => ∃ (N i : Nat), vn = .int .i64 N ∧ vi = .int .i64 i ∧ i ≤ m.i.length ∧ N = addF (sz k) (rs m) (m.i.take i) ∧ Blk wr w.heap.size 25 #[.int .i64 m.t, .int .i64 m.n, .int .i64 m.a, .int .i64 m.b, .slice Al m.l.length cl, .slice Ai m.i.length ci] ∧ Below w.heap.size w wr) (fun _ vi _ => m.i.length - (intOf vi).toNat)
     case atStart => exact ⟨rs m, 0, by rw [HN.out], rfl, Nat.zero_le _, rfl, Hblk.out, Hb0.out⟩
     case round =>
      obtain ⟨N2, i, rfl, rfl, hi, hN2, hblk, hbr⟩ := hrel
      have Hblk2 := hid hblk
      have Hbr := hid hbr
      have HN2 := hid hN2
      have c5 := hblk.cell 5
      clear hblk hbr hN2
      by_cases hlt : i < m.i.length
      ·have hltI : (i : Int) < (m.i.length : Int) := by omega
       by_cases hN : N2 < 10000
       ·have hNI : (N2 : Int) < 10000 := by omega
        obtain ⟨ad, u, hA, hab, hsix, hmv⟩ := Hik.out i hlt
        subst hA
        have hsix1 := hsix.below Hbr.out (by rw [Z2_]; exact hab)
        have hmv1 := (hmv.bel Hbr.out).mono Hbr.out.size
        have hx := lim_x Hs.out _ (Y1_ m.i i default hlt)
        have hD := sz_le k _ hx
        have Hcall := hid (Ih.out (m.i.getD i default) u wr hmv1 hx)
        have Hnext : Hid (N2 + sz k (m.i.getD i default) = addF (sz k) (rs m) (m.i.take (i + 1))) := by
         show _ = _
         rw [D0_ default hlt, ← HN2.out]
         exact (if_pos hN).symm
        obtain ⟨x0, x1, x2, x3, x4, x5, rfl, s0, s1, s2, s3, s4, s5⟩ := hsix1
        obtain ⟨D, hDD⟩ : ∃ D, sz k (m.i.getD i default) = D := ⟨_, rfl⟩
        rw [hDD] at Hcall Hnext hD
        have hDI : (D : Int) ≤ 140737489000000 := by omega
        clear hsix hmv hmv1 hx hDD hD
        go_wp2_with fail
        refine (Hcall.out).mono ?_
        rintro e w1 ⟨rfl, hb1⟩
        have Hb1 := hid (Z0_ Hbr.out (le_refl _) hb1)
        have Hblk3 := hid (Hblk2.out.below hb1 (by have := Hblk2.out.lt; exact this))
        clear hb1
        go_wp2
        go_roundw
        case rel => exact ⟨N2 + D, i + 1, by go_num, by go_num, by omega, Hnext.out, Hblk3.out, Hb1.out⟩
        case measure => simp [intOf]; omega
       ·have hNI : (10000 : Int) ≤ (N2 : Int) := by omega
        have Hend : Hid (N2 = sz (k + 1) m) := by
         show _ = _
         rw [HN2.out]
         exact D1_ (by rw [← HN2.out]; omega)
        go_wp2
        go_ret
        exact ⟨by rw [← Hend.out]; rfl, Hbr.out⟩
      ·have hie : i = m.i.length := by omega
       subst hie
       have Hend : Hid (N2 = sz (k + 1) m) := by
        show _ = _
        rw [HN2.out, F5_]
        rfl
       go_wp2
       go_ret
       exact ⟨by rw [← Hend.out]; rfl, Hbr.out⟩
def smlB (m : Mat) : Bool := decide (sz 8 m ≤ 300)
theorem Vb1 {m : Mat} (h : smlB m = true) : Sml m := Xz9 8 m (of_decide_eq_true h)
theorem Xy0 (m : Mat) (v : Value) (w : World) (hv : MatV w w.heap.size v m) (hs : Lim m) : Calls Tryz.prog 31 #[v] w (Says w (smlB m)) := by
 obtain ⟨lv, iv, hve, _, _⟩ := hv.open
 have Hb0 := hid (Z1_ w m lv iv)
 have Hv := hid (hv.up Hb0.out)
 have gb := (Z3_ w m lv iv).cell
 have g0 := gb 0
 have g1 := gb 1
 have g2 := gb 2
 have g3 := gb 3
 have g4 := gb 4
 have g5 := gb 5
 have hD := sz_le 8 m hs
 have Hcall := hid (fun v W h => Xh0 8 m v W (by omega) h hs)
 subst hve
 clear hv gb hs
 unfold boxed smlB at *
 generalize sz 8 m = D at *
 have hDI : (D : Int) ≤ 140737489000000 := by omega
 clear hD
 go_enter Tryz.func31, Tryz.ntmps31
 go_wp2_with fail
 refine (Hcall.out _ _ Hv.out).mono ?_
 rintro e w1 ⟨rfl, hb1⟩
 have Hb1 := hid (Z0_ Hb0.out (le_refl _) hb1)
 clear hb1
 go_wp2
 go_ret
 refine ⟨?_, Hb1.out⟩
 rw [show decide (D ≤ 300) = decide ((D : Int) ≤ 300) from decide_eq_decide.2 (by omega)]
 rfl
open Go.RowKit
theorem Yi6 : ∀ (k : Nat) (m : Mat) (v : Value) (w : World) (left : Int), left = (k : Int) → k ≤ 10 → MatV w w.heap.size v m → Lim m → Calls Tryz.prog 50 #[v, .int .i64 left] w (Tells w (dp k m)) := by
 intro k
 induction k with
 | zero =>
  intro m v w left hleft _ hv hs
  obtain ⟨lv, iv, rfl, hl, hi⟩ := hv.open
  obtain ⟨A, c, rfl, hcap, hk⟩ := hi
  have hlen := lim_i hs
  have hlen' : (m.i.length : Int) ≤ 140737488355328 := by omega
  have Hb0 := hid (Z1_ w m lv (.slice A m.i.length c))
  have hblk := Z3_ w m lv (.slice A m.i.length c)
  have g0 := hblk.cell 0
  have g5 := hblk.cell 5
  subst hleft
  clear hblk hk hl
  unfold boxed at *
  by_cases h3 : (0 : Int) < (m.i.length : Int)
  ·go_enter Tryz.func50, Tryz.ntmps50
   go_wp2
   refine wp_loop_rounds 1 ?_
   rw [rounds_succ]
   go_wp2
   go_ret
   exact ⟨rfl, Hb0.out⟩
  ·go_enter Tryz.func50, Tryz.ntmps50
   go_wp2
   refine wp_loop_rounds 1 ?_
   rw [rounds_succ]
   go_wp2
   go_ret
   exact ⟨rfl, Hb0.out⟩
 | succ k ih =>
  intro m v w left hleft hk10 hv hs
  obtain ⟨lv, iv, rfl, hl, hi⟩ := hv.open
  obtain ⟨A, c, rfl, hcap, hk⟩ := hi
  have Hk := hid hk
  have Hs := hid hs
  have Ih := hid ih
  have hlen := lim_i hs
  have hlen' : (m.i.length : Int) ≤ 140737488355328 := by omega
  have Hb0 := hid (Z1_ w m lv (.slice A m.i.length c))
  have Hblk := hid (Z3_ w m lv (.slice A m.i.length c))
  have g0 := Hblk.out.cell 0
  have g5 := Hblk.out.cell 5
  have hm1 : (k : Int) + 1 = left := by omega
  have hm0 : 0 < left := by omega
  have hk10' : (k : Int) ≤ 10 := by omega
  have hw1 : IntKind.i64.wrap (left - 1) = (k : Int) := by rw [IntKind.wrap_i64]; omega
  clear hk hl hleft ih hs
  unfold boxed at *
  by_cases hn : nest m.t
  ·have hd : Hid (dp (k + 1) m = 1 + maxN (m.i.map (dp k))) := by
    show dp (k + 1) m = _
    rw [dp, if_pos hn]
   have Hn := hid hn
   clear hn g0 g5
   go_enter Tryz.func50, Tryz.ntmps50
   go_wp2
   go_loopw [5, 6] (fun vd vi wr => ∃ (d i : Nat), vd = .int .i64 d ∧ vi = .int .i64 i ∧ i ≤ m.i.length ∧ d = Wp.most k i m.i ∧ Blk wr w.heap.size 25 #[.int .i64 m.t, .int .i64 m.n, .int .i64 m.a, .int .i64 m.b, lv, .slice A m.i.length c] ∧ Below w.heap.size w wr) (fun _ vi _ => m.i.length - (intOf vi).toNat)
   case atStart => exact ⟨0, 0, rfl, rfl, Nat.zero_le _, by rw [Zv2], Hblk.out, Hb0.out⟩
   case round =>
    obtain ⟨d, i, rfl, rfl, hi, hdm, hblk, hbr⟩ := hrel
    have Hbr := hid hbr
    have Hblkr := hid hblk
    have g5 := hblk.cell 5
    have g0 := hblk.cell 0
    have hdle := Zu1 k i m.i
    have hdI : (d : Int) ≤ (k : Int) + 1 := by omega
    have Hdm := hid hdm
    clear hbr hblk hdm
    by_cases hlt : i < m.i.length
    ·have hltI : (i : Int) < (m.i.length : Int) := by omega
     have Hne := hid (Y5_ m.t wr)
     rw [decide_eq_true Hn.out] at Hne
     go_wp2_with fail
     refine (Hne.out).mono ?_
     rintro e w2 ⟨rfl, hb2⟩
     have Hb2 := hid (Z0_ Hbr.out (le_refl _) hb2)
     have Hblk2 := hid (Hblkr.out.below hb2 Hblkr.out.lt)
     have g5' := Hblk2.out.cell 5
     obtain ⟨ad, u, hA, hab, hsix, hmv⟩ := Hk.out i hlt
     subst hA
     have hsix1 := hsix.below Hb2.out (by rw [Z2_]; exact hab)
     have hmv1 := (hmv.bel Hb2.out).mono Hb2.out.size
     have Hcall := hid (Ih.out (m.i.getD i default) u w2 (k : Int) rfl (by omega) hmv1 (lim_x Hs.out _ (Y1_ _ _ _ hlt)))
     have hms := Zv4 k i m.i hlt
     have hdp := dp_le k (m.i.getD i default)
     obtain ⟨x0, x1, x2, x3, x4, x5, rfl, s0, s1, s2, s3, s4, s5⟩ := hsix1
     obtain ⟨D, hD⟩ : ∃ D, dp k (m.i.getD i default) = D := ⟨_, rfl⟩
     rw [hD] at Hcall hms hdp
     have hDI : (D : Int) ≤ (k : Int) + 1 := by omega
     have Hms := hid hms
     clear hsix hmv hmv1 Hk Ih hD hms hdle g5 g0 hb2 Hne Hblkr
     go_wp2_with fail
     refine (Hcall.out).mono ?_
     rintro e w1 ⟨rfl, hb1⟩
     have Hb1 := hid (Z0_ Hb2.out (le_refl _) hb1)
     have Hblk1 := hid (Hblk2.out.below hb1 Hblk2.out.lt)
     clear hb1
     go_wp2
     go_roundw
     case rel =>
      refine ⟨max d D, i + 1, ?_, by go_num, by omega, ?_, Hblk1.out, Hb1.out⟩
      ·exact congrArg (Value.int .i64) (by omega)
      ·rw [Hms.out, Hdm.out]
     case measure => simp [intOf]; omega
    ·have hie : i = m.i.length := by omega
     subst hie
     go_wp2
     go_ret
     refine ⟨?_, Hbr.out⟩
     have e : dp (k + 1) m = d + 1 := by rw [hd.out, ← Zf8]; have := Hdm.out; omega
     rw [e]
     rfl
  ·have hd : Hid (dp (k + 1) m = 1) := by
    show dp (k + 1) m = 1
    rw [dp, if_neg hn]
   have Hn := hid hn
   clear hn
   by_cases h3 : (0 : Int) < (m.i.length : Int)
   ·go_enter Tryz.func50, Tryz.ntmps50
    go_wp2
    refine wp_loop_rounds 1 ?_
    rw [rounds_succ]
    go_wp2_with fail
    have Hne := hid (Y5_ m.t (w.alloc (.cells #[.int .i64 m.t, .int .i64 m.n, .int .i64 m.a, .int .i64 m.b, lv, .slice A m.i.length c] 25)))
    rw [decide_eq_false Hn.out] at Hne
    refine (Hne.out).mono ?_
    rintro e w2 ⟨rfl, hb2⟩
    have Hb2 := hid (Z0_ Hb0.out (le_refl _) hb2)
    go_wp2
    go_ret
    exact ⟨by rw [hd.out]; rfl, Hb2.out⟩
   ·go_enter Tryz.func50, Tryz.ntmps50
    go_wp2
    refine wp_loop_rounds 1 ?_
    rw [rounds_succ]
    go_wp2
    go_ret
    exact ⟨by rw [hd.out]; rfl, Hb0.out⟩
theorem Yi7 (m : Mat) (v : Value) (w : World) (hv : MatV w w.heap.size v m) (hs : Lim m) : Calls Tryz.prog 30 #[v] w (Tells w (deepI m)) := by
 obtain ⟨lv, iv, hve, _, _⟩ := hv.open
 have Hb0 := hid (Z1_ w m lv iv)
 have Hv := hid (hv.up Hb0.out)
 have gb := (Z3_ w m lv iv).cell
 have g0 := gb 0
 have g1 := gb 1
 have g2 := gb 2
 have g3 := gb 3
 have g4 := gb 4
 have g5 := gb 5
 subst hve
 clear hv gb
 unfold boxed at *
 unfold deepI
 go_enter Tryz.func30, Tryz.ntmps30
 go_wp2_with fail
 refine (Yi6 4 m _ _ 4 rfl (by omega) Hv.out hs).mono ?_
 rintro e w1 ⟨rfl, hb1⟩
 have Hb1 := hid (Z0_ Hb0.out (le_refl _) hb1)
 clear hb1
 go_wp2
 go_ret
 exact ⟨rfl, Hb1.out⟩
def mostI (m : Mat) (most : Int) : Int := if 3 ≤ deepI m then min most 6 else most
def fewOk (m : Mat) (most : Int) : Bool := smlB m && decide (m.n ≤ mostI m most) && decide (m.b ≤ 100)
def fewB : Nat → Mat → Int → Bool
 | 0, _, _ => false
 | k + 1, m, most => fewOk m most && m.i.all fun x => fewB k x (mostI m most)
theorem Yz4 {k : Nat} {m : Mat} {most : Int} (h : fewB (k + 1) m most = true) : Sml m := by
 rw [fewB, Bool.and_eq_true] at h
 unfold fewOk at h
 rw [Bool.and_eq_true, Bool.and_eq_true] at h
 exact Vb1 h.1.1.1
theorem Xw4 {m : Mat} (h : sz 0 m ≤ 300) : m.i = [] := by
 have hi := E0_ (g := fun _ : Mat => 10000) (l := m.i) (s := rs m) h
 cases e : m.i with
 | nil => rfl
 | cons x r => have := hi x (by rw [e]; simp); omega
theorem Xw5 {k : Nat} {m x : Mat} (h : sz (k + 1) m ≤ 300) (hx : x ∈ m.i) : sz k x ≤ 300 := E0_ (g := sz k) (l := m.i) (s := rs m) h x hx
def FewAt (k : Nat) : Prop := ∀ (m : Mat) (v : Value) (most : Int) (w : World), MatV w w.heap.size v m → Lim m → (smlB m = false ∨ sz k m ≤ 300) → Calls Tryz.prog 9 #[v, .int .i64 most] w (Says w (fewB (k + 1) m most))
theorem Xk8 (k : Nat) (m : Mat) (v : Value) (most M : Int) (w : World) (hv : MatV w w.heap.size v m) (hl : Lim m) (hM : mostI m most = M) (B : Bool) (hB : fewOk m most = B) (hrec : B = true → ∀ j, j < m.i.length → ∀ (u : Value) (W : World), MatV W W.heap.size u (m.i.getD j default) → Calls Tryz.prog 9 #[u, .int .i64 M] W (Says W (fewB k (m.i.getD j default) M))) :
  Calls Tryz.prog 9 #[v, .int .i64 most] w (Says w (B && m.i.all fun x => fewB k x M)) := by
 have Hl := hid hl
 have Hrec := hid hrec
 obtain ⟨lv, iv, hve, _, hi⟩ := hv.open
 obtain ⟨Ai, ci, rfl, hci, hki⟩ := hi
 have Hk := hid hki
 have hlen := lim_i hl
 have hlen' : (m.i.length : Int) ≤ 140737488355328 := by omega
 have Hb0 := hid (Z1_ w m lv (.slice Ai m.i.length ci))
 have Hv0 := hid (hv.up Hb0.out)
 have Hblk0 := hid (Z3_ w m lv (.slice Ai m.i.length ci))
 have g0 := Hblk0.out.cell 0
 have g1 := Hblk0.out.cell 1
 have g2 := Hblk0.out.cell 2
 have g3 := Hblk0.out.cell 3
 have g4 := Hblk0.out.cell 4
 have g5 := Hblk0.out.cell 5
 subst hve
 unfold boxed at *
 obtain ⟨D, hD⟩ : ∃ D, deepI m = D := ⟨_, rfl⟩
 have HD := hid hD
 obtain ⟨Z, hZ⟩ : ∃ Z, smlB m = Z := ⟨_, rfl⟩
 have HZ := hid hZ
 unfold mostI at hM
 unfold fewOk at hB
 rw [show mostI m most = M from hM, hZ] at hB
 rw [hD] at hM
 have HB := hid hB
 have HM := hid hM
 obtain ⟨Q, hQ⟩ : ∃ Q, (m.i.all fun x => fewB k x M) = Q := ⟨_, rfl⟩
 have HQ := hid hQ
 rw [hQ]
 clear hv hl hrec hki hci hD hZ hB hM hQ
 have key : ∀ (x : Int), x = M → True := fun _ _ => trivial
 clear key
 have hDm : Hid ((3 ≤ D → min most 6 = M) ∧ (¬ 3 ≤ D → most = M)) := hid ⟨fun h => by have := HM.out; rw [if_pos h] at this; exact this, fun h => by have := HM.out; rw [if_neg h] at this; exact this⟩
 go_enter Tryz.func9, Tryz.ntmps9
 go_wp2_with fail
 refine (Yi7 m _ _ Hv0.out Hl.out).mono ?_
 rintro e w1 ⟨rfl, hb1⟩
 rw [HD.out]
 have Hb1 := hid (Z0_ Hb0.out (le_refl _) hb1)
 have Hv1 := hid (Hv0.out.up hb1)
 have Hblk1 := hid (Hblk0.out.below hb1 Hblk0.out.lt)
 clear hb1 g0 g1 g2 g3 g4 g5
 have g0 := Hblk1.out.cell 0
 have g1 := Hblk1.out.cell 1
 have g2 := Hblk1.out.cell 2
 have g3 := Hblk1.out.cell 3
 have g4 := Hblk1.out.cell 4
 have g5 := Hblk1.out.cell 5
 by_cases hd : 3 ≤ D
 case' pos =>
  have hmin : min most 6 = M := hDm.out.1 (by omega)
  go_wp2_with fail
 case' neg =>
  have hmm : M = most := (hDm.out.2 (by omega)).symm
  subst hmm
  go_wp2_with fail
 all_goals
  refine (Xy0 m _ _ Hv1.out Hl.out).mono ?_
  rintro e w2 ⟨rfl, hb2⟩
  rw [HZ.out]
  have Hb2 := hid (Z0_ Hb1.out (le_refl _) hb2)
  have Hblk2 := hid (Hblk1.out.below hb2 Hblk1.out.lt)
  clear hb2 g0 g1 g2 g3 g4 g5 hd
  have g1 := Hblk2.out.cell 1
  have g3 := Hblk2.out.cell 3
  cases Z
  ·have hBf : B = false := HB.out.symm.trans (by simp)
   subst hBf
   go_wp2
   go_ret
   exact ⟨rfl, Hb2.out⟩
  ·by_cases hn : m.n ≤ M
   ·by_cases hb : m.b ≤ 100
    ·have hBt : B = true := HB.out.symm.trans (by simp [hn, hb])
     subst hBt
     rw [Bool.true_and]
     have hn' : ¬ M < m.n := by omega
     have hb' : ¬ 100 < m.b := by omega
     clear hn hb
     go_wp2
     clear g1 g3 hn' hb'
     go_loopw [5] (fun vi wr => ∃ i : Nat, vi = .int .i64 i ∧ i ≤ m.i.length ∧ (∀ j, j < i → fewB k (m.i.getD j default) M = true) ∧ Blk wr w.heap.size 25 #[.int .i64 m.t, .int .i64 m.n, .int .i64 m.a, .int .i64 m.b, lv, .slice Ai m.i.length ci] ∧ Below w.heap.size w wr) (fun vi _ => m.i.length - (intOf vi).toNat)
     case atStart => exact ⟨0, rfl, Nat.zero_le _, fun j hj => absurd hj (Nat.not_lt_zero _), Hblk2.out, Hb2.out⟩
     case round =>
      obtain ⟨i, rfl, hi, hok, hblk, hbr⟩ := hrel
      have Hok := hid hok
      have Hbr := hid hbr
      have Hblkr := hid hblk
      have g5 := hblk.cell 5
      clear hok hblk hbr
      by_cases hlt : i < m.i.length
      ·have hltI : (i : Int) < (m.i.length : Int) := by omega
       obtain ⟨ad, u, hA, hab, hsix, hmv⟩ := Hk.out i hlt
       subst hA
       have hsix1 := hsix.below Hbr.out (by rw [Z2_]; exact hab)
       have hmv1 := (hmv.bel Hbr.out).mono Hbr.out.size
       have Hcall := hid (Hrec.out (by first | rfl | trivial) i hlt u wr hmv1)
       have Hmiss := hid (Yq4 (p := fun x => fewB k x M) hlt)
       have Hok1 : Hid (fewB k (m.i.getD i default) M = true → ∀ j, j < i + 1 → fewB k (m.i.getD j default) M = true) := hid fun hb j hj => by
        by_cases e : j = i
        ·rw [e]; exact hb
        ·exact Hok.out j (by omega)
       obtain ⟨x0, x1, x2, x3, x4, x5, rfl, s0, s1, s2, s3, s4, s5⟩ := hsix1
       clear hsix hmv hmv1 hab
       rcases hz : fewB k (m.i.getD i default) M with _ | _
       ·have hQf : Q = false := HQ.out.symm.trans (Hmiss.out hz)
        subst hQf
        rw [hz] at Hcall
        clear hz
        go_wp2_with fail
        refine (Hcall.out).mono ?_
        rintro e w3 ⟨rfl, hb3⟩
        have Hb3 := hid (Z0_ Hbr.out (le_refl _) hb3)
        clear hb3
        go_wp2
        go_ret
        exact ⟨rfl, Hb3.out⟩
       ·have Hz := hid hz
        rw [hz] at Hcall
        clear hz
        go_wp2_with fail
        refine (Hcall.out).mono ?_
        rintro e w3 ⟨rfl, hb3⟩
        have Hb3 := hid (Z0_ Hbr.out (le_refl _) hb3)
        have Hblk3 := hid (Hblkr.out.below hb3 Hblkr.out.lt)
        clear hb3 s0 s1 s2 s3 s4 s5 g5
        go_wp2
        go_roundw
        case rel => exact ⟨i + 1, by go_num, by omega, Hok1.out Hz.out, Hblk3.out, Hb3.out⟩
        case measure => simp [intOf]; omega
      ·have hie : i = m.i.length := by omega
       have Hie := hid hie
       have hQt : Q = true := HQ.out.symm.trans (Yq5 (p := fun x => fewB k x M) (by rw [← Hie.out]; exact Hok.out))
       subst hQt
       obtain rfl := hie
       go_wp2
       go_ret
       exact ⟨rfl, Hbr.out⟩
    ·have hBf : B = false := HB.out.symm.trans (by simp [hb])
     subst hBf
     have hn' : ¬ M < m.n := by omega
     have hb' : 100 < m.b := by omega
     clear hn hb
     go_wp2
     go_ret
     exact ⟨rfl, Hb2.out⟩
   ·have hBf : B = false := HB.out.symm.trans (by simp [hn])
    subst hBf
    have hn' : M < m.n := by omega
    clear hn
    go_wp2
    go_ret
    exact ⟨rfl, Hb2.out⟩
theorem Xy1 : ∀ k, FewAt k
 | 0 => fun m v most w hv hl hz => by
  rw [show fewB (0 + 1) m most = (fewOk m most && m.i.all fun x => fewB 0 x (mostI m most)) from rfl]
  refine Xk8 0 m v most _ w hv hl rfl _ rfl fun hB j hj u W hu => ?_
  exfalso
  have h0 : sz 0 m ≤ 300 := hz.resolve_left (by unfold fewOk at hB; rw [Bool.and_eq_true, Bool.and_eq_true] at hB; rw [hB.1.1]; decide)
  have h1 := Xw4 h0
  rw [h1] at hj
  simp at hj
 | k + 1 => fun m v most w hv hl hz => by
  rw [show fewB (k + 1 + 1) m most = (fewOk m most && m.i.all fun x => fewB (k + 1) x (mostI m most)) from rfl]
  refine Xk8 (k + 1) m v most _ w hv hl rfl _ rfl fun hB j hj u W hu => ?_
  have h0 : sz (k + 1) m ≤ 300 := hz.resolve_left (by unfold fewOk at hB; rw [Bool.and_eq_true, Bool.and_eq_true] at hB; rw [hB.1.1]; decide)
  exact Xy1 k (m.i.getD j default) u _ W hu (lim_x hl _ (Y1_ _ _ _ hj)) (.inr (Xw5 h0 (Y1_ _ _ _ hj)))
theorem Yz5 (m : Mat) (v : Value) (most : Int) (w : World) (hv : MatV w w.heap.size v m) (hl : Lim m) : Calls Tryz.prog 9 #[v, .int .i64 most] w (Says w (fewB 9 m most)) :=
 Xy1 8 m v most w hv hl (by
  by_cases h : smlB m = true
  ·exact .inr (of_decide_eq_true h)
  ·exact .inl (by simpa using h))
end Wp
end Go.Proofs.YtgadbnbhgpehjaaGreatDoor
