/- The library's IndexFunc and ContainsFunc over a list of integers, and over a list of lists, walked over whatever test. -/
import Derived.Test.YtolnkgghejhaeaaGreatDoorZA
import Derived.Deep.QuietTactic
namespace Go.Proofs.YtolnkgghejhaeaaGreatDoor
open Go.RowKit
namespace Wp

/-- Where the first is at which P holds, or -1. -/
def Found {α : Type} (P : α → Bool) (d : α) (zs : List α) (r : Int) : Prop :=
  (r = -1 ∧ ∀ j, j < zs.length → P (zs.getD j d) = false) ∨ ∃ i : Nat, i < zs.length ∧ r = (i : Int) ∧ P (zs.getD i d) = true ∧ ∀ j, j < i → P (zs.getD j d) = false
theorem found_any {α : Type} {P : α → Bool} {d : α} {zs : List α} {r : Int} (h : Found P d zs r) : (decide (0 ≤ r)) = zs.any P := by
  rcases h with ⟨rfl, h⟩ | ⟨i, hi, rfl, h, _⟩
  · have : zs.any P = false := by
      rw [← Bool.not_eq_true, List.any_eq_true]
      rintro ⟨x, hx, hp⟩
      obtain ⟨j, hj, rfl⟩ := List.mem_iff_getElem.1 hx
      have := h j hj
      rw [List.getD_eq_getElem?_getD, List.getElem?_eq_getElem hj] at this
      simp [hp] at this
    rw [this]
    rfl
  · have : zs.any P = true := List.any_eq_true.2 ⟨zs[i], List.getElem_mem hi, by
      rw [List.getD_eq_getElem?_getD, List.getElem?_eq_getElem hi] at h
      exact h⟩
    rw [this]
    exact decide_eq_true (by omega)

/-- A function value tests a number: in whatever world in which what lay in w lies as it lay. -/
def Tests (w : World) (g : Nat) (lb : Array Value) (P : Int → Bool) : Prop :=
  ∀ (x : Int) (W : World), Below w.heap.size w W → Calls Tryz.prog g (#[.int .i64 x] ++ lb) W fun e W' => e = .returned (.bool (P x)) ∧ Below W.heap.size W W'
theorem Tests.up {w w' : World} {g : Nat} {lb : Array Value} {P : Int → Bool} (h : Tests w g lb P) (hb : Below w.heap.size w w') : Tests w' g lb P := fun x W hW => h x W (hb.trans (hW.mono hb.size))
/-- It tests a list. -/
def TestsR (w : World) (g : Nat) (lb : Array Value) (P : List Int → Bool) : Prop :=
  ∀ (u : Value) (zs : List Int) (W : World), Below w.heap.size w W → Row W W.heap.size u zs → Calls Tryz.prog g (#[u] ++ lb) W fun e W' => e = .returned (.bool (P zs)) ∧ Below W.heap.size W W'
theorem TestsR.up {w w' : World} {g : Nat} {lb : Array Value} {P : List Int → Bool} (h : TestsR w g lb P) (hb : Below w.heap.size w w') : TestsR w' g lb P := fun u zs W hW => h u zs W (hb.trans (hW.mono hb.size))

set_option maxHeartbeats 4000000 in
set_option maxRecDepth 100000 in
theorem index_any (g : Nat) (lb : Array Value) (P : Int → Bool) (v : Value) (zs : List Int) (w : World) (eg : ∀ args w, (callFunc g args).run Tryz.prog w = .ok (.enter g args) w) (hr : Row w w.heap.size v zs) (hl : zs.length ≤ 1048576) (ht : Tests w g lb P) :
    Calls Tryz.prog 41 #[v, .func (.func g) #[] lb] w fun e w' => ∃ r, e = .returned (.int .i64 r) ∧ Found P 0 zs r ∧ Below w.heap.size w w' := by
  obtain ⟨A, c, rfl, _, hk⟩ := hr
  have Hk := Lib.hid hk
  have Ht := Lib.hid ht
  have hl' : (zs.length : Int) ≤ 1048576 := by omega
  clear hk ht
  go_enter Tryz.func41, Tryz.ntmps41
  go_wp2
  go_loopw [8] (fun vk wr => ∃ k : Nat, vk = .int .i64 k ∧ k ≤ zs.length ∧ Below w.heap.size w wr ∧ ∀ j, j < k → P (zs.getD j 0) = false) (fun vk _ => zs.length - (intOf vk).toNat)
  case atStart => exact ⟨0, rfl, Nat.zero_le _, Below.refl _ _, fun j hj => absurd hj (Nat.not_lt_zero _)⟩
  case round =>
    obtain ⟨k, rfl, hk, hb, hz⟩ := hrel
    have Hb := Lib.hid hb
    have Hz := Lib.hid hz
    clear hb hz
    by_cases hlt : k < zs.length
    · obtain ⟨ad, hA, hab, hc⟩ := Hk.out k hlt
      subst hA
      have g1 := (Hb.out.cell (p := ad.add k) (by rw [add_block]; exact hab)).trans hc
      have Hcall := Lib.hid (Ht.out (zs.getD k 0) _ Hb.out)
      have hlt' : (k : Int) < (zs.length : Int) := by omega
      obtain ⟨x, hx⟩ : ∃ x, x = zs.getD k 0 := ⟨_, rfl⟩
      rw [← hx] at g1 Hcall
      have Hx := Lib.hid hx
      clear hx hc Hk Ht
      rcases hq : P x with _ | _
      · rw [hq] at Hcall
        have Hq := Lib.hid hq
        clear hq
        go_wp2_with fail
        refine (Hcall.out).mono ?_
        rintro e w' ⟨rfl, hb'⟩
        go_wp2
        go_roundw
        case rel =>
          refine ⟨k + 1, by go_num, by omega, Hb.out.trans (hb'.mono Hb.out.size), fun j hj => ?_⟩
          by_cases e : j = k
          · rw [e, ← Hx.out]
            exact Hq.out
          · exact Hz.out j (by omega)
        case measure => simp [intOf]; omega
      · rw [hq] at Hcall
        have Hq := Lib.hid hq
        clear hq
        go_wp2_with fail
        refine (Hcall.out).mono ?_
        rintro e w' ⟨rfl, hb'⟩
        go_wp2
        go_ret
        exact ⟨_, rfl, .inr ⟨k, hlt, rfl, by rw [← Hx.out]; exact Hq.out, Hz.out⟩, Hb.out.trans (hb'.mono Hb.out.size)⟩
    · have hke : k = zs.length := by omega
      subst hke
      go_wp2
      go_ret
      exact ⟨_, rfl, .inl ⟨rfl, Hz.out⟩, Hb.out⟩

set_option maxHeartbeats 4000000 in
set_option maxRecDepth 100000 in
theorem indexR_any (g : Nat) (lb : Array Value) (P : List Int → Bool) (v : Value) (pp : List (List Int)) (w : World) (eg : ∀ args w, (callFunc g args).run Tryz.prog w = .ok (.enter g args) w) (hr : Rows2 w w.heap.size v pp) (hl : pp.length ≤ 1048576) (ht : TestsR w g lb P) :
    Calls Tryz.prog 127 #[v, .func (.func g) #[] lb] w fun e w' => ∃ r, e = .returned (.int .i64 r) ∧ Found P [] pp r ∧ Below w.heap.size w w' := by
  obtain ⟨A, c, rfl, _, hk⟩ := hr
  have Hk := Lib.hid hk
  have Ht := Lib.hid ht
  have hl' : (pp.length : Int) ≤ 1048576 := by omega
  clear hk ht
  go_enter Tryz.func127, Tryz.ntmps127
  go_wp2
  go_loopw [8] (fun vk wr => ∃ k : Nat, vk = .int .i64 k ∧ k ≤ pp.length ∧ Below w.heap.size w wr ∧ ∀ j, j < k → P (pp.getD j []) = false) (fun vk _ => pp.length - (intOf vk).toNat)
  case atStart => exact ⟨0, rfl, Nat.zero_le _, Below.refl _ _, fun j hj => absurd hj (Nat.not_lt_zero _)⟩
  case round =>
    obtain ⟨k, rfl, hk, hb, hz⟩ := hrel
    have Hb := Lib.hid hb
    have Hz := Lib.hid hz
    clear hb hz
    by_cases hlt : k < pp.length
    · obtain ⟨ad, u, hA, hab, hc, hru⟩ := Hk.out k hlt
      subst hA
      have g1 := (Hb.out.cell (p := ad.add k) (by rw [add_block]; exact hab)).trans hc
      have Hcall := Lib.hid (Ht.out u (pp.getD k []) _ Hb.out ((hru.below Hb.out).mono Hb.out.size))
      have hlt' : (k : Int) < (pp.length : Int) := by omega
      obtain ⟨x, hx⟩ : ∃ x, x = pp.getD k [] := ⟨_, rfl⟩
      rw [← hx] at Hcall hru
      have Hx := Lib.hid hx
      obtain ⟨B, c1, rfl, _⟩ := hru
      clear hx hc Hk Ht
      rcases hq : P x with _ | _
      · rw [hq] at Hcall
        have Hq := Lib.hid hq
        clear hq
        go_wp2_with fail
        refine (Hcall.out).mono ?_
        rintro e w' ⟨rfl, hb'⟩
        go_wp2
        go_roundw
        case rel =>
          refine ⟨k + 1, by go_num, by omega, Hb.out.trans (hb'.mono Hb.out.size), fun j hj => ?_⟩
          by_cases e : j = k
          · rw [e, ← Hx.out]
            exact Hq.out
          · exact Hz.out j (by omega)
        case measure => simp [intOf]; omega
      · rw [hq] at Hcall
        have Hq := Lib.hid hq
        clear hq
        go_wp2_with fail
        refine (Hcall.out).mono ?_
        rintro e w' ⟨rfl, hb'⟩
        go_wp2
        go_ret
        exact ⟨_, rfl, .inr ⟨k, hlt, rfl, by rw [← Hx.out]; exact Hq.out, Hz.out⟩, Hb.out.trans (hb'.mono Hb.out.size)⟩
    · have hke : k = pp.length := by omega
      subst hke
      go_wp2
      go_ret
      exact ⟨_, rfl, .inl ⟨rfl, Hz.out⟩, Hb.out⟩

set_option maxHeartbeats 4000000 in
set_option maxRecDepth 100000 in
theorem contains_any (g : Nat) (lb : Array Value) (P : Int → Bool) (v : Value) (zs : List Int) (w : World) (eg : ∀ args w, (callFunc g args).run Tryz.prog w = .ok (.enter g args) w) (hr : Row w w.heap.size v zs) (hl : zs.length ≤ 1048576) (ht : Tests w g lb P) :
    Calls Tryz.prog 30 #[v, .func (.func g) #[] lb] w (Says w (zs.any P)) := by
  have Hc := Lib.hid (index_any g lb P v zs w eg hr hl ht)
  obtain ⟨A, c, rfl, _⟩ := hr
  clear ht eg
  go_enter Tryz.func30, Tryz.ntmps30
  go_wp2_with fail
  refine (Hc.out).mono ?_
  rintro e w1 ⟨r, rfl, hf, hb⟩
  have Hf := Lib.hid (found_any hf)
  clear hf
  by_cases h0 : 0 ≤ r
  · go_wp2
    go_ret
    refine ⟨?_, hb⟩
    rw [← Hf.out, decide_eq_true h0]
    rfl
  · have h0' : r < 0 := by omega
    go_wp2
    go_ret
    refine ⟨?_, hb⟩
    rw [← Hf.out, decide_eq_false (by omega)]
    rfl

set_option maxHeartbeats 4000000 in
set_option maxRecDepth 100000 in
theorem containsR_any (g : Nat) (lb : Array Value) (P : List Int → Bool) (v : Value) (pp : List (List Int)) (w : World) (eg : ∀ args w, (callFunc g args).run Tryz.prog w = .ok (.enter g args) w) (hr : Rows2 w w.heap.size v pp) (hl : pp.length ≤ 1048576) (ht : TestsR w g lb P) :
    Calls Tryz.prog 100 #[v, .func (.func g) #[] lb] w (Says w (pp.any P)) := by
  have Hc := Lib.hid (indexR_any g lb P v pp w eg hr hl ht)
  obtain ⟨A, c, rfl, _⟩ := hr
  clear ht eg
  go_enter Tryz.func100, Tryz.ntmps100
  go_wp2_with fail
  refine (Hc.out).mono ?_
  rintro e w1 ⟨r, rfl, hf, hb⟩
  have Hf := Lib.hid (found_any hf)
  clear hf
  by_cases h0 : 0 ≤ r
  · go_wp2
    go_ret
    refine ⟨?_, hb⟩
    rw [← Hf.out, decide_eq_true h0]
    rfl
  · have h0' : r < 0 := by omega
    go_wp2
    go_ret
    refine ⟨?_, hb⟩
    rw [← Hf.out, decide_eq_false (by omega)]
    rfl

end Wp
end Go.Proofs.YtolnkgghejhaeaaGreatDoor
