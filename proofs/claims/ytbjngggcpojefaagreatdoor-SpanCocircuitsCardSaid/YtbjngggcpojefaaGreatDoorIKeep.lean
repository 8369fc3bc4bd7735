/- What the laws of minors lean on: the document's Has, walked; rows of one's own that grow side by side; matroids with one within, written out. -/
import Derived.Test.YtbjngggcpojefaaGreatDoorZF
import Derived.Test.YtbjngggcpojefaaGreatDoorZS
import Derived.Test.YtbjngggcpojefaaGreatDoorZA
namespace Go.Proofs.YtbjngggcpojefaaGreatDoor
open Go.RowKit
namespace Wp

/-! ### Is it in a set -/
theorem has_no {l : List Int} {x : Int} (h : mayB l = false) : hasB l x = false := by unfold hasB; rw [h]; rfl
theorem has_yes {l : List Int} {x : Int} (h : mayB l = true) : hasB l x = l.contains x := by unfold hasB; rw [h]; rfl
theorem hasB_is {l : List Int} (h : mayB l = true) (x : Int) : hasB l x = l.contains x := has_yes h
set_option maxHeartbeats 2000000 in
set_option maxRecDepth 100000 in
theorem refhas_any (v : Value) (l : List Int) (x : Int) (w : World) (hr : Row w w.heap.size v l) (hl : l.length ≤ 1048576) :
    Calls Tryz.prog 22 #[v, .int .i64 x] w (Says w (hasB l x)) := by
  have Hr := Lib.hid hr
  clear hr
  rcases hm : mayB l with _ | _
  · have Hf := Lib.hid (has_no (x := x) hm)
    go_enter Tryz.func22, Tryz.ntmps22
    go_wp2_with fail
    refine (refmay_any v l w Hr.out (by omega)).mono ?_
    rintro e w1 ⟨rfl, hb1⟩
    rw [hm]
    go_wp2
    go_ret
    exact says_mk Hf.out rfl hb1
  · have Hf := Lib.hid (has_yes (x := x) hm)
    obtain ⟨bx, hbx⟩ : ∃ bx, bx = l.contains x := ⟨_, rfl⟩
    have Hc := Lib.hid (refin_any v l x w.heap.size)
    rw [← hbx] at Hf Hc
    clear hbx
    go_enter Tryz.func22, Tryz.ntmps22
    go_wp2_with fail
    refine (refmay_any v l w Hr.out (by omega)).mono ?_
    rintro e w1 ⟨rfl, hb1⟩
    rw [hm]
    go_wp2_with fail
    refine (Hc.out w1 (Hr.out.below hb1) (by omega)).mono ?_
    rintro e w2 ⟨rfl, rfl⟩
    go_wp2
    go_ret
    exact says_mk Hf.out rfl hb1

/-! ### Rows of one's own, side by side -/
theorem Fam.bel {w w' : World} {B : Nat} {vs : List Value} {pp : List (List Int)} (h : Fam w B vs pp) (hb : Below w.heap.size w w') : Fam w' B vs pp := h.new (only_of_below hb none)
theorem Fam.own {w : World} {B : Nat} {vs : List Value} {pp : List (List Int)} (h : Fam w B vs pp) (i : Nat) {v : Value} {p : List Int} (hv : vs[i]? = some v) (hp : pp[i]? = some p) : w.ownsRow B 3 1 v (ints p).length (ints p) := by
  rw [ints_length]
  exact h.2.1 i v p hv hp
theorem Fam.row {w : World} {B : Nat} {vs : List Value} {pp : List (List Int)} (h : Fam w B vs pp) (i : Nat) {v : Value} {p : List Int} (hv : vs[i]? = some v) (hp : pp[i]? = some p) : Row w w.heap.size v p := Row.of_own (h.2.1 i v p hv hp) rfl
/-- One that is empty, in a block of its own, more. -/
theorem Fam.lit {w : World} {B : Nat} {vs : List Value} {pp : List (List Int)} (h : Fam w B vs pp) (hB : B ≤ w.heap.size) : Fam (w.alloc (.cells #[] 3)) B (vs ++ [.slice (some ⟨w.heap.size, 0, none⟩) 0 0]) (pp ++ [[]]) := by
  have h0 := h.bel ((Below.refl w.heap.size w).alloc (Nat.le_refl _) (.cells #[] 3))
  have hn := World.ownsRow_lit (base := B) (e := 3) (size := 1) w #[] 0 hB (by unfold maxLen; omega) rfl
  have hlast : ∀ (i : Nat) (v : Value), ¬ i < vs.length → (vs ++ [Value.slice (some ⟨w.heap.size, 0, none⟩) 0 0])[i]? = some v → i = vs.length ∧ v = .slice (some ⟨w.heap.size, 0, none⟩) 0 0 := by
    intro i v hi hv
    have hi2 : i = vs.length := by
      have := (List.getElem?_eq_some_iff.1 hv).1
      simp at this
      omega
    subst hi2
    rw [List.getElem?_append_right (Nat.le_refl _)] at hv
    simp at hv
    exact ⟨rfl, hv.symm⟩
  have hlt : ∀ (i : Nat) (v : Value), vs[i]? = some v → v.ownBlock ≠ some w.heap.size := by
    intro i v hv he
    have hi := (List.getElem?_eq_some_iff.1 hv).1
    have hip : i < pp.length := by rw [← h.1]; exact hi
    have := ((h.2.1 i v _ hv (List.getElem?_eq_getElem hip)).lt _ he).2
    omega
  refine ⟨by simp [h.1], fun i v p hv hp => ?_, fun i j v z hv hz hij => ?_⟩
  · by_cases hi : i < vs.length
    · rw [List.getElem?_append_left hi] at hv
      rw [List.getElem?_append_left (by rw [← h.1]; exact hi)] at hp
      exact h0.2.1 i v p hv hp
    · obtain ⟨rfl, rfl⟩ := hlast i v hi hv
      rw [h.1, List.getElem?_append_right (Nat.le_refl _)] at hp
      simp at hp
      subst hp
      exact hn
  · by_cases hi : i < vs.length
    · rw [List.getElem?_append_left hi] at hv
      by_cases hj : j < vs.length
      · rw [List.getElem?_append_left hj] at hz
        exact h0.2.2 i j v z hv hz hij
      · obtain ⟨rfl, rfl⟩ := hlast j z hj hz
        exact .inr (hlt i v hv)
    · obtain ⟨rfl, rfl⟩ := hlast i v hi hv
      by_cases hj : j < vs.length
      · rw [List.getElem?_append_left hj] at hz
        exact .inr fun e => hlt j z hz e.symm
      · have := hlast j z hj hz
        omega
/-- One of a list's numbers, in each world above. -/
theorem Row.nth {w : World} {B : Nat} {A : Option Addr} {n c : Nat} {l : List Int} (h : Row w B (.slice A n c) l) {k : Nat} (hk : k < l.length) : ∃ ad, A = some ad ∧ ∀ W, Below B w W → W.cell? (ad.add k) = some (.int .i64 (l.getD k 0)) := by
  obtain ⟨A', c', he, _, hc⟩ := h
  injection he with e1 e2 e3
  subst e1 e2 e3
  obtain ⟨ad, rfl, hab, hcl⟩ := hc k hk
  exact ⟨ad, rfl, fun W hW => (hW.cell (by rw [add_block]; exact hab)).trans hcl⟩

/-- What is restricted, or contracted, written out. -/
theorem part_lit {W : World} {sl c0 c1 c2 c3 c4 c5 : Value} {r : List Int} {m : Mat} (hr : Row W W.heap.size sl r) (hm : MatV W W.heap.size (.agg #[c0, c1, c2, c3, c4, c5]) m) (t n : Int) :
    MatV ((W.alloc (.cells #[sl] 26)).alloc (.cells #[c0, c1, c2, c3, c4, c5] 25)) (W.heap.size + 1 + 1)
      (.agg #[.int .i64 t, .int .i64 n, .int .i64 0, .int .i64 0, .slice (some ⟨W.heap.size, 0, none⟩) 1 1, .slice (some ⟨W.heap.size + 1, 0, none⟩) 1 1]) (.mk t n 0 0 [r] [m]) := by
  have h1 := (lit_rows1 hr).below ((Below.refl (W.heap.size + 1) _).alloc (by rw [size_more]; omega) (.cells #[c0, c1, c2, c3, c4, c5] 25))
  have h2 := lit_mats (hm.upA (.cells #[sl] 26))
  rw [size_more] at h2
  exact MatV.shut (h1.mono (by omega)) h2
/-- A dual, written out. -/
theorem dual_lit {W : World} {c0 c1 c2 c3 c4 c5 : Value} {m : Mat} (h : MatV W W.heap.size (.agg #[c0, c1, c2, c3, c4, c5]) m) :
    MatV (W.alloc (.cells #[c0, c1, c2, c3, c4, c5] 25)) (W.heap.size + 1) (.agg #[.int .i64 8, .int .i64 m.n, .int .i64 0, .int .i64 0, .slice none 0 0, .slice (some ⟨W.heap.size, 0, none⟩) 1 1]) (dualOf m) :=
  MatV.shut (rows2_nil _ _) (lit_mats h)

end Wp
end Go.Proofs.YtbjngggcpojefaaGreatDoor
