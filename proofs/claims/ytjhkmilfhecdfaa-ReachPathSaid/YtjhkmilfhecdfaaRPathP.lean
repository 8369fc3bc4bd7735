/- A row of rows and a row of integers grown side by side: the arcs of a path, and its points. -/
import Derived.Test.YtjhkmilfhecdfaaRFixed
import Derived.Test.YtjhkmilfhecdfaaRWayP
import Derived.Test.YtjhkmilfhecdfaaKAllP
namespace Go.Proofs.Ytjhkmilfhecdfaa
open Go.RowKit
namespace Wp

def rowP (n i : Nat) : List Int := if i + 1 < n then [((i + 1 : Nat) : Int)] else []
theorem RowO.other {w w' : World} {o1 o2 : Option Nat} {u : Value} {zs : List Int} (h1 : RowO w o1 u zs) (h2 : RowO w o2 u zs) (hg : w.grownBy w' o2) : RowO w' o1 u zs := by
  obtain ⟨A, c, hv, hn, hk⟩ := h1
  refine ⟨A, c, hv, hn, fun k hlt => ?_⟩
  obtain ⟨ad, e1, e2, e3, e4⟩ := hk k hlt
  obtain ⟨A', c', hv', _, hk'⟩ := h2
  rw [hv] at hv'
  injection hv' with e5 _ _
  subst e5
  obtain ⟨ad', f1, f2, f3, _⟩ := hk' k hlt
  rw [e1] at f1
  injection f1 with f1
  subst f1
  exact ⟨ad, e1, Nat.lt_of_lt_of_le e2 hg.size, e3, hg.cell e4 (by rw [add_block]; exact f3)⟩
theorem RowO.none_ (w : World) (o : Option Nat) : RowO w o (.slice none 0 0) [] := ⟨none, 0, rfl, ⟨Nat.le_refl _, by decide, fun _ => rfl⟩, fun k hk => absurd hk (by simp)⟩
theorem RowO.fresh (W : World) (x : Int) (o : Option Nat) (ho : ∀ g, o = some g → g < W.heap.size) : RowO (W.alloc (.cells #[.int .i64 x] 3)) o (.slice (some ⟨W.heap.size, 0, none⟩) 1 1) [x] := by
  refine ⟨_, 1, rfl, ⟨Nat.le_refl _, by decide, fun h => (by cases h)⟩, fun k hk => ⟨⟨W.heap.size, 0, none⟩, rfl, by simp, fun e => ?_, ?_⟩⟩
  · have := ho _ e.symm
    exact Nat.lt_irrefl _ this
  · have hb := Blk.new W 3 #[.int .i64 x]
    match k, hk with
    | 0, _ => exact hb.cell 0

structure PKeep (w0 wr : World) (va vl : Value) (n k : Nat) (vs : List Value) : Prop where
  a : wr.ownsRow w0.heap.size 25 1 va vs.length vs
  len : vs.length = k
  rows : ∀ (i : Nat) (u : Value), vs[i]? = some u → RowO wr va.ownBlock u (rowP n i) ∧ RowO wr vl.ownBlock u (rowP n i)
  bel : Below w0.heap.size w0 wr
section
variable {w0 wr w2 : World} {va vl : Value} {n k m : Nat} {vs : List Value}
theorem PKeep.up (h : PKeep w0 wr va vl n k vs) (hb : Below wr.heap.size wr w2) : PKeep w0 w2 va vl n k vs :=
  ⟨own_kept_none h.a hb, h.len, fun i u hu => ⟨(h.rows i u hu).1.below hb, (h.rows i u hu).2.below hb⟩, below_next h.bel (Nat.le_refl _) hb⟩
theorem PKeep.pushA (h : PKeep w0 wr va vl n k vs) {u v' : Value} (h1 : RowO wr va.ownBlock u (rowP n k)) (h2 : RowO wr vl.ownBlock u (rowP n k)) (hown : w2.ownsRow w0.heap.size 25 1 v' (vs.length + 1) (vs ++ [u])) (hg : wr.grownBy w2 va.ownBlock)
    (hl : v'.ownBlock = va.ownBlock ∨ v'.ownBlock = some wr.heap.size) : PKeep w0 w2 v' vl n (k + 1) (vs ++ [u]) := by
  refine ⟨by rw [List.length_append]; exact hown, by simp [h.len], fun i x hx => ?_, h.bel.grown hg h.bel.size (fun j hj => (h.a.lt j hj).1)⟩
  by_cases hi : i < vs.length
  · rw [List.getElem?_append_left hi] at hx
    obtain ⟨r1, r2⟩ := h.rows i x hx
    exact ⟨r1.grown hg hl, r2.other r1 hg⟩
  · have e : i = k := by
      have := (List.getElem?_eq_some_iff.1 hx).1
      have h3 := h.len
      simp at this
      omega
    subst e
    rw [List.getElem?_append_right (by omega), h.len, Nat.sub_self] at hx
    simp at hx
    subst hx
    exact ⟨h1.grown hg hl, h2.other h1 hg⟩
theorem PKeep.pushL (h : PKeep w0 wr va vl n k vs) {v' : Value} {xs : List Value} (hown0 : wr.ownsRow w0.heap.size 3 1 vl xs.length xs) (hg : wr.grownBy w2 vl.ownBlock)
    (hl : v'.ownBlock = vl.ownBlock ∨ v'.ownBlock = some wr.heap.size) : PKeep w0 w2 va v' n k vs :=
  ⟨h.a.kept hg (own_ne h.a hown0 (by decide)), h.len, fun i u hu => ⟨(h.rows i u hu).1.other (h.rows i u hu).2 hg, (h.rows i u hu).2.grown hg hl⟩, h.bel.grown hg h.bel.size (fun j hj => (hown0.lt j hj).1)⟩
theorem PKeep.all (h : PKeep w0 wr va vl n n vs) : Rows2 wr wr.heap.size va (lineA n) :=
  OwnR.rows (base := w0.heap.size) ⟨vs, h.a, by rw [h.len, line_len], fun i u p hu hp => by
    have hi : i < n := by rw [← h.len]; exact (List.getElem?_eq_some_iff.1 hu).1
    have e : p = rowP n i := by
      have := line_getD n i
      rw [List.getD_eq_getElem?_getD, hp] at this
      exact this
    rw [e]
    exact (h.rows i u hu).1⟩
end

/-! ### What is told of a path -/
theorem line_good {n : Nat} (hn : n ≤ 100) : digB (lineA n) = true := by
  refine digB_all (by rw [line_len]; omega) fun i _ => ?_
  rw [line_len]
  exact pts_ok (by omega) ⟨(line_dig n).up i, fun y hy => by have := (line_dig n).pt i y hy; rwa [line_len] at this⟩
theorem one_ok {n : Nat} {x : Int} (hn : n ≤ 100) (h0 : 0 ≤ x) (h1 : x < (n : Int)) : okL (lineA n).length [x] = true := by
  rw [line_len]
  exact pts_ok (by omega) ⟨by simp, fun y hy => by rw [List.mem_singleton.1 hy]; exact ⟨h0, h1⟩⟩
theorem list_upTo {l : List Int} {n : Nat} (hl : l.length = n) (h : ∀ i, i < l.length → l.getD i 0 = (i : Int)) : l = upTo n := by
  apply List.ext_getElem
  · rw [hl, upTo_length]
  · intro i h1 h2
    have := h i h1
    rw [show l.getD i 0 = l[i] by simp [List.getD, h1]] at this
    rw [this]
    simp [upTo]
theorem line_from {n : Nat} (h1 : 1 ≤ n) (hn : n ≤ 100) : fromL (lineA n) [0] = upTo n := by
  have hd := line_good hn
  have hs := one_ok (n := n) (x := 0) hn (by omega) (by omega)
  obtain ⟨par, hdone⟩ := fin_done (digB_dig hd).1 (ok_pts hs)
  refine (?_ : IsSet (fromL (lineA n) [0])).ext (upTo_set (by omega)) fun x => ?_
  · unfold fromL
    split
    · exact sortL_set _
    · exact isSet_nil
  · have hm : x ∈ fromL (lineA n) [0] ↔ x ∈ (finS (lineA n) [0]).1 := by
      unfold fromL
      rw [good_yes hd hs, if_pos rfl, mem_sortL]
      exact ⟨fun h => h.1, fun hx => ⟨hx, by have := hdone.pt x hx; rw [line_len] at this; unfold Fit; omega⟩⟩
    rw [hm, upTo_mem]
    constructor
    · intro hx
      have := hdone.pt x hx
      rw [line_len] at this
      exact ⟨x.toNat, by omega, by omega⟩
    · rintro ⟨r, hr, rfl⟩
      exact line_all hdone r hr
theorem line_from2 {n : Nat} (h1 : 1 ≤ n) (hn : n ≤ 100) : fromL (lineA n) [(n : Int) - 1] = [(n : Int) - 1] := by
  have hd := line_good hn
  have hs := one_ok (n := n) (x := (n : Int) - 1) hn (by omega) (by omega)
  obtain ⟨par, hdone⟩ := fin_done (digB_dig hd).1 (ok_pts hs)
  have hset : IsSet [(n : Int) - 1] := ok_set hs
  refine (?_ : IsSet (fromL (lineA n) [(n : Int) - 1])).ext hset fun x => ?_
  · unfold fromL
    split
    · exact sortL_set _
    · exact isSet_nil
  · unfold fromL
    rw [good_yes hd hs, if_pos rfl, mem_sortL, List.mem_singleton]
    constructor
    · exact fun h => line_back h1 hdone x h.1
    · rintro rfl
      exact ⟨hdone.has (by simp), by unfold Fit; omega⟩
theorem line_path {n : Nat} (h1 : 1 ≤ n) (hn : n ≤ 100) : pathC (lineA n) [0] [(n : Int) - 1] = (upTo n, true) := by
  have hd := line_good hn
  have hs := one_ok (n := n) (x := 0) hn (by omega) (by omega)
  have ht := one_ok (n := n) (x := (n : Int) - 1) hn (by omega) (by omega)
  obtain ⟨par, hdone⟩ := fin_done (digB_dig hd).1 (ok_pts hs)
  have hin := line_all hdone (n - 1) (by omega)
  obtain ⟨j, hj, he⟩ := mem_cAt hin
  obtain ⟨l, hw⟩ := way_ex hdone j hj
  have hf := way_facts hdone hw hj
  have hup := line_up hdone hf
  have hp := hf.pos
  have hlast := hf.last
  rw [hup _ (by omega), he] at hlast
  have hll : l.length = n := by omega
  have hle := list_upTo hll hup
  refine (path_eq (l := upTo n) (b := true) ?_).symm
  refine .inr ⟨by rw [good_yes hd hs, ht]; rfl, .inr ⟨rfl, j, hj, by rw [he]; simp; omega, fun i hi hc => ?_, par, hdone, by rw [← hle]; exact hw⟩⟩
  rw [List.mem_singleton] at hc
  have := cAt_inj hdone (show i < _ by omega) hj (hc.trans (by rw [he]; omega))
  omega
theorem line_not {n : Nat} (h1 : 1 ≤ n) (hn : n ≤ 100) : ∃ l, pathC (lineA n) [(n : Int) - 1] [0] = (l, decide ((n : Int) = 1)) := by
  have hd := line_good hn
  have hs := one_ok (n := n) (x := (n : Int) - 1) hn (by omega) (by omega)
  have ht := one_ok (n := n) (x := 0) hn (by omega) (by omega)
  obtain ⟨par, hdone⟩ := fin_done (digB_dig hd).1 (ok_pts hs)
  unfold pathC
  rw [good_yes hd hs, ht, Bool.true_and, if_pos rfl]
  by_cases e : n = 1
  · have h0 : (0 : Int) ∈ (finS (lineA n) [(n : Int) - 1]).1 := hdone.has (by rw [List.mem_singleton]; omega)
    obtain ⟨p, hp⟩ : ∃ p, (finS (lineA n) [(n : Int) - 1]).1.find? (fun x => decide (x ∈ [(0 : Int)])) = some p := by
      rcases hq : (finS (lineA n) [(n : Int) - 1]).1.find? (fun x => decide (x ∈ [(0 : Int)])) with _ | p
      · rw [List.find?_eq_none] at hq
        exact absurd (by simp) (hq 0 h0)
      · exact ⟨p, rfl⟩
    rw [hp, decide_eq_true (by omega)]
    exact ⟨_, rfl⟩
  · have hnone : (finS (lineA n) [(n : Int) - 1]).1.find? (fun x => decide (x ∈ [(0 : Int)])) = none := by
      rw [List.find?_eq_none]
      intro x hx hc
      have := line_back h1 hdone x hx
      have h2 : x = 0 := by simpa using hc
      omega
    rw [hnone, decide_eq_false (by omega)]
    exact ⟨_, rfl⟩

end Wp
end Go.Proofs.Ytjhkmilfhecdfaa
