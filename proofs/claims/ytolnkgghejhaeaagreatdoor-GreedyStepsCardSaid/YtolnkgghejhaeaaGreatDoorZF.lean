/- The program's May, Rank and Indep, and the document's May, walked. Matroids written out in memory. -/
import Derived.Test.YtolnkgghejhaeaaGreatDoorZW
import Derived.Test.YtolnkgghejhaeaaGreatDoorZT
import Derived.Test.YtolnkgghejhaeaaGreatDoorQImg
import Derived.Test.YtolnkgghejhaeaaGreatDoorZA
namespace Go.Proofs.YtolnkgghejhaeaaGreatDoor
open Go.RowKit
namespace Wp

def mayI (m : Mat) (s : List Int) : Bool := decide (chk m = 0) && subB s (allL m.n)
/-- The rank, as it is told: -1 of what may not be. -/
noncomputable def rankT (m : Mat) (s : List Int) : Int := if mayI m s = true then (rkP 4 m (memP s) : Nat) else -1
noncomputable def indT (m : Mat) (s : List Int) : Bool := decide (rankT m s = (s.length : Int))
theorem mayI_iff {m : Mat} {s : List Int} : mayI m s = true ↔ chk m = 0 ∧ InN (nN m) s := by
  unfold mayI
  rw [Bool.and_eq_true, decide_eq_true_iff]
  constructor
  · rintro ⟨h1, h2⟩; exact ⟨h1, (inN_sub (chk_n h1).1 (chk_n h1).2).1 h2⟩
  · rintro ⟨h1, h2⟩; exact ⟨h1, (inN_sub (chk_n h1).1 (chk_n h1).2).2 h2⟩
theorem mayI_set (m : Mat) (s : List Int) : mayI m s = (decide (chk m = 0) && okA m.n s) := by
  unfold mayI
  by_cases h : chk m = 0
  · rw [okA_sub (chk_n h).1 (chk_n h).2]
  · rw [decide_eq_false h]; rfl

set_option maxHeartbeats 4000000 in
set_option maxRecDepth 100000 in
theorem imay_any (E : Nat → Addr) (m : Mat) (v sv : Value) (s : List Int) (w : World) (hv : MatV w w.heap.size v m) (hs : Sml m) (hr : Row w w.heap.size sv s) (hsl : s.length ≤ 1048576) (hE : Env E w) : Calls Tryz.prog 64 #[v, sv] w (Says w (mayI m s)) := by
  have Hs := Lib.hid hs
  obtain ⟨lv, iv, hve, _, _⟩ := hv.open
  obtain ⟨As, cs, rfl, _⟩ := id hr
  have Hb0 := Lib.hid (boxed_below w m lv iv)
  have Hv0 := Lib.hid (hv.up Hb0.out)
  have Hr0 := Lib.hid (hr.up Hb0.out)
  have Hblk0 := Lib.hid (boxed_blk w m lv iv)
  have g0 := Hblk0.out.cell 0
  have g1 := Hblk0.out.cell 1
  have g2 := Hblk0.out.cell 2
  have g3 := Hblk0.out.cell 3
  have g4 := Hblk0.out.cell 4
  have g5 := Hblk0.out.cell 5
  subst hve
  unfold boxed at *
  have HE0 := Lib.hid (hE.up Hb0.out)
  obtain ⟨D, hD⟩ : ∃ D, chk m = D := ⟨_, rfl⟩
  have HD := Lib.hid hD
  have hal := all_len m.n
  unfold mayI
  rw [hD]
  clear hv hs hr hE hD
  by_cases h : D = 0
  · subst h
    rw [decide_eq_true rfl, Bool.true_and]
    go_enter Tryz.func64, Tryz.ntmps64
    go_wp2_with fail
    refine (check_any E m _ _ Hv0.out Hs.out HE0.out).mono ?_
    rintro e w1 ⟨rfl, hb1⟩
    rw [HD.out]
    have Hb1 := Lib.hid (below_next Hb0.out (Nat.le_refl _) hb1)
    have Hr1 := Lib.hid (Hr0.out.up hb1)
    have k1 := (Hblk0.out.below hb1 Hblk0.out.lt).cell 1
    clear hb1 g0 g1 g2 g3 g4 g5
    go_wp2_with fail
    refine (all_any m.n _).mono ?_
    rintro e w2 ⟨va, rfl, hra, hb2⟩
    have Hb2 := Lib.hid (below_next Hb1.out (Nat.le_refl _) hb2)
    have Hr2 := Lib.hid (Hr1.out.up hb2)
    have Hra := Lib.hid hra
    clear hb2 hra k1
    go_wp2_with fail
    refine (sub_any _ _ s (allL m.n) _ Hr2.out Hra.out hsl hal).mono ?_
    rintro e w3 ⟨rfl, hb3⟩
    have Hb3 := Lib.hid (below_next Hb2.out (Nat.le_refl _) hb3)
    clear hb3
    go_wp2
    go_ret
    exact ⟨rfl, Hb3.out⟩
  · rw [decide_eq_false h, Bool.false_and]
    have hne : (D == 0) = false := by simpa using h
    clear h
    go_enter Tryz.func64, Tryz.ntmps64
    go_wp2_with fail
    refine (check_any E m _ _ Hv0.out Hs.out HE0.out).mono ?_
    rintro e w1 ⟨rfl, hb1⟩
    rw [HD.out]
    have Hb1 := Lib.hid (below_next Hb0.out (Nat.le_refl _) hb1)
    clear hb1 g0 g1 g2 g3 g4 g5
    go_wp2
    go_ret
    exact ⟨rfl, Hb1.out⟩

set_option maxHeartbeats 4000000 in
set_option maxRecDepth 100000 in
theorem irank_any (E : Nat → Addr) (m : Mat) (v sv : Value) (s : List Int) (w : World) (hv : MatV w w.heap.size v m) (hs : Sml m) (hr : Row w w.heap.size sv s) (hsl : s.length ≤ 1048576) (hE : Env E w) : Calls Tryz.prog 50 #[v, sv] w (Tells w (rankT m s)) := by
  have Hs := Lib.hid hs
  obtain ⟨lv, iv, hve, _, _⟩ := hv.open
  obtain ⟨As, cs, rfl, _⟩ := id hr
  have Hb0 := Lib.hid (boxed_below w m lv iv)
  have Hv0 := Lib.hid (hv.up Hb0.out)
  have Hr0 := Lib.hid (hr.up Hb0.out)
  have Hblk0 := Lib.hid (boxed_blk w m lv iv)
  have g0 := Hblk0.out.cell 0
  have g1 := Hblk0.out.cell 1
  have g2 := Hblk0.out.cell 2
  have g3 := Hblk0.out.cell 3
  have g4 := Hblk0.out.cell 4
  have g5 := Hblk0.out.cell 5
  subst hve
  unfold boxed at *
  have HE0 := Lib.hid (hE.up Hb0.out)
  unfold rankT
  rcases hm : mayI m s with _ | _
  · rw [if_neg (by decide)]
    have Hm := Lib.hid hm
    clear hv hs hr hE hm
    go_enter Tryz.func50, Tryz.ntmps50
    go_wp2_with fail
    refine (imay_any E m _ _ s _ Hv0.out Hs.out Hr0.out hsl HE0.out).mono ?_
    rintro e w1 ⟨rfl, hb1⟩
    rw [Hm.out]
    have Hb1 := Lib.hid (below_next Hb0.out (Nat.le_refl _) hb1)
    clear hb1 g0 g1 g2 g3 g4 g5
    go_wp2
    go_ret
    exact ⟨rfl, Hb1.out⟩
  · rw [if_pos rfl]
    have Hm := Lib.hid hm
    have Hi := Lib.hid (mayI_iff.1 hm)
    obtain ⟨R, hR⟩ : ∃ R : Nat, rkP 4 m (memP s) = R := ⟨_, rfl⟩
    have Hrk : Hid (∀ (v sv : Value) (W : World), MatV W W.heap.size v m → Row W W.heap.size sv s → Env E W → Calls Tryz.prog 65 #[v, sv] W (Tells W (R : Int))) := Lib.hid fun v sv W h1 h2 h3 => by rw [← hR]; exact rank_all E 4 m v sv s W h1 Hs.out Hi.out.1 (chk_ok.1 Hi.out.1).1 h2 Hi.out.2 h3
    rw [hR]
    clear hv hs hr hE hm hR
    go_enter Tryz.func50, Tryz.ntmps50
    go_wp2_with fail
    refine (imay_any E m _ _ s _ Hv0.out Hs.out Hr0.out hsl HE0.out).mono ?_
    rintro e w1 ⟨rfl, hb1⟩
    rw [Hm.out]
    have Hb1 := Lib.hid (below_next Hb0.out (Nat.le_refl _) hb1)
    have Hr1 := Lib.hid (Hr0.out.up hb1)
    have Hv1 := Lib.hid (Hv0.out.up hb1)
    have HE1 := Lib.hid (HE0.out.up hb1)
    have Hblk1 := Lib.hid (Hblk0.out.below hb1 Hblk0.out.lt)
    clear hb1 g0 g1 g2 g3 g4 g5
    have g0 := Hblk1.out.cell 0
    have g1 := Hblk1.out.cell 1
    have g2 := Hblk1.out.cell 2
    have g3 := Hblk1.out.cell 3
    have g4 := Hblk1.out.cell 4
    have g5 := Hblk1.out.cell 5
    go_wp2_with fail
    refine (Hrk.out _ _ _ Hv1.out Hr1.out HE1.out).mono ?_
    rintro e w2 ⟨rfl, hb2⟩
    have Hb2 := Lib.hid (below_next Hb1.out (Nat.le_refl _) hb2)
    clear hb2 g0 g1 g2 g3 g4 g5
    go_wp2
    go_ret
    exact ⟨rfl, Hb2.out⟩

set_option maxHeartbeats 4000000 in
set_option maxRecDepth 100000 in
theorem indep_any (E : Nat → Addr) (m : Mat) (v sv : Value) (s : List Int) (w : World) (hv : MatV w w.heap.size v m) (hs : Sml m) (hr : Row w w.heap.size sv s) (hsl : s.length ≤ 1048576) (hE : Env E w) : Calls Tryz.prog 35 #[v, sv] w (Says w (indT m s)) := by
  have Hs := Lib.hid hs
  obtain ⟨lv, iv, hve, _, _⟩ := hv.open
  obtain ⟨As, cs, rfl, _⟩ := id hr
  have Hb0 := Lib.hid (boxed_below w m lv iv)
  have Hv0 := Lib.hid (hv.up Hb0.out)
  have Hr0 := Lib.hid (hr.up Hb0.out)
  have Hblk0 := Lib.hid (boxed_blk w m lv iv)
  have g0 := Hblk0.out.cell 0
  have g1 := Hblk0.out.cell 1
  have g2 := Hblk0.out.cell 2
  have g3 := Hblk0.out.cell 3
  have g4 := Hblk0.out.cell 4
  have g5 := Hblk0.out.cell 5
  subst hve
  unfold boxed at *
  have HE0 := Lib.hid (hE.up Hb0.out)
  obtain ⟨R, hR⟩ : ∃ R, rankT m s = R := ⟨_, rfl⟩
  have HR := Lib.hid hR
  obtain ⟨b0, hb0⟩ : ∃ b0, indT m s = b0 := ⟨_, rfl⟩
  have hbe : (R == (s.length : Int)) = b0 := by rw [← hb0, ← hR]; unfold indT; rw [Bool.eq_iff_iff, beq_iff_eq, decide_eq_true_iff]
  rw [hb0]
  clear hv hs hr hE hR hb0
  go_enter Tryz.func35, Tryz.ntmps35
  go_wp2_with fail
  refine (irank_any E m _ _ s _ Hv0.out Hs.out Hr0.out hsl HE0.out).mono ?_
  rintro e w1 ⟨rfl, hb1⟩
  rw [HR.out]
  have Hb1 := Lib.hid (below_next Hb0.out (Nat.le_refl _) hb1)
  clear hb1 g0 g1 g2 g3 g4 g5
  go_wp2
  go_ret
  exact ⟨by rw [← hbe]; rfl, Hb1.out⟩

end Wp
end Go.Proofs.YtolnkgghejhaeaaGreatDoor

namespace Go.Proofs.YtolnkgghejhaeaaGreatDoor
open Go.RowKit
namespace Wp

theorem size_more (w : World) (o : Obj) : (w.alloc o).heap.size = w.heap.size + 1 := by simp
theorem lit_rows1 {W : World} {u : Value} {r : List Int} (h : Row W W.heap.size u r) : Rows2 (W.alloc (.cells #[u] 26)) (W.heap.size + 1) (.slice (some ⟨W.heap.size, 0, none⟩) 1 1) [r] := by
  have hb := Blk.new W 26 #[u]
  refine ⟨_, 1, rfl, ⟨Nat.le_refl _, by decide, fun e => by cases e⟩, fun k hk => ⟨⟨W.heap.size, 0, none⟩, u, rfl, by show W.heap.size < _; omega, ?_, ?_⟩⟩
  · match k, hk with
    | 0, _ => exact hb.cell 0
  · match k, hk with
    | 0, _ =>
      have := (h.below ((Below.refl _ W).alloc (Nat.le_refl _) (.cells #[u] 26))).mono (show W.heap.size ≤ W.heap.size + 1 by omega)
      simpa using this
theorem lit_mats1 {W W' : World} {c0 c1 c2 c3 c4 c5 : Value} {m : Mat} (hb : Blk W' W.heap.size 25 #[c0, c1, c2, c3, c4, c5]) (h : MatV W' (W.heap.size + 1) (.agg #[c0, c1, c2, c3, c4, c5]) m) :
    MatL W' (W.heap.size + 1) (.slice (some ⟨W.heap.size, 0, none⟩) 1 1) [m] := by
  refine ⟨_, 1, rfl, ⟨Nat.le_refl _, by decide, fun e => by cases e⟩, fun k hk => ⟨⟨W.heap.size, 0, none⟩, .agg #[c0, c1, c2, c3, c4, c5], rfl, by show W.heap.size < _; omega, ?_, ?_⟩⟩
  · match k, hk with
    | 0, _ => exact ⟨c0, c1, c2, c3, c4, c5, rfl, hb.cell 0, hb.cell 1, hb.cell 2, hb.cell 3, hb.cell 4, hb.cell 5⟩
  · match k, hk with
    | 0, _ => exact h
theorem lit_mats {W : World} {c0 c1 c2 c3 c4 c5 : Value} {m : Mat} (h : MatV W W.heap.size (.agg #[c0, c1, c2, c3, c4, c5]) m) :
    MatL (W.alloc (.cells #[c0, c1, c2, c3, c4, c5] 25)) (W.heap.size + 1) (.slice (some ⟨W.heap.size, 0, none⟩) 1 1) [m] :=
  lit_mats1 (Blk.new W _ _) ((h.bel ((Below.refl _ W).alloc (Nat.le_refl _) _)).mono (by omega))
theorem rows2_nil (W : World) (B : Nat) : Rows2 W B (.slice none 0 0) [] := ⟨none, 0, rfl, ⟨Nat.le_refl _, by decide, fun _ => rfl⟩, fun k hk => absurd hk (by simp)⟩
theorem rows2_upA {w : World} {v : Value} {l : List (List Int)} (h : Rows2 w w.heap.size v l) (o : Obj) : Rows2 (w.alloc o) (w.alloc o).heap.size v l := h.up ((Below.refl _ w).alloc (Nat.le_refl _) o)

/-- A matroid that has no lists, and none within. -/
theorem plain_mat (W : World) (B : Nat) (t n a b : Int) : MatV W B (.agg #[.int .i64 t, .int .i64 n, .int .i64 a, .int .i64 b, .slice none 0 0, .slice none 0 0]) (.mk t n a b [] []) := MatV.shut (rows2_nil W B) (MatL.nil_ W B)
def uM : Mat := .mk 0 3 2 0 [] []
def rM : Mat := .mk 5 2 0 0 [[0, 2]] [uM]
def cM : Mat := .mk 6 2 0 0 [[1]] [uM]
def dN : Nat → Mat
  | 0 => uM
  | k + 1 => .mk 8 3 0 0 [] [dN k]
/-- All but the box g stays. -/
def Off (g : Nat) (w w' : World) : Prop := w.heap.size ≤ w'.heap.size ∧ ∀ b, b < w.heap.size → b ≠ g → w'.heap[b]? = w.heap[b]?
theorem Off.refl (g : Nat) (w : World) : Off g w w := ⟨Nat.le_refl _, fun _ _ _ => rfl⟩
theorem Off.trans {g : Nat} {a b c : World} (h : Off g a b) (k : Off g b c) : Off g a c := ⟨Nat.le_trans h.1 k.1, fun i hi hg => (k.2 i (Nat.lt_of_lt_of_le hi h.1) hg).trans (h.2 i hi hg)⟩
theorem Off.alloc (g : Nat) (w : World) (o : Obj) : Off g w (w.alloc o) := ⟨by simp, fun b hb _ => Below.heap_alloc w o b hb⟩
theorem Off.set_ {g : Nat} (w : World) (i : Nat) (v : Value) : Off g w (w.setCell ⟨g, i, none⟩ v) := ⟨by simp [World.setCell], fun b _ hg => Below.heap_setCell w ⟨g, i, none⟩ v b (by intro e; exact hg e)⟩
theorem Off.below {g B : Nat} {a b w : World} (hg : B ≤ g) (h : Below B a b) (hs : B ≤ b.heap.size) (k : Off g b w) (ho : w.os = b.os ∧ w.tape = b.tape ∧ w.output = b.output) : Below B a w :=
  ⟨ho.1.trans h.os, ho.2.1.trans h.tape, ho.2.2.trans h.output, Nat.le_trans h.size k.1, fun i hi => (k.2 i (by omega) (by omega)).trans (h.block i hi)⟩
/-- A matroid none of whose cells lie in the box g. -/
def MatK (g : Nat) (w : World) (v : Value) (m : Mat) : Prop := ∀ W, Off g w W → MatV W w.heap.size v m
theorem matK_dual {g : Nat} {w w' : World} {c0 c1 c2 c3 c4 c5 : Value} {m : Mat} (hg : w.heap.size ≠ g) (h : MatK g w (.agg #[c0, c1, c2, c3, c4, c5]) m)
    (hw : Off g (w.alloc (.cells #[c0, c1, c2, c3, c4, c5] 25)) w') (n : Int) :
    MatK g w' (.agg #[.int .i64 8, .int .i64 n, .int .i64 0, .int .i64 0, .slice none 0 0, .slice (some ⟨w.heap.size, 0, none⟩) 1 1]) (.mk 8 n 0 0 [] [m]) := by
  intro W hW
  have hA := hw.trans hW
  have h1 := h W ((Off.alloc g w _).trans hA)
  have hs := hA.1
  rw [size_more] at hs
  have hs' := hw.1
  rw [size_more] at hs'
  have hb : Blk W w.heap.size 25 #[c0, c1, c2, c3, c4, c5] := (hA.2 _ (by rw [size_more]; omega) hg).trans (Blk.new w _ _)
  have h2 := lit_mats1 hb (h1.mono (by omega))
  exact MatV.shut (rows2_nil _ _) (h2.mono hs')
theorem MatK.off {g : Nat} {w w' : World} {v : Value} {m : Mat} (h : MatK g w v m) (ho : Off g w w') (hs : w'.heap.size = w.heap.size) : MatK g w' v m := fun W hW => by
  rw [hs]
  exact h W (ho.trans hW)
theorem dual_round {g : Nat} {w : World} {c0 c1 c2 c3 c4 c5 v0 v1 v2 v3 v4 v5 : Value} {m : Mat} {n : Int} (h : MatK g w (.agg #[c0, c1, c2, c3, c4, c5]) m) (hg : g < w.heap.size) :
    MatK g (((((((w.setCell ⟨g, 0, none⟩ v0).setCell ⟨g, 1, none⟩ v1).setCell ⟨g, 2, none⟩ v2).setCell ⟨g, 3, none⟩ v3).setCell ⟨g, 4, none⟩ v4).setCell ⟨g, 5, none⟩ v5).alloc (.cells #[c0, c1, c2, c3, c4, c5] 25))
      (.agg #[.int .i64 8, .int .i64 n, .int .i64 0, .int .i64 0, .slice none 0 0, .slice (some ⟨w.heap.size, 0, none⟩) 1 1]) (.mk 8 n 0 0 [] [m]) := by
  have ho : Off g w ((((((w.setCell ⟨g, 0, none⟩ v0).setCell ⟨g, 1, none⟩ v1).setCell ⟨g, 2, none⟩ v2).setCell ⟨g, 3, none⟩ v3).setCell ⟨g, 4, none⟩ v4).setCell ⟨g, 5, none⟩ v5) :=
    (((((Off.set_ _ _ _).trans (Off.set_ _ _ _)).trans (Off.set_ _ _ _)).trans (Off.set_ _ _ _)).trans (Off.set_ _ _ _)).trans (Off.set_ _ _ _)
  have hs : ((((((w.setCell ⟨g, 0, none⟩ v0).setCell ⟨g, 1, none⟩ v1).setCell ⟨g, 2, none⟩ v2).setCell ⟨g, 3, none⟩ v3).setCell ⟨g, 4, none⟩ v4).setCell ⟨g, 5, none⟩ v5).heap.size = w.heap.size := by simp [World.setCell]
  have h2 := matK_dual (by rw [hs]; omega) (h.off ho hs) (Off.refl g _) n
  rw [hs] at h2
  exact h2
theorem matK_plain (g : Nat) (w : World) (t n a b : Int) : MatK g w (.agg #[.int .i64 t, .int .i64 n, .int .i64 a, .int .i64 b, .slice none 0 0, .slice none 0 0]) (.mk t n a b [] []) := fun W _ => plain_mat W _ t n a b

theorem sml_plain (t n a b : Int) : Sml (.mk t n a b [] []) := .mk (by simp) (by simp) (by simp) (by simp)
theorem sml_one {t n a b : Int} {m : Mat} (h : Sml m) : Sml (.mk t n a b [] [m]) := .mk (by simp) (by simp) (by simp) (by simpa using h)
theorem sml_row {t n a b : Int} {r : List Int} {m : Mat} (hr : r.length ≤ 1000) (h : Sml m) : Sml (.mk t n a b [r] [m]) := .mk (by simp) (by simpa using hr) (by simp) (by simpa using h)
theorem sml_r1 : Sml rM := sml_row (by decide) (sml_plain ..)
theorem sml_c1 : Sml cM := sml_row (by decide) (sml_plain ..)
theorem sml_d : ∀ k, Sml (dN k)
  | 0 => sml_plain ..
  | k + 1 => sml_one (sml_d k)

/-! ### What the document fixes, reckoned -/
theorem chk_u : chk uM = 0 := by decide +kernel
theorem chk_r : chk rM = 0 := by decide +kernel
theorem chk_d : chk (dN 4) = 91 := by decide +kernel
theorem deep_d : deepI (dN 4) = 5 := by decide +kernel
theorem deep_r : deepI rM = 2 := by decide +kernel
theorem chk_1 : chk (.mk 0 1 2 0 [] []) = 90 := by decide +kernel
theorem chk_2 : chk (.mk 10 0 0 0 [] []) = 90 := by decide +kernel
theorem img_r : imgB rM [1] = true ∧ imgL rM [1] = [2] := by decide +kernel
theorem img_c : imgB cM [0, 1] = true ∧ imgL cM [0, 1] = [0, 2] := by decide +kernel
theorem img_u : imgB uM [] = false ∧ imgL uM [] = [] := by decide +kernel

end Wp
end Go.Proofs.YtolnkgghejhaeaaGreatDoor
