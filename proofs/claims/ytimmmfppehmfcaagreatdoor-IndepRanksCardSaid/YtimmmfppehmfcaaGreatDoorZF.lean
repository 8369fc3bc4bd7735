/- Matroids written out in memory. The program's May, Rank and Indep, and the document's May, walked. The answers that the document fixes of what is independent, reckoned. The law's triangle, walked. The calls whose answers the document fixes, of what is independent, walked: they are as it fixes them. The document's meet and union of sets, walked. -/
import Derived.Test.YtimmmfppehmfcaaGreatDoorQImg
import Derived.Test.YtimmmfppehmfcaaGreatDoorSKit
import Derived.Test.YtimmmfppehmfcaaGreatDoorZW
import Derived.Test.YtimmmfppehmfcaaGreatDoorZT
import Derived.Test.YtimmmfppehmfcaaGreatDoorSRefIn
namespace Go.Proofs.YtimmmfppehmfcaaGreatDoor
open Go.RowKit
namespace Wp

theorem size_more (w : World) (o : Obj) : (w.alloc o).heap.size = w.heap.size + 1 := by simp
theorem lit_rows1 {W : World} {u : Value} {r : List Int} (h : Row W W.heap.size u r) : Rows2 (W.alloc (.cells #[u] 26)) (W.heap.size + 1) (.slice (some ⟨W.heap.size, 0, none⟩) 1 1) [r] := by
  have hb := Blk.new W 26 #[u]
  refine ⟨_, 1, rfl, ⟨Nat.le_refl _, by decide, fun e => by cases e⟩, fun k hk => ⟨⟨W.heap.size, 0, none⟩, u, rfl, by show W.heap.size < _; omega, ?_, ?_⟩⟩
  · match k, hk with
    | 0, _ => exact hb.cell 0
  · match k, hk with
    | 0, _ =>
      have := (h.below ((Below.refl _ W).alloc (Nat.le_refl _) (.cells #[u] 26))).mono (show W.heap.size ≤ W.heap.size + 1 by omega)
      simpa using this
theorem lit_mats1 {W W' : World} {c0 c1 c2 c3 c4 c5 : Value} {m : Mat} (hb : Blk W' W.heap.size 25 #[c0, c1, c2, c3, c4, c5]) (h : MatV W' (W.heap.size + 1) (.agg #[c0, c1, c2, c3, c4, c5]) m) :
    MatL W' (W.heap.size + 1) (.slice (some ⟨W.heap.size, 0, none⟩) 1 1) [m] := by
  refine ⟨_, 1, rfl, ⟨Nat.le_refl _, by decide, fun e => by cases e⟩, fun k hk => ⟨⟨W.heap.size, 0, none⟩, .agg #[c0, c1, c2, c3, c4, c5], rfl, by show W.heap.size < _; omega, ?_, ?_⟩⟩
  · match k, hk with
    | 0, _ => exact ⟨c0, c1, c2, c3, c4, c5, rfl, hb.cell 0, hb.cell 1, hb.cell 2, hb.cell 3, hb.cell 4, hb.cell 5⟩
  · match k, hk with
    | 0, _ => exact h
theorem lit_mats {W : World} {c0 c1 c2 c3 c4 c5 : Value} {m : Mat} (h : MatV W W.heap.size (.agg #[c0, c1, c2, c3, c4, c5]) m) :
    MatL (W.alloc (.cells #[c0, c1, c2, c3, c4, c5] 25)) (W.heap.size + 1) (.slice (some ⟨W.heap.size, 0, none⟩) 1 1) [m] :=
  lit_mats1 (Blk.new W _ _) ((h.bel ((Below.refl _ W).alloc (Nat.le_refl _) _)).mono (by omega))
theorem rows2_nil (W : World) (B : Nat) : Rows2 W B (.slice none 0 0) [] := ⟨none, 0, rfl, ⟨Nat.le_refl _, by decide, fun _ => rfl⟩, fun k hk => absurd hk (by simp)⟩
theorem rows2_upA {w : World} {v : Value} {l : List (List Int)} (h : Rows2 w w.heap.size v l) (o : Obj) : Rows2 (w.alloc o) (w.alloc o).heap.size v l := h.up ((Below.refl _ w).alloc (Nat.le_refl _) o)

/-- A matroid that has no lists, and none within. -/
theorem plain_mat (W : World) (B : Nat) (t n a b : Int) : MatV W B (.agg #[.int .i64 t, .int .i64 n, .int .i64 a, .int .i64 b, .slice none 0 0, .slice none 0 0]) (.mk t n a b [] []) := MatV.shut (rows2_nil W B) (MatL.nil_ W B)
def uM : Mat := .mk 0 3 2 0 [] []
def rM : Mat := .mk 5 2 0 0 [[0, 2]] [uM]
def cM : Mat := .mk 6 2 0 0 [[1]] [uM]
def dN : Nat → Mat
  | 0 => uM
  | k + 1 => .mk 8 3 0 0 [] [dN k]
/-- All but the box g stays. -/
def Off (g : Nat) (w w' : World) : Prop := w.heap.size ≤ w'.heap.size ∧ ∀ b, b < w.heap.size → b ≠ g → w'.heap[b]? = w.heap[b]?
theorem Off.refl (g : Nat) (w : World) : Off g w w := ⟨Nat.le_refl _, fun _ _ _ => rfl⟩
theorem Off.trans {g : Nat} {a b c : World} (h : Off g a b) (k : Off g b c) : Off g a c := ⟨Nat.le_trans h.1 k.1, fun i hi hg => (k.2 i (Nat.lt_of_lt_of_le hi h.1) hg).trans (h.2 i hi hg)⟩
theorem Off.alloc (g : Nat) (w : World) (o : Obj) : Off g w (w.alloc o) := ⟨by simp, fun b hb _ => Below.heap_alloc w o b hb⟩
theorem Off.set_ {g : Nat} (w : World) (i : Nat) (v : Value) : Off g w (w.setCell ⟨g, i, none⟩ v) := ⟨by simp [World.setCell], fun b _ hg => Below.heap_setCell w ⟨g, i, none⟩ v b (by intro e; exact hg e)⟩
theorem Off.below {g B : Nat} {a b w : World} (hg : B ≤ g) (h : Below B a b) (hs : B ≤ b.heap.size) (k : Off g b w) (ho : w.os = b.os ∧ w.tape = b.tape ∧ w.output = b.output) : Below B a w :=
  ⟨ho.1.trans h.os, ho.2.1.trans h.tape, ho.2.2.trans h.output, Nat.le_trans h.size k.1, fun i hi => (k.2 i (by omega) (by omega)).trans (h.block i hi)⟩
/-- A matroid none of whose cells lie in the box g. -/
def MatK (g : Nat) (w : World) (v : Value) (m : Mat) : Prop := ∀ W, Off g w W → MatV W w.heap.size v m
theorem matK_dual {g : Nat} {w w' : World} {c0 c1 c2 c3 c4 c5 : Value} {m : Mat} (hg : w.heap.size ≠ g) (h : MatK g w (.agg #[c0, c1, c2, c3, c4, c5]) m)
    (hw : Off g (w.alloc (.cells #[c0, c1, c2, c3, c4, c5] 25)) w') (n : Int) :
    MatK g w' (.agg #[.int .i64 8, .int .i64 n, .int .i64 0, .int .i64 0, .slice none 0 0, .slice (some ⟨w.heap.size, 0, none⟩) 1 1]) (.mk 8 n 0 0 [] [m]) := by
  intro W hW
  have hA := hw.trans hW
  have h1 := h W ((Off.alloc g w _).trans hA)
  have hs := hA.1
  rw [size_more] at hs
  have hs' := hw.1
  rw [size_more] at hs'
  have hb : Blk W w.heap.size 25 #[c0, c1, c2, c3, c4, c5] := (hA.2 _ (by rw [size_more]; omega) hg).trans (Blk.new w _ _)
  have h2 := lit_mats1 hb (h1.mono (by omega))
  exact MatV.shut (rows2_nil _ _) (h2.mono hs')
theorem MatK.off {g : Nat} {w w' : World} {v : Value} {m : Mat} (h : MatK g w v m) (ho : Off g w w') (hs : w'.heap.size = w.heap.size) : MatK g w' v m := fun W hW => by
  rw [hs]
  exact h W (ho.trans hW)
theorem dual_round {g : Nat} {w : World} {c0 c1 c2 c3 c4 c5 v0 v1 v2 v3 v4 v5 : Value} {m : Mat} {n : Int} (h : MatK g w (.agg #[c0, c1, c2, c3, c4, c5]) m) (hg : g < w.heap.size) :
    MatK g (((((((w.setCell ⟨g, 0, none⟩ v0).setCell ⟨g, 1, none⟩ v1).setCell ⟨g, 2, none⟩ v2).setCell ⟨g, 3, none⟩ v3).setCell ⟨g, 4, none⟩ v4).setCell ⟨g, 5, none⟩ v5).alloc (.cells #[c0, c1, c2, c3, c4, c5] 25))
      (.agg #[.int .i64 8, .int .i64 n, .int .i64 0, .int .i64 0, .slice none 0 0, .slice (some ⟨w.heap.size, 0, none⟩) 1 1]) (.mk 8 n 0 0 [] [m]) := by
  have ho : Off g w ((((((w.setCell ⟨g, 0, none⟩ v0).setCell ⟨g, 1, none⟩ v1).setCell ⟨g, 2, none⟩ v2).setCell ⟨g, 3, none⟩ v3).setCell ⟨g, 4, none⟩ v4).setCell ⟨g, 5, none⟩ v5) :=
    (((((Off.set_ _ _ _).trans (Off.set_ _ _ _)).trans (Off.set_ _ _ _)).trans (Off.set_ _ _ _)).trans (Off.set_ _ _ _)).trans (Off.set_ _ _ _)
  have hs : ((((((w.setCell ⟨g, 0, none⟩ v0).setCell ⟨g, 1, none⟩ v1).setCell ⟨g, 2, none⟩ v2).setCell ⟨g, 3, none⟩ v3).setCell ⟨g, 4, none⟩ v4).setCell ⟨g, 5, none⟩ v5).heap.size = w.heap.size := by simp [World.setCell]
  have h2 := matK_dual (by rw [hs]; omega) (h.off ho hs) (Off.refl g _) n
  rw [hs] at h2
  exact h2
theorem matK_plain (g : Nat) (w : World) (t n a b : Int) : MatK g w (.agg #[.int .i64 t, .int .i64 n, .int .i64 a, .int .i64 b, .slice none 0 0, .slice none 0 0]) (.mk t n a b [] []) := fun W _ => plain_mat W _ t n a b

theorem sml_plain (t n a b : Int) : Sml (.mk t n a b [] []) := .mk (by simp) (by simp) (by simp) (by simp)
theorem sml_one {t n a b : Int} {m : Mat} (h : Sml m) : Sml (.mk t n a b [] [m]) := .mk (by simp) (by simp) (by simp) (by simpa using h)
theorem sml_row {t n a b : Int} {r : List Int} {m : Mat} (hr : r.length ≤ 1000) (h : Sml m) : Sml (.mk t n a b [r] [m]) := .mk (by simp) (by simpa using hr) (by simp) (by simpa using h)
theorem sml_r1 : Sml rM := sml_row (by decide) (sml_plain ..)
theorem sml_c1 : Sml cM := sml_row (by decide) (sml_plain ..)
theorem sml_d : ∀ k, Sml (dN k)
  | 0 => sml_plain ..
  | k + 1 => sml_one (sml_d k)

/-! ### What the document fixes, reckoned -/
theorem chk_u : chk uM = 0 := by decide +kernel
theorem chk_r : chk rM = 0 := by decide +kernel
theorem chk_d : chk (dN 4) = 91 := by decide +kernel
theorem deep_d : deepI (dN 4) = 5 := by decide +kernel
theorem deep_r : deepI rM = 2 := by decide +kernel
theorem chk_1 : chk (.mk 0 1 2 0 [] []) = 90 := by decide +kernel
theorem chk_2 : chk (.mk 10 0 0 0 [] []) = 90 := by decide +kernel
theorem img_r : imgB rM [1] = true ∧ imgL rM [1] = [2] := by decide +kernel
theorem img_c : imgB cM [0, 1] = true ∧ imgL cM [0, 1] = [0, 2] := by decide +kernel
theorem img_u : imgB uM [] = false ∧ imgL uM [] = [] := by decide +kernel

end Wp
end Go.Proofs.YtimmmfppehmfcaaGreatDoor

namespace Go.Proofs.YtimmmfppehmfcaaGreatDoor
open Go.RowKit
namespace Wp

def mayI (m : Mat) (s : List Int) : Bool := decide (chk m = 0) && subB s (allL m.n)
/-- The rank, as it is told: -1 of what may not be. -/
noncomputable def rankT (m : Mat) (s : List Int) : Int := if mayI m s = true then (rkP 4 m (memP s) : Nat) else -1
noncomputable def indT (m : Mat) (s : List Int) : Bool := decide (rankT m s = (s.length : Int))
theorem mayI_iff {m : Mat} {s : List Int} : mayI m s = true ↔ chk m = 0 ∧ InN (nN m) s := by
  unfold mayI
  rw [Bool.and_eq_true, decide_eq_true_iff]
  constructor
  · rintro ⟨h1, h2⟩; exact ⟨h1, (inN_sub (chk_n h1).1 (chk_n h1).2).1 h2⟩
  · rintro ⟨h1, h2⟩; exact ⟨h1, (inN_sub (chk_n h1).1 (chk_n h1).2).2 h2⟩
theorem mayI_set (m : Mat) (s : List Int) : mayI m s = (decide (chk m = 0) && okA m.n s) := by
  unfold mayI
  by_cases h : chk m = 0
  · rw [okA_sub (chk_n h).1 (chk_n h).2]
  · rw [decide_eq_false h]; rfl

set_option maxHeartbeats 4000000 in
set_option maxRecDepth 100000 in
theorem imay_any (E : Nat → Addr) (m : Mat) (v sv : Value) (s : List Int) (w : World) (hv : MatV w w.heap.size v m) (hs : Sml m) (hr : Row w w.heap.size sv s) (hsl : s.length ≤ 1048576) (hE : Env E w) : Calls Tryz.prog 24 #[v, sv] w (Says w (mayI m s)) := by
  have Hs := Lib.hid hs
  obtain ⟨lv, iv, hve, _, _⟩ := hv.open
  obtain ⟨As, cs, rfl, _⟩ := id hr
  have Hb0 := Lib.hid (boxed_below w m lv iv)
  have Hv0 := Lib.hid (hv.up Hb0.out)
  have Hr0 := Lib.hid (hr.up Hb0.out)
  have Hblk0 := Lib.hid (boxed_blk w m lv iv)
  have g0 := Hblk0.out.cell 0
  have g1 := Hblk0.out.cell 1
  have g2 := Hblk0.out.cell 2
  have g3 := Hblk0.out.cell 3
  have g4 := Hblk0.out.cell 4
  have g5 := Hblk0.out.cell 5
  subst hve
  unfold boxed at *
  have HE0 := Lib.hid (hE.up Hb0.out)
  obtain ⟨D, hD⟩ : ∃ D, chk m = D := ⟨_, rfl⟩
  have HD := Lib.hid hD
  have hal := all_len m.n
  unfold mayI
  rw [hD]
  clear hv hs hr hE hD
  by_cases h : D = 0
  · subst h
    rw [decide_eq_true rfl, Bool.true_and]
    go_enter Tryz.func24, Tryz.ntmps24
    go_wp2_with fail
    refine (check_any E m _ _ Hv0.out Hs.out HE0.out).mono ?_
    rintro e w1 ⟨rfl, hb1⟩
    rw [HD.out]
    have Hb1 := Lib.hid (below_next Hb0.out (Nat.le_refl _) hb1)
    have Hr1 := Lib.hid (Hr0.out.up hb1)
    have k1 := (Hblk0.out.below hb1 Hblk0.out.lt).cell 1
    clear hb1 g0 g1 g2 g3 g4 g5
    go_wp2_with fail
    refine (all_any m.n _).mono ?_
    rintro e w2 ⟨va, rfl, hra, hb2⟩
    have Hb2 := Lib.hid (below_next Hb1.out (Nat.le_refl _) hb2)
    have Hr2 := Lib.hid (Hr1.out.up hb2)
    have Hra := Lib.hid hra
    clear hb2 hra k1
    go_wp2_with fail
    refine (sub_any _ _ s (allL m.n) _ Hr2.out Hra.out hsl hal).mono ?_
    rintro e w3 ⟨rfl, hb3⟩
    have Hb3 := Lib.hid (below_next Hb2.out (Nat.le_refl _) hb3)
    clear hb3
    go_wp2
    go_ret
    exact ⟨rfl, Hb3.out⟩
  · rw [decide_eq_false h, Bool.false_and]
    have hne : (D == 0) = false := by simpa using h
    clear h
    go_enter Tryz.func24, Tryz.ntmps24
    go_wp2_with fail
    refine (check_any E m _ _ Hv0.out Hs.out HE0.out).mono ?_
    rintro e w1 ⟨rfl, hb1⟩
    rw [HD.out]
    have Hb1 := Lib.hid (below_next Hb0.out (Nat.le_refl _) hb1)
    clear hb1 g0 g1 g2 g3 g4 g5
    go_wp2
    go_ret
    exact ⟨rfl, Hb1.out⟩

set_option maxHeartbeats 4000000 in
set_option maxRecDepth 100000 in
theorem rmay10_any (m : Mat) (v sv : Value) (s : List Int) (w : World) (hv : MatV w w.heap.size v m) (hs : Sml m) (hr : Row w w.heap.size sv s) : Calls Tryz.prog 10 #[v, sv] w (Says w (mayI m s)) := by
  have Hs := Lib.hid hs
  obtain ⟨lv, iv, hve, _, _⟩ := hv.open
  obtain ⟨As, cs, rfl, _⟩ := id hr
  have Hb0 := Lib.hid (boxed_below w m lv iv)
  have Hv0 := Lib.hid (hv.up Hb0.out)
  have Hr0 := Lib.hid (hr.up Hb0.out)
  have Hblk0 := Lib.hid (boxed_blk w m lv iv)
  have g0 := Hblk0.out.cell 0
  have g1 := Hblk0.out.cell 1
  have g2 := Hblk0.out.cell 2
  have g3 := Hblk0.out.cell 3
  have g4 := Hblk0.out.cell 4
  have g5 := Hblk0.out.cell 5
  subst hve
  unfold boxed at *
  obtain ⟨D, hD⟩ : ∃ D, chk m = D := ⟨_, rfl⟩
  have HD := Lib.hid hD
  rw [mayI_set, hD]
  clear hv hs hr hD
  by_cases h : D = 0
  · subst h
    rw [decide_eq_true rfl, Bool.true_and]
    go_enter Tryz.func10, Tryz.ntmps10
    go_wp2_with fail
    refine (rcheck_any m _ _ Hv0.out Hs.out).mono ?_
    rintro e w1 ⟨rfl, hb1⟩
    rw [HD.out]
    have Hb1 := Lib.hid (below_next Hb0.out (Nat.le_refl _) hb1)
    have Hr1 := Lib.hid (Hr0.out.up hb1)
    have k1 := (Hblk0.out.below hb1 Hblk0.out.lt).cell 1
    clear hb1 g0 g1 g2 g3 g4 g5
    go_wp2_with fail
    refine (set9_any _ s m.n _ Hr1.out).mono ?_
    rintro e w2 ⟨rfl, hb2⟩
    have Hb2 := Lib.hid (below_next Hb1.out (Nat.le_refl _) hb2)
    clear hb2 k1
    go_wp2
    go_ret
    exact ⟨rfl, Hb2.out⟩
  · rw [decide_eq_false h, Bool.false_and]
    have hne : (D == 0) = false := by simpa using h
    clear h
    go_enter Tryz.func10, Tryz.ntmps10
    go_wp2_with fail
    refine (rcheck_any m _ _ Hv0.out Hs.out).mono ?_
    rintro e w1 ⟨rfl, hb1⟩
    rw [HD.out]
    have Hb1 := Lib.hid (below_next Hb0.out (Nat.le_refl _) hb1)
    clear hb1 g0 g1 g2 g3 g4 g5
    go_wp2
    go_ret
    exact ⟨rfl, Hb1.out⟩

set_option maxHeartbeats 4000000 in
set_option maxRecDepth 100000 in
theorem irank_any (E : Nat → Addr) (m : Mat) (v sv : Value) (s : List Int) (w : World) (hv : MatV w w.heap.size v m) (hs : Sml m) (hr : Row w w.heap.size sv s) (hsl : s.length ≤ 1048576) (hE : Env E w) : Calls Tryz.prog 15 #[v, sv] w (Tells w (rankT m s)) := by
  have Hs := Lib.hid hs
  obtain ⟨lv, iv, hve, _, _⟩ := hv.open
  obtain ⟨As, cs, rfl, _⟩ := id hr
  have Hb0 := Lib.hid (boxed_below w m lv iv)
  have Hv0 := Lib.hid (hv.up Hb0.out)
  have Hr0 := Lib.hid (hr.up Hb0.out)
  have Hblk0 := Lib.hid (boxed_blk w m lv iv)
  have g0 := Hblk0.out.cell 0
  have g1 := Hblk0.out.cell 1
  have g2 := Hblk0.out.cell 2
  have g3 := Hblk0.out.cell 3
  have g4 := Hblk0.out.cell 4
  have g5 := Hblk0.out.cell 5
  subst hve
  unfold boxed at *
  have HE0 := Lib.hid (hE.up Hb0.out)
  unfold rankT
  rcases hm : mayI m s with _ | _
  · rw [if_neg (by decide)]
    have Hm := Lib.hid hm
    clear hv hs hr hE hm
    go_enter Tryz.func15, Tryz.ntmps15
    go_wp2_with fail
    refine (imay_any E m _ _ s _ Hv0.out Hs.out Hr0.out hsl HE0.out).mono ?_
    rintro e w1 ⟨rfl, hb1⟩
    rw [Hm.out]
    have Hb1 := Lib.hid (below_next Hb0.out (Nat.le_refl _) hb1)
    clear hb1 g0 g1 g2 g3 g4 g5
    go_wp2
    go_ret
    exact ⟨rfl, Hb1.out⟩
  · rw [if_pos rfl]
    have Hm := Lib.hid hm
    have Hi := Lib.hid (mayI_iff.1 hm)
    obtain ⟨R, hR⟩ : ∃ R : Nat, rkP 4 m (memP s) = R := ⟨_, rfl⟩
    have Hrk : Hid (∀ (v sv : Value) (W : World), MatV W W.heap.size v m → Row W W.heap.size sv s → Env E W → Calls Tryz.prog 31 #[v, sv] W (Tells W (R : Int))) := Lib.hid fun v sv W h1 h2 h3 => by rw [← hR]; exact rank_all E 4 m v sv s W h1 Hs.out Hi.out.1 (chk_ok.1 Hi.out.1).1 h2 Hi.out.2 h3
    rw [hR]
    clear hv hs hr hE hm hR
    go_enter Tryz.func15, Tryz.ntmps15
    go_wp2_with fail
    refine (imay_any E m _ _ s _ Hv0.out Hs.out Hr0.out hsl HE0.out).mono ?_
    rintro e w1 ⟨rfl, hb1⟩
    rw [Hm.out]
    have Hb1 := Lib.hid (below_next Hb0.out (Nat.le_refl _) hb1)
    have Hr1 := Lib.hid (Hr0.out.up hb1)
    have Hv1 := Lib.hid (Hv0.out.up hb1)
    have HE1 := Lib.hid (HE0.out.up hb1)
    have Hblk1 := Lib.hid (Hblk0.out.below hb1 Hblk0.out.lt)
    clear hb1 g0 g1 g2 g3 g4 g5
    have g0 := Hblk1.out.cell 0
    have g1 := Hblk1.out.cell 1
    have g2 := Hblk1.out.cell 2
    have g3 := Hblk1.out.cell 3
    have g4 := Hblk1.out.cell 4
    have g5 := Hblk1.out.cell 5
    go_wp2_with fail
    refine (Hrk.out _ _ _ Hv1.out Hr1.out HE1.out).mono ?_
    rintro e w2 ⟨rfl, hb2⟩
    have Hb2 := Lib.hid (below_next Hb1.out (Nat.le_refl _) hb2)
    clear hb2 g0 g1 g2 g3 g4 g5
    go_wp2
    go_ret
    exact ⟨rfl, Hb2.out⟩

set_option maxHeartbeats 4000000 in
set_option maxRecDepth 100000 in
theorem indep_any (E : Nat → Addr) (m : Mat) (v sv : Value) (s : List Int) (w : World) (hv : MatV w w.heap.size v m) (hs : Sml m) (hr : Row w w.heap.size sv s) (hsl : s.length ≤ 1048576) (hE : Env E w) : Calls Tryz.prog 11 #[v, sv] w (Says w (indT m s)) := by
  have Hs := Lib.hid hs
  obtain ⟨lv, iv, hve, _, _⟩ := hv.open
  obtain ⟨As, cs, rfl, _⟩ := id hr
  have Hb0 := Lib.hid (boxed_below w m lv iv)
  have Hv0 := Lib.hid (hv.up Hb0.out)
  have Hr0 := Lib.hid (hr.up Hb0.out)
  have Hblk0 := Lib.hid (boxed_blk w m lv iv)
  have g0 := Hblk0.out.cell 0
  have g1 := Hblk0.out.cell 1
  have g2 := Hblk0.out.cell 2
  have g3 := Hblk0.out.cell 3
  have g4 := Hblk0.out.cell 4
  have g5 := Hblk0.out.cell 5
  subst hve
  unfold boxed at *
  have HE0 := Lib.hid (hE.up Hb0.out)
  obtain ⟨R, hR⟩ : ∃ R, rankT m s = R := ⟨_, rfl⟩
  have HR := Lib.hid hR
  obtain ⟨b0, hb0⟩ : ∃ b0, indT m s = b0 := ⟨_, rfl⟩
  have hbe : (R == (s.length : Int)) = b0 := by rw [← hb0, ← hR]; unfold indT; rw [Bool.eq_iff_iff, beq_iff_eq, decide_eq_true_iff]
  rw [hb0]
  clear hv hs hr hE hR hb0
  go_enter Tryz.func11, Tryz.ntmps11
  go_wp2_with fail
  refine (irank_any E m _ _ s _ Hv0.out Hs.out Hr0.out hsl HE0.out).mono ?_
  rintro e w1 ⟨rfl, hb1⟩
  rw [HR.out]
  have Hb1 := Lib.hid (below_next Hb0.out (Nat.le_refl _) hb1)
  clear hb1 g0 g1 g2 g3 g4 g5
  go_wp2
  go_ret
  exact ⟨by rw [← hbe]; rfl, Hb1.out⟩

end Wp
end Go.Proofs.YtimmmfppehmfcaaGreatDoor

namespace Go.Proofs.YtimmmfppehmfcaaGreatDoor.Wp
open Go Go.RowKit

def triM : Mat := .mk 1 3 3 0 [[0, 1], [1, 2], [2, 0]] []
def dualM : Mat := .mk 8 3 0 0 [] [triM]
def contM : Mat := .mk 6 2 0 0 [[0]] [triM]
def unifM : Mat := .mk 0 3 2 0 [] []
theorem rk_tri (k : Nat) (P : Nat → Bool) : rkP (k + 1) triM P = graphR 3 3 (edgOf triM) P := rkP_1 rfl
theorem rk_dualM (P : Nat → Bool) : rkP 4 dualM P = cnt P 3 + graphR 3 3 (edgOf triM) (notP P) - graphR 3 3 (edgOf triM) allP := by
  rw [rkP_8 rfl]
  show cnt P 3 + rkP 3 triM (notP P) - rkP 3 triM allP = _
  rw [rk_tri, rk_tri]
theorem rk_contM (P : Nat → Bool) : rkP 4 contM P = graphR 3 3 (edgOf triM) (orP (memP [0]) (imgP 2 (stayN contM) P)) - graphR 3 3 (edgOf triM) (memP [0]) := by
  rw [rkP_6 rfl]
  show rkP 3 triM _ - rkP 3 triM _ = _
  rw [rk_tri, rk_tri]
  rfl
theorem rk_unifM (P : Nat → Bool) : rkP 4 unifM P = min 2 (cnt P 3) := rkP_0 rfl
theorem ev_may : mayI triM [0, 1] = true ∧ mayI triM [0, 1, 2] = true ∧ mayI dualM [0, 1, 2] = true ∧ mayI dualM [2] = true ∧ mayI dualM [1, 2] = true ∧ mayI contM [1] = true ∧ mayI contM [0, 1] = true ∧ mayI unifM [0] = true ∧ mayI unifM [3] = false ∧ mayI unifM [] = true ∧ mayI unifM [1, 0] = false := by decide +kernel
theorem rank_of {m : Mat} {s : List Int} (h : mayI m s = true) : rankT m s = (rkP 4 m (memP s) : Nat) := if_pos h
theorem ev_1 : indT triM [0, 1] = true := by unfold indT; rw [rank_of ev_may.1, rk_tri]; decide +kernel
theorem ev_3 : rankT triM [0, 1, 2] = 2 := by rw [rank_of ev_may.2.1, rk_tri]; decide +kernel
theorem ev_2 : indT triM [0, 1, 2] = false := by unfold indT; rw [ev_3]; decide
theorem ev_4 : rankT dualM [0, 1, 2] = 1 := by rw [rank_of ev_may.2.2.1, rk_dualM]; decide +kernel
theorem ev_5 : indT dualM [2] = true := by unfold indT; rw [rank_of ev_may.2.2.2.1, rk_dualM]; decide +kernel
theorem ev_6 : indT dualM [1, 2] = false := by unfold indT; rw [rank_of ev_may.2.2.2.2.1, rk_dualM]; decide +kernel
theorem ev_7 : indT contM [1] = true := by unfold indT; rw [rank_of ev_may.2.2.2.2.2.1, rk_contM]; decide +kernel
theorem ev_8 : indT contM [0, 1] = false := by unfold indT; rw [rank_of ev_may.2.2.2.2.2.2.1, rk_contM]; decide +kernel
theorem ev_9 : rankT unifM [0] = 1 := by rw [rank_of ev_may.2.2.2.2.2.2.2.1, rk_unifM]; decide +kernel
theorem ev_10 : rankT unifM [3] = -1 := if_neg (by rw [ev_may.2.2.2.2.2.2.2.2.1]; decide)

end Go.Proofs.YtimmmfppehmfcaaGreatDoor.Wp

namespace Go.Proofs.YtimmmfppehmfcaaGreatDoor
open Go.RowKit
namespace Wp

theorem lit_rows3 {W : World} {u v z : Value} {r s t : List Int} (hr : Row W W.heap.size u r) (hs : Row W W.heap.size v s) (ht : Row W W.heap.size z t) : Rows2 (W.alloc (.cells #[u, v, z] 26)) (W.heap.size + 1) (.slice (some ⟨W.heap.size, 0, none⟩) 3 3) [r, s, t] := by
  have hb : Below W.heap.size W (W.alloc (.cells #[u, v, z] 26)) := (Below.refl _ W).alloc (Nat.le_refl _) _
  refine ⟨_, 3, rfl, ⟨Nat.le_refl _, by decide, fun e => by cases e⟩, fun k hk => ?_⟩
  have hc := (Blk.new W 26 #[u, v, z]).cell
  have hk3 : k < 3 := hk
  rcases (by omega : k = 0 ∨ k = 1 ∨ k = 2) with rfl | rfl | rfl
  · exact ⟨_, u, rfl, by simp, by rw [add_g]; exact hc 0, (hr.below hb).mono (by omega)⟩
  · exact ⟨_, v, rfl, by simp, by rw [add_g]; exact hc 1, (hs.below hb).mono (by omega)⟩
  · exact ⟨_, z, rfl, by simp, by rw [add_g]; exact hc 2, (ht.below hb).mono (by omega)⟩

def Tri (w : World) (e : Ending) (w' : World) : Prop := ∃ l, e = .returned (.agg #[.int .i64 1, .int .i64 3, .int .i64 3, .int .i64 0, l, .slice none 0 0]) ∧ MatV w' w'.heap.size (.agg #[.int .i64 1, .int .i64 3, .int .i64 3, .int .i64 0, l, .slice none 0 0]) triM ∧ Below w.heap.size w w' ∧ ∃ A n c, l = .slice A n c
set_option maxHeartbeats 4000000 in
set_option maxRecDepth 100000 in
theorem triangle_any (w : World) : Calls Tryz.prog 23 #[] w (Tri w) := by
  have HM : Hid (MatV (((((w.alloc (.cells #[.int .i64 1, .int .i64 3, .int .i64 3, .int .i64 0, .slice (some ⟨w.heap.size + 1 + 1 + 1 + 1, 0, none⟩) 3 3, .slice none 0 0] 25)).alloc (.cells #[.int .i64 0, .int .i64 1] 3)).alloc (.cells #[.int .i64 1, .int .i64 2] 3)).alloc (.cells #[.int .i64 2, .int .i64 0] 3)).alloc (.cells #[.slice (some ⟨w.heap.size + 1, 0, none⟩) 2 2, .slice (some ⟨w.heap.size + 1 + 1, 0, none⟩) 2 2, .slice (some ⟨w.heap.size + 1 + 1 + 1, 0, none⟩) 2 2] 26)) (((((w.alloc (.cells #[.int .i64 1, .int .i64 3, .int .i64 3, .int .i64 0, .slice (some ⟨w.heap.size + 1 + 1 + 1 + 1, 0, none⟩) 3 3, .slice none 0 0] 25)).alloc (.cells #[.int .i64 0, .int .i64 1] 3)).alloc (.cells #[.int .i64 1, .int .i64 2] 3)).alloc (.cells #[.int .i64 2, .int .i64 0] 3)).alloc (.cells #[.slice (some ⟨w.heap.size + 1, 0, none⟩) 2 2, .slice (some ⟨w.heap.size + 1 + 1, 0, none⟩) 2 2, .slice (some ⟨w.heap.size + 1 + 1 + 1, 0, none⟩) 2 2] 26)).heap.size (.agg #[.int .i64 1, .int .i64 3, .int .i64 3, .int .i64 0, .slice (some ⟨w.heap.size + 1 + 1 + 1 + 1, 0, none⟩) 3 3, .slice none 0 0]) triM) := Lib.hid (by
    have r1 := (((Row.lit2 (w.alloc (.cells #[.int .i64 1, .int .i64 3, .int .i64 3, .int .i64 0, .slice (some ⟨w.heap.size + 1 + 1 + 1 + 1, 0, none⟩) 3 3, .slice none 0 0] 25)) 0 1).here.upA (.cells #[.int .i64 1, .int .i64 2] 3)).upA (.cells #[.int .i64 2, .int .i64 0] 3))
    have r2 := ((Row.lit2 ((w.alloc (.cells #[.int .i64 1, .int .i64 3, .int .i64 3, .int .i64 0, .slice (some ⟨w.heap.size + 1 + 1 + 1 + 1, 0, none⟩) 3 3, .slice none 0 0] 25)).alloc (.cells #[.int .i64 0, .int .i64 1] 3)) 1 2).here.upA (.cells #[.int .i64 2, .int .i64 0] 3))
    have r3 := (Row.lit2 (((w.alloc (.cells #[.int .i64 1, .int .i64 3, .int .i64 3, .int .i64 0, .slice (some ⟨w.heap.size + 1 + 1 + 1 + 1, 0, none⟩) 3 3, .slice none 0 0] 25)).alloc (.cells #[.int .i64 0, .int .i64 1] 3)).alloc (.cells #[.int .i64 1, .int .i64 2] 3)) 2 0).here
    simp only [size_more] at r1 r2 r3
    have h := lit_rows3 (W := ((((w.alloc (.cells #[.int .i64 1, .int .i64 3, .int .i64 3, .int .i64 0, .slice (some ⟨w.heap.size + 1 + 1 + 1 + 1, 0, none⟩) 3 3, .slice none 0 0] 25)).alloc (.cells #[.int .i64 0, .int .i64 1] 3)).alloc (.cells #[.int .i64 1, .int .i64 2] 3)).alloc (.cells #[.int .i64 2, .int .i64 0] 3))) (by simpa only [size_more] using r1) (by simpa only [size_more] using r2) (by simpa only [size_more] using r3)
    simp only [size_more] at h ⊢
    exact MatV.shut h (MatL.nil_ _ _))
  have HB : Hid (Below w.heap.size w (((((w.alloc (.cells #[.int .i64 1, .int .i64 3, .int .i64 3, .int .i64 0, .slice (some ⟨w.heap.size + 1 + 1 + 1 + 1, 0, none⟩) 3 3, .slice none 0 0] 25)).alloc (.cells #[.int .i64 0, .int .i64 1] 3)).alloc (.cells #[.int .i64 1, .int .i64 2] 3)).alloc (.cells #[.int .i64 2, .int .i64 0] 3)).alloc (.cells #[.slice (some ⟨w.heap.size + 1, 0, none⟩) 2 2, .slice (some ⟨w.heap.size + 1 + 1, 0, none⟩) 2 2, .slice (some ⟨w.heap.size + 1 + 1 + 1, 0, none⟩) 2 2] 26))) := Lib.hid (((((((Below.refl _ w).alloc (Nat.le_refl _) _).alloc (by simp) _).alloc (by simp; omega) _).alloc (by simp; omega) _)).alloc (by simp; omega) _)
  go_enter Tryz.func23, Tryz.ntmps23
  go_wp2
  exact bodyPost_ret (v := .agg #[.int .i64 1, .int .i64 3, .int .i64 3, .int .i64 0, .slice (some ⟨w.heap.size + 1 + 1 + 1 + 1, 0, none⟩) 3 3, .slice none 0 0]) (by simp [results, Tryz.results23, go_sem]) rfl ⟨_, rfl, HM.out, HB.out, _, _, _, rfl⟩

end Wp
end Go.Proofs.YtimmmfppehmfcaaGreatDoor

namespace Go.Proofs.YtimmmfppehmfcaaGreatDoor
open Go.RowKit
namespace Wp

theorem sml_tri : Sml triM := .mk (by simp) (by simp) (by simp) (by simp)
theorem sml_dualM : Sml dualM := sml_one sml_tri
theorem sml_contM : Sml contM := sml_row (by decide) sml_tri
theorem sml_unifM : Sml unifM := sml_plain ..

set_option maxHeartbeats 16000000 in
set_option maxRecDepth 100000 in
theorem fixed_any (E : Nat → Addr) (w : World) (hE : Env E w) : Calls Tryz.prog 8 #[] w (Truly w) := by
  have HE0 := Lib.hid hE
  clear hE
  go_enter Tryz.func8, Tryz.ntmps8
  go_wp2_with fail
  refine (triangle_any _).mono ?_
  rintro e w1 ⟨l1, rfl, hm1, hb1, A1, n1, c1, rfl⟩
  have HV1 : Hid (MatV ((w1.alloc (.cells #[.int .i64 1, .int .i64 3, .int .i64 3, .int .i64 0, .slice A1 n1 c1, .slice none 0 0] 25)).alloc (.cells #[.int .i64 8, .int .i64 3, .int .i64 0, .int .i64 0, .slice none 0 0, .slice (some ⟨w1.heap.size, 0, none⟩) 1 1] 25)) ((w1.alloc (.cells #[.int .i64 1, .int .i64 3, .int .i64 3, .int .i64 0, .slice A1 n1 c1, .slice none 0 0] 25)).alloc (.cells #[.int .i64 8, .int .i64 3, .int .i64 0, .int .i64 0, .slice none 0 0, .slice (some ⟨w1.heap.size, 0, none⟩) 1 1] 25)).heap.size (.agg #[.int .i64 8, .int .i64 3, .int .i64 0, .int .i64 0, .slice none 0 0, .slice (some ⟨w1.heap.size, 0, none⟩) 1 1]) dualM) := Lib.hid (by
    have h2 := lit_mats hm1
    rw [← size_more w1 (.cells #[.int .i64 1, .int .i64 3, .int .i64 3, .int .i64 0, .slice A1 n1 c1, .slice none 0 0] 25)] at h2
    exact (MatV.shut (rows2_nil _ _) h2).upA _)
  have HK1 : Hid (Blk ((w1.alloc (.cells #[.int .i64 1, .int .i64 3, .int .i64 3, .int .i64 0, .slice A1 n1 c1, .slice none 0 0] 25)).alloc (.cells #[.int .i64 8, .int .i64 3, .int .i64 0, .int .i64 0, .slice none 0 0, .slice (some ⟨w1.heap.size, 0, none⟩) 1 1] 25)) (w1.heap.size + 1) 25 #[.int .i64 8, .int .i64 3, .int .i64 0, .int .i64 0, .slice none 0 0, .slice (some ⟨w1.heap.size, 0, none⟩) 1 1]) := Lib.hid (by
    have h := Blk.new (w1.alloc (.cells #[.int .i64 1, .int .i64 3, .int .i64 3, .int .i64 0, .slice A1 n1 c1, .slice none 0 0] 25)) 25 #[.int .i64 8, .int .i64 3, .int .i64 0, .int .i64 0, .slice none 0 0, .slice (some ⟨w1.heap.size, 0, none⟩) 1 1]
    rw [size_more] at h
    exact h)
  have HB1 : Hid (Below w.heap.size w ((w1.alloc (.cells #[.int .i64 1, .int .i64 3, .int .i64 3, .int .i64 0, .slice A1 n1 c1, .slice none 0 0] 25)).alloc (.cells #[.int .i64 8, .int .i64 3, .int .i64 0, .int .i64 0, .slice none 0 0, .slice (some ⟨w1.heap.size, 0, none⟩) 1 1] 25))) := Lib.hid ((hb1.alloc hb1.size _).alloc (by have := hb1.size; simp; omega) _)
  have HE1 := Lib.hid (HE0.out.up HB1.out)
  have HR2 : Hid (Rows2 ((((w1.alloc (.cells #[.int .i64 1, .int .i64 3, .int .i64 3, .int .i64 0, .slice A1 n1 c1, .slice none 0 0] 25)).alloc (.cells #[.int .i64 8, .int .i64 3, .int .i64 0, .int .i64 0, .slice none 0 0, .slice (some ⟨w1.heap.size, 0, none⟩) 1 1] 25)).alloc (.cells #[.int .i64 0] 3)).alloc (.cells #[.slice (some ⟨w1.heap.size + 1 + 1, 0, none⟩) 1 1] 26)) ((((w1.alloc (.cells #[.int .i64 1, .int .i64 3, .int .i64 3, .int .i64 0, .slice A1 n1 c1, .slice none 0 0] 25)).alloc (.cells #[.int .i64 8, .int .i64 3, .int .i64 0, .int .i64 0, .slice none 0 0, .slice (some ⟨w1.heap.size, 0, none⟩) 1 1] 25)).alloc (.cells #[.int .i64 0] 3)).alloc (.cells #[.slice (some ⟨w1.heap.size + 1 + 1, 0, none⟩) 1 1] 26)).heap.size (.slice (some ⟨w1.heap.size + 1 + 1 + 1, 0, none⟩) 1 1) [[0]]) := Lib.hid (by
    have h := lit_rows1 (Row.lit1 ((w1.alloc (.cells #[.int .i64 1, .int .i64 3, .int .i64 3, .int .i64 0, .slice A1 n1 c1, .slice none 0 0] 25)).alloc (.cells #[.int .i64 8, .int .i64 3, .int .i64 0, .int .i64 0, .slice none 0 0, .slice (some ⟨w1.heap.size, 0, none⟩) 1 1] 25)) 0).here
    simp only [size_more] at h ⊢
    exact h)
  have HW : Hid (Below ((w1.alloc (.cells #[.int .i64 1, .int .i64 3, .int .i64 3, .int .i64 0, .slice A1 n1 c1, .slice none 0 0] 25)).alloc (.cells #[.int .i64 8, .int .i64 3, .int .i64 0, .int .i64 0, .slice none 0 0, .slice (some ⟨w1.heap.size, 0, none⟩) 1 1] 25)).heap.size ((w1.alloc (.cells #[.int .i64 1, .int .i64 3, .int .i64 3, .int .i64 0, .slice A1 n1 c1, .slice none 0 0] 25)).alloc (.cells #[.int .i64 8, .int .i64 3, .int .i64 0, .int .i64 0, .slice none 0 0, .slice (some ⟨w1.heap.size, 0, none⟩) 1 1] 25)) ((((w1.alloc (.cells #[.int .i64 1, .int .i64 3, .int .i64 3, .int .i64 0, .slice A1 n1 c1, .slice none 0 0] 25)).alloc (.cells #[.int .i64 8, .int .i64 3, .int .i64 0, .int .i64 0, .slice none 0 0, .slice (some ⟨w1.heap.size, 0, none⟩) 1 1] 25)).alloc (.cells #[.int .i64 0] 3)).alloc (.cells #[.slice (some ⟨w1.heap.size + 1 + 1, 0, none⟩) 1 1] 26))) := Lib.hid (((Below.refl _ _).alloc (Nat.le_refl _) _).alloc (by simp) _)
  clear hm1 hb1
  go_wp2_with fail
  refine (triangle_any _).mono ?_
  rintro e w2 ⟨l2, rfl, hm2, hb2, A2, n2, c2, rfl⟩
  have hbA := below_next HW.out (Nat.le_refl _) hb2
  have HV1b := Lib.hid (HV1.out.up hbA)
  have HK1b := Lib.hid (HK1.out.below hbA HK1.out.lt)
  have HB2 := Lib.hid (below_next HB1.out (Nat.le_refl _) hbA)
  have HE2 := Lib.hid (HE1.out.up hbA)
  have HR2b := Lib.hid (HR2.out.up hb2)
  clear hb2 hbA HV1 HK1 HB1 HE1 HR2 HW
  generalize w1.heap.size + 1 + 1 + 1 = r1 at *
  generalize w1.heap.size + 1 = m1 at *
  have HV2 : Hid (MatV ((w2.alloc (.cells #[.int .i64 1, .int .i64 3, .int .i64 3, .int .i64 0, .slice A2 n2 c2, .slice none 0 0] 25)).alloc (.cells #[.int .i64 6, .int .i64 2, .int .i64 0, .int .i64 0, .slice (some ⟨r1, 0, none⟩) 1 1, .slice (some ⟨w2.heap.size, 0, none⟩) 1 1] 25)) ((w2.alloc (.cells #[.int .i64 1, .int .i64 3, .int .i64 3, .int .i64 0, .slice A2 n2 c2, .slice none 0 0] 25)).alloc (.cells #[.int .i64 6, .int .i64 2, .int .i64 0, .int .i64 0, .slice (some ⟨r1, 0, none⟩) 1 1, .slice (some ⟨w2.heap.size, 0, none⟩) 1 1] 25)).heap.size (.agg #[.int .i64 6, .int .i64 2, .int .i64 0, .int .i64 0, .slice (some ⟨r1, 0, none⟩) 1 1, .slice (some ⟨w2.heap.size, 0, none⟩) 1 1]) contM) := Lib.hid (by
    have h1 := rows2_upA HR2b.out (.cells #[.int .i64 1, .int .i64 3, .int .i64 3, .int .i64 0, .slice A2 n2 c2, .slice none 0 0] 25)
    have h2 := lit_mats hm2
    rw [← size_more w2 (.cells #[.int .i64 1, .int .i64 3, .int .i64 3, .int .i64 0, .slice A2 n2 c2, .slice none 0 0] 25)] at h2
    exact (MatV.shut h1 h2).upA _)
  have HK2 : Hid (Blk ((w2.alloc (.cells #[.int .i64 1, .int .i64 3, .int .i64 3, .int .i64 0, .slice A2 n2 c2, .slice none 0 0] 25)).alloc (.cells #[.int .i64 6, .int .i64 2, .int .i64 0, .int .i64 0, .slice (some ⟨r1, 0, none⟩) 1 1, .slice (some ⟨w2.heap.size, 0, none⟩) 1 1] 25)) (w2.heap.size + 1) 25 #[.int .i64 6, .int .i64 2, .int .i64 0, .int .i64 0, .slice (some ⟨r1, 0, none⟩) 1 1, .slice (some ⟨w2.heap.size, 0, none⟩) 1 1]) := Lib.hid (by
    have h := Blk.new (w2.alloc (.cells #[.int .i64 1, .int .i64 3, .int .i64 3, .int .i64 0, .slice A2 n2 c2, .slice none 0 0] 25)) 25 #[.int .i64 6, .int .i64 2, .int .i64 0, .int .i64 0, .slice (some ⟨r1, 0, none⟩) 1 1, .slice (some ⟨w2.heap.size, 0, none⟩) 1 1]
    rw [size_more] at h
    exact h)
  have HK3 : Hid (Blk (((w2.alloc (.cells #[.int .i64 1, .int .i64 3, .int .i64 3, .int .i64 0, .slice A2 n2 c2, .slice none 0 0] 25)).alloc (.cells #[.int .i64 6, .int .i64 2, .int .i64 0, .int .i64 0, .slice (some ⟨r1, 0, none⟩) 1 1, .slice (some ⟨w2.heap.size, 0, none⟩) 1 1] 25)).alloc (.cells #[.int .i64 0, .int .i64 3, .int .i64 2, .int .i64 0, .slice none 0 0, .slice none 0 0] 25)) (w2.heap.size + 1 + 1) 25 #[.int .i64 0, .int .i64 3, .int .i64 2, .int .i64 0, .slice none 0 0, .slice none 0 0]) := Lib.hid (by
    have h := Blk.new ((w2.alloc (.cells #[.int .i64 1, .int .i64 3, .int .i64 3, .int .i64 0, .slice A2 n2 c2, .slice none 0 0] 25)).alloc (.cells #[.int .i64 6, .int .i64 2, .int .i64 0, .int .i64 0, .slice (some ⟨r1, 0, none⟩) 1 1, .slice (some ⟨w2.heap.size, 0, none⟩) 1 1] 25)) 25 #[.int .i64 0, .int .i64 3, .int .i64 2, .int .i64 0, .slice none 0 0, .slice none 0 0]
    simp only [size_more] at h
    exact h)
  have HW1 : Hid (Below w2.heap.size w2 (((w2.alloc (.cells #[.int .i64 1, .int .i64 3, .int .i64 3, .int .i64 0, .slice A2 n2 c2, .slice none 0 0] 25)).alloc (.cells #[.int .i64 6, .int .i64 2, .int .i64 0, .int .i64 0, .slice (some ⟨r1, 0, none⟩) 1 1, .slice (some ⟨w2.heap.size, 0, none⟩) 1 1] 25)).alloc (.cells #[.int .i64 0, .int .i64 3, .int .i64 2, .int .i64 0, .slice none 0 0, .slice none 0 0] 25))) := Lib.hid ((((Below.refl _ _).alloc (Nat.le_refl _) _).alloc (by simp) _).alloc (by simp; omega) _)
  have HW2 : Hid (Below ((w2.alloc (.cells #[.int .i64 1, .int .i64 3, .int .i64 3, .int .i64 0, .slice A2 n2 c2, .slice none 0 0] 25)).alloc (.cells #[.int .i64 6, .int .i64 2, .int .i64 0, .int .i64 0, .slice (some ⟨r1, 0, none⟩) 1 1, .slice (some ⟨w2.heap.size, 0, none⟩) 1 1] 25)).heap.size ((w2.alloc (.cells #[.int .i64 1, .int .i64 3, .int .i64 3, .int .i64 0, .slice A2 n2 c2, .slice none 0 0] 25)).alloc (.cells #[.int .i64 6, .int .i64 2, .int .i64 0, .int .i64 0, .slice (some ⟨r1, 0, none⟩) 1 1, .slice (some ⟨w2.heap.size, 0, none⟩) 1 1] 25)) (((w2.alloc (.cells #[.int .i64 1, .int .i64 3, .int .i64 3, .int .i64 0, .slice A2 n2 c2, .slice none 0 0] 25)).alloc (.cells #[.int .i64 6, .int .i64 2, .int .i64 0, .int .i64 0, .slice (some ⟨r1, 0, none⟩) 1 1, .slice (some ⟨w2.heap.size, 0, none⟩) 1 1] 25)).alloc (.cells #[.int .i64 0, .int .i64 3, .int .i64 2, .int .i64 0, .slice none 0 0, .slice none 0 0] 25))) := Lib.hid ((Below.refl _ _).alloc (Nat.le_refl _) _)
  clear hm2 HR2b
  go_wp2_with fail
  refine (triangle_any _).mono ?_
  rintro e w3 ⟨l3, rfl, hm3, hb3, A3, n3, c3, rfl⟩
  have hbA := below_next HW1.out (Nat.le_refl _) hb3
  have hbC := below_next HW2.out (Nat.le_refl _) hb3
  have hv1 := Lib.hid (HV1b.out.up hbA)
  have hk1 := Lib.hid (HK1b.out.below hbA HK1b.out.lt)
  have hB := Lib.hid (below_next HB2.out (Nat.le_refl _) hbA)
  have hE := Lib.hid (HE2.out.up hbA)
  have hv2 := Lib.hid (HV2.out.up hbC)
  have hk2 := Lib.hid (HK2.out.below hbC HK2.out.lt)
  have hk3 := Lib.hid (HK3.out.below hb3 HK3.out.lt)
  have hT := Lib.hid hm3
  clear hb3 hbA hbC HV1b HK1b HB2 HE2 HV2 HK2 HK3 HW1 HW2 hm3 HE0
  generalize w2.heap.size + 1 + 1 = m3 at *
  generalize w2.heap.size + 1 = m2 at *
  go_wp2_with fail
  refine (indep_any E triM _ _ [0, 1] _ (hT.out.upA _) sml_tri (Row.lit2 _ 0 1).here (by decide) (hE.out.upA _)).mono ?_
  rintro e w4 ⟨rfl, hb4⟩
  rw [ev_1]
  have hbA := below_next ((Below.refl w3.heap.size w3).alloc (Nat.le_refl _) _) (Nat.le_refl _) hb4
  replace hv1 := Lib.hid (hv1.out.up hbA)
  replace hv2 := Lib.hid (hv2.out.up hbA)
  replace hE := Lib.hid (hE.out.up hbA)
  replace hk1 := Lib.hid (hk1.out.below hbA hk1.out.lt)
  replace hk2 := Lib.hid (hk2.out.below hbA hk2.out.lt)
  replace hk3 := Lib.hid (hk3.out.below hbA hk3.out.lt)
  replace hB := Lib.hid (below_next hB.out (Nat.le_refl _) hbA)
  clear hbA hb4 hT
  go_wp2_with fail
  refine (triangle_any _).mono ?_
  rintro e w5 ⟨l5, rfl, hm5, hb5, A5, n5, c5, rfl⟩
  replace hv1 := Lib.hid (hv1.out.up hb5)
  replace hv2 := Lib.hid (hv2.out.up hb5)
  replace hE := Lib.hid (hE.out.up hb5)
  replace hk1 := Lib.hid (hk1.out.below hb5 hk1.out.lt)
  replace hk2 := Lib.hid (hk2.out.below hb5 hk2.out.lt)
  replace hk3 := Lib.hid (hk3.out.below hb5 hk3.out.lt)
  replace hB := Lib.hid (below_next hB.out (Nat.le_refl _) hb5)
  have hT := Lib.hid hm5
  clear hb5 hm5
  go_wp2_with fail
  refine (indep_any E triM _ _ [0, 1, 2] _ (hT.out.upA _) sml_tri (Row.lit3 _ 0 1 2).here (by decide) (hE.out.upA _)).mono ?_
  rintro e w6 ⟨rfl, hb6⟩
  rw [ev_2]
  have hbA := below_next ((Below.refl w5.heap.size w5).alloc (Nat.le_refl _) _) (Nat.le_refl _) hb6
  replace hv1 := Lib.hid (hv1.out.up hbA)
  replace hv2 := Lib.hid (hv2.out.up hbA)
  replace hE := Lib.hid (hE.out.up hbA)
  replace hk1 := Lib.hid (hk1.out.below hbA hk1.out.lt)
  replace hk2 := Lib.hid (hk2.out.below hbA hk2.out.lt)
  replace hk3 := Lib.hid (hk3.out.below hbA hk3.out.lt)
  replace hB := Lib.hid (below_next hB.out (Nat.le_refl _) hbA)
  clear hbA hb6 hT
  go_wp2_with fail
  refine (triangle_any _).mono ?_
  rintro e w7 ⟨l7, rfl, hm7, hb7, A7, n7, c7, rfl⟩
  replace hv1 := Lib.hid (hv1.out.up hb7)
  replace hv2 := Lib.hid (hv2.out.up hb7)
  replace hE := Lib.hid (hE.out.up hb7)
  replace hk1 := Lib.hid (hk1.out.below hb7 hk1.out.lt)
  replace hk2 := Lib.hid (hk2.out.below hb7 hk2.out.lt)
  replace hk3 := Lib.hid (hk3.out.below hb7 hk3.out.lt)
  replace hB := Lib.hid (below_next hB.out (Nat.le_refl _) hb7)
  have hT := Lib.hid hm7
  clear hb7 hm7
  go_wp2_with fail
  refine (irank_any E triM _ _ [0, 1, 2] _ (hT.out.upA _) sml_tri (Row.lit3 _ 0 1 2).here (by decide) (hE.out.upA _)).mono ?_
  rintro e w8 ⟨rfl, hb8⟩
  rw [ev_3]
  have hbA := below_next ((Below.refl w7.heap.size w7).alloc (Nat.le_refl _) _) (Nat.le_refl _) hb8
  replace hv1 := Lib.hid (hv1.out.up hbA)
  replace hv2 := Lib.hid (hv2.out.up hbA)
  replace hE := Lib.hid (hE.out.up hbA)
  replace hk1 := Lib.hid (hk1.out.below hbA hk1.out.lt)
  replace hk2 := Lib.hid (hk2.out.below hbA hk2.out.lt)
  replace hk3 := Lib.hid (hk3.out.below hbA hk3.out.lt)
  replace hB := Lib.hid (below_next hB.out (Nat.le_refl _) hbA)
  clear hbA hb8 hT
  have q0 := hk1.out.cell 0
  have q1 := hk1.out.cell 1
  have q2 := hk1.out.cell 2
  have q3 := hk1.out.cell 3
  have q4 := hk1.out.cell 4
  have q5 := hk1.out.cell 5
  go_wp2_with fail
  refine (irank_any E dualM _ _ [0, 1, 2] _ (hv1.out.upA _) sml_dualM (Row.lit3 _ 0 1 2).here (by decide) (hE.out.upA _)).mono ?_
  rintro e w9 ⟨rfl, hb9⟩
  rw [ev_4]
  have hbA := below_next ((Below.refl w8.heap.size w8).alloc (Nat.le_refl _) _) (Nat.le_refl _) hb9
  replace hv1 := Lib.hid (hv1.out.up hbA)
  replace hv2 := Lib.hid (hv2.out.up hbA)
  replace hE := Lib.hid (hE.out.up hbA)
  replace hk1 := Lib.hid (hk1.out.below hbA hk1.out.lt)
  replace hk2 := Lib.hid (hk2.out.below hbA hk2.out.lt)
  replace hk3 := Lib.hid (hk3.out.below hbA hk3.out.lt)
  replace hB := Lib.hid (below_next hB.out (Nat.le_refl _) hbA)
  clear hbA hb9 q0 q1 q2 q3 q4 q5
  have q0 := hk1.out.cell 0
  have q1 := hk1.out.cell 1
  have q2 := hk1.out.cell 2
  have q3 := hk1.out.cell 3
  have q4 := hk1.out.cell 4
  have q5 := hk1.out.cell 5
  go_wp2_with fail
  refine (indep_any E dualM _ _ [2] _ (hv1.out.upA _) sml_dualM (Row.lit1 _ 2).here (by decide) (hE.out.upA _)).mono ?_
  rintro e w10 ⟨rfl, hb10⟩
  rw [ev_5]
  have hbA := below_next ((Below.refl w9.heap.size w9).alloc (Nat.le_refl _) _) (Nat.le_refl _) hb10
  replace hv1 := Lib.hid (hv1.out.up hbA)
  replace hv2 := Lib.hid (hv2.out.up hbA)
  replace hE := Lib.hid (hE.out.up hbA)
  replace hk1 := Lib.hid (hk1.out.below hbA hk1.out.lt)
  replace hk2 := Lib.hid (hk2.out.below hbA hk2.out.lt)
  replace hk3 := Lib.hid (hk3.out.below hbA hk3.out.lt)
  replace hB := Lib.hid (below_next hB.out (Nat.le_refl _) hbA)
  clear hbA hb10 q0 q1 q2 q3 q4 q5
  have q0 := hk1.out.cell 0
  have q1 := hk1.out.cell 1
  have q2 := hk1.out.cell 2
  have q3 := hk1.out.cell 3
  have q4 := hk1.out.cell 4
  have q5 := hk1.out.cell 5
  go_wp2_with fail
  refine (indep_any E dualM _ _ [1, 2] _ (hv1.out.upA _) sml_dualM (Row.lit2 _ 1 2).here (by decide) (hE.out.upA _)).mono ?_
  rintro e w11 ⟨rfl, hb11⟩
  rw [ev_6]
  have hbA := below_next ((Below.refl w10.heap.size w10).alloc (Nat.le_refl _) _) (Nat.le_refl _) hb11
  replace hv1 := Lib.hid (hv1.out.up hbA)
  replace hv2 := Lib.hid (hv2.out.up hbA)
  replace hE := Lib.hid (hE.out.up hbA)
  replace hk1 := Lib.hid (hk1.out.below hbA hk1.out.lt)
  replace hk2 := Lib.hid (hk2.out.below hbA hk2.out.lt)
  replace hk3 := Lib.hid (hk3.out.below hbA hk3.out.lt)
  replace hB := Lib.hid (below_next hB.out (Nat.le_refl _) hbA)
  clear hbA hb11 q0 q1 q2 q3 q4 q5
  have q0 := hk2.out.cell 0
  have q1 := hk2.out.cell 1
  have q2 := hk2.out.cell 2
  have q3 := hk2.out.cell 3
  have q4 := hk2.out.cell 4
  have q5 := hk2.out.cell 5
  go_wp2_with fail
  refine (indep_any E contM _ _ [1] _ (hv2.out.upA _) sml_contM (Row.lit1 _ 1).here (by decide) (hE.out.upA _)).mono ?_
  rintro e w12 ⟨rfl, hb12⟩
  rw [ev_7]
  have hbA := below_next ((Below.refl w11.heap.size w11).alloc (Nat.le_refl _) _) (Nat.le_refl _) hb12
  replace hv1 := Lib.hid (hv1.out.up hbA)
  replace hv2 := Lib.hid (hv2.out.up hbA)
  replace hE := Lib.hid (hE.out.up hbA)
  replace hk1 := Lib.hid (hk1.out.below hbA hk1.out.lt)
  replace hk2 := Lib.hid (hk2.out.below hbA hk2.out.lt)
  replace hk3 := Lib.hid (hk3.out.below hbA hk3.out.lt)
  replace hB := Lib.hid (below_next hB.out (Nat.le_refl _) hbA)
  clear hbA hb12 q0 q1 q2 q3 q4 q5
  have q0 := hk2.out.cell 0
  have q1 := hk2.out.cell 1
  have q2 := hk2.out.cell 2
  have q3 := hk2.out.cell 3
  have q4 := hk2.out.cell 4
  have q5 := hk2.out.cell 5
  go_wp2_with fail
  refine (indep_any E contM _ _ [0, 1] _ (hv2.out.upA _) sml_contM (Row.lit2 _ 0 1).here (by decide) (hE.out.upA _)).mono ?_
  rintro e w13 ⟨rfl, hb13⟩
  rw [ev_8]
  have hbA := below_next ((Below.refl w12.heap.size w12).alloc (Nat.le_refl _) _) (Nat.le_refl _) hb13
  replace hv1 := Lib.hid (hv1.out.up hbA)
  replace hv2 := Lib.hid (hv2.out.up hbA)
  replace hE := Lib.hid (hE.out.up hbA)
  replace hk1 := Lib.hid (hk1.out.below hbA hk1.out.lt)
  replace hk2 := Lib.hid (hk2.out.below hbA hk2.out.lt)
  replace hk3 := Lib.hid (hk3.out.below hbA hk3.out.lt)
  replace hB := Lib.hid (below_next hB.out (Nat.le_refl _) hbA)
  clear hbA hb13 q0 q1 q2 q3 q4 q5
  have q0 := hk3.out.cell 0
  have q1 := hk3.out.cell 1
  have q2 := hk3.out.cell 2
  have q3 := hk3.out.cell 3
  have q4 := hk3.out.cell 4
  have q5 := hk3.out.cell 5
  go_wp2_with fail
  refine (irank_any E unifM _ _ [0] _ (plain_mat _ _ 0 3 2 0) sml_unifM (Row.lit1 _ 0).here (by decide) (hE.out.upA _)).mono ?_
  rintro e w14 ⟨rfl, hb14⟩
  rw [ev_9]
  have hbA := below_next ((Below.refl w13.heap.size w13).alloc (Nat.le_refl _) _) (Nat.le_refl _) hb14
  replace hv1 := Lib.hid (hv1.out.up hbA)
  replace hv2 := Lib.hid (hv2.out.up hbA)
  replace hE := Lib.hid (hE.out.up hbA)
  replace hk1 := Lib.hid (hk1.out.below hbA hk1.out.lt)
  replace hk2 := Lib.hid (hk2.out.below hbA hk2.out.lt)
  replace hk3 := Lib.hid (hk3.out.below hbA hk3.out.lt)
  replace hB := Lib.hid (below_next hB.out (Nat.le_refl _) hbA)
  clear hbA hb14 q0 q1 q2 q3 q4 q5
  have q0 := hk3.out.cell 0
  have q1 := hk3.out.cell 1
  have q2 := hk3.out.cell 2
  have q3 := hk3.out.cell 3
  have q4 := hk3.out.cell 4
  have q5 := hk3.out.cell 5
  go_wp2_with fail
  refine (irank_any E unifM _ _ [3] _ (plain_mat _ _ 0 3 2 0) sml_unifM (Row.lit1 _ 3).here (by decide) (hE.out.upA _)).mono ?_
  rintro e w15 ⟨rfl, hb15⟩
  rw [ev_10]
  have hbA := below_next ((Below.refl w14.heap.size w14).alloc (Nat.le_refl _) _) (Nat.le_refl _) hb15
  replace hv1 := Lib.hid (hv1.out.up hbA)
  replace hv2 := Lib.hid (hv2.out.up hbA)
  replace hE := Lib.hid (hE.out.up hbA)
  replace hk1 := Lib.hid (hk1.out.below hbA hk1.out.lt)
  replace hk2 := Lib.hid (hk2.out.below hbA hk2.out.lt)
  replace hk3 := Lib.hid (hk3.out.below hbA hk3.out.lt)
  replace hB := Lib.hid (below_next hB.out (Nat.le_refl _) hbA)
  clear hbA hb15 q0 q1 q2 q3 q4 q5
  have q0 := hk3.out.cell 0
  have q1 := hk3.out.cell 1
  have q2 := hk3.out.cell 2
  have q3 := hk3.out.cell 3
  have q4 := hk3.out.cell 4
  have q5 := hk3.out.cell 5
  go_wp2_with fail
  refine (imay_any E unifM _ _ [] _ (plain_mat _ _ 0 3 2 0) sml_unifM (Row.nil_ _ _) (by decide) hE.out).mono ?_
  rintro e w16 ⟨rfl, hb16⟩
  rw [ev_may.2.2.2.2.2.2.2.2.2.1]
  have hbA := hb16
  replace hv1 := Lib.hid (hv1.out.up hbA)
  replace hv2 := Lib.hid (hv2.out.up hbA)
  replace hE := Lib.hid (hE.out.up hbA)
  replace hk1 := Lib.hid (hk1.out.below hbA hk1.out.lt)
  replace hk2 := Lib.hid (hk2.out.below hbA hk2.out.lt)
  replace hk3 := Lib.hid (hk3.out.below hbA hk3.out.lt)
  replace hB := Lib.hid (below_next hB.out (Nat.le_refl _) hbA)
  clear hbA hb16 q0 q1 q2 q3 q4 q5
  have q0 := hk3.out.cell 0
  have q1 := hk3.out.cell 1
  have q2 := hk3.out.cell 2
  have q3 := hk3.out.cell 3
  have q4 := hk3.out.cell 4
  have q5 := hk3.out.cell 5
  go_wp2_with fail
  refine (imay_any E unifM _ _ [1, 0] _ (plain_mat _ _ 0 3 2 0) sml_unifM (Row.lit2 _ 1 0).here (by decide) (hE.out.upA _)).mono ?_
  rintro e w17 ⟨rfl, hb17⟩
  rw [ev_may.2.2.2.2.2.2.2.2.2.2]
  have hbA := below_next ((Below.refl w16.heap.size w16).alloc (Nat.le_refl _) _) (Nat.le_refl _) hb17
  replace hv1 := Lib.hid (hv1.out.up hbA)
  replace hv2 := Lib.hid (hv2.out.up hbA)
  replace hE := Lib.hid (hE.out.up hbA)
  replace hk1 := Lib.hid (hk1.out.below hbA hk1.out.lt)
  replace hk2 := Lib.hid (hk2.out.below hbA hk2.out.lt)
  replace hk3 := Lib.hid (hk3.out.below hbA hk3.out.lt)
  replace hB := Lib.hid (below_next hB.out (Nat.le_refl _) hbA)
  clear hbA hb17 q0 q1 q2 q3 q4 q5
  go_wp2
  go_ret
  exact ⟨rfl, hB.out⟩

end Wp
end Go.Proofs.YtimmmfppehmfcaaGreatDoor

namespace Go.Proofs.YtimmmfppehmfcaaGreatDoor
open Go.RowKit
namespace Wp

set_option maxHeartbeats 4000000 in
set_option maxRecDepth 100000 in
theorem refmeet_in (va vb : Value) (a b : List Int) (w : World) (ha : Row w w.heap.size va a) (hb : Row w w.heap.size vb b) (hla : a.length ≤ 1048576) (hlb : b.length ≤ 1048576) (hma : mayB a = true) (hmb : mayB b = true) :
    Calls Tryz.prog 12 #[va, vb] w (Gives w (meetL a b)) := by
  have Ha := Lib.hid ha
  have Hb := Lib.hid hb
  obtain ⟨A1, c1, rfl, _, hcell⟩ := ha
  obtain ⟨A2, c2, rfl, _⟩ := hb
  have Hcell := Lib.hid hcell
  clear hcell
  have Hall := Lib.hid (partOf_all a b true hma hmb)
  change Hid (_ = meetL a b) at Hall
  have Hma := Lib.hid hma
  have Hmb := Lib.hid hmb
  clear hma hmb
  have hown0 : (w.alloc (.cells #[] 3)).ownsRow w.heap.size 3 1 (.slice (some ⟨w.heap.size, 0, none⟩) 0 0) 0 [] :=
    World.ownsRow_made w #[] 0 (Nat.le_refl _) (by unfold maxLen; omega) rfl
  have hB0 : Below w.heap.size w (w.alloc (.cells #[] 3)) := (Below.refl _ w).alloc (Nat.le_refl _) _
  go_enter Tryz.func12, Tryz.ntmps12
  go_wp2
  go_loopw [5, 6] (fun vl vk wr => ∃ k : Nat, vk = .int .i64 k ∧ k ≤ a.length ∧ wr.ownsRow w.heap.size 3 1 vl (partOf a b true k).length (ints (partOf a b true k)) ∧ Below w.heap.size w wr) (fun _ vk _ => a.length - (intOf vk).toNat)
  case atStart => exact ⟨0, rfl, Nat.zero_le _, hown0, hB0⟩
  case round =>
    obtain ⟨k, rfl, hk, hown, hbr⟩ := hrel
    by_cases hlt : k < a.length
    · obtain ⟨ad, hA, hab, hg⟩ := Hcell.out k hlt
      subst hA
      have hkl : (k : Int) < (a.length : Int) := by omega
      have hpl := partOf_length a b true k
      have Hyes := Lib.hid (partOf_yes a b true k hlt)
      have Hno := Lib.hid (partOf_no a b true k hlt)
      clear hown0 hB0
      generalize a.getD k 0 = x at hg Hyes Hno
      have Hg := Lib.hid hg
      clear hg
      rcases hc : b.contains x with _ | _
      · have Hc := Lib.hid hc
        clear hc
        go_wp2_with fail
        refine (refmay_is _ a wr (Ha.out.below hbr |>.mono hbr.size) (by omega) Hma.out).mono ?_
        rintro e w2 ⟨rfl, hb2⟩
        have hB2 := hbr.trans (hb2.mono hbr.size)
        have hown2 := hown.kept (row := none) (only_of_below hb2 _) (by cases hv : Value.ownBlock _ <;> simp)
        clear hb2
        go_wp2_with fail
        refine (refmay_is _ b w2 (Hb.out.below hB2 |>.mono hB2.size) (by omega) Hmb.out).mono ?_
        rintro e w3 ⟨rfl, hb3⟩
        have hB3 := hB2.trans (hb3.mono hB2.size)
        have hown3 := hown2.kept (row := none) (only_of_below hb3 _) (by cases hv : Value.ownBlock _ <;> simp)
        clear hb3 hB2 hown2 hown hbr
        have g1 : w3.cell? (ad.add k) = some (.int .i64 x) := (hB3.cell (by rw [add_block]; exact hab)).trans Hg.out
        go_wp2_with fail
        refine (refin_is _ b x _ w3 (Hb.out.below hB3) (by omega) Hc.out).mono ?_
        rintro e w5 ⟨rfl, rfl⟩
        have Hx := Lib.hid (Hno.out (by rw [Hc.out]; decide))
        clear Hyes Hno
        go_wp2
        go_roundw
        case rel => exact ⟨k + 1, by go_num, by omega, by rw [Hx.out]; exact hown3, hB3⟩
        case measure => simp [intOf]; omega
      · have Hc := Lib.hid hc
        clear hc
        go_wp2_with fail
        refine (refmay_is _ a wr (Ha.out.below hbr |>.mono hbr.size) (by omega) Hma.out).mono ?_
        rintro e w2 ⟨rfl, hb2⟩
        have hB2 := hbr.trans (hb2.mono hbr.size)
        have hown2 := hown.kept (row := none) (only_of_below hb2 _) (by cases hv : Value.ownBlock _ <;> simp)
        clear hb2
        go_wp2_with fail
        refine (refmay_is _ b w2 (Hb.out.below hB2 |>.mono hB2.size) (by omega) Hmb.out).mono ?_
        rintro e w3 ⟨rfl, hb3⟩
        have hB3 := hB2.trans (hb3.mono hB2.size)
        have hown3 := hown2.kept (row := none) (only_of_below hb3 _) (by cases hv : Value.ownBlock _ <;> simp)
        clear hb3 hB2 hown2 hown hbr
        have g1 : w3.cell? (ad.add k) = some (.int .i64 x) := (hB3.cell (by rw [add_block]; exact hab)).trans Hg.out
        go_wp2_with fail
        refine (refin_is _ b x _ w3 (Hb.out.below hB3) (by omega) Hc.out).mono ?_
        rintro e w5 ⟨rfl, rfl⟩
        have Hx := Lib.hid (Hyes.out (by rw [Hc.out]))
        clear Hyes Hno
        go_wp2_with (at_builtin; refine wpList_append_row rfl _ _ rfl w.heap.size _ _ _ (partOf a b true k) [x] rfl rfl (hown3.alloc _) (Row.lit1 _ x) (by omega) (by simp) (by have := hB3.size; simp; omega) ?_)
        intro v' w4 hown' hgrow
        have hb4 : Below w.heap.size w5 w4 := ((Below.refl _ w5).alloc hB3.size _).grown hgrow (by have := hB3.size; simp; omega) (fun i hi => (hown3.lt i hi).1)
        go_wp2
        go_roundw
        case rel => exact ⟨k + 1, by go_num, by omega, by rw [Hx.out, List.length_append]; exact hown', hB3.trans hb4⟩
        case measure => simp [intOf]; omega
    · have hke : k = a.length := by omega
      subst hke
      rw [Hall.out] at hown
      go_wp2
      go_ret
      exact ⟨_, rfl, Row.of_own hown rfl, hbr⟩

set_option maxHeartbeats 2000000 in
set_option maxRecDepth 100000 in
theorem refmeet_bad (va vb : Value) (a b : List Int) (w : World) (ha : Row w w.heap.size va a) (hb : Row w w.heap.size vb b) (hla : a.length ≤ 1048576) (hlb : b.length ≤ 1048576) (h : mayB a = false ∨ (mayB a = true ∧ mayB b = false)) :
    Calls Tryz.prog 12 #[va, vb] w (Gives w (meetL a b)) := by
  have Ha := Lib.hid ha
  have Hb := Lib.hid hb
  obtain ⟨A1, c1, rfl, _, hcell⟩ := ha
  obtain ⟨A2, c2, rfl, _⟩ := hb
  have Hcell := Lib.hid hcell
  clear hcell
  have hr : meetL a b = [] := by
    rcases h with h | h
    · exact part_no1 h
    · exact part_no2 h.2
  have hout : ∀ w' : World, Below w.heap.size w w' → Gives w (meetL a b) (.returned (.slice (some ⟨w.heap.size, 0, none⟩) 0 0)) w' := fun w' hb => ⟨_, rfl, by rw [hr]; exact ⟨_, 0, rfl, ⟨Nat.le_refl _, by decide, fun e => by cases e⟩, fun k hk => absurd hk (by simp)⟩, hb⟩
  have Hout := Lib.hid hout
  clear hout hr
  have hB0 : Below w.heap.size w (w.alloc (.cells #[] 3)) := (Below.refl _ w).alloc (Nat.le_refl _) _
  by_cases h0 : 0 < a.length
  · have h0' : (0 : Int) < (a.length : Int) := by omega
    rcases h with hma | ⟨hma, hmb⟩
    · have Hma := Lib.hid hma
      clear hma h0
      go_enter Tryz.func12, Tryz.ntmps12
      go_wp2
      refine wp_loop_rounds 1 ?_
      rw [rounds_succ]
      go_wp2_with fail
      refine (refmay_is _ a _ ((Ha.out.below hB0).mono hB0.size) (by omega) Hma.out).mono ?_
      rintro e w1 ⟨rfl, hb1⟩
      have hB1 := hB0.trans (hb1.mono hB0.size)
      go_wp2
      go_ret
      exact Hout.out _ hB1
    · have Hma := Lib.hid hma
      have Hmb := Lib.hid hmb
      clear hma hmb h0
      go_enter Tryz.func12, Tryz.ntmps12
      go_wp2
      refine wp_loop_rounds 1 ?_
      rw [rounds_succ]
      go_wp2_with fail
      refine (refmay_is _ a _ ((Ha.out.below hB0).mono hB0.size) (by omega) Hma.out).mono ?_
      rintro e w1 ⟨rfl, hb1⟩
      have hB1 := hB0.trans (hb1.mono hB0.size)
      clear hb1
      go_wp2_with fail
      refine (refmay_is _ b _ ((Hb.out.below hB1).mono hB1.size) (by omega) Hmb.out).mono ?_
      rintro e w2 ⟨rfl, hb2⟩
      have hB2 := hB1.trans (hb2.mono hB1.size)
      go_wp2
      go_ret
      exact Hout.out _ hB2
  · have h0' : (a.length : Int) = 0 := by omega
    clear h h0
    go_enter Tryz.func12, Tryz.ntmps12
    go_wp2
    refine wp_loop_rounds 1 ?_
    rw [rounds_succ]
    go_wp2
    go_ret
    exact Hout.out _ hB0

theorem refmeet_any (va vb : Value) (a b : List Int) (w : World) (ha : Row w w.heap.size va a) (hb : Row w w.heap.size vb b) (hla : a.length ≤ 1048576) (hlb : b.length ≤ 1048576) :
    Calls Tryz.prog 12 #[va, vb] w (Gives w (meetL a b)) := by
  rcases hma : mayB a with _ | _
  · exact refmeet_bad va vb a b w ha hb hla hlb (.inl hma)
  · rcases hmb : mayB b with _ | _
    · exact refmeet_bad va vb a b w ha hb hla hlb (.inr ⟨hma, hmb⟩)
    · exact refmeet_in va vb a b w ha hb hla hlb hma hmb

end Wp
end Go.Proofs.YtimmmfppehmfcaaGreatDoor

namespace Go.Proofs.YtimmmfppehmfcaaGreatDoor
open Go.RowKit
namespace Wp

def sortOf (l : List Int) (k : Nat) : List Int := sortL (l.take k)
theorem sortOf_mem (l : List Int) (k : Nat) (h : k < l.length) (z : Int) : z ∈ sortOf l (k + 1) ↔ (z ∈ sortOf l k ∨ (z = l.getD k 0 ∧ Fit z)) := by
  unfold sortOf
  have e : l[k] = l.getD k 0 := by simp [List.getD, h]
  rw [mem_sortL, mem_sortL, List.take_succ_eq_append_getElem h, e, List.mem_append, List.mem_singleton]
  constructor
  · rintro ⟨h1 | h1, h2⟩
    · exact .inl ⟨h1, h2⟩
    · exact .inr ⟨h1, h2⟩
  · rintro (⟨h1, h2⟩ | ⟨h1, h2⟩)
    · exact ⟨.inl h1, h2⟩
    · exact ⟨.inr h1, h2⟩
theorem sortOf_no (l : List Int) (k : Nat) (h : k < l.length) (hf : ¬ Fit (l.getD k 0)) : sortOf l (k + 1) = sortOf l k :=
  (sortL_set _).ext (sortL_set _) fun z => by
    change z ∈ sortOf l (k + 1) ↔ z ∈ sortOf l k
    rw [sortOf_mem l k h]
    constructor
    · rintro (h1 | ⟨h1, h2⟩)
      · exact h1
      · rw [h1] at h2; exact absurd h2 hf
    · exact .inl
theorem sortOf_in (l : List Int) (k : Nat) (h : k < l.length) (hf : l.getD k 0 ∈ sortOf l k) : sortOf l (k + 1) = sortOf l k :=
  (sortL_set _).ext (sortL_set _) fun z => by
    change z ∈ sortOf l (k + 1) ↔ z ∈ sortOf l k
    rw [sortOf_mem l k h]
    constructor
    · rintro (h1 | ⟨h1, h2⟩)
      · exact h1
      · rw [h1]; exact hf
    · exact .inl
theorem sortOf_ins (l : List Int) (k : Nat) (h : k < l.length) (hf : Fit (l.getD k 0)) : sortOf l (k + 1) = ins (l.getD k 0) (sortOf l k) :=
  (sortL_set _).ext (ins_set _ hf _ (sortL_set _)) fun z => by
    change z ∈ sortOf l (k + 1) ↔ _
    rw [sortOf_mem l k h, mem_ins]
    constructor
    · rintro (h1 | ⟨h1, h2⟩)
      · exact .inr h1
      · exact .inl h1
    · rintro (h1 | h1)
      · exact .inr ⟨h1, by rw [h1]; exact hf⟩
      · exact .inl h1
theorem sortOf_length (l : List Int) (k : Nat) : (sortOf l k).length ≤ l.length := by
  unfold sortOf
  refine Nat.le_trans (sortL_length _) ?_
  simp
  omega
theorem sortOf_all (l : List Int) : sortOf l l.length = sortL l := by unfold sortOf; rw [List.take_length]

theorem ins_past (x y : Int) : ∀ a : List Int, a.Pairwise (· < ·) → (∃ z ∈ a, x < z) → ins x (a ++ [y]) = ins x a ++ [y]
  | [], _, h => by obtain ⟨z, hz, _⟩ := h; cases hz
  | b :: a, hp, h => by
    rw [List.cons_append]
    unfold ins
    split
    · rfl
    · split
      · rfl
      · rw [List.pairwise_cons] at hp
        rw [ins_past x y a hp.2 ?_]
        · rfl
        · obtain ⟨z, hz, hx⟩ := h
          rcases List.mem_cons.1 hz with e | hz
          · omega
          · exact ⟨z, hz, hx⟩
theorem ins_here (x y : Int) : ∀ a : List Int, (∀ z ∈ a, z < x) → x < y → ins x (a ++ [y]) = a ++ [x, y]
  | [], _, h => by simp [ins, h]
  | b :: a, hb, h => by
    have h1 := hb b (by simp)
    rw [List.cons_append]
    unfold ins
    rw [if_neg (by omega), if_neg (by omega), ins_here x y a (fun z hz => hb z (by simp [hz])) h]
    rfl
theorem ins_end (x : Int) : ∀ a : List Int, (∀ z ∈ a, z < x) → ins x a = a ++ [x]
  | [], _ => rfl
  | b :: a, hb => by
    have h1 := hb b (by simp)
    unfold ins
    rw [if_neg (by omega), if_neg (by omega), ins_end x a (fun z hz => hb z (by simp [hz]))]
    rfl

/-- What stands in next behind m of out's numbers. -/
def Ins (x : Int) (out : List Int) (m : Nat) (laid : Bool) (next : List Int) : Prop :=
  (laid = false ∧ (∀ z ∈ out.take m, z < x) ∧ next = out.take m) ∨ (laid = true ∧ (∃ z ∈ out.take m, x < z) ∧ next = ins x (out.take m))
theorem ins_start (x : Int) (out : List Int) : Ins x out 0 false [] := .inl ⟨rfl, by simp, rfl⟩
theorem ins_take {out : List Int} {m : Nat} (hm : m < out.length) : out.take (m + 1) = out.take m ++ [out.getD m 0] := by
  rw [List.take_succ_eq_append_getElem hm]; simp [List.getD, hm]
theorem ins_lay {x : Int} {out next : List Int} {m : Nat} (hm : m < out.length) (h : Ins x out m false next) (hx : x < out.getD m 0) : Ins x out (m + 1) true (next ++ [x] ++ [out.getD m 0]) := by
  rcases h with ⟨_, h1, h2⟩ | ⟨h, _⟩
  · refine .inr ⟨rfl, ⟨_, by rw [ins_take hm]; simp, hx⟩, ?_⟩
    rw [ins_take hm, ins_here x _ _ h1 hx, h2, List.append_assoc]
    rfl
  · cases h
theorem ins_less {x : Int} {out next : List Int} {m : Nat} (hm : m < out.length) (h : Ins x out m false next) (hn : x ∉ out) (hx : ¬ x < out.getD m 0) : Ins x out (m + 1) false (next ++ [out.getD m 0]) := by
  rcases h with ⟨_, h1, h2⟩ | ⟨h, _⟩
  · refine .inl ⟨rfl, fun z hz => ?_, by rw [ins_take hm, h2]⟩
    rw [ins_take hm, List.mem_append, List.mem_singleton] at hz
    rcases hz with hz | hz
    · exact h1 z hz
    · have : z ≠ x := fun e => hn (by rw [← e, hz]; simp [List.getD, hm])
      omega
  · cases h
theorem ins_laid {x : Int} {out next : List Int} {m : Nat} (hm : m < out.length) (hs : out.Pairwise (· < ·)) (h : Ins x out m true next) : Ins x out (m + 1) true (next ++ [out.getD m 0]) := by
  rcases h with ⟨h, _⟩ | ⟨_, ⟨z, hz, hx⟩, h2⟩
  · cases h
  · refine .inr ⟨rfl, ⟨z, by rw [ins_take hm]; simp [hz], hx⟩, ?_⟩
    rw [ins_take hm, ins_past x _ _ (hs.sublist (List.take_sublist _ _)) ⟨z, hz, hx⟩, h2]
theorem ins_done {x : Int} {out next : List Int} (h : Ins x out out.length true next) : next = ins x out := by
  rcases h with ⟨h, _⟩ | ⟨_, _, h2⟩
  · cases h
  · rw [h2, List.take_length]
theorem ins_last {x : Int} {out next : List Int} (h : Ins x out out.length false next) : next ++ [x] = ins x out := by
  rcases h with ⟨_, h1, h2⟩ | ⟨h, _⟩
  · rw [List.take_length] at h1 h2
    rw [h2, ins_end x out h1]
  · cases h
theorem ins_len {x : Int} {out next : List Int} {m : Nat} {laid : Bool} (h : Ins x out m laid next) : next.length ≤ out.length + 1 := by
  have h1 : ∀ (t : List Int), (ins x t).length ≤ t.length + 1 := by
    intro t
    induction t with
    | nil => simp [ins]
    | cons a t ih =>
      unfold ins
      split
      · simp
      · split
        · simp
        · simp; omega
  rcases h with ⟨_, _, h2⟩ | ⟨_, _, h2⟩
  · rw [h2, List.length_take]; omega
  · rw [h2]
    have := h1 (out.take m)
    rw [List.length_take] at this
    omega

set_option maxHeartbeats 8000000 in
set_option maxRecDepth 100000 in
theorem refsort_any (v : Value) (l : List Int) (w : World) (hr : Row w w.heap.size v l) (hl : l.length ≤ 2097152) : Calls Tryz.prog 30 #[v] w (Gives w (sortL l)) := by
  obtain ⟨A, c, rfl, _, hcell⟩ := hr
  have Hcell := Lib.hid hcell
  clear hcell
  have hl' : (l.length : Int) ≤ 2097152 := by omega
  have hB0 : Below w.heap.size w (w.alloc (.cells #[] 3)) := (Below.refl _ w).alloc (Nat.le_refl _) _
  have hr0 : Row (w.alloc (.cells #[] 3)) (w.alloc (.cells #[] 3)).heap.size (.slice (some ⟨w.heap.size, 0, none⟩) 0 0) (sortOf l 0) := (Row.lit0 w).here
  have Hall := Lib.hid (sortOf_all l)
  go_enter Tryz.func30, Tryz.ntmps30
  go_wp2
  go_loopw [3, 4] (fun vo vi wr => ∃ k : Nat, vi = .int .i64 k ∧ k ≤ l.length ∧ Row wr wr.heap.size vo (sortOf l k) ∧ Below w.heap.size w wr) (fun _ vi _ => l.length - (intOf vi).toNat)
  case atStart => exact ⟨0, rfl, Nat.zero_le _, hr0, hB0⟩
  case round =>
    obtain ⟨k, rfl, hk, hro, hbr⟩ := hrel
    clear hr0 hB0
    by_cases hlt : k < l.length
    · obtain ⟨ad, hA, hab, hg⟩ := Hcell.out k hlt
      subst hA
      have hkl : (k : Int) < (l.length : Int) := by omega
      have hol := sortOf_length l k
      have Hno := Lib.hid (sortOf_no l k hlt)
      have Hin := Lib.hid (sortOf_in l k hlt)
      have Hins := Lib.hid (sortOf_ins l k hlt)
      have Hos := Lib.hid (sortL_set (l.take k))
      change Hid (IsSet (sortOf l k)) at Hos
      generalize sortOf l k = out at hro hol Hno Hin Hins Hos
      generalize l.getD k 0 = x at hg Hno Hin Hins
      have g1 : wr.cell? (ad.add k) = some (.int .i64 x) := (hbr.cell (by rw [add_block]; exact hab)).trans hg
      have Hg := Lib.hid hg
      clear hg
      by_cases h0 : x < 0
      · have Hx := Lib.hid (Hno.out fun h => by unfold Fit at h; omega)
        clear Hno Hin Hins
        go_wp2
        go_roundw
        case rel => exact ⟨k + 1, by go_num, by omega, by rw [Hx.out]; exact hro, hbr⟩
        case measure => simp [intOf]; omega
      · have h0' : decide (x < 0) = false := by simp; omega
        by_cases h1 : 1099511627776 < x
        · have Hx := Lib.hid (Hno.out fun h => by unfold Fit at h; omega)
          clear Hno Hin Hins h0
          go_wp2
          go_roundw
          case rel => exact ⟨k + 1, by go_num, by omega, by rw [Hx.out]; exact hro, hbr⟩
          case measure => simp [intOf]; omega
        · have h1' : decide (1099511627776 < x) = false := by simp; omega
          rcases hc : out.contains x with _ | _
          · have hni : x ∉ out := by rw [← List.contains_iff_mem, hc]; simp
            have Hni := Lib.hid hni
            have Hx := Lib.hid (Hins.out ⟨by omega, by omega⟩)
            have Hc := Lib.hid hc
            clear Hno Hin Hins h0 h1 hni hc
            go_wp2_with fail
            refine (refin_is _ out x _ wr hro (by omega) Hc.out).mono ?_
            rintro e w5 ⟨rfl, rfl⟩
            have Hro := Lib.hid hro
            obtain ⟨Ao, co, rfl, _, hocell⟩ := hro
            have Hocell := Lib.hid hocell
            clear hocell
            have hown0 : (w5.alloc (.cells #[] 3)).ownsRow w5.heap.size 3 1 (.slice (some ⟨w5.heap.size, 0, none⟩) 0 0) 0 [] :=
              World.ownsRow_made w5 #[] 0 (Nat.le_refl _) (by unfold maxLen; omega) rfl
            have hb0 : Below w5.heap.size w5 (w5.alloc (.cells #[] 3)) := (Below.refl _ w5).alloc (Nat.le_refl _) _
            have habw : ad.block < w5.heap.size := Nat.lt_of_lt_of_le hab hbr.size
            have Hg5 := Lib.hid g1
            clear g1
            go_wp2
            go_loopw [5, 6, 7] (fun vn vlaid vk wr => ∃ (m : Nat) (laid : Bool) (next : List Int), vk = .int .i64 m ∧ m ≤ out.length ∧ vlaid = .bool laid ∧ Ins x out m laid next ∧ wr.ownsRow w5.heap.size 3 1 vn next.length (ints next) ∧ Below w5.heap.size w5 wr) (fun _ _ vk _ => out.length - (intOf vk).toNat)
            case atStart => exact ⟨0, false, [], rfl, Nat.zero_le _, rfl, ins_start x out, hown0, hb0⟩
            case round =>
              obtain ⟨m, laid, next, rfl, hm, rfl, hI, hown, hb1⟩ := hrel
              clear hown0 hb0
              have hnl := ins_len hI
              by_cases hmlt : m < out.length
              · obtain ⟨ao, hAo, haob, hgo⟩ := Hocell.out m hmlt
                subst hAo
                have hml : (m : Int) < (out.length : Int) := by omega
                have g2 : wr.cell? (ao.add m) = some (.int .i64 (out.getD m 0)) := (hb1.cell (by rw [add_block]; exact haob)).trans hgo
                have g1 : wr.cell? (ad.add k) = some (.int .i64 x) := (hb1.cell (by rw [add_block]; exact habw)).trans Hg5.out
                have Hgo := Lib.hid hgo
                clear hgo
                have Hlaid := Lib.hid (fun next h => ins_laid (x := x) (next := next) hmlt Hos.out.1 h)
                have Hlay := Lib.hid (fun next h => ins_lay (x := x) (out := out) (next := next) hmlt h)
                have Hless := Lib.hid (fun next h => ins_less (x := x) (out := out) (next := next) hmlt h Hni.out)
                generalize out.getD m 0 = y at g2 Hgo Hlaid Hlay Hless
                cases laid
                · have HI := Lib.hid hI
                  clear hI Hlaid
                  by_cases hxy : x < y
                  · have Hf := Lib.hid (Hlay.out next HI.out hxy)
                    go_wp2
                    go_quiet (fail)
                    have hownq : (wr.drewN nq).ownsRow w5.heap.size 3 1 _ next.length (ints next) := hown
                    have hbq : Below w5.heap.size w5 (wr.drewN nq) := below_drewN hb1 nq
                    have g1q : (wr.drewN nq).cell? (ad.add k) = some (.int .i64 x) := g1
                    have g2q : (wr.drewN nq).cell? (ao.add m) = some (.int .i64 y) := g2
                    clear hown hb1 g1 g2
                    generalize wr.drewN nq = wq at *
                    go_wp2_with (at_builtin; refine wpList_append_row rfl _ _ rfl w5.heap.size _ _ _ next [x] rfl rfl (hownq.alloc _) (Row.lit1 _ x) (by omega) (by simp) (by have := hbq.size; simp; omega) ?_)
                    intro v6 w6 hown6 hgrow
                    have hown6 : w6.ownsRow w5.heap.size 3 1 v6 (next ++ [x]).length (ints (next ++ [x])) := by rw [List.length_append]; exact hown6
                    have hb6 : Below w5.heap.size w5 w6 := (hbq.alloc hbq.size _).grown hgrow (by have := hbq.size; simp; omega) (fun i hi => (hownq.lt i hi).1)
                    clear hgrow hownq hbq
                    have g1' : w6.cell? (ad.add k) = some (.int .i64 x) := (hb6.cell (by rw [add_block]; exact habw)).trans Hg5.out
                    have g2' : w6.cell? (ao.add m) = some (.int .i64 y) := (hb6.cell (by rw [add_block]; exact haob)).trans Hgo.out
                    clear g1q g2q
                    go_wp2_with (at_builtin; refine wpList_append_row rfl _ _ rfl w5.heap.size _ _ _ (next ++ [x]) [y] rfl rfl (hown6.alloc _) (Row.lit1 _ y) (by rw [List.length_append]; show next.length + 1 ≤ _; omega) (by simp) (by have := hb6.size; simp; omega) ?_)
                    intro v7 w7 hown7 hgrow
                    have hown7 : w7.ownsRow w5.heap.size 3 1 v7 (next ++ [x] ++ [y]).length (ints (next ++ [x] ++ [y])) := by rw [show next ++ [x] ++ [y] = next ++ [x, y] from by simp, List.length_append]; exact hown7
                    have hb7 : Below w5.heap.size w5 w7 := (hb6.alloc hb6.size _).grown hgrow (by have := hb6.size; simp; omega) (fun i hi => (hown6.lt i hi).1)
                    clear hgrow hown6 hb6
                    go_wp2
                    go_roundw
                    case rel => exact ⟨m + 1, true, next ++ [x] ++ [y], by go_num, by omega, rfl, Hf.out, hown7, hb7⟩
                    case measure => simp [intOf]; omega
                  · have hxy' : decide (x < y) = false := by simp; omega
                    have Hf := Lib.hid (Hless.out next HI.out hxy)
                    go_wp2
                    go_quiet (fail)
                    have hownq : (wr.drewN nq).ownsRow w5.heap.size 3 1 _ next.length (ints next) := hown
                    have hbq : Below w5.heap.size w5 (wr.drewN nq) := below_drewN hb1 nq
                    have g1q : (wr.drewN nq).cell? (ad.add k) = some (.int .i64 x) := g1
                    have g2q : (wr.drewN nq).cell? (ao.add m) = some (.int .i64 y) := g2
                    clear hown hb1 g1 g2
                    generalize wr.drewN nq = wq at *
                    go_wp2_with (at_builtin; refine wpList_append_row rfl _ _ rfl w5.heap.size _ _ _ next [y] rfl rfl (hownq.alloc _) (Row.lit1 _ y) (by omega) (by simp) (by have := hbq.size; simp; omega) ?_)
                    intro v6 w6 hown6 hgrow
                    have hown6 : w6.ownsRow w5.heap.size 3 1 v6 (next ++ [y]).length (ints (next ++ [y])) := by rw [List.length_append]; exact hown6
                    have hb6 : Below w5.heap.size w5 w6 := (hbq.alloc hbq.size _).grown hgrow (by have := hbq.size; simp; omega) (fun i hi => (hownq.lt i hi).1)
                    clear hgrow hownq hbq
                    go_wp2
                    go_roundw
                    case rel => exact ⟨m + 1, false, next ++ [y], by go_num, by omega, rfl, Hf.out, hown6, hb6⟩
                    case measure => simp [intOf]; omega
                · have Hf := Lib.hid (Hlaid.out next hI)
                  clear hI Hlay Hless
                  go_wp2
                  go_quiet (fail)
                  have hownq : (wr.drewN nq).ownsRow w5.heap.size 3 1 _ next.length (ints next) := hown
                  have hbq : Below w5.heap.size w5 (wr.drewN nq) := below_drewN hb1 nq
                  have g1q : (wr.drewN nq).cell? (ad.add k) = some (.int .i64 x) := g1
                  have g2q : (wr.drewN nq).cell? (ao.add m) = some (.int .i64 y) := g2
                  clear hown hb1 g1 g2
                  generalize wr.drewN nq = wq at *
                  go_wp2_with (at_builtin; refine wpList_append_row rfl _ _ rfl w5.heap.size _ _ _ next [y] rfl rfl (hownq.alloc _) (Row.lit1 _ y) (by omega) (by simp) (by have := hbq.size; simp; omega) ?_)
                  intro v6 w6 hown6 hgrow
                  have hown6 : w6.ownsRow w5.heap.size 3 1 v6 (next ++ [y]).length (ints (next ++ [y])) := by rw [List.length_append]; exact hown6
                  have hb6 : Below w5.heap.size w5 w6 := (hbq.alloc hbq.size _).grown hgrow (by have := hbq.size; simp; omega) (fun i hi => (hownq.lt i hi).1)
                  clear hgrow hownq hbq
                  go_wp2
                  go_roundw
                  case rel => exact ⟨m + 1, true, next ++ [y], by go_num, by omega, rfl, Hf.out, hown6, hb6⟩
                  case measure => simp [intOf]; omega
              · have hme : m = out.length := by omega
                subst hme
                cases laid
                · have Hf := Lib.hid (ins_last hI)
                  clear hI
                  have g1 : wr.cell? (ad.add k) = some (.int .i64 x) := (hb1.cell (by rw [add_block]; exact habw)).trans Hg5.out
                  go_wp2_with (at_builtin; refine wpList_append_row rfl _ _ rfl w5.heap.size _ _ _ next [x] rfl rfl (hown.alloc _) (Row.lit1 _ x) (by omega) (by simp) (by have := hb1.size; simp; omega) ?_)
                  intro v6 w6 hown6 hgrow
                  have hown6 : w6.ownsRow w5.heap.size 3 1 v6 (next ++ [x]).length (ints (next ++ [x])) := by rw [List.length_append]; exact hown6
                  have hb6 : Below w5.heap.size w5 w6 := (hb1.alloc hb1.size _).grown hgrow (by have := hb1.size; simp; omega) (fun i hi => (hown.lt i hi).1)
                  clear hgrow hown hb1
                  go_wp2
                  go_roundw
                  case rel => exact ⟨k + 1, by go_num, by omega, by rw [Hx.out, ← Hf.out]; exact Row.of_own hown6 rfl, hbr.trans (hb6.mono hbr.size)⟩
                  case measure => simp [intOf]; omega
                · have Hf := Lib.hid (ins_done hI)
                  clear hI
                  go_wp2
                  go_roundw
                  case rel => exact ⟨k + 1, by go_num, by omega, by rw [Hx.out, ← Hf.out]; exact Row.of_own hown rfl, hbr.trans (hb1.mono hbr.size)⟩
                  case measure => simp [intOf]; omega
          · have hni : x ∈ out := by rw [← List.contains_iff_mem, hc]
            have Hx := Lib.hid (Hin.out hni)
            have Hc := Lib.hid hc
            clear Hno Hin Hins h0 h1 hni hc
            go_wp2_with fail
            refine (refin_is _ out x _ wr hro (by omega) Hc.out).mono ?_
            rintro e w5 ⟨rfl, rfl⟩
            go_wp2
            go_roundw
            case rel => exact ⟨k + 1, by go_num, by omega, by rw [Hx.out]; exact hro, hbr⟩
            case measure => simp [intOf]; omega
    · have hke : k = l.length := by omega
      subst hke
      rw [Hall.out] at hro
      go_wp2
      go_ret
      exact ⟨_, rfl, hro, hbr⟩

set_option maxHeartbeats 4000000 in
set_option maxRecDepth 100000 in
theorem refunion_any (va vb : Value) (a b : List Int) (w : World) (ha : Row w w.heap.size va a) (hb : Row w w.heap.size vb b) (hla : a.length ≤ 1048576) (hlb : b.length ≤ 1048576) :
    Calls Tryz.prog 14 #[va, vb] w (Gives w (unionL a b)) := by
  have Ha := Lib.hid ha
  have Hb := Lib.hid hb
  obtain ⟨A1, c1, rfl, _⟩ := ha
  obtain ⟨A2, c2, rfl, _⟩ := hb
  rcases hma : mayB a with _ | _
  · have Hr := Lib.hid (union_no1 (b := b) hma)
    have Hma := Lib.hid hma
    clear hma
    go_enter Tryz.func14, Tryz.ntmps14
    go_wp2_with fail
    refine (refmay_is _ a w Ha.out (by omega) Hma.out).mono ?_
    rintro e w1 ⟨rfl, hb1⟩
    go_wp2
    go_ret
    exact gives_nil w hb1 Hr.out
  · rcases hmb : mayB b with _ | _
    · have Hr := Lib.hid (union_no2 (a := a) hmb)
      have Hma := Lib.hid hma
      have Hmb := Lib.hid hmb
      clear hma hmb
      go_enter Tryz.func14, Tryz.ntmps14
      go_wp2_with fail
      refine (refmay_is _ a w Ha.out (by omega) Hma.out).mono ?_
      rintro e w1 ⟨rfl, hb1⟩
      go_wp2_with fail
      refine (refmay_is _ b w1 ((Hb.out.below hb1).mono hb1.size) (by omega) Hmb.out).mono ?_
      rintro e w2 ⟨rfl, hb2⟩
      go_wp2
      go_ret
      exact gives_nil w (hb1.trans (hb2.mono hb1.size)) Hr.out
    · have Hr := Lib.hid (union_yes hma hmb)
      have Hma := Lib.hid hma
      have Hmb := Lib.hid hmb
      clear hma hmb
      go_enter Tryz.func14, Tryz.ntmps14
      go_wp2_with fail
      refine (refmay_is _ a w Ha.out (by omega) Hma.out).mono ?_
      rintro e w1 ⟨rfl, hb1⟩
      go_wp2_with fail
      refine (refmay_is _ b w1 ((Hb.out.below hb1).mono hb1.size) (by omega) Hmb.out).mono ?_
      rintro e w2 ⟨rfl, hb2⟩
      have hB2 : Below w.heap.size w w2 := hb1.trans (hb2.mono hb1.size)
      clear hb1 hb2
      have hown0 : (w2.alloc (.cells #[] 3)).ownsRow w.heap.size 3 1 (.slice (some ⟨w2.heap.size, 0, none⟩) 0 0) ([] : List Int).length (ints []) :=
        World.ownsRow_made w2 #[] 0 hB2.size (by unfold maxLen; omega) rfl
      have hB3 : Below w.heap.size w (w2.alloc (.cells #[] 3)) := hB2.alloc hB2.size _
      have Ha3 := Lib.hid (Ha.out.below hB3)
      go_wp2_with (at_builtin; refine wpList_append_row rfl _ _ rfl w.heap.size w.heap.size _ _ [] a rfl rfl hown0 Ha3.out (by simp) (by omega) hB3.size ?_)
      intro v4 w4 hown4 hg4
      have hB4 : Below w.heap.size w w4 := hB3.grown hg4 hB3.size (fun i hi => (hown0.lt i hi).1)
      have Hb4 := Lib.hid (Hb.out.below hB4)
      clear hg4 hown0 hB3 hB2
      go_wp2_with (at_builtin; refine wpList_append_row rfl _ _ rfl w.heap.size w.heap.size _ _ a b rfl rfl hown4 Hb4.out (by omega) (by omega) hB4.size ?_)
      intro v5 w5 hown5 hg5
      have hB5 : Below w.heap.size w w5 := hB4.grown hg5 hB4.size (fun i hi => (hown4.lt i hi).1)
      clear hg5 hown4 hB4
      go_wp2_with fail
      refine (refsort_any v5 (a ++ b) w5 (Row.of_own hown5 (by simp)) (by rw [List.length_append]; omega)).mono ?_
      rintro e w6 ⟨v6, rfl, hr6, hb6⟩
      go_wp2
      go_ret
      exact ⟨_, rfl, by rw [Hr.out]; exact hr6, hB5.trans (hb6.mono hB5.size)⟩

end Wp
end Go.Proofs.YtimmmfppehmfcaaGreatDoor
