/- Matroids written out in memory. The program's May, Rank and Indep, and the document's May, walked. The answers that the document fixes of what is independent, reckoned. The law's triangle, walked. The calls whose answers the document fixes, of what is independent, walked: they are as it fixes them. -/
import Derived.Test.YtbjngggcpojefaaGreatDoorQImg
import Derived.Test.YtbjngggcpojefaaGreatDoorZA
import Derived.Test.YtbjngggcpojefaaGreatDoorZW
import Derived.Test.YtbjngggcpojefaaGreatDoorZT
namespace Go.Proofs.YtbjngggcpojefaaGreatDoor
open Go.RowKit
namespace Wp

theorem size_more (w : World) (o : Obj) : (w.alloc o).heap.size = w.heap.size + 1 := by simp
theorem lit_rows1 {W : World} {u : Value} {r : List Int} (h : Row W W.heap.size u r) : Rows2 (W.alloc (.cells #[u] 26)) (W.heap.size + 1) (.slice (some ⟨W.heap.size, 0, none⟩) 1 1) [r] := by
  have hb := Blk.new W 26 #[u]
  refine ⟨_, 1, rfl, ⟨Nat.le_refl _, by decide, fun e => by cases e⟩, fun k hk => ⟨⟨W.heap.size, 0, none⟩, u, rfl, by show W.heap.size < _; omega, ?_, ?_⟩⟩
  · match k, hk with
    | 0, _ => exact hb.cell 0
  · match k, hk with
    | 0, _ =>
      have := (h.below ((Below.refl _ W).alloc (Nat.le_refl _) (.cells #[u] 26))).mono (show W.heap.size ≤ W.heap.size + 1 by omega)
      simpa using this
theorem lit_mats1 {W W' : World} {c0 c1 c2 c3 c4 c5 : Value} {m : Mat} (hb : Blk W' W.heap.size 25 #[c0, c1, c2, c3, c4, c5]) (h : MatV W' (W.heap.size + 1) (.agg #[c0, c1, c2, c3, c4, c5]) m) :
    MatL W' (W.heap.size + 1) (.slice (some ⟨W.heap.size, 0, none⟩) 1 1) [m] := by
  refine ⟨_, 1, rfl, ⟨Nat.le_refl _, by decide, fun e => by cases e⟩, fun k hk => ⟨⟨W.heap.size, 0, none⟩, .agg #[c0, c1, c2, c3, c4, c5], rfl, by show W.heap.size < _; omega, ?_, ?_⟩⟩
  · match k, hk with
    | 0, _ => exact ⟨c0, c1, c2, c3, c4, c5, rfl, hb.cell 0, hb.cell 1, hb.cell 2, hb.cell 3, hb.cell 4, hb.cell 5⟩
  · match k, hk with
    | 0, _ => exact h
theorem lit_mats {W : World} {c0 c1 c2 c3 c4 c5 : Value} {m : Mat} (h : MatV W W.heap.size (.agg #[c0, c1, c2, c3, c4, c5]) m) :
    MatL (W.alloc (.cells #[c0, c1, c2, c3, c4, c5] 25)) (W.heap.size + 1) (.slice (some ⟨W.heap.size, 0, none⟩) 1 1) [m] :=
  lit_mats1 (Blk.new W _ _) ((h.bel ((Below.refl _ W).alloc (Nat.le_refl _) _)).mono (by omega))
theorem rows2_nil (W : World) (B : Nat) : Rows2 W B (.slice none 0 0) [] := ⟨none, 0, rfl, ⟨Nat.le_refl _, by decide, fun _ => rfl⟩, fun k hk => absurd hk (by simp)⟩
theorem rows2_upA {w : World} {v : Value} {l : List (List Int)} (h : Rows2 w w.heap.size v l) (o : Obj) : Rows2 (w.alloc o) (w.alloc o).heap.size v l := h.up ((Below.refl _ w).alloc (Nat.le_refl _) o)

/-- A matroid that has no lists, and none within. -/
theorem plain_mat (W : World) (B : Nat) (t n a b : Int) : MatV W B (.agg #[.int .i64 t, .int .i64 n, .int .i64 a, .int .i64 b, .slice none 0 0, .slice none 0 0]) (.mk t n a b [] []) := MatV.shut (rows2_nil W B) (MatL.nil_ W B)
def uM : Mat := .mk 0 3 2 0 [] []
def rM : Mat := .mk 5 2 0 0 [[0, 2]] [uM]
def cM : Mat := .mk 6 2 0 0 [[1]] [uM]
def dN : Nat → Mat
  | 0 => uM
  | k + 1 => .mk 8 3 0 0 [] [dN k]
/-- All but the box g stays. -/
def Off (g : Nat) (w w' : World) : Prop := w.heap.size ≤ w'.heap.size ∧ ∀ b, b < w.heap.size → b ≠ g → w'.heap[b]? = w.heap[b]?
theorem Off.refl (g : Nat) (w : World) : Off g w w := ⟨Nat.le_refl _, fun _ _ _ => rfl⟩
theorem Off.trans {g : Nat} {a b c : World} (h : Off g a b) (k : Off g b c) : Off g a c := ⟨Nat.le_trans h.1 k.1, fun i hi hg => (k.2 i (Nat.lt_of_lt_of_le hi h.1) hg).trans (h.2 i hi hg)⟩
theorem Off.alloc (g : Nat) (w : World) (o : Obj) : Off g w (w.alloc o) := ⟨by simp, fun b hb _ => Below.heap_alloc w o b hb⟩
theorem Off.set_ {g : Nat} (w : World) (i : Nat) (v : Value) : Off g w (w.setCell ⟨g, i, none⟩ v) := ⟨by simp [World.setCell], fun b _ hg => Below.heap_setCell w ⟨g, i, none⟩ v b (by intro e; exact hg e)⟩
theorem Off.below {g B : Nat} {a b w : World} (hg : B ≤ g) (h : Below B a b) (hs : B ≤ b.heap.size) (k : Off g b w) (ho : w.os = b.os ∧ w.tape = b.tape ∧ w.output = b.output) : Below B a w :=
  ⟨ho.1.trans h.os, ho.2.1.trans h.tape, ho.2.2.trans h.output, Nat.le_trans h.size k.1, fun i hi => (k.2 i (by omega) (by omega)).trans (h.block i hi)⟩
/-- A matroid none of whose cells lie in the box g. -/
def MatK (g : Nat) (w : World) (v : Value) (m : Mat) : Prop := ∀ W, Off g w W → MatV W w.heap.size v m
theorem matK_dual {g : Nat} {w w' : World} {c0 c1 c2 c3 c4 c5 : Value} {m : Mat} (hg : w.heap.size ≠ g) (h : MatK g w (.agg #[c0, c1, c2, c3, c4, c5]) m)
    (hw : Off g (w.alloc (.cells #[c0, c1, c2, c3, c4, c5] 25)) w') (n : Int) :
    MatK g w' (.agg #[.int .i64 8, .int .i64 n, .int .i64 0, .int .i64 0, .slice none 0 0, .slice (some ⟨w.heap.size, 0, none⟩) 1 1]) (.mk 8 n 0 0 [] [m]) := by
  intro W hW
  have hA := hw.trans hW
  have h1 := h W ((Off.alloc g w _).trans hA)
  have hs := hA.1
  rw [size_more] at hs
  have hs' := hw.1
  rw [size_more] at hs'
  have hb : Blk W w.heap.size 25 #[c0, c1, c2, c3, c4, c5] := (hA.2 _ (by rw [size_more]; omega) hg).trans (Blk.new w _ _)
  have h2 := lit_mats1 hb (h1.mono (by omega))
  exact MatV.shut (rows2_nil _ _) (h2.mono hs')
theorem MatK.off {g : Nat} {w w' : World} {v : Value} {m : Mat} (h : MatK g w v m) (ho : Off g w w') (hs : w'.heap.size = w.heap.size) : MatK g w' v m := fun W hW => by
  rw [hs]
  exact h W (ho.trans hW)
theorem dual_round {g : Nat} {w : World} {c0 c1 c2 c3 c4 c5 v0 v1 v2 v3 v4 v5 : Value} {m : Mat} {n : Int} (h : MatK g w (.agg #[c0, c1, c2, c3, c4, c5]) m) (hg : g < w.heap.size) :
    MatK g (((((((w.setCell ⟨g, 0, none⟩ v0).setCell ⟨g, 1, none⟩ v1).setCell ⟨g, 2, none⟩ v2).setCell ⟨g, 3, none⟩ v3).setCell ⟨g, 4, none⟩ v4).setCell ⟨g, 5, none⟩ v5).alloc (.cells #[c0, c1, c2, c3, c4, c5] 25))
      (.agg #[.int .i64 8, .int .i64 n, .int .i64 0, .int .i64 0, .slice none 0 0, .slice (some ⟨w.heap.size, 0, none⟩) 1 1]) (.mk 8 n 0 0 [] [m]) := by
  have ho : Off g w ((((((w.setCell ⟨g, 0, none⟩ v0).setCell ⟨g, 1, none⟩ v1).setCell ⟨g, 2, none⟩ v2).setCell ⟨g, 3, none⟩ v3).setCell ⟨g, 4, none⟩ v4).setCell ⟨g, 5, none⟩ v5) :=
    (((((Off.set_ _ _ _).trans (Off.set_ _ _ _)).trans (Off.set_ _ _ _)).trans (Off.set_ _ _ _)).trans (Off.set_ _ _ _)).trans (Off.set_ _ _ _)
  have hs : ((((((w.setCell ⟨g, 0, none⟩ v0).setCell ⟨g, 1, none⟩ v1).setCell ⟨g, 2, none⟩ v2).setCell ⟨g, 3, none⟩ v3).setCell ⟨g, 4, none⟩ v4).setCell ⟨g, 5, none⟩ v5).heap.size = w.heap.size := by simp [World.setCell]
  have h2 := matK_dual (by rw [hs]; omega) (h.off ho hs) (Off.refl g _) n
  rw [hs] at h2
  exact h2
theorem matK_plain (g : Nat) (w : World) (t n a b : Int) : MatK g w (.agg #[.int .i64 t, .int .i64 n, .int .i64 a, .int .i64 b, .slice none 0 0, .slice none 0 0]) (.mk t n a b [] []) := fun W _ => plain_mat W _ t n a b

theorem sml_plain (t n a b : Int) : Sml (.mk t n a b [] []) := .mk (by simp) (by simp) (by simp) (by simp)
theorem sml_one {t n a b : Int} {m : Mat} (h : Sml m) : Sml (.mk t n a b [] [m]) := .mk (by simp) (by simp) (by simp) (by simpa using h)
theorem sml_row {t n a b : Int} {r : List Int} {m : Mat} (hr : r.length ≤ 1000) (h : Sml m) : Sml (.mk t n a b [r] [m]) := .mk (by simp) (by simpa using hr) (by simp) (by simpa using h)
theorem sml_r1 : Sml rM := sml_row (by decide) (sml_plain ..)
theorem sml_c1 : Sml cM := sml_row (by decide) (sml_plain ..)
theorem sml_d : ∀ k, Sml (dN k)
  | 0 => sml_plain ..
  | k + 1 => sml_one (sml_d k)

/-! ### What the document fixes, reckoned -/
theorem chk_u : chk uM = 0 := by decide +kernel
theorem chk_r : chk rM = 0 := by decide +kernel
theorem chk_d : chk (dN 4) = 91 := by decide +kernel
theorem deep_d : deepI (dN 4) = 5 := by decide +kernel
theorem deep_r : deepI rM = 2 := by decide +kernel
theorem chk_1 : chk (.mk 0 1 2 0 [] []) = 90 := by decide +kernel
theorem chk_2 : chk (.mk 10 0 0 0 [] []) = 90 := by decide +kernel
theorem img_r : imgB rM [1] = true ∧ imgL rM [1] = [2] := by decide +kernel
theorem img_c : imgB cM [0, 1] = true ∧ imgL cM [0, 1] = [0, 2] := by decide +kernel
theorem img_u : imgB uM [] = false ∧ imgL uM [] = [] := by decide +kernel

end Wp
end Go.Proofs.YtbjngggcpojefaaGreatDoor

namespace Go.Proofs.YtbjngggcpojefaaGreatDoor
open Go.RowKit
namespace Wp

def mayI (m : Mat) (s : List Int) : Bool := decide (chk m = 0) && subB s (allL m.n)
/-- The rank, as it is told: -1 of what may not be. -/
noncomputable def rankT (m : Mat) (s : List Int) : Int := if mayI m s = true then (rkP 4 m (memP s) : Nat) else -1
noncomputable def indT (m : Mat) (s : List Int) : Bool := decide (rankT m s = (s.length : Int))
theorem mayI_iff {m : Mat} {s : List Int} : mayI m s = true ↔ chk m = 0 ∧ InN (nN m) s := by
  unfold mayI
  rw [Bool.and_eq_true, decide_eq_true_iff]
  constructor
  · rintro ⟨h1, h2⟩; exact ⟨h1, (inN_sub (chk_n h1).1 (chk_n h1).2).1 h2⟩
  · rintro ⟨h1, h2⟩; exact ⟨h1, (inN_sub (chk_n h1).1 (chk_n h1).2).2 h2⟩
theorem mayI_set (m : Mat) (s : List Int) : mayI m s = (decide (chk m = 0) && okA m.n s) := by
  unfold mayI
  by_cases h : chk m = 0
  · rw [okA_sub (chk_n h).1 (chk_n h).2]
  · rw [decide_eq_false h]; rfl

set_option maxHeartbeats 4000000 in
set_option maxRecDepth 100000 in
theorem imay_any (E : Nat → Addr) (m : Mat) (v sv : Value) (s : List Int) (w : World) (hv : MatV w w.heap.size v m) (hs : Sml m) (hr : Row w w.heap.size sv s) (hsl : s.length ≤ 1048576) (hE : Env E w) : Calls Tryz.prog 28 #[v, sv] w (Says w (mayI m s)) := by
  have Hs := Lib.hid hs
  obtain ⟨lv, iv, hve, _, _⟩ := hv.open
  obtain ⟨As, cs, rfl, _⟩ := id hr
  have Hb0 := Lib.hid (boxed_below w m lv iv)
  have Hv0 := Lib.hid (hv.up Hb0.out)
  have Hr0 := Lib.hid (hr.up Hb0.out)
  have Hblk0 := Lib.hid (boxed_blk w m lv iv)
  have g0 := Hblk0.out.cell 0
  have g1 := Hblk0.out.cell 1
  have g2 := Hblk0.out.cell 2
  have g3 := Hblk0.out.cell 3
  have g4 := Hblk0.out.cell 4
  have g5 := Hblk0.out.cell 5
  subst hve
  unfold boxed at *
  have HE0 := Lib.hid (hE.up Hb0.out)
  obtain ⟨D, hD⟩ : ∃ D, chk m = D := ⟨_, rfl⟩
  have HD := Lib.hid hD
  have hal := all_len m.n
  unfold mayI
  rw [hD]
  clear hv hs hr hE hD
  by_cases h : D = 0
  · subst h
    rw [decide_eq_true rfl, Bool.true_and]
    go_enter Tryz.func28, Tryz.ntmps28
    go_wp2_with fail
    refine (check_any E m _ _ Hv0.out Hs.out HE0.out).mono ?_
    rintro e w1 ⟨rfl, hb1⟩
    rw [HD.out]
    have Hb1 := Lib.hid (below_next Hb0.out (Nat.le_refl _) hb1)
    have Hr1 := Lib.hid (Hr0.out.up hb1)
    have k1 := (Hblk0.out.below hb1 Hblk0.out.lt).cell 1
    clear hb1 g0 g1 g2 g3 g4 g5
    go_wp2_with fail
    refine (all_any m.n _).mono ?_
    rintro e w2 ⟨va, rfl, hra, hb2⟩
    have Hb2 := Lib.hid (below_next Hb1.out (Nat.le_refl _) hb2)
    have Hr2 := Lib.hid (Hr1.out.up hb2)
    have Hra := Lib.hid hra
    clear hb2 hra k1
    go_wp2_with fail
    refine (sub_any _ _ s (allL m.n) _ Hr2.out Hra.out hsl hal).mono ?_
    rintro e w3 ⟨rfl, hb3⟩
    have Hb3 := Lib.hid (below_next Hb2.out (Nat.le_refl _) hb3)
    clear hb3
    go_wp2
    go_ret
    exact ⟨rfl, Hb3.out⟩
  · rw [decide_eq_false h, Bool.false_and]
    have hne : (D == 0) = false := by simpa using h
    clear h
    go_enter Tryz.func28, Tryz.ntmps28
    go_wp2_with fail
    refine (check_any E m _ _ Hv0.out Hs.out HE0.out).mono ?_
    rintro e w1 ⟨rfl, hb1⟩
    rw [HD.out]
    have Hb1 := Lib.hid (below_next Hb0.out (Nat.le_refl _) hb1)
    clear hb1 g0 g1 g2 g3 g4 g5
    go_wp2
    go_ret
    exact ⟨rfl, Hb1.out⟩

set_option maxHeartbeats 4000000 in
set_option maxRecDepth 100000 in
theorem rmay10_any (m : Mat) (v sv : Value) (s : List Int) (w : World) (hv : MatV w w.heap.size v m) (hs : Sml m) (hr : Row w w.heap.size sv s) : Calls Tryz.prog 10 #[v, sv] w (Says w (mayI m s)) := by
  have Hs := Lib.hid hs
  obtain ⟨lv, iv, hve, _, _⟩ := hv.open
  obtain ⟨As, cs, rfl, _⟩ := id hr
  have Hb0 := Lib.hid (boxed_below w m lv iv)
  have Hv0 := Lib.hid (hv.up Hb0.out)
  have Hr0 := Lib.hid (hr.up Hb0.out)
  have Hblk0 := Lib.hid (boxed_blk w m lv iv)
  have g0 := Hblk0.out.cell 0
  have g1 := Hblk0.out.cell 1
  have g2 := Hblk0.out.cell 2
  have g3 := Hblk0.out.cell 3
  have g4 := Hblk0.out.cell 4
  have g5 := Hblk0.out.cell 5
  subst hve
  unfold boxed at *
  obtain ⟨D, hD⟩ : ∃ D, chk m = D := ⟨_, rfl⟩
  have HD := Lib.hid hD
  rw [mayI_set, hD]
  clear hv hs hr hD
  by_cases h : D = 0
  · subst h
    rw [decide_eq_true rfl, Bool.true_and]
    go_enter Tryz.func10, Tryz.ntmps10
    go_wp2_with fail
    refine (rcheck_any m _ _ Hv0.out Hs.out).mono ?_
    rintro e w1 ⟨rfl, hb1⟩
    rw [HD.out]
    have Hb1 := Lib.hid (below_next Hb0.out (Nat.le_refl _) hb1)
    have Hr1 := Lib.hid (Hr0.out.up hb1)
    have k1 := (Hblk0.out.below hb1 Hblk0.out.lt).cell 1
    clear hb1 g0 g1 g2 g3 g4 g5
    go_wp2_with fail
    refine (set9_any _ s m.n _ Hr1.out).mono ?_
    rintro e w2 ⟨rfl, hb2⟩
    have Hb2 := Lib.hid (below_next Hb1.out (Nat.le_refl _) hb2)
    clear hb2 k1
    go_wp2
    go_ret
    exact ⟨rfl, Hb2.out⟩
  · rw [decide_eq_false h, Bool.false_and]
    have hne : (D == 0) = false := by simpa using h
    clear h
    go_enter Tryz.func10, Tryz.ntmps10
    go_wp2_with fail
    refine (rcheck_any m _ _ Hv0.out Hs.out).mono ?_
    rintro e w1 ⟨rfl, hb1⟩
    rw [HD.out]
    have Hb1 := Lib.hid (below_next Hb0.out (Nat.le_refl _) hb1)
    clear hb1 g0 g1 g2 g3 g4 g5
    go_wp2
    go_ret
    exact ⟨rfl, Hb1.out⟩

set_option maxHeartbeats 4000000 in
set_option maxRecDepth 100000 in
theorem irank_any (E : Nat → Addr) (m : Mat) (v sv : Value) (s : List Int) (w : World) (hv : MatV w w.heap.size v m) (hs : Sml m) (hr : Row w w.heap.size sv s) (hsl : s.length ≤ 1048576) (hE : Env E w) : Calls Tryz.prog 17 #[v, sv] w (Tells w (rankT m s)) := by
  have Hs := Lib.hid hs
  obtain ⟨lv, iv, hve, _, _⟩ := hv.open
  obtain ⟨As, cs, rfl, _⟩ := id hr
  have Hb0 := Lib.hid (boxed_below w m lv iv)
  have Hv0 := Lib.hid (hv.up Hb0.out)
  have Hr0 := Lib.hid (hr.up Hb0.out)
  have Hblk0 := Lib.hid (boxed_blk w m lv iv)
  have g0 := Hblk0.out.cell 0
  have g1 := Hblk0.out.cell 1
  have g2 := Hblk0.out.cell 2
  have g3 := Hblk0.out.cell 3
  have g4 := Hblk0.out.cell 4
  have g5 := Hblk0.out.cell 5
  subst hve
  unfold boxed at *
  have HE0 := Lib.hid (hE.up Hb0.out)
  unfold rankT
  rcases hm : mayI m s with _ | _
  · rw [if_neg (by decide)]
    have Hm := Lib.hid hm
    clear hv hs hr hE hm
    go_enter Tryz.func17, Tryz.ntmps17
    go_wp2_with fail
    refine (imay_any E m _ _ s _ Hv0.out Hs.out Hr0.out hsl HE0.out).mono ?_
    rintro e w1 ⟨rfl, hb1⟩
    rw [Hm.out]
    have Hb1 := Lib.hid (below_next Hb0.out (Nat.le_refl _) hb1)
    clear hb1 g0 g1 g2 g3 g4 g5
    go_wp2
    go_ret
    exact ⟨rfl, Hb1.out⟩
  · rw [if_pos rfl]
    have Hm := Lib.hid hm
    have Hi := Lib.hid (mayI_iff.1 hm)
    obtain ⟨R, hR⟩ : ∃ R : Nat, rkP 4 m (memP s) = R := ⟨_, rfl⟩
    have Hrk : Hid (∀ (v sv : Value) (W : World), MatV W W.heap.size v m → Row W W.heap.size sv s → Env E W → Calls Tryz.prog 35 #[v, sv] W (Tells W (R : Int))) := Lib.hid fun v sv W h1 h2 h3 => by rw [← hR]; exact rank_all E 4 m v sv s W h1 Hs.out Hi.out.1 (chk_ok.1 Hi.out.1).1 h2 Hi.out.2 h3
    rw [hR]
    clear hv hs hr hE hm hR
    go_enter Tryz.func17, Tryz.ntmps17
    go_wp2_with fail
    refine (imay_any E m _ _ s _ Hv0.out Hs.out Hr0.out hsl HE0.out).mono ?_
    rintro e w1 ⟨rfl, hb1⟩
    rw [Hm.out]
    have Hb1 := Lib.hid (below_next Hb0.out (Nat.le_refl _) hb1)
    have Hr1 := Lib.hid (Hr0.out.up hb1)
    have Hv1 := Lib.hid (Hv0.out.up hb1)
    have HE1 := Lib.hid (HE0.out.up hb1)
    have Hblk1 := Lib.hid (Hblk0.out.below hb1 Hblk0.out.lt)
    clear hb1 g0 g1 g2 g3 g4 g5
    have g0 := Hblk1.out.cell 0
    have g1 := Hblk1.out.cell 1
    have g2 := Hblk1.out.cell 2
    have g3 := Hblk1.out.cell 3
    have g4 := Hblk1.out.cell 4
    have g5 := Hblk1.out.cell 5
    go_wp2_with fail
    refine (Hrk.out _ _ _ Hv1.out Hr1.out HE1.out).mono ?_
    rintro e w2 ⟨rfl, hb2⟩
    have Hb2 := Lib.hid (below_next Hb1.out (Nat.le_refl _) hb2)
    clear hb2 g0 g1 g2 g3 g4 g5
    go_wp2
    go_ret
    exact ⟨rfl, Hb2.out⟩

set_option maxHeartbeats 4000000 in
set_option maxRecDepth 100000 in
theorem indep_any (E : Nat → Addr) (m : Mat) (v sv : Value) (s : List Int) (w : World) (hv : MatV w w.heap.size v m) (hs : Sml m) (hr : Row w w.heap.size sv s) (hsl : s.length ≤ 1048576) (hE : Env E w) : Calls Tryz.prog 11 #[v, sv] w (Says w (indT m s)) := by
  have Hs := Lib.hid hs
  obtain ⟨lv, iv, hve, _, _⟩ := hv.open
  obtain ⟨As, cs, rfl, _⟩ := id hr
  have Hb0 := Lib.hid (boxed_below w m lv iv)
  have Hv0 := Lib.hid (hv.up Hb0.out)
  have Hr0 := Lib.hid (hr.up Hb0.out)
  have Hblk0 := Lib.hid (boxed_blk w m lv iv)
  have g0 := Hblk0.out.cell 0
  have g1 := Hblk0.out.cell 1
  have g2 := Hblk0.out.cell 2
  have g3 := Hblk0.out.cell 3
  have g4 := Hblk0.out.cell 4
  have g5 := Hblk0.out.cell 5
  subst hve
  unfold boxed at *
  have HE0 := Lib.hid (hE.up Hb0.out)
  obtain ⟨R, hR⟩ : ∃ R, rankT m s = R := ⟨_, rfl⟩
  have HR := Lib.hid hR
  obtain ⟨b0, hb0⟩ : ∃ b0, indT m s = b0 := ⟨_, rfl⟩
  have hbe : (R == (s.length : Int)) = b0 := by rw [← hb0, ← hR]; unfold indT; rw [Bool.eq_iff_iff, beq_iff_eq, decide_eq_true_iff]
  rw [hb0]
  clear hv hs hr hE hR hb0
  go_enter Tryz.func11, Tryz.ntmps11
  go_wp2_with fail
  refine (irank_any E m _ _ s _ Hv0.out Hs.out Hr0.out hsl HE0.out).mono ?_
  rintro e w1 ⟨rfl, hb1⟩
  rw [HR.out]
  have Hb1 := Lib.hid (below_next Hb0.out (Nat.le_refl _) hb1)
  clear hb1 g0 g1 g2 g3 g4 g5
  go_wp2
  go_ret
  exact ⟨by rw [← hbe]; rfl, Hb1.out⟩

end Wp
end Go.Proofs.YtbjngggcpojefaaGreatDoor

namespace Go.Proofs.YtbjngggcpojefaaGreatDoor.Wp
open Go Go.RowKit

def triM : Mat := .mk 1 3 3 0 [[0, 1], [1, 2], [2, 0]] []
def dualM : Mat := .mk 8 3 0 0 [] [triM]
def contM : Mat := .mk 6 2 0 0 [[0]] [triM]
def unifM : Mat := .mk 0 3 2 0 [] []
theorem rk_tri (k : Nat) (P : Nat → Bool) : rkP (k + 1) triM P = graphR 3 3 (edgOf triM) P := rkP_1 rfl
theorem rk_dualM (P : Nat → Bool) : rkP 4 dualM P = cnt P 3 + graphR 3 3 (edgOf triM) (notP P) - graphR 3 3 (edgOf triM) allP := by
  rw [rkP_8 rfl]
  show cnt P 3 + rkP 3 triM (notP P) - rkP 3 triM allP = _
  rw [rk_tri, rk_tri]
theorem rk_contM (P : Nat → Bool) : rkP 4 contM P = graphR 3 3 (edgOf triM) (orP (memP [0]) (imgP 2 (stayN contM) P)) - graphR 3 3 (edgOf triM) (memP [0]) := by
  rw [rkP_6 rfl]
  show rkP 3 triM _ - rkP 3 triM _ = _
  rw [rk_tri, rk_tri]
  rfl
theorem rk_unifM (P : Nat → Bool) : rkP 4 unifM P = min 2 (cnt P 3) := rkP_0 rfl
theorem ev_may : mayI triM [0, 1] = true ∧ mayI triM [0, 1, 2] = true ∧ mayI dualM [0, 1, 2] = true ∧ mayI dualM [2] = true ∧ mayI dualM [1, 2] = true ∧ mayI contM [1] = true ∧ mayI contM [0, 1] = true ∧ mayI unifM [0] = true ∧ mayI unifM [3] = false ∧ mayI unifM [] = true ∧ mayI unifM [1, 0] = false := by decide +kernel
theorem rank_of {m : Mat} {s : List Int} (h : mayI m s = true) : rankT m s = (rkP 4 m (memP s) : Nat) := if_pos h
theorem ev_1 : indT triM [0, 1] = true := by unfold indT; rw [rank_of ev_may.1, rk_tri]; decide +kernel
theorem ev_3 : rankT triM [0, 1, 2] = 2 := by rw [rank_of ev_may.2.1, rk_tri]; decide +kernel
theorem ev_2 : indT triM [0, 1, 2] = false := by unfold indT; rw [ev_3]; decide
theorem ev_4 : rankT dualM [0, 1, 2] = 1 := by rw [rank_of ev_may.2.2.1, rk_dualM]; decide +kernel
theorem ev_5 : indT dualM [2] = true := by unfold indT; rw [rank_of ev_may.2.2.2.1, rk_dualM]; decide +kernel
theorem ev_6 : indT dualM [1, 2] = false := by unfold indT; rw [rank_of ev_may.2.2.2.2.1, rk_dualM]; decide +kernel
theorem ev_7 : indT contM [1] = true := by unfold indT; rw [rank_of ev_may.2.2.2.2.2.1, rk_contM]; decide +kernel
theorem ev_8 : indT contM [0, 1] = false := by unfold indT; rw [rank_of ev_may.2.2.2.2.2.2.1, rk_contM]; decide +kernel
theorem ev_9 : rankT unifM [0] = 1 := by rw [rank_of ev_may.2.2.2.2.2.2.2.1, rk_unifM]; decide +kernel
theorem ev_10 : rankT unifM [3] = -1 := if_neg (by rw [ev_may.2.2.2.2.2.2.2.2.1]; decide)

end Go.Proofs.YtbjngggcpojefaaGreatDoor.Wp

namespace Go.Proofs.YtbjngggcpojefaaGreatDoor
open Go.RowKit
namespace Wp

theorem lit_rows3 {W : World} {u v z : Value} {r s t : List Int} (hr : Row W W.heap.size u r) (hs : Row W W.heap.size v s) (ht : Row W W.heap.size z t) : Rows2 (W.alloc (.cells #[u, v, z] 26)) (W.heap.size + 1) (.slice (some ⟨W.heap.size, 0, none⟩) 3 3) [r, s, t] := by
  have hb : Below W.heap.size W (W.alloc (.cells #[u, v, z] 26)) := (Below.refl _ W).alloc (Nat.le_refl _) _
  refine ⟨_, 3, rfl, ⟨Nat.le_refl _, by decide, fun e => by cases e⟩, fun k hk => ?_⟩
  have hc := (Blk.new W 26 #[u, v, z]).cell
  have hk3 : k < 3 := hk
  rcases (by omega : k = 0 ∨ k = 1 ∨ k = 2) with rfl | rfl | rfl
  · exact ⟨_, u, rfl, by simp, by rw [add_g]; exact hc 0, (hr.below hb).mono (by omega)⟩
  · exact ⟨_, v, rfl, by simp, by rw [add_g]; exact hc 1, (hs.below hb).mono (by omega)⟩
  · exact ⟨_, z, rfl, by simp, by rw [add_g]; exact hc 2, (ht.below hb).mono (by omega)⟩

def Tri (w : World) (e : Ending) (w' : World) : Prop := ∃ l, e = .returned (.agg #[.int .i64 1, .int .i64 3, .int .i64 3, .int .i64 0, l, .slice none 0 0]) ∧ MatV w' w'.heap.size (.agg #[.int .i64 1, .int .i64 3, .int .i64 3, .int .i64 0, l, .slice none 0 0]) triM ∧ Below w.heap.size w w' ∧ ∃ A n c, l = .slice A n c
set_option maxHeartbeats 4000000 in
set_option maxRecDepth 100000 in
theorem triangle_any (w : World) : Calls Tryz.prog 27 #[] w (Tri w) := by
  have HM : Hid (MatV (((((w.alloc (.cells #[.int .i64 1, .int .i64 3, .int .i64 3, .int .i64 0, .slice (some ⟨w.heap.size + 1 + 1 + 1 + 1, 0, none⟩) 3 3, .slice none 0 0] 25)).alloc (.cells #[.int .i64 0, .int .i64 1] 3)).alloc (.cells #[.int .i64 1, .int .i64 2] 3)).alloc (.cells #[.int .i64 2, .int .i64 0] 3)).alloc (.cells #[.slice (some ⟨w.heap.size + 1, 0, none⟩) 2 2, .slice (some ⟨w.heap.size + 1 + 1, 0, none⟩) 2 2, .slice (some ⟨w.heap.size + 1 + 1 + 1, 0, none⟩) 2 2] 26)) (((((w.alloc (.cells #[.int .i64 1, .int .i64 3, .int .i64 3, .int .i64 0, .slice (some ⟨w.heap.size + 1 + 1 + 1 + 1, 0, none⟩) 3 3, .slice none 0 0] 25)).alloc (.cells #[.int .i64 0, .int .i64 1] 3)).alloc (.cells #[.int .i64 1, .int .i64 2] 3)).alloc (.cells #[.int .i64 2, .int .i64 0] 3)).alloc (.cells #[.slice (some ⟨w.heap.size + 1, 0, none⟩) 2 2, .slice (some ⟨w.heap.size + 1 + 1, 0, none⟩) 2 2, .slice (some ⟨w.heap.size + 1 + 1 + 1, 0, none⟩) 2 2] 26)).heap.size (.agg #[.int .i64 1, .int .i64 3, .int .i64 3, .int .i64 0, .slice (some ⟨w.heap.size + 1 + 1 + 1 + 1, 0, none⟩) 3 3, .slice none 0 0]) triM) := Lib.hid (by
    have r1 := (((Row.lit2 (w.alloc (.cells #[.int .i64 1, .int .i64 3, .int .i64 3, .int .i64 0, .slice (some ⟨w.heap.size + 1 + 1 + 1 + 1, 0, none⟩) 3 3, .slice none 0 0] 25)) 0 1).here.upA (.cells #[.int .i64 1, .int .i64 2] 3)).upA (.cells #[.int .i64 2, .int .i64 0] 3))
    have r2 := ((Row.lit2 ((w.alloc (.cells #[.int .i64 1, .int .i64 3, .int .i64 3, .int .i64 0, .slice (some ⟨w.heap.size + 1 + 1 + 1 + 1, 0, none⟩) 3 3, .slice none 0 0] 25)).alloc (.cells #[.int .i64 0, .int .i64 1] 3)) 1 2).here.upA (.cells #[.int .i64 2, .int .i64 0] 3))
    have r3 := (Row.lit2 (((w.alloc (.cells #[.int .i64 1, .int .i64 3, .int .i64 3, .int .i64 0, .slice (some ⟨w.heap.size + 1 + 1 + 1 + 1, 0, none⟩) 3 3, .slice none 0 0] 25)).alloc (.cells #[.int .i64 0, .int .i64 1] 3)).alloc (.cells #[.int .i64 1, .int .i64 2] 3)) 2 0).here
    simp only [size_more] at r1 r2 r3
    have h := lit_rows3 (W := ((((w.alloc (.cells #[.int .i64 1, .int .i64 3, .int .i64 3, .int .i64 0, .slice (some ⟨w.heap.size + 1 + 1 + 1 + 1, 0, none⟩) 3 3, .slice none 0 0] 25)).alloc (.cells #[.int .i64 0, .int .i64 1] 3)).alloc (.cells #[.int .i64 1, .int .i64 2] 3)).alloc (.cells #[.int .i64 2, .int .i64 0] 3))) (by simpa only [size_more] using r1) (by simpa only [size_more] using r2) (by simpa only [size_more] using r3)
    simp only [size_more] at h ⊢
    exact MatV.shut h (MatL.nil_ _ _))
  have HB : Hid (Below w.heap.size w (((((w.alloc (.cells #[.int .i64 1, .int .i64 3, .int .i64 3, .int .i64 0, .slice (some ⟨w.heap.size + 1 + 1 + 1 + 1, 0, none⟩) 3 3, .slice none 0 0] 25)).alloc (.cells #[.int .i64 0, .int .i64 1] 3)).alloc (.cells #[.int .i64 1, .int .i64 2] 3)).alloc (.cells #[.int .i64 2, .int .i64 0] 3)).alloc (.cells #[.slice (some ⟨w.heap.size + 1, 0, none⟩) 2 2, .slice (some ⟨w.heap.size + 1 + 1, 0, none⟩) 2 2, .slice (some ⟨w.heap.size + 1 + 1 + 1, 0, none⟩) 2 2] 26))) := Lib.hid (((((((Below.refl _ w).alloc (Nat.le_refl _) _).alloc (by simp) _).alloc (by simp; omega) _).alloc (by simp; omega) _)).alloc (by simp; omega) _)
  go_enter Tryz.func27, Tryz.ntmps27
  go_wp2
  exact bodyPost_ret (v := .agg #[.int .i64 1, .int .i64 3, .int .i64 3, .int .i64 0, .slice (some ⟨w.heap.size + 1 + 1 + 1 + 1, 0, none⟩) 3 3, .slice none 0 0]) (by simp [results, Tryz.results27, go_sem]) rfl ⟨_, rfl, HM.out, HB.out, _, _, _, rfl⟩

end Wp
end Go.Proofs.YtbjngggcpojefaaGreatDoor

namespace Go.Proofs.YtbjngggcpojefaaGreatDoor
open Go.RowKit
namespace Wp

theorem sml_tri : Sml triM := .mk (by simp) (by simp) (by simp) (by simp)
theorem sml_dualM : Sml dualM := sml_one sml_tri
theorem sml_contM : Sml contM := sml_row (by decide) sml_tri
theorem sml_unifM : Sml unifM := sml_plain ..

set_option maxHeartbeats 16000000 in
set_option maxRecDepth 100000 in
theorem fixed_any (E : Nat → Addr) (w : World) (hE : Env E w) : Calls Tryz.prog 8 #[] w (Truly w) := by
  have HE0 := Lib.hid hE
  clear hE
  go_enter Tryz.func8, Tryz.ntmps8
  go_wp2_with fail
  refine (triangle_any _).mono ?_
  rintro e w1 ⟨l1, rfl, hm1, hb1, A1, n1, c1, rfl⟩
  have HV1 : Hid (MatV ((w1.alloc (.cells #[.int .i64 1, .int .i64 3, .int .i64 3, .int .i64 0, .slice A1 n1 c1, .slice none 0 0] 25)).alloc (.cells #[.int .i64 8, .int .i64 3, .int .i64 0, .int .i64 0, .slice none 0 0, .slice (some ⟨w1.heap.size, 0, none⟩) 1 1] 25)) ((w1.alloc (.cells #[.int .i64 1, .int .i64 3, .int .i64 3, .int .i64 0, .slice A1 n1 c1, .slice none 0 0] 25)).alloc (.cells #[.int .i64 8, .int .i64 3, .int .i64 0, .int .i64 0, .slice none 0 0, .slice (some ⟨w1.heap.size, 0, none⟩) 1 1] 25)).heap.size (.agg #[.int .i64 8, .int .i64 3, .int .i64 0, .int .i64 0, .slice none 0 0, .slice (some ⟨w1.heap.size, 0, none⟩) 1 1]) dualM) := Lib.hid (by
    have h2 := lit_mats hm1
    rw [← size_more w1 (.cells #[.int .i64 1, .int .i64 3, .int .i64 3, .int .i64 0, .slice A1 n1 c1, .slice none 0 0] 25)] at h2
    exact (MatV.shut (rows2_nil _ _) h2).upA _)
  have HK1 : Hid (Blk ((w1.alloc (.cells #[.int .i64 1, .int .i64 3, .int .i64 3, .int .i64 0, .slice A1 n1 c1, .slice none 0 0] 25)).alloc (.cells #[.int .i64 8, .int .i64 3, .int .i64 0, .int .i64 0, .slice none 0 0, .slice (some ⟨w1.heap.size, 0, none⟩) 1 1] 25)) (w1.heap.size + 1) 25 #[.int .i64 8, .int .i64 3, .int .i64 0, .int .i64 0, .slice none 0 0, .slice (some ⟨w1.heap.size, 0, none⟩) 1 1]) := Lib.hid (by
    have h := Blk.new (w1.alloc (.cells #[.int .i64 1, .int .i64 3, .int .i64 3, .int .i64 0, .slice A1 n1 c1, .slice none 0 0] 25)) 25 #[.int .i64 8, .int .i64 3, .int .i64 0, .int .i64 0, .slice none 0 0, .slice (some ⟨w1.heap.size, 0, none⟩) 1 1]
    rw [size_more] at h
    exact h)
  have HB1 : Hid (Below w.heap.size w ((w1.alloc (.cells #[.int .i64 1, .int .i64 3, .int .i64 3, .int .i64 0, .slice A1 n1 c1, .slice none 0 0] 25)).alloc (.cells #[.int .i64 8, .int .i64 3, .int .i64 0, .int .i64 0, .slice none 0 0, .slice (some ⟨w1.heap.size, 0, none⟩) 1 1] 25))) := Lib.hid ((hb1.alloc hb1.size _).alloc (by have := hb1.size; simp; omega) _)
  have HE1 := Lib.hid (HE0.out.up HB1.out)
  have HR2 : Hid (Rows2 ((((w1.alloc (.cells #[.int .i64 1, .int .i64 3, .int .i64 3, .int .i64 0, .slice A1 n1 c1, .slice none 0 0] 25)).alloc (.cells #[.int .i64 8, .int .i64 3, .int .i64 0, .int .i64 0, .slice none 0 0, .slice (some ⟨w1.heap.size, 0, none⟩) 1 1] 25)).alloc (.cells #[.int .i64 0] 3)).alloc (.cells #[.slice (some ⟨w1.heap.size + 1 + 1, 0, none⟩) 1 1] 26)) ((((w1.alloc (.cells #[.int .i64 1, .int .i64 3, .int .i64 3, .int .i64 0, .slice A1 n1 c1, .slice none 0 0] 25)).alloc (.cells #[.int .i64 8, .int .i64 3, .int .i64 0, .int .i64 0, .slice none 0 0, .slice (some ⟨w1.heap.size, 0, none⟩) 1 1] 25)).alloc (.cells #[.int .i64 0] 3)).alloc (.cells #[.slice (some ⟨w1.heap.size + 1 + 1, 0, none⟩) 1 1] 26)).heap.size (.slice (some ⟨w1.heap.size + 1 + 1 + 1, 0, none⟩) 1 1) [[0]]) := Lib.hid (by
    have h := lit_rows1 (Row.lit1 ((w1.alloc (.cells #[.int .i64 1, .int .i64 3, .int .i64 3, .int .i64 0, .slice A1 n1 c1, .slice none 0 0] 25)).alloc (.cells #[.int .i64 8, .int .i64 3, .int .i64 0, .int .i64 0, .slice none 0 0, .slice (some ⟨w1.heap.size, 0, none⟩) 1 1] 25)) 0).here
    simp only [size_more] at h ⊢
    exact h)
  have HW : Hid (Below ((w1.alloc (.cells #[.int .i64 1, .int .i64 3, .int .i64 3, .int .i64 0, .slice A1 n1 c1, .slice none 0 0] 25)).alloc (.cells #[.int .i64 8, .int .i64 3, .int .i64 0, .int .i64 0, .slice none 0 0, .slice (some ⟨w1.heap.size, 0, none⟩) 1 1] 25)).heap.size ((w1.alloc (.cells #[.int .i64 1, .int .i64 3, .int .i64 3, .int .i64 0, .slice A1 n1 c1, .slice none 0 0] 25)).alloc (.cells #[.int .i64 8, .int .i64 3, .int .i64 0, .int .i64 0, .slice none 0 0, .slice (some ⟨w1.heap.size, 0, none⟩) 1 1] 25)) ((((w1.alloc (.cells #[.int .i64 1, .int .i64 3, .int .i64 3, .int .i64 0, .slice A1 n1 c1, .slice none 0 0] 25)).alloc (.cells #[.int .i64 8, .int .i64 3, .int .i64 0, .int .i64 0, .slice none 0 0, .slice (some ⟨w1.heap.size, 0, none⟩) 1 1] 25)).alloc (.cells #[.int .i64 0] 3)).alloc (.cells #[.slice (some ⟨w1.heap.size + 1 + 1, 0, none⟩) 1 1] 26))) := Lib.hid (((Below.refl _ _).alloc (Nat.le_refl _) _).alloc (by simp) _)
  clear hm1 hb1
  go_wp2_with fail
  refine (triangle_any _).mono ?_
  rintro e w2 ⟨l2, rfl, hm2, hb2, A2, n2, c2, rfl⟩
  have hbA := below_next HW.out (Nat.le_refl _) hb2
  have HV1b := Lib.hid (HV1.out.up hbA)
  have HK1b := Lib.hid (HK1.out.below hbA HK1.out.lt)
  have HB2 := Lib.hid (below_next HB1.out (Nat.le_refl _) hbA)
  have HE2 := Lib.hid (HE1.out.up hbA)
  have HR2b := Lib.hid (HR2.out.up hb2)
  clear hb2 hbA HV1 HK1 HB1 HE1 HR2 HW
  generalize w1.heap.size + 1 + 1 + 1 = r1 at *
  generalize w1.heap.size + 1 = m1 at *
  have HV2 : Hid (MatV ((w2.alloc (.cells #[.int .i64 1, .int .i64 3, .int .i64 3, .int .i64 0, .slice A2 n2 c2, .slice none 0 0] 25)).alloc (.cells #[.int .i64 6, .int .i64 2, .int .i64 0, .int .i64 0, .slice (some ⟨r1, 0, none⟩) 1 1, .slice (some ⟨w2.heap.size, 0, none⟩) 1 1] 25)) ((w2.alloc (.cells #[.int .i64 1, .int .i64 3, .int .i64 3, .int .i64 0, .slice A2 n2 c2, .slice none 0 0] 25)).alloc (.cells #[.int .i64 6, .int .i64 2, .int .i64 0, .int .i64 0, .slice (some ⟨r1, 0, none⟩) 1 1, .slice (some ⟨w2.heap.size, 0, none⟩) 1 1] 25)).heap.size (.agg #[.int .i64 6, .int .i64 2, .int .i64 0, .int .i64 0, .slice (some ⟨r1, 0, none⟩) 1 1, .slice (some ⟨w2.heap.size, 0, none⟩) 1 1]) contM) := Lib.hid (by
    have h1 := rows2_upA HR2b.out (.cells #[.int .i64 1, .int .i64 3, .int .i64 3, .int .i64 0, .slice A2 n2 c2, .slice none 0 0] 25)
    have h2 := lit_mats hm2
    rw [← size_more w2 (.cells #[.int .i64 1, .int .i64 3, .int .i64 3, .int .i64 0, .slice A2 n2 c2, .slice none 0 0] 25)] at h2
    exact (MatV.shut h1 h2).upA _)
  have HK2 : Hid (Blk ((w2.alloc (.cells #[.int .i64 1, .int .i64 3, .int .i64 3, .int .i64 0, .slice A2 n2 c2, .slice none 0 0] 25)).alloc (.cells #[.int .i64 6, .int .i64 2, .int .i64 0, .int .i64 0, .slice (some ⟨r1, 0, none⟩) 1 1, .slice (some ⟨w2.heap.size, 0, none⟩) 1 1] 25)) (w2.heap.size + 1) 25 #[.int .i64 6, .int .i64 2, .int .i64 0, .int .i64 0, .slice (some ⟨r1, 0, none⟩) 1 1, .slice (some ⟨w2.heap.size, 0, none⟩) 1 1]) := Lib.hid (by
    have h := Blk.new (w2.alloc (.cells #[.int .i64 1, .int .i64 3, .int .i64 3, .int .i64 0, .slice A2 n2 c2, .slice none 0 0] 25)) 25 #[.int .i64 6, .int .i64 2, .int .i64 0, .int .i64 0, .slice (some ⟨r1, 0, none⟩) 1 1, .slice (some ⟨w2.heap.size, 0, none⟩) 1 1]
    rw [size_more] at h
    exact h)
  have HK3 : Hid (Blk (((w2.alloc (.cells #[.int .i64 1, .int .i64 3, .int .i64 3, .int .i64 0, .slice A2 n2 c2, .slice none 0 0] 25)).alloc (.cells #[.int .i64 6, .int .i64 2, .int .i64 0, .int .i64 0, .slice (some ⟨r1, 0, none⟩) 1 1, .slice (some ⟨w2.heap.size, 0, none⟩) 1 1] 25)).alloc (.cells #[.int .i64 0, .int .i64 3, .int .i64 2, .int .i64 0, .slice none 0 0, .slice none 0 0] 25)) (w2.heap.size + 1 + 1) 25 #[.int .i64 0, .int .i64 3, .int .i64 2, .int .i64 0, .slice none 0 0, .slice none 0 0]) := Lib.hid (by
    have h := Blk.new ((w2.alloc (.cells #[.int .i64 1, .int .i64 3, .int .i64 3, .int .i64 0, .slice A2 n2 c2, .slice none 0 0] 25)).alloc (.cells #[.int .i64 6, .int .i64 2, .int .i64 0, .int .i64 0, .slice (some ⟨r1, 0, none⟩) 1 1, .slice (some ⟨w2.heap.size, 0, none⟩) 1 1] 25)) 25 #[.int .i64 0, .int .i64 3, .int .i64 2, .int .i64 0, .slice none 0 0, .slice none 0 0]
    simp only [size_more] at h
    exact h)
  have HW1 : Hid (Below w2.heap.size w2 (((w2.alloc (.cells #[.int .i64 1, .int .i64 3, .int .i64 3, .int .i64 0, .slice A2 n2 c2, .slice none 0 0] 25)).alloc (.cells #[.int .i64 6, .int .i64 2, .int .i64 0, .int .i64 0, .slice (some ⟨r1, 0, none⟩) 1 1, .slice (some ⟨w2.heap.size, 0, none⟩) 1 1] 25)).alloc (.cells #[.int .i64 0, .int .i64 3, .int .i64 2, .int .i64 0, .slice none 0 0, .slice none 0 0] 25))) := Lib.hid ((((Below.refl _ _).alloc (Nat.le_refl _) _).alloc (by simp) _).alloc (by simp; omega) _)
  have HW2 : Hid (Below ((w2.alloc (.cells #[.int .i64 1, .int .i64 3, .int .i64 3, .int .i64 0, .slice A2 n2 c2, .slice none 0 0] 25)).alloc (.cells #[.int .i64 6, .int .i64 2, .int .i64 0, .int .i64 0, .slice (some ⟨r1, 0, none⟩) 1 1, .slice (some ⟨w2.heap.size, 0, none⟩) 1 1] 25)).heap.size ((w2.alloc (.cells #[.int .i64 1, .int .i64 3, .int .i64 3, .int .i64 0, .slice A2 n2 c2, .slice none 0 0] 25)).alloc (.cells #[.int .i64 6, .int .i64 2, .int .i64 0, .int .i64 0, .slice (some ⟨r1, 0, none⟩) 1 1, .slice (some ⟨w2.heap.size, 0, none⟩) 1 1] 25)) (((w2.alloc (.cells #[.int .i64 1, .int .i64 3, .int .i64 3, .int .i64 0, .slice A2 n2 c2, .slice none 0 0] 25)).alloc (.cells #[.int .i64 6, .int .i64 2, .int .i64 0, .int .i64 0, .slice (some ⟨r1, 0, none⟩) 1 1, .slice (some ⟨w2.heap.size, 0, none⟩) 1 1] 25)).alloc (.cells #[.int .i64 0, .int .i64 3, .int .i64 2, .int .i64 0, .slice none 0 0, .slice none 0 0] 25))) := Lib.hid ((Below.refl _ _).alloc (Nat.le_refl _) _)
  clear hm2 HR2b
  go_wp2_with fail
  refine (triangle_any _).mono ?_
  rintro e w3 ⟨l3, rfl, hm3, hb3, A3, n3, c3, rfl⟩
  have hbA := below_next HW1.out (Nat.le_refl _) hb3
  have hbC := below_next HW2.out (Nat.le_refl _) hb3
  have hv1 := Lib.hid (HV1b.out.up hbA)
  have hk1 := Lib.hid (HK1b.out.below hbA HK1b.out.lt)
  have hB := Lib.hid (below_next HB2.out (Nat.le_refl _) hbA)
  have hE := Lib.hid (HE2.out.up hbA)
  have hv2 := Lib.hid (HV2.out.up hbC)
  have hk2 := Lib.hid (HK2.out.below hbC HK2.out.lt)
  have hk3 := Lib.hid (HK3.out.below hb3 HK3.out.lt)
  have hT := Lib.hid hm3
  clear hb3 hbA hbC HV1b HK1b HB2 HE2 HV2 HK2 HK3 HW1 HW2 hm3 HE0
  generalize w2.heap.size + 1 + 1 = m3 at *
  generalize w2.heap.size + 1 = m2 at *
  go_wp2_with fail
  refine (indep_any E triM _ _ [0, 1] _ (hT.out.upA _) sml_tri (Row.lit2 _ 0 1).here (by decide) (hE.out.upA _)).mono ?_
  rintro e w4 ⟨rfl, hb4⟩
  rw [ev_1]
  have hbA := below_next ((Below.refl w3.heap.size w3).alloc (Nat.le_refl _) _) (Nat.le_refl _) hb4
  replace hv1 := Lib.hid (hv1.out.up hbA)
  replace hv2 := Lib.hid (hv2.out.up hbA)
  replace hE := Lib.hid (hE.out.up hbA)
  replace hk1 := Lib.hid (hk1.out.below hbA hk1.out.lt)
  replace hk2 := Lib.hid (hk2.out.below hbA hk2.out.lt)
  replace hk3 := Lib.hid (hk3.out.below hbA hk3.out.lt)
  replace hB := Lib.hid (below_next hB.out (Nat.le_refl _) hbA)
  clear hbA hb4 hT
  go_wp2_with fail
  refine (triangle_any _).mono ?_
  rintro e w5 ⟨l5, rfl, hm5, hb5, A5, n5, c5, rfl⟩
  replace hv1 := Lib.hid (hv1.out.up hb5)
  replace hv2 := Lib.hid (hv2.out.up hb5)
  replace hE := Lib.hid (hE.out.up hb5)
  replace hk1 := Lib.hid (hk1.out.below hb5 hk1.out.lt)
  replace hk2 := Lib.hid (hk2.out.below hb5 hk2.out.lt)
  replace hk3 := Lib.hid (hk3.out.below hb5 hk3.out.lt)
  replace hB := Lib.hid (below_next hB.out (Nat.le_refl _) hb5)
  have hT := Lib.hid hm5
  clear hb5 hm5
  go_wp2_with fail
  refine (indep_any E triM _ _ [0, 1, 2] _ (hT.out.upA _) sml_tri (Row.lit3 _ 0 1 2).here (by decide) (hE.out.upA _)).mono ?_
  rintro e w6 ⟨rfl, hb6⟩
  rw [ev_2]
  have hbA := below_next ((Below.refl w5.heap.size w5).alloc (Nat.le_refl _) _) (Nat.le_refl _) hb6
  replace hv1 := Lib.hid (hv1.out.up hbA)
  replace hv2 := Lib.hid (hv2.out.up hbA)
  replace hE := Lib.hid (hE.out.up hbA)
  replace hk1 := Lib.hid (hk1.out.below hbA hk1.out.lt)
  replace hk2 := Lib.hid (hk2.out.below hbA hk2.out.lt)
  replace hk3 := Lib.hid (hk3.out.below hbA hk3.out.lt)
  replace hB := Lib.hid (below_next hB.out (Nat.le_refl _) hbA)
  clear hbA hb6 hT
  go_wp2_with fail
  refine (triangle_any _).mono ?_
  rintro e w7 ⟨l7, rfl, hm7, hb7, A7, n7, c7, rfl⟩
  replace hv1 := Lib.hid (hv1.out.up hb7)
  replace hv2 := Lib.hid (hv2.out.up hb7)
  replace hE := Lib.hid (hE.out.up hb7)
  replace hk1 := Lib.hid (hk1.out.below hb7 hk1.out.lt)
  replace hk2 := Lib.hid (hk2.out.below hb7 hk2.out.lt)
  replace hk3 := Lib.hid (hk3.out.below hb7 hk3.out.lt)
  replace hB := Lib.hid (below_next hB.out (Nat.le_refl _) hb7)
  have hT := Lib.hid hm7
  clear hb7 hm7
  go_wp2_with fail
  refine (irank_any E triM _ _ [0, 1, 2] _ (hT.out.upA _) sml_tri (Row.lit3 _ 0 1 2).here (by decide) (hE.out.upA _)).mono ?_
  rintro e w8 ⟨rfl, hb8⟩
  rw [ev_3]
  have hbA := below_next ((Below.refl w7.heap.size w7).alloc (Nat.le_refl _) _) (Nat.le_refl _) hb8
  replace hv1 := Lib.hid (hv1.out.up hbA)
  replace hv2 := Lib.hid (hv2.out.up hbA)
  replace hE := Lib.hid (hE.out.up hbA)
  replace hk1 := Lib.hid (hk1.out.below hbA hk1.out.lt)
  replace hk2 := Lib.hid (hk2.out.below hbA hk2.out.lt)
  replace hk3 := Lib.hid (hk3.out.below hbA hk3.out.lt)
  replace hB := Lib.hid (below_next hB.out (Nat.le_refl _) hbA)
  clear hbA hb8 hT
  have q0 := hk1.out.cell 0
  have q1 := hk1.out.cell 1
  have q2 := hk1.out.cell 2
  have q3 := hk1.out.cell 3
  have q4 := hk1.out.cell 4
  have q5 := hk1.out.cell 5
  go_wp2_with fail
  refine (irank_any E dualM _ _ [0, 1, 2] _ (hv1.out.upA _) sml_dualM (Row.lit3 _ 0 1 2).here (by decide) (hE.out.upA _)).mono ?_
  rintro e w9 ⟨rfl, hb9⟩
  rw [ev_4]
  have hbA := below_next ((Below.refl w8.heap.size w8).alloc (Nat.le_refl _) _) (Nat.le_refl _) hb9
  replace hv1 := Lib.hid (hv1.out.up hbA)
  replace hv2 := Lib.hid (hv2.out.up hbA)
  replace hE := Lib.hid (hE.out.up hbA)
  replace hk1 := Lib.hid (hk1.out.below hbA hk1.out.lt)
  replace hk2 := Lib.hid (hk2.out.below hbA hk2.out.lt)
  replace hk3 := Lib.hid (hk3.out.below hbA hk3.out.lt)
  replace hB := Lib.hid (below_next hB.out (Nat.le_refl _) hbA)
  clear hbA hb9 q0 q1 q2 q3 q4 q5
  have q0 := hk1.out.cell 0
  have q1 := hk1.out.cell 1
  have q2 := hk1.out.cell 2
  have q3 := hk1.out.cell 3
  have q4 := hk1.out.cell 4
  have q5 := hk1.out.cell 5
  go_wp2_with fail
  refine (indep_any E dualM _ _ [2] _ (hv1.out.upA _) sml_dualM (Row.lit1 _ 2).here (by decide) (hE.out.upA _)).mono ?_
  rintro e w10 ⟨rfl, hb10⟩
  rw [ev_5]
  have hbA := below_next ((Below.refl w9.heap.size w9).alloc (Nat.le_refl _) _) (Nat.le_refl _) hb10
  replace hv1 := Lib.hid (hv1.out.up hbA)
  replace hv2 := Lib.hid (hv2.out.up hbA)
  replace hE := Lib.hid (hE.out.up hbA)
  replace hk1 := Lib.hid (hk1.out.below hbA hk1.out.lt)
  replace hk2 := Lib.hid (hk2.out.below hbA hk2.out.lt)
  replace hk3 := Lib.hid (hk3.out.below hbA hk3.out.lt)
  replace hB := Lib.hid (below_next hB.out (Nat.le_refl _) hbA)
  clear hbA hb10 q0 q1 q2 q3 q4 q5
  have q0 := hk1.out.cell 0
  have q1 := hk1.out.cell 1
  have q2 := hk1.out.cell 2
  have q3 := hk1.out.cell 3
  have q4 := hk1.out.cell 4
  have q5 := hk1.out.cell 5
  go_wp2_with fail
  refine (indep_any E dualM _ _ [1, 2] _ (hv1.out.upA _) sml_dualM (Row.lit2 _ 1 2).here (by decide) (hE.out.upA _)).mono ?_
  rintro e w11 ⟨rfl, hb11⟩
  rw [ev_6]
  have hbA := below_next ((Below.refl w10.heap.size w10).alloc (Nat.le_refl _) _) (Nat.le_refl _) hb11
  replace hv1 := Lib.hid (hv1.out.up hbA)
  replace hv2 := Lib.hid (hv2.out.up hbA)
  replace hE := Lib.hid (hE.out.up hbA)
  replace hk1 := Lib.hid (hk1.out.below hbA hk1.out.lt)
  replace hk2 := Lib.hid (hk2.out.below hbA hk2.out.lt)
  replace hk3 := Lib.hid (hk3.out.below hbA hk3.out.lt)
  replace hB := Lib.hid (below_next hB.out (Nat.le_refl _) hbA)
  clear hbA hb11 q0 q1 q2 q3 q4 q5
  have q0 := hk2.out.cell 0
  have q1 := hk2.out.cell 1
  have q2 := hk2.out.cell 2
  have q3 := hk2.out.cell 3
  have q4 := hk2.out.cell 4
  have q5 := hk2.out.cell 5
  go_wp2_with fail
  refine (indep_any E contM _ _ [1] _ (hv2.out.upA _) sml_contM (Row.lit1 _ 1).here (by decide) (hE.out.upA _)).mono ?_
  rintro e w12 ⟨rfl, hb12⟩
  rw [ev_7]
  have hbA := below_next ((Below.refl w11.heap.size w11).alloc (Nat.le_refl _) _) (Nat.le_refl _) hb12
  replace hv1 := Lib.hid (hv1.out.up hbA)
  replace hv2 := Lib.hid (hv2.out.up hbA)
  replace hE := Lib.hid (hE.out.up hbA)
  replace hk1 := Lib.hid (hk1.out.below hbA hk1.out.lt)
  replace hk2 := Lib.hid (hk2.out.below hbA hk2.out.lt)
  replace hk3 := Lib.hid (hk3.out.below hbA hk3.out.lt)
  replace hB := Lib.hid (below_next hB.out (Nat.le_refl _) hbA)
  clear hbA hb12 q0 q1 q2 q3 q4 q5
  have q0 := hk2.out.cell 0
  have q1 := hk2.out.cell 1
  have q2 := hk2.out.cell 2
  have q3 := hk2.out.cell 3
  have q4 := hk2.out.cell 4
  have q5 := hk2.out.cell 5
  go_wp2_with fail
  refine (indep_any E contM _ _ [0, 1] _ (hv2.out.upA _) sml_contM (Row.lit2 _ 0 1).here (by decide) (hE.out.upA _)).mono ?_
  rintro e w13 ⟨rfl, hb13⟩
  rw [ev_8]
  have hbA := below_next ((Below.refl w12.heap.size w12).alloc (Nat.le_refl _) _) (Nat.le_refl _) hb13
  replace hv1 := Lib.hid (hv1.out.up hbA)
  replace hv2 := Lib.hid (hv2.out.up hbA)
  replace hE := Lib.hid (hE.out.up hbA)
  replace hk1 := Lib.hid (hk1.out.below hbA hk1.out.lt)
  replace hk2 := Lib.hid (hk2.out.below hbA hk2.out.lt)
  replace hk3 := Lib.hid (hk3.out.below hbA hk3.out.lt)
  replace hB := Lib.hid (below_next hB.out (Nat.le_refl _) hbA)
  clear hbA hb13 q0 q1 q2 q3 q4 q5
  have q0 := hk3.out.cell 0
  have q1 := hk3.out.cell 1
  have q2 := hk3.out.cell 2
  have q3 := hk3.out.cell 3
  have q4 := hk3.out.cell 4
  have q5 := hk3.out.cell 5
  go_wp2_with fail
  refine (irank_any E unifM _ _ [0] _ (plain_mat _ _ 0 3 2 0) sml_unifM (Row.lit1 _ 0).here (by decide) (hE.out.upA _)).mono ?_
  rintro e w14 ⟨rfl, hb14⟩
  rw [ev_9]
  have hbA := below_next ((Below.refl w13.heap.size w13).alloc (Nat.le_refl _) _) (Nat.le_refl _) hb14
  replace hv1 := Lib.hid (hv1.out.up hbA)
  replace hv2 := Lib.hid (hv2.out.up hbA)
  replace hE := Lib.hid (hE.out.up hbA)
  replace hk1 := Lib.hid (hk1.out.below hbA hk1.out.lt)
  replace hk2 := Lib.hid (hk2.out.below hbA hk2.out.lt)
  replace hk3 := Lib.hid (hk3.out.below hbA hk3.out.lt)
  replace hB := Lib.hid (below_next hB.out (Nat.le_refl _) hbA)
  clear hbA hb14 q0 q1 q2 q3 q4 q5
  have q0 := hk3.out.cell 0
  have q1 := hk3.out.cell 1
  have q2 := hk3.out.cell 2
  have q3 := hk3.out.cell 3
  have q4 := hk3.out.cell 4
  have q5 := hk3.out.cell 5
  go_wp2_with fail
  refine (irank_any E unifM _ _ [3] _ (plain_mat _ _ 0 3 2 0) sml_unifM (Row.lit1 _ 3).here (by decide) (hE.out.upA _)).mono ?_
  rintro e w15 ⟨rfl, hb15⟩
  rw [ev_10]
  have hbA := below_next ((Below.refl w14.heap.size w14).alloc (Nat.le_refl _) _) (Nat.le_refl _) hb15
  replace hv1 := Lib.hid (hv1.out.up hbA)
  replace hv2 := Lib.hid (hv2.out.up hbA)
  replace hE := Lib.hid (hE.out.up hbA)
  replace hk1 := Lib.hid (hk1.out.below hbA hk1.out.lt)
  replace hk2 := Lib.hid (hk2.out.below hbA hk2.out.lt)
  replace hk3 := Lib.hid (hk3.out.below hbA hk3.out.lt)
  replace hB := Lib.hid (below_next hB.out (Nat.le_refl _) hbA)
  clear hbA hb15 q0 q1 q2 q3 q4 q5
  have q0 := hk3.out.cell 0
  have q1 := hk3.out.cell 1
  have q2 := hk3.out.cell 2
  have q3 := hk3.out.cell 3
  have q4 := hk3.out.cell 4
  have q5 := hk3.out.cell 5
  go_wp2_with fail
  refine (imay_any E unifM _ _ [] _ (plain_mat _ _ 0 3 2 0) sml_unifM (Row.nil_ _ _) (by decide) hE.out).mono ?_
  rintro e w16 ⟨rfl, hb16⟩
  rw [ev_may.2.2.2.2.2.2.2.2.2.1]
  have hbA := hb16
  replace hv1 := Lib.hid (hv1.out.up hbA)
  replace hv2 := Lib.hid (hv2.out.up hbA)
  replace hE := Lib.hid (hE.out.up hbA)
  replace hk1 := Lib.hid (hk1.out.below hbA hk1.out.lt)
  replace hk2 := Lib.hid (hk2.out.below hbA hk2.out.lt)
  replace hk3 := Lib.hid (hk3.out.below hbA hk3.out.lt)
  replace hB := Lib.hid (below_next hB.out (Nat.le_refl _) hbA)
  clear hbA hb16 q0 q1 q2 q3 q4 q5
  have q0 := hk3.out.cell 0
  have q1 := hk3.out.cell 1
  have q2 := hk3.out.cell 2
  have q3 := hk3.out.cell 3
  have q4 := hk3.out.cell 4
  have q5 := hk3.out.cell 5
  go_wp2_with fail
  refine (imay_any E unifM _ _ [1, 0] _ (plain_mat _ _ 0 3 2 0) sml_unifM (Row.lit2 _ 1 0).here (by decide) (hE.out.upA _)).mono ?_
  rintro e w17 ⟨rfl, hb17⟩
  rw [ev_may.2.2.2.2.2.2.2.2.2.2]
  have hbA := below_next ((Below.refl w16.heap.size w16).alloc (Nat.le_refl _) _) (Nat.le_refl _) hb17
  replace hv1 := Lib.hid (hv1.out.up hbA)
  replace hv2 := Lib.hid (hv2.out.up hbA)
  replace hE := Lib.hid (hE.out.up hbA)
  replace hk1 := Lib.hid (hk1.out.below hbA hk1.out.lt)
  replace hk2 := Lib.hid (hk2.out.below hbA hk2.out.lt)
  replace hk3 := Lib.hid (hk3.out.below hbA hk3.out.lt)
  replace hB := Lib.hid (below_next hB.out (Nat.le_refl _) hbA)
  clear hbA hb17 q0 q1 q2 q3 q4 q5
  go_wp2
  go_ret
  exact ⟨rfl, hB.out⟩

end Wp
end Go.Proofs.YtbjngggcpojefaaGreatDoor
