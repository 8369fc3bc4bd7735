/- The program's lookAt, look, Deep and Check, walked. -/
import Derived.Test.YtgadbnbhgpehjaaGreatDoorQWalkB
import Derived.Test.YtgadbnbhgpehjaaGreatDoorQWalkA
set_option maxHeartbeats 8000000
set_option maxRecDepth 100000
open Go.Lib (hid)
open Nat (le_refl)
namespace Go.Proofs.YtgadbnbhgpehjaaGreatDoor
open Go.RowKit
namespace Wp
theorem Yp7 (m : Mat) (v : Value) (w : World) (hv : MatV w w.heap.size v m) (hs : Sml m) (hM : Met w) (h1 : 0 ≤ m.t ∧ m.t < 10) (h2 : 0 ≤ m.n ∧ m.n ≤ 64 ∧ 0 ≤ m.a ∧ m.a ≤ 64) (h3 : Z5_ (form m.t) m = true) :
  Calls Tryz.prog 155 #[v] w (Says w (fitsB m)) := by
 obtain ⟨_, _, t3, t4, _⟩ := takes_iff.1 h3
 have hl0 := sml_l hs
 obtain ⟨t, n, a, b, l, i⟩ := m
 simp only [Mat.t, Mat.n, Mat.a, Mat.l, Mat.i] at h1 h2 t3 t4 hl0
 rcases (by omega : t = 0 ∨ t = 1 ∨ t = 2 ∨ t = 3 ∨ t = 4 ∨ t = 5 ∨ t = 6 ∨ 7 ≤ t) with rfl | rfl | rfl | rfl | rfl | rfl | rfl | h
 ·exact Vv1 n a b l i v w hv
 ·exact Vv2 n a b l i v w hv hl0
 ·have : (l.length : Int) = 2 := t3
  exact Vv5 n a b l i v w hv (by omega) h2.2.1 h2.2.2.2
 ·exact Vv3 n a b l i v w hv
 ·exact Vv4 n a b l i v w hv hM
 ·have e1 : (l.length : Int) = 1 := t3
  have e2 : (1 : Int) ≤ (i.length : Int) := t4
  exact Vv6 n a b l i v w hv hs (by omega) (by omega)
 ·have e1 : (l.length : Int) = 1 := t3
  have e2 : (1 : Int) ≤ (i.length : Int) := t4
  exact Vv7 n a b l i v w hv hs (by omega) (by omega)
 ·exact Zq7 _ v w hv hs h
def badV (E : Nat → Addr) : Nat → Value
 | 0 => .nilIface
 | k + 1 => eS (E (k + 1))
theorem Yp8 {m : Mat} (h : m.t < 0 ∨ 10 ≤ m.t) : bad m = 1 := if_pos h
theorem Xs1 {m : Mat} (h : ¬ (m.t < 0 ∨ 10 ≤ m.t)) (h2 : m.n < 0 ∨ 64 < m.n ∨ m.a < 0 ∨ 64 < m.a) : bad m = 2 := by
 unfold bad
 rw [if_neg h, if_pos h2]
theorem Yp9 {m : Mat} (h : ¬ (m.t < 0 ∨ 10 ≤ m.t)) (h2 : ¬ (m.n < 0 ∨ 64 < m.n ∨ m.a < 0 ∨ 64 < m.a)) (h3 : Z5_ (form m.t) m = false) : bad m = 3 := by
 unfold bad
 rw [if_neg h, if_neg h2, if_pos h3]
theorem Xb9 {m : Mat} (h : ¬ (m.t < 0 ∨ 10 ≤ m.t)) (h2 : ¬ (m.n < 0 ∨ 64 < m.n ∨ m.a < 0 ∨ 64 < m.a)) (h3 : Z5_ (form m.t) m = true) : bad m = if fitsB m = false then 4 else 0 := by
 unfold bad
 rw [if_neg h, if_neg h2, if_neg (by rw [h3]; decide)]
theorem Zb3 (E : Nat → Addr) (m : Mat) (v : Value) (w : World) (hv : MatV w w.heap.size v m) (hE : Env E w) (h : (m.t < 0 ∨ 10 ≤ m.t) ∨ (m.n < 0 ∨ 64 < m.n ∨ m.a < 0 ∨ 64 < m.a)) :
  Calls Tryz.prog 132 #[v] w (fun e w' => e = .returned (badV E (bad m)) ∧ Below w.heap.size w w') := by
 obtain ⟨lv, iv, rfl, _, _⟩ := hv.open
 have Hb0 := hid (Z1_ w m lv iv)
 have hE0 := hE.up Hb0.out
 have g1 := hE0.g1
 have g2 := hE0.g2
 unfold boxed eS at *
 clear hE hE0 hv
 by_cases a1 : m.t < 0
 ·rw [Yp8 (.inl a1)]
  go_enter Tryz.func132, Tryz.ntmps132
  go_wp2
  go_ret
  exact ⟨rfl, Hb0.out⟩
 by_cases a2 : 10 ≤ m.t
 ·rw [Yp8 (.inr a2)]
  go_enter Tryz.func132, Tryz.ntmps132
  go_wp2
  go_ret
  exact ⟨rfl, Hb0.out⟩
 rw [Xs1 (by omega) (by omega)]
 by_cases a3 : m.n < 0
 ·go_enter Tryz.func132, Tryz.ntmps132
  go_wp2
  go_ret
  exact ⟨rfl, Hb0.out⟩
 by_cases a4 : 64 < m.n
 ·go_enter Tryz.func132, Tryz.ntmps132
  go_wp2
  go_ret
  exact ⟨rfl, Hb0.out⟩
 by_cases a5 : m.a < 0
 ·go_enter Tryz.func132, Tryz.ntmps132
  go_wp2
  go_ret
  exact ⟨rfl, Hb0.out⟩
 have a6 : 64 < m.a := by omega
 clear h
 go_enter Tryz.func132, Tryz.ntmps132
 go_wp2
 go_ret
 exact ⟨rfl, Hb0.out⟩
open Go.RowKit
def Bad (E : Nat → Addr) (k : Nat) (w : World) (e : Ending) (w' : World) : Prop := e = .returned (badV E k) ∧ Below w.heap.size w w'
theorem Yr0 (E : Nat → Addr) (m : Mat) (v : Value) (w : World) (hv : MatV w w.heap.size v m) (hs : Sml m) (hE : Env E w) (h1 : ¬ (m.t < 0 ∨ 10 ≤ m.t)) (h2 : ¬ (m.n < 0 ∨ 64 < m.n ∨ m.a < 0 ∨ 64 < m.a)) :
  Calls Tryz.prog 132 #[v] w (Bad E (bad m) w) := by
 have Hfits := hid (fun (v : Value) (W : World) (hv : MatV W W.heap.size v m) (hE : Env E W) (h3 : Z5_ (form m.t) m = true) => Yp7 m v W hv hs hE.tab (by omega) (by omega) h3)
 have Htakes := hid (fun (v : Value) (W : World) (hv : MatV W W.heap.size v m) => Yp6 (form m.t) m v W hv hs)
 have Hv0 := hid hv
 have hbt : ∀ b, Z5_ (form m.t) m = b → bad m = if b = false then 3 else if fitsB m = false then 4 else 0 := by
  intro b hb
  cases b
  ·exact Yp9 h1 h2 hb
  ·exact Xb9 h1 h2 hb
 have Hbt := hid hbt
 clear hs hbt
 obtain ⟨lv, iv, hve, _, _⟩ := hv.open
 have Hb0 := hid (Z1_ w m lv iv)
 have HE := hid (hE.up Hb0.out)
 have Hv := hid (hv.up Hb0.out)
 have Hbox := hid (G5_ (w := w) (t := 25) (cs := #[.int .i64 m.t, .int .i64 m.n, .int .i64 m.a, .int .i64 m.b, lv, iv]))
 have gb := (Blk.new w 25 #[.int .i64 m.t, .int .i64 m.n, .int .i64 m.a, .int .i64 m.b, lv, iv]).cell
 unfold boxed at *
 obtain ⟨W0, hW0⟩ : ∃ W0, W0 = w.alloc (.cells #[.int .i64 m.t, .int .i64 m.n, .int .i64 m.a, .int .i64 m.b, lv, iv] 25) := ⟨_, rfl⟩
 have hsz : W0.heap.size = w.heap.size + 1 := by rw [hW0]; simp
 have HW0 := hid hW0
 rw [← hW0] at Hb0 Hbox HE Hv gb
 rw [← hsz] at Hbox
 have g0 := gb 0
 have g1 := gb 1
 have g2 := gb 2
 obtain ⟨T, hT⟩ : ∃ T : Nat, m.t = (T : Int) := ⟨m.t.toNat, by omega⟩
 have hT10 : T < 10 := by omega
 have hTI : (T : Int) < 10 := by omega
 have a1 : ¬ m.t < 0 := by omega
 have a2 : ¬ 10 ≤ m.t := by omega
 have a3 : ¬ m.n < 0 := by omega
 have a4 : ¬ 64 < m.n := by omega
 have a5 : ¬ m.a < 0 := by omega
 have a6 : ¬ 64 < m.a := by omega
 have Hf : Hid (∀ W, Below W0.heap.size W0 W → (W.cell? ⟨4, T * 5, none⟩ = some (.bool (form m.t).fa) ∧ W.cell? ⟨4, T * 5 + 1, none⟩ = some (.bool (form m.t).fb) ∧ W.cell? ⟨4, T * 5 + 2, none⟩ = some (.int .i64 (form m.t).lists) ∧ W.cell? ⟨4, T * 5 + 3, none⟩ = some (.int .i64 (form m.t).least) ∧ W.cell? ⟨4, T * 5 + 4, none⟩ = some (.int .i64 (form m.t).most))) := fun W hW => by
  have h := HE.out.up hW
  rw [hT]
  exact ⟨h.f0 T hT10, h.f1 T hT10, h.f2 T hT10, h.f3 T hT10, h.f4 T hT10⟩
 have Hmt := hid hT
 clear hE hv gb hsz h1 h2
 generalize form m.t = f at *
 rw [hT] at g0 a1 a2 Hbox
 subst hve
 rw [hT] at Hv
 rw [hT]
 have hab : IntKind.i64.wrap ((T : Int) * 5) = (T : Int) * 5 := by rw [IntKind.wrap_i64]; omega
 clear hT
 rcases hb : Z5_ f m with _ | _
 ·rw [Hbt.out false hb, if_pos rfl]
  have Hb := hid hb
  have Hc : Hid (∀ W, Below W0.heap.size W0 W → Calls Tryz.prog 154 #[.agg #[.bool f.fa, .bool f.fb, .int .i64 f.lists, .int .i64 f.least, .int .i64 f.most], .agg #[.int .i64 (T : Int), .int .i64 m.n, .int .i64 m.a, .int .i64 m.b, lv, iv]] W fun e w' => e = .returned (.bool false) ∧ Below W0.heap.size W0 w') := fun W hW =>
   (show Calls _ _ #[formV f, _] W _ from (Htakes.out _ W (Hv.out.up hW)).mono fun _ _ ⟨h2, h3⟩ => ⟨by rw [h2, Hb.out], Z0_ hW (le_refl _) h3⟩)
  clear hb
  go_enter Tryz.func132, Tryz.ntmps132
  go_wp2
  rw [← Hmt.out, ← HW0.out, Hmt.out]
  clear hW0 g0 g1 g2 a1 a2 a3 a4 a5 a6
  refine Z6_ W0.heap.size W0 (by kernel_rfl) (by kernel_rfl) (Below.refl _ _) ?_
  iterate 8 (first
   | go_big_quiet_step (with_reducible exact Hc.out _)
   | (go_big_quiet_want; apply Exists.intro; refine ⟨fun W hW => ?_, ?_⟩; (· have q := Hbox.out W hW; have q0 := q 0; have q1 := q 1; have q2 := q 2; have q3 := q 3; have q4 := q 4; have q5 := q 5; clear q; obtain ⟨f0, f1, f2, f3, f4⟩ := Hf.out W hW; go_simp; first | exact rfl | exact ⟨rfl, rfl⟩); go_simp; go_big_quiet_on))
  refine wpQuiet_nil ?_
  intro w5 hB5
  have gE := (HE.out.up hB5).g3
  have Hb5 := hid (Hb0.out.trans (hB5.mono Hb0.out.size))
  unfold eS at gE
  clear hB5
  go_wp2
  go_ret
  exact ⟨rfl, Hb5.out⟩
 ·rw [Hbt.out true hb, if_neg (by decide)]
  have Hfits' : Hid (∀ W, MatV W W.heap.size (.agg #[.int .i64 (T : Int), .int .i64 m.n, .int .i64 m.a, .int .i64 m.b, lv, iv]) m → Env E W → Calls Tryz.prog 155 #[.agg #[.int .i64 (T : Int), .int .i64 m.n, .int .i64 m.a, .int .i64 m.b, lv, iv]] W (Says W (fitsB m))) := fun W h1 h2 => Hfits.out _ W h1 h2 hb
  generalize fitsB m = c at *
  cases c
  ·rw [if_pos rfl]
   have Hb := hid hb
   have Hc : Hid (∀ W, Below W0.heap.size W0 W → Calls Tryz.prog 154 #[.agg #[.bool f.fa, .bool f.fb, .int .i64 f.lists, .int .i64 f.least, .int .i64 f.most], .agg #[.int .i64 (T : Int), .int .i64 m.n, .int .i64 m.a, .int .i64 m.b, lv, iv]] W fun e w' => e = .returned (.bool true) ∧ Below W0.heap.size W0 w') := fun W hW =>
    (show Calls _ _ #[formV f, _] W _ from (Htakes.out _ W (Hv.out.up hW)).mono fun _ _ ⟨h2, h3⟩ => ⟨by rw [h2, Hb.out], Z0_ hW (le_refl _) h3⟩)
   clear hb
   go_enter Tryz.func132, Tryz.ntmps132
   go_wp2
   rw [← Hmt.out, ← HW0.out, Hmt.out]
   clear hW0 g0 g1 g2 a1 a2 a3 a4 a5 a6
   refine Z6_ W0.heap.size W0 (by kernel_rfl) (by kernel_rfl) (Below.refl _ _) ?_
   iterate 8 (first
    | go_big_quiet_step (with_reducible exact Hc.out _)
    | (go_big_quiet_want; apply Exists.intro; refine ⟨fun W hW => ?_, ?_⟩; (· have q := Hbox.out W hW; have q0 := q 0; have q1 := q 1; have q2 := q 2; have q3 := q 3; have q4 := q 4; have q5 := q 5; clear q; obtain ⟨f0, f1, f2, f3, f4⟩ := Hf.out W hW; go_simp; first | exact rfl | exact ⟨rfl, rfl⟩); go_simp; go_big_quiet_on))
   refine wpQuiet_nil ?_
   intro w5 hB5
   have q := Hbox.out w5 hB5
   have q0 := q 0
   have q1 := q 1
   have q2 := q 2
   have q3 := q 3
   have q4 := q 4
   have q5 := q 5
   have HE5 := hid (HE.out.up hB5)
   have Hv5 := hid (Hv.out.up hB5)
   have Hb5 := hid (Hb0.out.trans (hB5.mono Hb0.out.size))
   clear hB5 q
   go_wp2_with fail
   refine (Hfits'.out w5 Hv5.out HE5.out).mono ?_
   rintro e w6 ⟨rfl, hb6⟩
   have HE6 := HE5.out.up hb6
   have gE := HE6.g4
   have Hb6 := hid (Z0_ Hb5.out (le_refl _) hb6)
   unfold eS at gE
   clear hb6 HE6
   go_wp2
   go_ret
   exact ⟨rfl, Hb6.out⟩
  ·rw [if_neg (by decide)]
   have Hb := hid hb
   have Hc : Hid (∀ W, Below W0.heap.size W0 W → Calls Tryz.prog 154 #[.agg #[.bool f.fa, .bool f.fb, .int .i64 f.lists, .int .i64 f.least, .int .i64 f.most], .agg #[.int .i64 (T : Int), .int .i64 m.n, .int .i64 m.a, .int .i64 m.b, lv, iv]] W fun e w' => e = .returned (.bool true) ∧ Below W0.heap.size W0 w') := fun W hW =>
    (show Calls _ _ #[formV f, _] W _ from (Htakes.out _ W (Hv.out.up hW)).mono fun _ _ ⟨h2, h3⟩ => ⟨by rw [h2, Hb.out], Z0_ hW (le_refl _) h3⟩)
   clear hb
   go_enter Tryz.func132, Tryz.ntmps132
   go_wp2
   rw [← Hmt.out, ← HW0.out, Hmt.out]
   clear hW0 g0 g1 g2 a1 a2 a3 a4 a5 a6
   refine Z6_ W0.heap.size W0 (by kernel_rfl) (by kernel_rfl) (Below.refl _ _) ?_
   iterate 8 (first
    | go_big_quiet_step (with_reducible exact Hc.out _)
    | (go_big_quiet_want; apply Exists.intro; refine ⟨fun W hW => ?_, ?_⟩; (· have q := Hbox.out W hW; have q0 := q 0; have q1 := q 1; have q2 := q 2; have q3 := q 3; have q4 := q 4; have q5 := q 5; clear q; obtain ⟨f0, f1, f2, f3, f4⟩ := Hf.out W hW; go_simp; first | exact rfl | exact ⟨rfl, rfl⟩); go_simp; go_big_quiet_on))
   refine wpQuiet_nil ?_
   intro w5 hB5
   have q := Hbox.out w5 hB5
   have q0 := q 0
   have q1 := q 1
   have q2 := q 2
   have q3 := q 3
   have q4 := q 4
   have q5 := q 5
   have HE5 := hid (HE.out.up hB5)
   have Hv5 := hid (Hv.out.up hB5)
   have Hb5 := hid (Hb0.out.trans (hB5.mono Hb0.out.size))
   clear hB5 q
   go_wp2_with fail
   refine (Hfits'.out w5 Hv5.out HE5.out).mono ?_
   rintro e w6 ⟨rfl, hb6⟩
   have HE6 := HE5.out.up hb6
   have gE := HE6.g4
   have Hb6 := hid (Z0_ Hb5.out (le_refl _) hb6)
   unfold eS at gE
   clear hb6 HE6
   go_wp2
   go_ret
   exact ⟨rfl, Hb6.out⟩
theorem Zb4 (E : Nat → Addr) (m : Mat) (v : Value) (w : World) (hv : MatV w w.heap.size v m) (hs : Sml m) (hE : Env E w) : Calls Tryz.prog 132 #[v] w (Bad E (bad m) w) := by
 by_cases h1 : m.t < 0 ∨ 10 ≤ m.t
 ·exact Zb3 E m v w hv hE (.inl h1)
 ·by_cases h2 : m.n < 0 ∨ 64 < m.n ∨ m.a < 0 ∨ 64 < m.a
  ·exact Zb3 E m v w hv hE (.inr h2)
  ·exact Yr0 E m v w hv hs hE h1 h2
open Go.RowKit
def Yq1 (E : Nat → Addr) (w : World) (b : Bool) (e : Ending) (w' : World) : Prop :=
 (b = true ∧ e = .returned .nilIface ∨ b = false ∧ ∃ t ts j, 1 ≤ j ∧ j ≤ 4 ∧ e = .returned (chain (t :: ts) (eS (E j)))) ∧ Below w.heap.size w w'
theorem Ye9 {E : Nat → Addr} {w w' : World} {b : Bool} (h : b = true) (hb : Below w.heap.size w w') : Yq1 E w b (.returned .nilIface) w' := ⟨.inl ⟨h, rfl⟩, hb⟩
theorem P4_ {E : Nat → Addr} {w w' : World} {b : Bool} {t : Int} {ts : List Int} {j : Nat} {v : Value} (h : b = false) (h1 : 1 ≤ j ∧ j ≤ 4) (hv : v = chain (t :: ts) (eS (E j))) (hb : Below w.heap.size w w') : Yq1 E w b (.returned v) w' := ⟨.inr ⟨h, t, ts, j, h1.1, h1.2, by rw [hv]⟩, hb⟩
def Mid (E : Nat → Addr) (k : Nat) (i : List Mat) (n : Nat) (ve : Value) : Prop :=
 (ve = .nilIface ∧ ∀ j, j < n → ok k (i.getD j default) = true) ∨ ∃ t ts j, 1 ≤ j ∧ j ≤ 4 ∧ ve = chain (t :: ts) (eS (E j)) ∧ i.all (ok k) = false
theorem Vv8 {k j : Nat} {i : List Mat} (hj : j < i.length) (h : ok k (i.getD j default) = false) : i.all (ok k) = false := by
 rw [← Bool.not_eq_true, List.all_eq_true]
 intro e
 rw [e _ (Y1_ i j default hj)] at h
 cases h
theorem Xs2 {k : Nat} {i : List Mat} (h : ∀ j, j < i.length → ok k (i.getD j default) = true) : i.all (ok k) = true := by
 rw [List.all_eq_true]
 intro x hx
 obtain ⟨j, hj, rfl⟩ := List.mem_iff_getElem.1 hx
 have := h j hj
 rwa [show i.getD j default = i[j] by simp [List.getD, hj]] at this
theorem ok_is {k : Nat} {m : Mat} : ok (k + 1) m = (decide (bad m = 0) && m.i.all (ok k)) := rfl
theorem Vv9 (m : Mat) : bad m ≤ 4 := by
 unfold bad
 split
 ·omega
 split
 ·omega
 split
 ·omega
 split <;> omega
theorem Xc0 (E : Nat → Addr) : ∀ (k : Nat) (m : Mat) (v : Value) (w : World), MatV w w.heap.size v m → Sml m → Env E w → dp k m ≤ k → Calls Tryz.prog 108 #[v] w (Yq1 E w (ok k m)) := by
 intro k
 induction k with
 | zero => intro m v w _ _ _ h; exact absurd h (by have := Zz8 0 m; omega)
 | succ k ih =>
  intro m v w hv hs hE hd
  have Hs := hid hs
  have Ih := hid ih
  have Hdp : Hid (bad m = 0 → ∀ j, j < m.i.length → dp k (m.i.getD j default) ≤ k) := fun hb j hj => by
   have hx := Y1_ m.i j default hj
   have hn : nest m.t := by
    refine Decidable.by_contra fun hn => ?_
    rw [N9_ hb hn] at hx
    cases hx
   have := W0_ (k := k) hn hx
   omega
  have hi0 := U1_ hs
  have hiI : (m.i.length : Int) ≤ 1000 := by omega
  obtain ⟨lv, iv, hve, _, hi⟩ := hv.open
  obtain ⟨Ai, ci, hiv, _, hik⟩ := hi
  subst hiv
  have Hik := hid hik
  have Hb0 := hid (Z1_ w m lv (.slice Ai m.i.length ci))
  have HE := hid (hE.up Hb0.out)
  have Hv := hid (hv.up Hb0.out)
  have Hblk := hid (Z3_ w m lv (.slice Ai m.i.length ci))
  have hble := Vv9 m
  clear ih hs hE hd hi0 hik hv
  subst hve
  have gb := Hblk.out.cell
  have g0 := gb 0
  have g1 := gb 1
  have g2 := gb 2
  have g3 := gb 3
  have g4 := gb 4
  have g5 := gb 5
  unfold boxed at *
  rcases hb : bad m with _ | q
  ·have Hb := hid hb
   have Hok : Hid (ok (k + 1) m = m.i.all (ok k)) := by
    show _ = _
    rw [ok_is, hb]
    rfl
   clear hb hble gb
   go_enter Tryz.func108, Tryz.ntmps108
   go_wp2_with fail
   refine (Zb4 E m _ _ Hv.out Hs.out HE.out).mono ?_
   rintro e w1 ⟨rfl, hb1⟩
   rw [Hb.out]
   have Hb1 := hid (Z0_ Hb0.out (le_refl _) hb1)
   have Hblk1 := hid (Hblk.out.below hb1 (by simp))
   have HE1 := hid (HE.out.up hb1)
   clear hb1 g0 g1 g2 g3 g4 g5
   simp only [badV]
   go_wp2
   go_loopw [3, 4] (fun ve vi wr => ∃ n : Nat, vi = .int .i64 n ∧ n ≤ m.i.length ∧ Mid E k m.i n ve ∧ Blk wr w.heap.size 25 #[.int .i64 m.t, .int .i64 m.n, .int .i64 m.a, .int .i64 m.b, lv, .slice Ai m.i.length ci] ∧ Env E wr ∧ Below w.heap.size w wr) (fun _ vi _ => m.i.length - (intOf vi).toNat)
   case atStart => exact ⟨0, rfl, Nat.zero_le _, .inl ⟨rfl, fun j hj => absurd hj (Nat.not_lt_zero _)⟩, Hblk1.out, HE1.out, Hb1.out⟩
   case round =>
    obtain ⟨n, rfl, hn, hmid, hblk, hEr, hbr⟩ := hrel
    have Hblkr := hid hblk
    have HEr := hid hEr
    have Hbr := hid hbr
    have c0 := hblk.cell 0
    have c5 := hblk.cell 5
    clear hblk hEr hbr
    rcases hmid with ⟨rfl, hall⟩ | ⟨t, ts, q, hq1, hq4, rfl, hno⟩
    ·by_cases hlt : n < m.i.length
     ·have hltI : (n : Int) < (m.i.length : Int) := by omega
      obtain ⟨ad, u, hA, hab, hsix, hmv⟩ := Hik.out n hlt
      subst hA
      have hsix1 := hsix.below Hbr.out (by rw [Z2_]; exact hab)
      have hmv1 := (hmv.bel Hbr.out).mono Hbr.out.size
      have Hcall := hid (Ih.out (m.i.getD n default) u wr hmv1 (sml_i Hs.out (Y1_ _ _ _ hlt)) HEr.out (Hdp.out Hb.out n hlt))
      have Hall := hid hall
      have Hno := hid (fun h => Vv8 (k := k) hlt h)
      obtain ⟨x0, x1, x2, x3, x4, x5, rfl, s0, s1, s2, s3, s4, s5⟩ := hsix1
      have Hnext : Hid (ok k (m.i.getD n default) = true → ∀ j, j < n + 1 → ok k (m.i.getD j default) = true) := fun h j hj => by
       by_cases e : j = n
       ·rw [e]; exact h
       ·exact Hall.out j (by omega)
      clear hsix hmv hmv1 hall
      go_wp2_with fail
      refine (Hcall.out).mono ?_
      rintro e w2 ⟨hh, hb2⟩
      have Hb2 := hid (Z0_ Hbr.out (le_refl _) hb2)
      have Hblk2 := hid (Hblkr.out.below hb2 (by have := Hblkr.out.lt; exact this))
      have HE2 := hid (HEr.out.up hb2)
      clear hb2
      rcases hh with ⟨hok, rfl⟩ | ⟨hok, t, ts, q, hq1, hq4, rfl⟩
      ·have Hok2 := hid hok
       clear hok
       go_wp2
       go_roundw
       case rel => exact ⟨n + 1, by go_num, by omega, .inl ⟨rfl, Hnext.out Hok2.out⟩, Hblk2.out, HE2.out, Hb2.out⟩
       case measure => simp [intOf]; omega
      ·have Hok2 := hid hok
       clear hok
       have Hmid : Hid (Mid E k m.i (n + 1) (chain (t :: ts) (eS (E q)))) := .inr ⟨t, ts, q, hq1, hq4, rfl, Hno.out Hok2.out⟩
       generalize chain (t :: ts) (eS (E q)) = vv at *
       go_wp2
       go_roundw
       case rel => exact ⟨n + 1, by go_num, by omega, Hmid.out, Hblk2.out, HE2.out, Hb2.out⟩
       case measure => simp [intOf]; omega
     ·have hie : n = m.i.length := by omega
      subst hie
      have Hyes := hid (Hok.out.trans (Xs2 hall))
      clear hall
      go_wp2
      go_ret
      exact Ye9 Hyes.out Hbr.out
    ·have Hno := hid (Hok.out.trans hno)
     have Hch : Hid (∀ x, Value.iface 103 (.agg #[chain (t :: ts) (eS (E q)), x]) = Value.iface 103 (.agg #[.iface 103 (.agg #[chain ts (eS (E q)), .int .i64 t]), x])) := fun _ => rfl
     rw [show chain (t :: ts) (eS (E q)) = .iface 103 (.agg #[chain ts (eS (E q)), .int .i64 t]) from rfl]
     clear hno
     have Hend : Hid (Value.iface 103 (.agg #[.iface 103 (.agg #[chain ts (eS (E q)), .int .i64 t]), .int .i64 m.t]) = chain (m.t :: t :: ts) (eS (E q))) := rfl
     generalize hcc : chain ts (eS (E q)) = cc at *
     clear hcc
     by_cases hlt : n < m.i.length
     ·have hltI : (n : Int) < (m.i.length : Int) := by omega
      go_wp2
      go_ret
      exact P4_ Hno.out ⟨hq1, hq4⟩ Hend.out Hbr.out
     ·have hge : (m.i.length : Int) ≤ (n : Int) := by omega
      go_wp2
      go_ret
      exact P4_ Hno.out ⟨hq1, hq4⟩ Hend.out Hbr.out
  ·have Hb := hid hb
   have Hno : Hid (ok (k + 1) m = false) := by
    show _ = _
    rw [ok_is, hb]
    rfl
   have Hq : Hid (1 ≤ q + 1 ∧ q + 1 ≤ 4) := ⟨by omega, by omega⟩
   clear hb hble gb
   go_enter Tryz.func108, Tryz.ntmps108
   go_wp2_with fail
   refine (Zb4 E m _ _ Hv.out Hs.out HE.out).mono ?_
   rintro e w1 ⟨rfl, hb1⟩
   rw [Hb.out]
   have Hb1 := hid (Z0_ Hb0.out (le_refl _) hb1)
   have Hblk1 := Hblk.out.below hb1 (by simp)
   have c0 := Hblk1.cell 0
   have c5 := Hblk1.cell 5
   have Hend : Hid (Value.iface 103 (.agg #[eS (E (q + 1)), .int .i64 m.t]) = chain (m.t :: []) (eS (E (q + 1)))) := rfl
   simp only [badV]
   unfold eS at *
   clear hb1 g0 g1 g2 g3 g4 g5 Hblk1
   by_cases hlt : 0 < m.i.length
   ·have hltI : (0 : Int) < (m.i.length : Int) := by omega
    go_wp2
    refine wp_loop_rounds 1 ?_
    rw [rounds_succ]
    go_wp2
    go_ret
    exact P4_ Hno.out Hq.out Hend.out Hb1.out
   ·have hge : (m.i.length : Int) ≤ 0 := by omega
    go_wp2
    refine wp_loop_rounds 1 ?_
    rw [rounds_succ]
    go_wp2
    go_ret
    exact P4_ Hno.out Hq.out Hend.out Hb1.out
theorem Zv7 (m : Mat) (v : Value) (w : World) (hv : MatV w w.heap.size v m) (hs : Sml m) : Calls Tryz.prog 106 #[v] w (Tells w (deepI m)) := by
 obtain ⟨lv, iv, hve, _, _⟩ := hv.open
 have Hb0 := hid (Z1_ w m lv iv)
 have Hv := hid (hv.up Hb0.out)
 have gb := (Z3_ w m lv iv).cell
 have g0 := gb 0
 have g1 := gb 1
 have g2 := gb 2
 have g3 := gb 3
 have g4 := gb 4
 have g5 := gb 5
 subst hve
 clear hv gb
 unfold boxed at *
 unfold deepI
 go_enter Tryz.func106, Tryz.ntmps106
 go_wp2_with fail
 refine (Xa8 4 m _ _ 5 rfl (by omega) Hv.out hs).mono ?_
 rintro e w1 ⟨rfl, hb1⟩
 have Hb1 := hid (Z0_ Hb0.out (le_refl _) hb1)
 clear hb1
 go_wp2
 go_ret
 exact ⟨rfl, Hb1.out⟩
theorem C7_ (E : Nat → Addr) (m : Mat) (v : Value) (w : World) (hv : MatV w w.heap.size v m) (hs : Sml m) (hE : Env E w) : Calls Tryz.prog 80 #[v] w (Tells w (chk m)) := by
 obtain ⟨lv, iv, hve, _, _⟩ := hv.open
 have Hb0 := hid (Z1_ w m lv iv)
 have Hv := hid (hv.up Hb0.out)
 have HE := hid (hE.up Hb0.out)
 have Hblk := hid (Z3_ w m lv iv)
 have gb := Hblk.out.cell
 have g0 := gb 0
 have g1 := gb 1
 have g2 := gb 2
 have g3 := gb 3
 have g4 := gb 4
 have g5 := gb 5
 subst hve
 clear hv hE gb
 unfold boxed at *
 have hle := dp_le 4 m
 by_cases h5 : dp 4 m = 5
 ·rw [show chk m = 91 from if_pos h5]
  have hd : deepI m = 5 := by unfold deepI; omega
  have Hd := hid hd
  clear h5 hle hd
  go_enter Tryz.func80, Tryz.ntmps80
  go_wp2_with fail
  refine (Zv7 m _ _ Hv.out hs).mono ?_
  rintro e w1 ⟨rfl, hb1⟩
  rw [Hd.out]
  have Hb1 := hid (Z0_ Hb0.out (le_refl _) hb1)
  have HE1 := hid (HE.out.up hb1)
  have Hblk1 := Hblk.out.below hb1 (by simp)
  have c0 := Hblk1.cell 0
  have e0 := HE1.out.g0
  unfold eS at e0
  clear hb1 g0 g1 g2 g3 g4 g5 Hblk1
  go_wp2_with fail
  refine (Yo9 E m.t _ HE1.out).mono ?_
  rintro e w2 ⟨rfl, hb2⟩
  have Hb2 := hid (Z0_ Hb1.out (le_refl _) hb2)
  clear hb2
  go_wp2
  go_ret
  exact ⟨rfl, Hb2.out⟩
 ·have hd : deepI m ≤ 4 := by unfold deepI; omega
  have hdp : dp 4 m ≤ 4 := by omega
  have Hdp := hid hdp
  have hck : chk m = if ok 4 m then 0 else 90 := by unfold chk; rw [if_neg h5]
  clear h5 hle hdp
  rw [hck]
  clear hck
  have Hlook : Hid (∀ (W : World) (b : Bool), ok 4 m = b → MatV W W.heap.size (.agg #[.int .i64 m.t, .int .i64 m.n, .int .i64 m.a, .int .i64 m.b, lv, iv]) m → Env E W → Calls Tryz.prog 108 #[.agg #[.int .i64 m.t, .int .i64 m.n, .int .i64 m.a, .int .i64 m.b, lv, iv]] W (Yq1 E W b)) := fun W b h h1 h2 => by
   subst h
   exact Xc0 E 4 m _ W h1 hs h2 Hdp.out
  generalize hD : deepI m = D at *
  have HD := hid hD
  clear hD
  rcases hok : ok 4 m with _ | _
  ·have Hok := hid hok
   clear hok
   rw [if_neg (by decide)]
   go_enter Tryz.func80, Tryz.ntmps80
   go_wp2_with fail
   refine (Zv7 m _ _ Hv.out hs).mono ?_
   rintro e w1 ⟨rfl, hb1⟩
   rw [HD.out]
   have Hb1 := hid (Z0_ Hb0.out (le_refl _) hb1)
   have HE1 := hid (HE.out.up hb1)
   have Hv1 := hid (Hv.out.up hb1)
   have Hblk1 := Hblk.out.below hb1 (by simp)
   have c0 := Hblk1.cell 0
   have c1 := Hblk1.cell 1
   have c2 := Hblk1.cell 2
   have c3 := Hblk1.cell 3
   have c4 := Hblk1.cell 4
   have c5 := Hblk1.cell 5
   clear hb1 g0 g1 g2 g3 g4 g5 Hblk1
   go_wp2_with fail
   refine (Hlook.out _ false Hok.out Hv1.out HE1.out).mono ?_
   rintro e w2 ⟨hh, hb2⟩
   rcases hh with ⟨hh, _⟩ | ⟨_, t, ts, j, hj1, hj4, rfl⟩
   ·cases hh
   have Hb2 := hid (Z0_ Hb1.out (le_refl _) hb2)
   have HE2 := hid (HE1.out.up hb2)
   have Hj := hid (⟨hj1, hj4⟩ : 1 ≤ j ∧ j ≤ 4)
   have Htold := hid (Xa6 E t ts j Hj.out w2 HE2.out)
   clear hb2 hj1 hj4
   generalize chain (t :: ts) (eS (E j)) = vv at *
   go_wp2_with fail
   refine (Htold.out).mono ?_
   rintro e w3 ⟨rfl, hb3⟩
   have Hb3 := hid (Z0_ Hb2.out (le_refl _) hb3)
   clear hb3
   go_wp2
   go_ret
   exact ⟨rfl, Hb3.out⟩
  ·have Hok := hid hok
   clear hok
   rw [if_pos rfl]
   go_enter Tryz.func80, Tryz.ntmps80
   go_wp2_with fail
   refine (Zv7 m _ _ Hv.out hs).mono ?_
   rintro e w1 ⟨rfl, hb1⟩
   rw [HD.out]
   have Hb1 := hid (Z0_ Hb0.out (le_refl _) hb1)
   have HE1 := hid (HE.out.up hb1)
   have Hv1 := hid (Hv.out.up hb1)
   have Hblk1 := Hblk.out.below hb1 (by simp)
   have c0 := Hblk1.cell 0
   have c1 := Hblk1.cell 1
   have c2 := Hblk1.cell 2
   have c3 := Hblk1.cell 3
   have c4 := Hblk1.cell 4
   have c5 := Hblk1.cell 5
   clear hb1 g0 g1 g2 g3 g4 g5 Hblk1
   go_wp2_with fail
   refine (Hlook.out _ true Hok.out Hv1.out HE1.out).mono ?_
   rintro e w2 ⟨hh, hb2⟩
   rcases hh with ⟨_, rfl⟩ | ⟨hh, _⟩
   rotate_left
   ·cases hh
   have Hb2 := hid (Z0_ Hb1.out (le_refl _) hb2)
   have HE2 := hid (HE1.out.up hb2)
   clear hb2
   go_wp2_with fail
   refine (Xa5 E _ HE2.out).mono ?_
   rintro e w3 ⟨rfl, hb3⟩
   have Hb3 := hid (Z0_ Hb2.out (le_refl _) hb3)
   clear hb3
   go_wp2
   go_ret
   exact ⟨rfl, Hb3.out⟩
end Wp
end Go.Proofs.YtgadbnbhgpehjaaGreatDoor
