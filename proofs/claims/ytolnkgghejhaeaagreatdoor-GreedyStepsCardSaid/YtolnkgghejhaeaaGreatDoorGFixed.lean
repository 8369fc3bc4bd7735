/- The calls whose answers the document fixes, of what is greedy, walked: they are as it fixes them. -/
import Derived.Test.YtolnkgghejhaeaaGreatDoorGRegion
import Derived.Test.YtolnkgghejhaeaaGreatDoorGWeight
import Derived.Test.YtolnkgghejhaeaaGreatDoorGKeep
import Derived.Test.YtolnkgghejhaeaaGreatDoorSSame
namespace Go.Proofs.YtolnkgghejhaeaaGreatDoor
open Go Go.RowKit
namespace Wp

/-! ### The answers, reckoned -/
def uN (a : Int) : Mat := .mk 0 3 a 0 [] []
def indU (a : Int) (s : List Int) : Bool := mayI (uN a) s && decide (min a.toNat (cnt (memP s) 3) = s.length)
theorem ind_uN (a : Int) (s : List Int) : indT (uN a) s = indU a s := by
  unfold indT rankT indU
  cases mayI (uN a) s
  · simp
  · rw [if_pos rfl, rkP_0 rfl]
    show decide (((min a.toNat (cnt (memP s) 3) : Nat) : Int) = _) = _
    simp
    omega
def takeG (ind : List Int → Bool) (on : Int → Nat → Bool) : List Int → List Int → List Int
  | s, [] => s
  | s, x :: o => if on x s.length = true then takeG ind on (if ind (unionL s [x]) = true then unionL s [x] else s) o else s
theorem take_uN (a : Int) (on : Int → Nat → Bool) : ∀ (o s : List Int), takeK (uN a) on s o = takeG (indU a) on s o
  | [], s => by rw [takeK, takeG]
  | x :: o, s => by rw [takeK, takeG, ind_uN, take_uN a on o]
theorem takeT_uN {a : Int} {w : List Int} (on : Int → Nat → Bool) (h : mayW (uN a) w = true) : takeT (uN a) w on = takeG (indU a) on [] (greatL w) := by
  unfold takeT
  rw [if_pos h, take_uN]
theorem evg_m2 : mayW (uN 2) [5, -1, 7] = true := by decide +kernel
theorem evg_m3 : mayW (uN 3) [5, -1, 7] = true := by decide +kernel
theorem evg_1 : takeT (uN 2) [5, -1, 7] (bestB [5, -1, 7]) = [0, 2] := by rw [takeT_uN _ evg_m2]; decide +kernel
theorem evg_2 : takeT (uN 2) [5, -1, 7] (lessB 1) = [2] := by rw [takeT_uN _ evg_m2]; decide +kernel
theorem evg_3 : takeT (uN 2) [5, -1, 7] (lessB 9) = [0, 2] := by rw [takeT_uN _ evg_m2]; decide +kernel
theorem evg_4 : takeT (uN 3) [5, -1, 7] (lessB 9) = [0, 1, 2] := by rw [takeT_uN _ evg_m3]; decide +kernel
theorem evg_5 : weightT [5, -1, 7] [0, 1] = 4 := by decide +kernel
theorem evg_6 : weightT [5, -1, 7] [3] = 0 := by decide +kernel
theorem evg_7 : mayW (uN 2) [-1, 7] = false := by decide +kernel
theorem evg_8 : takeT (uN 2) [] (bestB []) = [] := if_neg (by decide +kernel)
def BoxV (a : Int) : Value := .agg #[.int .i64 0, .int .i64 3, .int .i64 a, .int .i64 0, .slice none 0 0, .slice none 0 0]
theorem matU (W : World) (a : Int) : MatV W W.heap.size (.agg #[.int .i64 0, .int .i64 3, .int .i64 a, .int .i64 0, .slice none 0 0, .slice none 0 0]) (uN a) := plain_mat W _ 0 3 a 0
theorem smlU (a : Int) : Sml (uN a) := sml_plain ..
theorem gives_u {w : World} {r : List Int} {e : Ending} {w' : World} (h : Gives w r e w') : ∃ u, e = .returned u ∧ Below w.heap.size w w' ∧ Row w' w'.heap.size u r := by
  obtain ⟨v, h1, h2, h3⟩ := h
  exact ⟨v, h1, h3, h2⟩
theorem cB (E : Nat → Addr) (sv : Value) (W : World) (hr : Row W W.heap.size sv [5, -1, 7]) (hE : Env E W) : Calls Tryz.prog 16 #[.agg #[.int .i64 0, .int .i64 3, .int .i64 2, .int .i64 0, .slice none 0 0, .slice none 0 0], sv] W (Gives W [0, 2]) := by
  have h := Best_any E (uN 2) _ sv _ W (matU W 2) (smlU 2) hr (by decide) hE
  rw [evg_1] at h
  exact h
theorem cT1 (E : Nat → Addr) (sv : Value) (W : World) (hr : Row W W.heap.size sv [5, -1, 7]) (hE : Env E W) : Calls Tryz.prog 9 #[.agg #[.int .i64 0, .int .i64 3, .int .i64 2, .int .i64 0, .slice none 0 0, .slice none 0 0], sv, .int .i64 1] W (Gives W [2]) := by
  have h := Take_any E (uN 2) _ sv _ 1 W (matU W 2) (smlU 2) hr (by decide) hE
  rw [evg_2] at h
  exact h
theorem cT9 (E : Nat → Addr) (sv : Value) (W : World) (hr : Row W W.heap.size sv [5, -1, 7]) (hE : Env E W) : Calls Tryz.prog 9 #[.agg #[.int .i64 0, .int .i64 3, .int .i64 2, .int .i64 0, .slice none 0 0, .slice none 0 0], sv, .int .i64 9] W (Gives W [0, 2]) := by
  have h := Take_any E (uN 2) _ sv _ 9 W (matU W 2) (smlU 2) hr (by decide) hE
  rw [evg_3] at h
  exact h
theorem cT3 (E : Nat → Addr) (sv : Value) (W : World) (hr : Row W W.heap.size sv [5, -1, 7]) (hE : Env E W) : Calls Tryz.prog 9 #[.agg #[.int .i64 0, .int .i64 3, .int .i64 3, .int .i64 0, .slice none 0 0, .slice none 0 0], sv, .int .i64 9] W (Gives W [0, 1, 2]) := by
  have h := Take_any E (uN 3) _ sv _ 9 W (matU W 3) (smlU 3) hr (by decide) hE
  rw [evg_4] at h
  exact h
theorem cM1 (E : Nat → Addr) (sv : Value) (W : World) (hr : Row W W.heap.size sv [5, -1, 7]) (hE : Env E W) : Calls Tryz.prog 17 #[.agg #[.int .i64 0, .int .i64 3, .int .i64 2, .int .i64 0, .slice none 0 0, .slice none 0 0], sv] W (Says W true) := by
  have h := gmay_any E (uN 2) _ sv _ W (matU W 2) (smlU 2) hr (by decide) hE
  rw [evg_m2] at h
  exact h
theorem cM2 (E : Nat → Addr) (sv : Value) (W : World) (hr : Row W W.heap.size sv [-1, 7]) (hE : Env E W) : Calls Tryz.prog 17 #[.agg #[.int .i64 0, .int .i64 3, .int .i64 2, .int .i64 0, .slice none 0 0, .slice none 0 0], sv] W (Says W false) := by
  have h := gmay_any E (uN 2) _ sv _ W (matU W 2) (smlU 2) hr (by decide) hE
  rw [evg_7] at h
  exact h
theorem cB0 (E : Nat → Addr) (sv : Value) (W : World) (hr : Row W W.heap.size sv []) (hE : Env E W) : Calls Tryz.prog 16 #[.agg #[.int .i64 0, .int .i64 3, .int .i64 2, .int .i64 0, .slice none 0 0, .slice none 0 0], sv] W (Gives W []) := by
  have h := Best_any E (uN 2) _ sv _ W (matU W 2) (smlU 2) hr (by decide) hE
  rw [evg_8] at h
  exact h
theorem cW4 (vw sv : Value) (W : World) (hw : Row W W.heap.size vw [5, -1, 7]) (hr : Row W W.heap.size sv [0, 1]) : Calls Tryz.prog 12 #[vw, sv] W (Tells W 4) := by
  have h := weight_any vw sv _ _ W hw hr
  rw [evg_5] at h
  exact h
theorem cW0 (vw sv : Value) (W : World) (hw : Row W W.heap.size vw [5, -1, 7]) (hr : Row W W.heap.size sv [3]) : Calls Tryz.prog 12 #[vw, sv] W (Tells W 0) := by
  have h := weight_any vw sv _ _ W hw hr
  rw [evg_6] at h
  exact h

/-! ### Each operation's due -/
theorem tail_row {W : World} {B2 : Nat} (h : Row W W.heap.size (.slice (some ⟨B2, 0, none⟩) 3 3) [5, -1, 7]) : Row W W.heap.size (.slice (some ⟨B2, 1, none⟩) 2 2) [-1, 7] := by
  obtain ⟨A, c, he, _, hc⟩ := h
  injection he with e1 e2 e3
  subst e1 e3
  refine ⟨_, 2, rfl, ⟨Nat.le_refl _, by decide, fun e => by cases e⟩, fun k hk => ?_⟩
  obtain ⟨ad, ha, h1, h2⟩ := hc (k + 1) (by simp at hk ⊢; omega)
  injection ha with ha
  subst ha
  refine ⟨_, rfl, h1, ?_⟩
  have e : (⟨B2, 1, none⟩ : Addr).add k = (⟨B2, 0, none⟩ : Addr).add (k + 1) := by
    cases k with
    | zero => rfl
    | succ k => simp [Addr.add]; omega
  rw [e, h2]
  rfl
def codeAt : Code → Nat → Code
  | .seq a _, 0 => a
  | .seq _ b, n + 1 => codeAt b n
  | c, _ => c
def opsOf : Code → Array Oper
  | .region _ ops _ => ops
  | _ => #[]
noncomputable def opsF : Array Oper := opsOf (codeAt (Tryz.f5.body.getD .skip) 3)
/-- What the region finds: the box, the weights, the variables. -/
structure FxC (E : Nat → Addr) (a0 : Act) (w0 : World) (B1 B2 : Nat) : Prop where
  h1 : a0.tmps.getD 1 undef = .pointer (some ⟨B1, 0, none⟩)
  h2 : a0.tmps.getD 2 undef = .slice (some ⟨B2, 0, none⟩) 3 3
  hK : ∀ W, Below w0.heap.size w0 W → W.cell? ⟨B1, 0, none⟩ = some (.int .i64 0) ∧ W.cell? ⟨B1, 1, none⟩ = some (.int .i64 3) ∧ W.cell? ⟨B1, 2, none⟩ = some (.int .i64 2) ∧ W.cell? ⟨B1, 3, none⟩ = some (.int .i64 0) ∧ W.cell? ⟨B1, 4, none⟩ = some (.slice none 0 0) ∧ W.cell? ⟨B1, 5, none⟩ = some (.slice none 0 0)
  hW : Row w0 w0.heap.size (.slice (some ⟨B2, 0, none⟩) 3 3) [5, -1, 7]
  hE : Env E w0
def ksF (B2 : Nat) : List Kind := [.eq (.agg #[.int .i64 0, .int .i64 3, .int .i64 2, .int .i64 0, .slice none 0 0, .slice none 0 0]), .eq (.slice (some ⟨B2, 0, none⟩) 3 3), .row [0, 2], .row [0, 2], .eq (.bool true), .eq (.bool true), .eq (.agg #[.int .i64 0, .int .i64 3, .int .i64 2, .int .i64 0, .slice none 0 0, .slice none 0 0]), .eq (.slice (some ⟨B2, 0, none⟩) 3 3), .row [2], .row [2], .eq (.bool true), .eq (.bool true), .eq (.bool true), .eq (.agg #[.int .i64 0, .int .i64 3, .int .i64 2, .int .i64 0, .slice none 0 0, .slice none 0 0]), .eq (.slice (some ⟨B2, 0, none⟩) 3 3), .row [0, 2], .row [0, 2], .eq (.bool true), .eq (.bool true), .eq (.bool true), .eq (.agg #[.int .i64 0, .int .i64 3, .int .i64 3, .int .i64 0, .slice none 0 0, .slice none 0 0]), .eq (.slice (some ⟨B2, 0, none⟩) 3 3), .row [0, 1, 2], .row [0, 1, 2], .eq (.bool true), .eq (.bool true), .eq (.bool true), .eq (.slice (some ⟨B2, 0, none⟩) 3 3), .row [0, 1], .eq (.int .i64 4), .eq (.bool true), .eq (.bool true), .eq (.bool true), .eq (.slice (some ⟨B2, 0, none⟩) 3 3), .row [3], .eq (.int .i64 0), .eq (.bool true), .eq (.bool true), .eq (.bool true), .eq (.agg #[.int .i64 0, .int .i64 3, .int .i64 2, .int .i64 0, .slice none 0 0, .slice none 0 0]), .eq (.slice (some ⟨B2, 0, none⟩) 3 3), .eq (.bool true), .eq (.bool true), .eq (.bool true), .eq (.agg #[.int .i64 0, .int .i64 3, .int .i64 2, .int .i64 0, .slice none 0 0, .slice none 0 0]), .eq (.slice (some ⟨B2, 0, none⟩) 3 3), .row [-1, 7], .eq (.bool false), .eq (.bool true), .eq (.bool true), .eq (.bool true), .eq (.agg #[.int .i64 0, .int .i64 3, .int .i64 2, .int .i64 0, .slice none 0 0, .slice none 0 0]), .row [], .eq (.int .i64 0), .eq (.bool true), .eq (.bool true), .eq (.bool true)]
set_option maxRecDepth 100000 in
theorem fx_0 {E : Nat → Addr} {a0 : Act} {w0 : World} {B1 B2 : Nat} (c : FxC E a0 w0 B1 B2) : Ob Tryz.prog opsF (ksF B2) a0 w0 0 := by
  refine ⟨Op.load 25 (Operand.tmp 1), 25, by kernel_rfl, fun a W hb hout _ => ?_⟩
  obtain ⟨k0, k1, k2, k3, k4, k5⟩ := c.hK W hb
  have d1 : a.tmps.getD 1 undef = .pointer (some ⟨B1, 0, none⟩) := (hout 1 (by kernel_rfl)).trans c.h1
  simp only [execOp, Act.eval, d1]
  go_simp
  exact ⟨Below.refl _ _, rfl⟩
set_option maxRecDepth 100000 in
theorem fx_1 {E : Nat → Addr} {a0 : Act} {w0 : World} {B1 B2 : Nat} (c : FxC E a0 w0 B1 B2) : Ob Tryz.prog opsF (ksF B2) a0 w0 1 := by
  refine ⟨Op.move (Operand.tmp 2), 26, by kernel_rfl, fun a W _ hout _ => ?_⟩
  have d2 : a.tmps.getD 2 undef = .slice (some ⟨B2, 0, none⟩) 3 3 := (hout 2 (by kernel_rfl)).trans c.h2
  simp only [execOp, Act.eval, d2]
  go_simp
  exact ⟨Below.refl _ _, rfl⟩
set_option maxRecDepth 100000 in
theorem fx_2 {E : Nat → Addr} {a0 : Act} {w0 : World} {B1 B2 : Nat} (c : FxC E a0 w0 B1 B2) : Ob Tryz.prog opsF (ksF B2) a0 w0 2 := by
  refine ⟨Op.call { callee := Callee.value (Operand.func 16), args := #[Operand.tmp 5, Operand.tmp 6], argTypes := #[25, 26] }, 26, by kernel_rfl, fun a W hb _ hdep => ?_⟩
  have d5 : a.tmps.getD 5 undef = .agg #[.int .i64 0, .int .i64 3, .int .i64 2, .int .i64 0, .slice none 0 0, .slice none 0 0] := hdep 0 5 (by kernel_rfl) (by kernel_rfl)
  have d6 : a.tmps.getD 6 undef = .slice (some ⟨B2, 0, none⟩) 3 3 := hdep 1 6 (by kernel_rfl) (by kernel_rfl)
  simp only [execOp]
  go_simp
  exact ⟨Below.refl _ _, (cB E _ W (c.hW.up hb) (c.hE.up hb)).mono fun e w1 hg => gives_u hg⟩
set_option maxRecDepth 100000 in
theorem fx_3 {E : Nat → Addr} {a0 : Act} {w0 : World} {B1 B2 : Nat} (_c : FxC E a0 w0 B1 B2) : Ob Tryz.prog opsF (ksF B2) a0 w0 3 := by
  refine ⟨Op.buildSlice 26 2 #[(0, Operand.const (Value.int IntKind.i64 0)), (1, Operand.const (Value.int IntKind.i64 2))], 26, by kernel_rfl, fun a W _ _ _ => ?_⟩
  simp only [execOp, Act.eval]
  go_simp
  exact ⟨(Below.refl _ W).alloc (Nat.le_refl _) _, Row.here (Row.lit2 W 0 2)⟩
set_option maxRecDepth 100000 in
theorem fx_4 {E : Nat → Addr} {a0 : Act} {w0 : World} {B1 B2 : Nat} (_c : FxC E a0 w0 B1 B2) : Ob Tryz.prog opsF (ksF B2) a0 w0 4 := by
  refine ⟨Op.call { callee := Callee.value (Operand.func 11), args := #[Operand.tmp 7, Operand.tmp 8], argTypes := #[26, 26] }, 4, by kernel_rfl, fun a W _ _ hdep => ?_⟩
  have d7 : Row W W.heap.size (a.tmps.getD 7 undef) [0, 2] := hdep 2 7 (by kernel_rfl) (by kernel_rfl)
  have d8 : Row W W.heap.size (a.tmps.getD 8 undef) [0, 2] := hdep 3 8 (by kernel_rfl) (by kernel_rfl)
  obtain ⟨v7, e7⟩ : ∃ v, a.tmps.getD 7 undef = v := ⟨_, rfl⟩
  rw [e7] at d7
  obtain ⟨v8, e8⟩ : ∃ v, a.tmps.getD 8 undef = v := ⟨_, rfl⟩
  rw [e8] at d8
  simp only [execOp]
  go_simp
  exact ⟨Below.refl _ _, (same_is v7 v8 [0, 2] [0, 2] W d7 d8 (by decide) (by decide) (same_true rfl)).mono fun e w1 ⟨he, hb1⟩ => ⟨_, he, hb1, rfl⟩⟩
set_option maxRecDepth 100000 in
theorem fx_5 {E : Nat → Addr} {a0 : Act} {w0 : World} {B1 B2 : Nat} (_c : FxC E a0 w0 B1 B2) : Ob Tryz.prog opsF (ksF B2) a0 w0 5 := by
  refine ⟨Op.move (Operand.tmp 9), 4, by kernel_rfl, fun a W _ _ hdep => ?_⟩
  have d9 : a.tmps.getD 9 undef = .bool true := hdep 4 9 (by kernel_rfl) (by kernel_rfl)
  simp only [execOp, Act.eval, d9]
  go_simp
  exact ⟨Below.refl _ _, rfl⟩
set_option maxRecDepth 100000 in
theorem fx_6 {E : Nat → Addr} {a0 : Act} {w0 : World} {B1 B2 : Nat} (c : FxC E a0 w0 B1 B2) : Ob Tryz.prog opsF (ksF B2) a0 w0 6 := by
  refine ⟨Op.load 25 (Operand.tmp 1), 25, by kernel_rfl, fun a W hb hout _ => ?_⟩
  obtain ⟨k0, k1, k2, k3, k4, k5⟩ := c.hK W hb
  have d1 : a.tmps.getD 1 undef = .pointer (some ⟨B1, 0, none⟩) := (hout 1 (by kernel_rfl)).trans c.h1
  simp only [execOp, Act.eval, d1]
  go_simp
  exact ⟨Below.refl _ _, rfl⟩
set_option maxRecDepth 100000 in
theorem fx_7 {E : Nat → Addr} {a0 : Act} {w0 : World} {B1 B2 : Nat} (c : FxC E a0 w0 B1 B2) : Ob Tryz.prog opsF (ksF B2) a0 w0 7 := by
  refine ⟨Op.move (Operand.tmp 2), 26, by kernel_rfl, fun a W _ hout _ => ?_⟩
  have d2 : a.tmps.getD 2 undef = .slice (some ⟨B2, 0, none⟩) 3 3 := (hout 2 (by kernel_rfl)).trans c.h2
  simp only [execOp, Act.eval, d2]
  go_simp
  exact ⟨Below.refl _ _, rfl⟩
set_option maxRecDepth 100000 in
theorem fx_8 {E : Nat → Addr} {a0 : Act} {w0 : World} {B1 B2 : Nat} (c : FxC E a0 w0 B1 B2) : Ob Tryz.prog opsF (ksF B2) a0 w0 8 := by
  refine ⟨Op.call { callee := Callee.value (Operand.func 9), args := #[Operand.tmp 11, Operand.tmp 12, Operand.const (Value.int IntKind.i64 1)], argTypes := #[25, 26, 3] }, 26, by kernel_rfl, fun a W hb _ hdep => ?_⟩
  have d11 : a.tmps.getD 11 undef = .agg #[.int .i64 0, .int .i64 3, .int .i64 2, .int .i64 0, .slice none 0 0, .slice none 0 0] := hdep 6 11 (by kernel_rfl) (by kernel_rfl)
  have d12 : a.tmps.getD 12 undef = .slice (some ⟨B2, 0, none⟩) 3 3 := hdep 7 12 (by kernel_rfl) (by kernel_rfl)
  simp only [execOp]
  go_simp
  exact ⟨Below.refl _ _, (cT1 E _ W (c.hW.up hb) (c.hE.up hb)).mono fun e w1 hg => gives_u hg⟩
set_option maxRecDepth 100000 in
theorem fx_9 {E : Nat → Addr} {a0 : Act} {w0 : World} {B1 B2 : Nat} (_c : FxC E a0 w0 B1 B2) : Ob Tryz.prog opsF (ksF B2) a0 w0 9 := by
  refine ⟨Op.buildSlice 26 1 #[(0, Operand.const (Value.int IntKind.i64 2))], 26, by kernel_rfl, fun a W _ _ _ => ?_⟩
  simp only [execOp, Act.eval]
  go_simp
  exact ⟨(Below.refl _ W).alloc (Nat.le_refl _) _, Row.here (Row.lit1 W 2)⟩
set_option maxRecDepth 100000 in
theorem fx_10 {E : Nat → Addr} {a0 : Act} {w0 : World} {B1 B2 : Nat} (_c : FxC E a0 w0 B1 B2) : Ob Tryz.prog opsF (ksF B2) a0 w0 10 := by
  refine ⟨Op.call { callee := Callee.value (Operand.func 11), args := #[Operand.tmp 13, Operand.tmp 14], argTypes := #[26, 26] }, 4, by kernel_rfl, fun a W _ _ hdep => ?_⟩
  have d13 : Row W W.heap.size (a.tmps.getD 13 undef) [2] := hdep 8 13 (by kernel_rfl) (by kernel_rfl)
  have d14 : Row W W.heap.size (a.tmps.getD 14 undef) [2] := hdep 9 14 (by kernel_rfl) (by kernel_rfl)
  obtain ⟨v13, e13⟩ : ∃ v, a.tmps.getD 13 undef = v := ⟨_, rfl⟩
  rw [e13] at d13
  obtain ⟨v14, e14⟩ : ∃ v, a.tmps.getD 14 undef = v := ⟨_, rfl⟩
  rw [e14] at d14
  simp only [execOp]
  go_simp
  exact ⟨Below.refl _ _, (same_is v13 v14 [2] [2] W d13 d14 (by decide) (by decide) (same_true rfl)).mono fun e w1 ⟨he, hb1⟩ => ⟨_, he, hb1, rfl⟩⟩
set_option maxRecDepth 100000 in
theorem fx_11 {E : Nat → Addr} {a0 : Act} {w0 : World} {B1 B2 : Nat} (_c : FxC E a0 w0 B1 B2) : Ob Tryz.prog opsF (ksF B2) a0 w0 11 := by
  refine ⟨Op.pick (Operand.tmp 10) (Operand.tmp 15) (Operand.const (Value.bool false)), 4, by kernel_rfl, fun a W _ _ hdep => ?_⟩
  have d10 : a.tmps.getD 10 undef = .bool true := hdep 5 10 (by kernel_rfl) (by kernel_rfl)
  have d15 : a.tmps.getD 15 undef = .bool true := hdep 10 15 (by kernel_rfl) (by kernel_rfl)
  simp only [execOp, Act.eval, d10, d15]
  go_simp
  exact ⟨Below.refl _ _, rfl⟩
set_option maxRecDepth 100000 in
theorem fx_12 {E : Nat → Addr} {a0 : Act} {w0 : World} {B1 B2 : Nat} (_c : FxC E a0 w0 B1 B2) : Ob Tryz.prog opsF (ksF B2) a0 w0 12 := by
  refine ⟨Op.move (Operand.tmp 16), 4, by kernel_rfl, fun a W _ _ hdep => ?_⟩
  have d16 : a.tmps.getD 16 undef = .bool true := hdep 11 16 (by kernel_rfl) (by kernel_rfl)
  simp only [execOp, Act.eval, d16]
  go_simp
  exact ⟨Below.refl _ _, rfl⟩
set_option maxRecDepth 100000 in
theorem fx_13 {E : Nat → Addr} {a0 : Act} {w0 : World} {B1 B2 : Nat} (c : FxC E a0 w0 B1 B2) : Ob Tryz.prog opsF (ksF B2) a0 w0 13 := by
  refine ⟨Op.load 25 (Operand.tmp 1), 25, by kernel_rfl, fun a W hb hout _ => ?_⟩
  obtain ⟨k0, k1, k2, k3, k4, k5⟩ := c.hK W hb
  have d1 : a.tmps.getD 1 undef = .pointer (some ⟨B1, 0, none⟩) := (hout 1 (by kernel_rfl)).trans c.h1
  simp only [execOp, Act.eval, d1]
  go_simp
  exact ⟨Below.refl _ _, rfl⟩
set_option maxRecDepth 100000 in
theorem fx_14 {E : Nat → Addr} {a0 : Act} {w0 : World} {B1 B2 : Nat} (c : FxC E a0 w0 B1 B2) : Ob Tryz.prog opsF (ksF B2) a0 w0 14 := by
  refine ⟨Op.move (Operand.tmp 2), 26, by kernel_rfl, fun a W _ hout _ => ?_⟩
  have d2 : a.tmps.getD 2 undef = .slice (some ⟨B2, 0, none⟩) 3 3 := (hout 2 (by kernel_rfl)).trans c.h2
  simp only [execOp, Act.eval, d2]
  go_simp
  exact ⟨Below.refl _ _, rfl⟩
set_option maxRecDepth 100000 in
theorem fx_15 {E : Nat → Addr} {a0 : Act} {w0 : World} {B1 B2 : Nat} (c : FxC E a0 w0 B1 B2) : Ob Tryz.prog opsF (ksF B2) a0 w0 15 := by
  refine ⟨Op.call { callee := Callee.value (Operand.func 9), args := #[Operand.tmp 18, Operand.tmp 19, Operand.const (Value.int IntKind.i64 9)], argTypes := #[25, 26, 3] }, 26, by kernel_rfl, fun a W hb _ hdep => ?_⟩
  have d18 : a.tmps.getD 18 undef = .agg #[.int .i64 0, .int .i64 3, .int .i64 2, .int .i64 0, .slice none 0 0, .slice none 0 0] := hdep 13 18 (by kernel_rfl) (by kernel_rfl)
  have d19 : a.tmps.getD 19 undef = .slice (some ⟨B2, 0, none⟩) 3 3 := hdep 14 19 (by kernel_rfl) (by kernel_rfl)
  simp only [execOp]
  go_simp
  exact ⟨Below.refl _ _, (cT9 E _ W (c.hW.up hb) (c.hE.up hb)).mono fun e w1 hg => gives_u hg⟩
set_option maxRecDepth 100000 in
theorem fx_16 {E : Nat → Addr} {a0 : Act} {w0 : World} {B1 B2 : Nat} (_c : FxC E a0 w0 B1 B2) : Ob Tryz.prog opsF (ksF B2) a0 w0 16 := by
  refine ⟨Op.buildSlice 26 2 #[(0, Operand.const (Value.int IntKind.i64 0)), (1, Operand.const (Value.int IntKind.i64 2))], 26, by kernel_rfl, fun a W _ _ _ => ?_⟩
  simp only [execOp, Act.eval]
  go_simp
  exact ⟨(Below.refl _ W).alloc (Nat.le_refl _) _, Row.here (Row.lit2 W 0 2)⟩
set_option maxRecDepth 100000 in
theorem fx_17 {E : Nat → Addr} {a0 : Act} {w0 : World} {B1 B2 : Nat} (_c : FxC E a0 w0 B1 B2) : Ob Tryz.prog opsF (ksF B2) a0 w0 17 := by
  refine ⟨Op.call { callee := Callee.value (Operand.func 11), args := #[Operand.tmp 20, Operand.tmp 21], argTypes := #[26, 26] }, 4, by kernel_rfl, fun a W _ _ hdep => ?_⟩
  have d20 : Row W W.heap.size (a.tmps.getD 20 undef) [0, 2] := hdep 15 20 (by kernel_rfl) (by kernel_rfl)
  have d21 : Row W W.heap.size (a.tmps.getD 21 undef) [0, 2] := hdep 16 21 (by kernel_rfl) (by kernel_rfl)
  obtain ⟨v20, e20⟩ : ∃ v, a.tmps.getD 20 undef = v := ⟨_, rfl⟩
  rw [e20] at d20
  obtain ⟨v21, e21⟩ : ∃ v, a.tmps.getD 21 undef = v := ⟨_, rfl⟩
  rw [e21] at d21
  simp only [execOp]
  go_simp
  exact ⟨Below.refl _ _, (same_is v20 v21 [0, 2] [0, 2] W d20 d21 (by decide) (by decide) (same_true rfl)).mono fun e w1 ⟨he, hb1⟩ => ⟨_, he, hb1, rfl⟩⟩
set_option maxRecDepth 100000 in
theorem fx_18 {E : Nat → Addr} {a0 : Act} {w0 : World} {B1 B2 : Nat} (_c : FxC E a0 w0 B1 B2) : Ob Tryz.prog opsF (ksF B2) a0 w0 18 := by
  refine ⟨Op.pick (Operand.tmp 17) (Operand.tmp 22) (Operand.const (Value.bool false)), 4, by kernel_rfl, fun a W _ _ hdep => ?_⟩
  have d17 : a.tmps.getD 17 undef = .bool true := hdep 12 17 (by kernel_rfl) (by kernel_rfl)
  have d22 : a.tmps.getD 22 undef = .bool true := hdep 17 22 (by kernel_rfl) (by kernel_rfl)
  simp only [execOp, Act.eval, d17, d22]
  go_simp
  exact ⟨Below.refl _ _, rfl⟩
set_option maxRecDepth 100000 in
theorem fx_19 {E : Nat → Addr} {a0 : Act} {w0 : World} {B1 B2 : Nat} (_c : FxC E a0 w0 B1 B2) : Ob Tryz.prog opsF (ksF B2) a0 w0 19 := by
  refine ⟨Op.move (Operand.tmp 23), 4, by kernel_rfl, fun a W _ _ hdep => ?_⟩
  have d23 : a.tmps.getD 23 undef = .bool true := hdep 18 23 (by kernel_rfl) (by kernel_rfl)
  simp only [execOp, Act.eval, d23]
  go_simp
  exact ⟨Below.refl _ _, rfl⟩
set_option maxRecDepth 100000 in
theorem fx_20 {E : Nat → Addr} {a0 : Act} {w0 : World} {B1 B2 : Nat} (_c : FxC E a0 w0 B1 B2) : Ob Tryz.prog opsF (ksF B2) a0 w0 20 := by
  refine ⟨Op.build 25 #[(1, Operand.const (Value.int IntKind.i64 3)), (2, Operand.const (Value.int IntKind.i64 3))], 25, by kernel_rfl, fun a W _ _ _ => ?_⟩
  simp only [execOp, Act.eval]
  go_simp
  exact ⟨Below.refl _ _, rfl⟩
set_option maxRecDepth 100000 in
theorem fx_21 {E : Nat → Addr} {a0 : Act} {w0 : World} {B1 B2 : Nat} (c : FxC E a0 w0 B1 B2) : Ob Tryz.prog opsF (ksF B2) a0 w0 21 := by
  refine ⟨Op.move (Operand.tmp 2), 26, by kernel_rfl, fun a W _ hout _ => ?_⟩
  have d2 : a.tmps.getD 2 undef = .slice (some ⟨B2, 0, none⟩) 3 3 := (hout 2 (by kernel_rfl)).trans c.h2
  simp only [execOp, Act.eval, d2]
  go_simp
  exact ⟨Below.refl _ _, rfl⟩
set_option maxRecDepth 100000 in
theorem fx_22 {E : Nat → Addr} {a0 : Act} {w0 : World} {B1 B2 : Nat} (c : FxC E a0 w0 B1 B2) : Ob Tryz.prog opsF (ksF B2) a0 w0 22 := by
  refine ⟨Op.call { callee := Callee.value (Operand.func 9), args := #[Operand.tmp 25, Operand.tmp 26, Operand.const (Value.int IntKind.i64 9)], argTypes := #[25, 26, 3] }, 26, by kernel_rfl, fun a W hb _ hdep => ?_⟩
  have d25 : a.tmps.getD 25 undef = .agg #[.int .i64 0, .int .i64 3, .int .i64 3, .int .i64 0, .slice none 0 0, .slice none 0 0] := hdep 20 25 (by kernel_rfl) (by kernel_rfl)
  have d26 : a.tmps.getD 26 undef = .slice (some ⟨B2, 0, none⟩) 3 3 := hdep 21 26 (by kernel_rfl) (by kernel_rfl)
  simp only [execOp]
  go_simp
  exact ⟨Below.refl _ _, (cT3 E _ W (c.hW.up hb) (c.hE.up hb)).mono fun e w1 hg => gives_u hg⟩
set_option maxRecDepth 100000 in
theorem fx_23 {E : Nat → Addr} {a0 : Act} {w0 : World} {B1 B2 : Nat} (_c : FxC E a0 w0 B1 B2) : Ob Tryz.prog opsF (ksF B2) a0 w0 23 := by
  refine ⟨Op.buildSlice 26 3 #[(0, Operand.const (Value.int IntKind.i64 0)), (1, Operand.const (Value.int IntKind.i64 1)), (2, Operand.const (Value.int IntKind.i64 2))], 26, by kernel_rfl, fun a W _ _ _ => ?_⟩
  simp only [execOp, Act.eval]
  go_simp
  exact ⟨(Below.refl _ W).alloc (Nat.le_refl _) _, Row.here (Row.lit3 W 0 1 2)⟩
set_option maxRecDepth 100000 in
theorem fx_24 {E : Nat → Addr} {a0 : Act} {w0 : World} {B1 B2 : Nat} (_c : FxC E a0 w0 B1 B2) : Ob Tryz.prog opsF (ksF B2) a0 w0 24 := by
  refine ⟨Op.call { callee := Callee.value (Operand.func 11), args := #[Operand.tmp 27, Operand.tmp 28], argTypes := #[26, 26] }, 4, by kernel_rfl, fun a W _ _ hdep => ?_⟩
  have d27 : Row W W.heap.size (a.tmps.getD 27 undef) [0, 1, 2] := hdep 22 27 (by kernel_rfl) (by kernel_rfl)
  have d28 : Row W W.heap.size (a.tmps.getD 28 undef) [0, 1, 2] := hdep 23 28 (by kernel_rfl) (by kernel_rfl)
  obtain ⟨v27, e27⟩ : ∃ v, a.tmps.getD 27 undef = v := ⟨_, rfl⟩
  rw [e27] at d27
  obtain ⟨v28, e28⟩ : ∃ v, a.tmps.getD 28 undef = v := ⟨_, rfl⟩
  rw [e28] at d28
  simp only [execOp]
  go_simp
  exact ⟨Below.refl _ _, (same_is v27 v28 [0, 1, 2] [0, 1, 2] W d27 d28 (by decide) (by decide) (same_true rfl)).mono fun e w1 ⟨he, hb1⟩ => ⟨_, he, hb1, rfl⟩⟩
set_option maxRecDepth 100000 in
theorem fx_25 {E : Nat → Addr} {a0 : Act} {w0 : World} {B1 B2 : Nat} (_c : FxC E a0 w0 B1 B2) : Ob Tryz.prog opsF (ksF B2) a0 w0 25 := by
  refine ⟨Op.pick (Operand.tmp 24) (Operand.tmp 29) (Operand.const (Value.bool false)), 4, by kernel_rfl, fun a W _ _ hdep => ?_⟩
  have d24 : a.tmps.getD 24 undef = .bool true := hdep 19 24 (by kernel_rfl) (by kernel_rfl)
  have d29 : a.tmps.getD 29 undef = .bool true := hdep 24 29 (by kernel_rfl) (by kernel_rfl)
  simp only [execOp, Act.eval, d24, d29]
  go_simp
  exact ⟨Below.refl _ _, rfl⟩
set_option maxRecDepth 100000 in
theorem fx_26 {E : Nat → Addr} {a0 : Act} {w0 : World} {B1 B2 : Nat} (_c : FxC E a0 w0 B1 B2) : Ob Tryz.prog opsF (ksF B2) a0 w0 26 := by
  refine ⟨Op.move (Operand.tmp 30), 4, by kernel_rfl, fun a W _ _ hdep => ?_⟩
  have d30 : a.tmps.getD 30 undef = .bool true := hdep 25 30 (by kernel_rfl) (by kernel_rfl)
  simp only [execOp, Act.eval, d30]
  go_simp
  exact ⟨Below.refl _ _, rfl⟩
set_option maxRecDepth 100000 in
theorem fx_27 {E : Nat → Addr} {a0 : Act} {w0 : World} {B1 B2 : Nat} (c : FxC E a0 w0 B1 B2) : Ob Tryz.prog opsF (ksF B2) a0 w0 27 := by
  refine ⟨Op.move (Operand.tmp 2), 26, by kernel_rfl, fun a W _ hout _ => ?_⟩
  have d2 : a.tmps.getD 2 undef = .slice (some ⟨B2, 0, none⟩) 3 3 := (hout 2 (by kernel_rfl)).trans c.h2
  simp only [execOp, Act.eval, d2]
  go_simp
  exact ⟨Below.refl _ _, rfl⟩
set_option maxRecDepth 100000 in
theorem fx_28 {E : Nat → Addr} {a0 : Act} {w0 : World} {B1 B2 : Nat} (_c : FxC E a0 w0 B1 B2) : Ob Tryz.prog opsF (ksF B2) a0 w0 28 := by
  refine ⟨Op.buildSlice 26 2 #[(0, Operand.const (Value.int IntKind.i64 0)), (1, Operand.const (Value.int IntKind.i64 1))], 26, by kernel_rfl, fun a W _ _ _ => ?_⟩
  simp only [execOp, Act.eval]
  go_simp
  exact ⟨(Below.refl _ W).alloc (Nat.le_refl _) _, Row.here (Row.lit2 W 0 1)⟩
set_option maxRecDepth 100000 in
theorem fx_29 {E : Nat → Addr} {a0 : Act} {w0 : World} {B1 B2 : Nat} (c : FxC E a0 w0 B1 B2) : Ob Tryz.prog opsF (ksF B2) a0 w0 29 := by
  refine ⟨Op.call { callee := Callee.value (Operand.func 12), args := #[Operand.tmp 32, Operand.tmp 33], argTypes := #[26, 26] }, 3, by kernel_rfl, fun a W hb _ hdep => ?_⟩
  have d32 : a.tmps.getD 32 undef = .slice (some ⟨B2, 0, none⟩) 3 3 := hdep 27 32 (by kernel_rfl) (by kernel_rfl)
  have d33 : Row W W.heap.size (a.tmps.getD 33 undef) [0, 1] := hdep 28 33 (by kernel_rfl) (by kernel_rfl)
  obtain ⟨v33, e33⟩ : ∃ v, a.tmps.getD 33 undef = v := ⟨_, rfl⟩
  rw [e33] at d33
  simp only [execOp]
  go_simp
  exact ⟨Below.refl _ _, (cW4 _ v33 W (c.hW.up hb) d33).mono fun e w1 ⟨he, hb1⟩ => ⟨_, he, hb1, rfl⟩⟩
set_option maxRecDepth 100000 in
theorem fx_30 {E : Nat → Addr} {a0 : Act} {w0 : World} {B1 B2 : Nat} (_c : FxC E a0 w0 B1 B2) : Ob Tryz.prog opsF (ksF B2) a0 w0 30 := by
  refine ⟨Op.binOp BinOp.eql 3 (Operand.tmp 34) (Operand.const (Value.int IntKind.i64 4)) 3, 4, by kernel_rfl, fun a W _ _ hdep => ?_⟩
  have d34 : a.tmps.getD 34 undef = .int .i64 4 := hdep 29 34 (by kernel_rfl) (by kernel_rfl)
  simp only [execOp, Act.eval, d34]
  go_simp
  exact ⟨Below.refl _ _, rfl⟩
set_option maxRecDepth 100000 in
theorem fx_31 {E : Nat → Addr} {a0 : Act} {w0 : World} {B1 B2 : Nat} (_c : FxC E a0 w0 B1 B2) : Ob Tryz.prog opsF (ksF B2) a0 w0 31 := by
  refine ⟨Op.pick (Operand.tmp 31) (Operand.tmp 35) (Operand.const (Value.bool false)), 4, by kernel_rfl, fun a W _ _ hdep => ?_⟩
  have d31 : a.tmps.getD 31 undef = .bool true := hdep 26 31 (by kernel_rfl) (by kernel_rfl)
  have d35 : a.tmps.getD 35 undef = .bool true := hdep 30 35 (by kernel_rfl) (by kernel_rfl)
  simp only [execOp, Act.eval, d31, d35]
  go_simp
  exact ⟨Below.refl _ _, rfl⟩
set_option maxRecDepth 100000 in
theorem fx_32 {E : Nat → Addr} {a0 : Act} {w0 : World} {B1 B2 : Nat} (_c : FxC E a0 w0 B1 B2) : Ob Tryz.prog opsF (ksF B2) a0 w0 32 := by
  refine ⟨Op.move (Operand.tmp 36), 4, by kernel_rfl, fun a W _ _ hdep => ?_⟩
  have d36 : a.tmps.getD 36 undef = .bool true := hdep 31 36 (by kernel_rfl) (by kernel_rfl)
  simp only [execOp, Act.eval, d36]
  go_simp
  exact ⟨Below.refl _ _, rfl⟩
set_option maxRecDepth 100000 in
theorem fx_33 {E : Nat → Addr} {a0 : Act} {w0 : World} {B1 B2 : Nat} (c : FxC E a0 w0 B1 B2) : Ob Tryz.prog opsF (ksF B2) a0 w0 33 := by
  refine ⟨Op.move (Operand.tmp 2), 26, by kernel_rfl, fun a W _ hout _ => ?_⟩
  have d2 : a.tmps.getD 2 undef = .slice (some ⟨B2, 0, none⟩) 3 3 := (hout 2 (by kernel_rfl)).trans c.h2
  simp only [execOp, Act.eval, d2]
  go_simp
  exact ⟨Below.refl _ _, rfl⟩
set_option maxRecDepth 100000 in
theorem fx_34 {E : Nat → Addr} {a0 : Act} {w0 : World} {B1 B2 : Nat} (_c : FxC E a0 w0 B1 B2) : Ob Tryz.prog opsF (ksF B2) a0 w0 34 := by
  refine ⟨Op.buildSlice 26 1 #[(0, Operand.const (Value.int IntKind.i64 3))], 26, by kernel_rfl, fun a W _ _ _ => ?_⟩
  simp only [execOp, Act.eval]
  go_simp
  exact ⟨(Below.refl _ W).alloc (Nat.le_refl _) _, Row.here (Row.lit1 W 3)⟩
set_option maxRecDepth 100000 in
theorem fx_35 {E : Nat → Addr} {a0 : Act} {w0 : World} {B1 B2 : Nat} (c : FxC E a0 w0 B1 B2) : Ob Tryz.prog opsF (ksF B2) a0 w0 35 := by
  refine ⟨Op.call { callee := Callee.value (Operand.func 12), args := #[Operand.tmp 38, Operand.tmp 39], argTypes := #[26, 26] }, 3, by kernel_rfl, fun a W hb _ hdep => ?_⟩
  have d38 : a.tmps.getD 38 undef = .slice (some ⟨B2, 0, none⟩) 3 3 := hdep 33 38 (by kernel_rfl) (by kernel_rfl)
  have d39 : Row W W.heap.size (a.tmps.getD 39 undef) [3] := hdep 34 39 (by kernel_rfl) (by kernel_rfl)
  obtain ⟨v39, e39⟩ : ∃ v, a.tmps.getD 39 undef = v := ⟨_, rfl⟩
  rw [e39] at d39
  simp only [execOp]
  go_simp
  exact ⟨Below.refl _ _, (cW0 _ v39 W (c.hW.up hb) d39).mono fun e w1 ⟨he, hb1⟩ => ⟨_, he, hb1, rfl⟩⟩
set_option maxRecDepth 100000 in
theorem fx_36 {E : Nat → Addr} {a0 : Act} {w0 : World} {B1 B2 : Nat} (_c : FxC E a0 w0 B1 B2) : Ob Tryz.prog opsF (ksF B2) a0 w0 36 := by
  refine ⟨Op.binOp BinOp.eql 3 (Operand.tmp 40) (Operand.const (Value.int IntKind.i64 0)) 3, 4, by kernel_rfl, fun a W _ _ hdep => ?_⟩
  have d40 : a.tmps.getD 40 undef = .int .i64 0 := hdep 35 40 (by kernel_rfl) (by kernel_rfl)
  simp only [execOp, Act.eval, d40]
  go_simp
  exact ⟨Below.refl _ _, rfl⟩
set_option maxRecDepth 100000 in
theorem fx_37 {E : Nat → Addr} {a0 : Act} {w0 : World} {B1 B2 : Nat} (_c : FxC E a0 w0 B1 B2) : Ob Tryz.prog opsF (ksF B2) a0 w0 37 := by
  refine ⟨Op.pick (Operand.tmp 37) (Operand.tmp 41) (Operand.const (Value.bool false)), 4, by kernel_rfl, fun a W _ _ hdep => ?_⟩
  have d37 : a.tmps.getD 37 undef = .bool true := hdep 32 37 (by kernel_rfl) (by kernel_rfl)
  have d41 : a.tmps.getD 41 undef = .bool true := hdep 36 41 (by kernel_rfl) (by kernel_rfl)
  simp only [execOp, Act.eval, d37, d41]
  go_simp
  exact ⟨Below.refl _ _, rfl⟩
set_option maxRecDepth 100000 in
theorem fx_38 {E : Nat → Addr} {a0 : Act} {w0 : World} {B1 B2 : Nat} (_c : FxC E a0 w0 B1 B2) : Ob Tryz.prog opsF (ksF B2) a0 w0 38 := by
  refine ⟨Op.move (Operand.tmp 42), 4, by kernel_rfl, fun a W _ _ hdep => ?_⟩
  have d42 : a.tmps.getD 42 undef = .bool true := hdep 37 42 (by kernel_rfl) (by kernel_rfl)
  simp only [execOp, Act.eval, d42]
  go_simp
  exact ⟨Below.refl _ _, rfl⟩
set_option maxRecDepth 100000 in
theorem fx_39 {E : Nat → Addr} {a0 : Act} {w0 : World} {B1 B2 : Nat} (c : FxC E a0 w0 B1 B2) : Ob Tryz.prog opsF (ksF B2) a0 w0 39 := by
  refine ⟨Op.load 25 (Operand.tmp 1), 25, by kernel_rfl, fun a W hb hout _ => ?_⟩
  obtain ⟨k0, k1, k2, k3, k4, k5⟩ := c.hK W hb
  have d1 : a.tmps.getD 1 undef = .pointer (some ⟨B1, 0, none⟩) := (hout 1 (by kernel_rfl)).trans c.h1
  simp only [execOp, Act.eval, d1]
  go_simp
  exact ⟨Below.refl _ _, rfl⟩
set_option maxRecDepth 100000 in
theorem fx_40 {E : Nat → Addr} {a0 : Act} {w0 : World} {B1 B2 : Nat} (c : FxC E a0 w0 B1 B2) : Ob Tryz.prog opsF (ksF B2) a0 w0 40 := by
  refine ⟨Op.move (Operand.tmp 2), 26, by kernel_rfl, fun a W _ hout _ => ?_⟩
  have d2 : a.tmps.getD 2 undef = .slice (some ⟨B2, 0, none⟩) 3 3 := (hout 2 (by kernel_rfl)).trans c.h2
  simp only [execOp, Act.eval, d2]
  go_simp
  exact ⟨Below.refl _ _, rfl⟩
set_option maxRecDepth 100000 in
theorem fx_41 {E : Nat → Addr} {a0 : Act} {w0 : World} {B1 B2 : Nat} (c : FxC E a0 w0 B1 B2) : Ob Tryz.prog opsF (ksF B2) a0 w0 41 := by
  refine ⟨Op.call { callee := Callee.value (Operand.func 17), args := #[Operand.tmp 44, Operand.tmp 45], argTypes := #[25, 26] }, 4, by kernel_rfl, fun a W hb _ hdep => ?_⟩
  have d44 : a.tmps.getD 44 undef = .agg #[.int .i64 0, .int .i64 3, .int .i64 2, .int .i64 0, .slice none 0 0, .slice none 0 0] := hdep 39 44 (by kernel_rfl) (by kernel_rfl)
  have d45 : a.tmps.getD 45 undef = .slice (some ⟨B2, 0, none⟩) 3 3 := hdep 40 45 (by kernel_rfl) (by kernel_rfl)
  simp only [execOp]
  go_simp
  exact ⟨Below.refl _ _, (cM1 E _ W (c.hW.up hb) (c.hE.up hb)).mono fun e w1 ⟨he, hb1⟩ => ⟨_, he, hb1, rfl⟩⟩
set_option maxRecDepth 100000 in
theorem fx_42 {E : Nat → Addr} {a0 : Act} {w0 : World} {B1 B2 : Nat} (_c : FxC E a0 w0 B1 B2) : Ob Tryz.prog opsF (ksF B2) a0 w0 42 := by
  refine ⟨Op.pick (Operand.tmp 43) (Operand.tmp 46) (Operand.const (Value.bool false)), 4, by kernel_rfl, fun a W _ _ hdep => ?_⟩
  have d43 : a.tmps.getD 43 undef = .bool true := hdep 38 43 (by kernel_rfl) (by kernel_rfl)
  have d46 : a.tmps.getD 46 undef = .bool true := hdep 41 46 (by kernel_rfl) (by kernel_rfl)
  simp only [execOp, Act.eval, d43, d46]
  go_simp
  exact ⟨Below.refl _ _, rfl⟩
set_option maxRecDepth 100000 in
theorem fx_43 {E : Nat → Addr} {a0 : Act} {w0 : World} {B1 B2 : Nat} (_c : FxC E a0 w0 B1 B2) : Ob Tryz.prog opsF (ksF B2) a0 w0 43 := by
  refine ⟨Op.move (Operand.tmp 47), 4, by kernel_rfl, fun a W _ _ hdep => ?_⟩
  have d47 : a.tmps.getD 47 undef = .bool true := hdep 42 47 (by kernel_rfl) (by kernel_rfl)
  simp only [execOp, Act.eval, d47]
  go_simp
  exact ⟨Below.refl _ _, rfl⟩
set_option maxRecDepth 100000 in
theorem fx_44 {E : Nat → Addr} {a0 : Act} {w0 : World} {B1 B2 : Nat} (c : FxC E a0 w0 B1 B2) : Ob Tryz.prog opsF (ksF B2) a0 w0 44 := by
  refine ⟨Op.load 25 (Operand.tmp 1), 25, by kernel_rfl, fun a W hb hout _ => ?_⟩
  obtain ⟨k0, k1, k2, k3, k4, k5⟩ := c.hK W hb
  have d1 : a.tmps.getD 1 undef = .pointer (some ⟨B1, 0, none⟩) := (hout 1 (by kernel_rfl)).trans c.h1
  simp only [execOp, Act.eval, d1]
  go_simp
  exact ⟨Below.refl _ _, rfl⟩
set_option maxRecDepth 100000 in
theorem fx_45 {E : Nat → Addr} {a0 : Act} {w0 : World} {B1 B2 : Nat} (c : FxC E a0 w0 B1 B2) : Ob Tryz.prog opsF (ksF B2) a0 w0 45 := by
  refine ⟨Op.move (Operand.tmp 2), 26, by kernel_rfl, fun a W _ hout _ => ?_⟩
  have d2 : a.tmps.getD 2 undef = .slice (some ⟨B2, 0, none⟩) 3 3 := (hout 2 (by kernel_rfl)).trans c.h2
  simp only [execOp, Act.eval, d2]
  go_simp
  exact ⟨Below.refl _ _, rfl⟩
set_option maxRecDepth 100000 in
theorem fx_46 {E : Nat → Addr} {a0 : Act} {w0 : World} {B1 B2 : Nat} (c : FxC E a0 w0 B1 B2) : Ob Tryz.prog opsF (ksF B2) a0 w0 46 := by
  refine ⟨Op.slice 26 (Operand.tmp 50) (some (Operand.const (Value.int IntKind.i64 1))) none none, 26, by kernel_rfl, fun a W hb _ hdep => ?_⟩
  have d50 : a.tmps.getD 50 undef = .slice (some ⟨B2, 0, none⟩) 3 3 := hdep 45 50 (by kernel_rfl) (by kernel_rfl)
  simp only [execOp, Act.eval, d50]
  go_simp
  exact ⟨Below.refl _ _, tail_row (c.hW.up hb)⟩
set_option maxRecDepth 100000 in
theorem fx_47 {E : Nat → Addr} {a0 : Act} {w0 : World} {B1 B2 : Nat} (c : FxC E a0 w0 B1 B2) : Ob Tryz.prog opsF (ksF B2) a0 w0 47 := by
  refine ⟨Op.call { callee := Callee.value (Operand.func 17), args := #[Operand.tmp 49, Operand.tmp 51], argTypes := #[25, 26] }, 4, by kernel_rfl, fun a W hb _ hdep => ?_⟩
  have d49 : a.tmps.getD 49 undef = .agg #[.int .i64 0, .int .i64 3, .int .i64 2, .int .i64 0, .slice none 0 0, .slice none 0 0] := hdep 44 49 (by kernel_rfl) (by kernel_rfl)
  have d51 : Row W W.heap.size (a.tmps.getD 51 undef) [-1, 7] := hdep 46 51 (by kernel_rfl) (by kernel_rfl)
  obtain ⟨v51, e51⟩ : ∃ v, a.tmps.getD 51 undef = v := ⟨_, rfl⟩
  rw [e51] at d51
  simp only [execOp]
  go_simp
  exact ⟨Below.refl _ _, (cM2 E v51 W d51 (c.hE.up hb)).mono fun e w1 ⟨he, hb1⟩ => ⟨_, he, hb1, rfl⟩⟩
set_option maxRecDepth 100000 in
theorem fx_48 {E : Nat → Addr} {a0 : Act} {w0 : World} {B1 B2 : Nat} (_c : FxC E a0 w0 B1 B2) : Ob Tryz.prog opsF (ksF B2) a0 w0 48 := by
  refine ⟨Op.unOp UnOp.not 4 (Operand.tmp 52), 4, by kernel_rfl, fun a W _ _ hdep => ?_⟩
  have d52 : a.tmps.getD 52 undef = .bool false := hdep 47 52 (by kernel_rfl) (by kernel_rfl)
  simp only [execOp, Act.eval, d52]
  go_simp
  exact ⟨Below.refl _ _, rfl⟩
set_option maxRecDepth 100000 in
theorem fx_49 {E : Nat → Addr} {a0 : Act} {w0 : World} {B1 B2 : Nat} (_c : FxC E a0 w0 B1 B2) : Ob Tryz.prog opsF (ksF B2) a0 w0 49 := by
  refine ⟨Op.pick (Operand.tmp 48) (Operand.tmp 53) (Operand.const (Value.bool false)), 4, by kernel_rfl, fun a W _ _ hdep => ?_⟩
  have d48 : a.tmps.getD 48 undef = .bool true := hdep 43 48 (by kernel_rfl) (by kernel_rfl)
  have d53 : a.tmps.getD 53 undef = .bool true := hdep 48 53 (by kernel_rfl) (by kernel_rfl)
  simp only [execOp, Act.eval, d48, d53]
  go_simp
  exact ⟨Below.refl _ _, rfl⟩
set_option maxRecDepth 100000 in
theorem fx_50 {E : Nat → Addr} {a0 : Act} {w0 : World} {B1 B2 : Nat} (_c : FxC E a0 w0 B1 B2) : Ob Tryz.prog opsF (ksF B2) a0 w0 50 := by
  refine ⟨Op.move (Operand.tmp 54), 4, by kernel_rfl, fun a W _ _ hdep => ?_⟩
  have d54 : a.tmps.getD 54 undef = .bool true := hdep 49 54 (by kernel_rfl) (by kernel_rfl)
  simp only [execOp, Act.eval, d54]
  go_simp
  exact ⟨Below.refl _ _, rfl⟩
set_option maxRecDepth 100000 in
theorem fx_51 {E : Nat → Addr} {a0 : Act} {w0 : World} {B1 B2 : Nat} (c : FxC E a0 w0 B1 B2) : Ob Tryz.prog opsF (ksF B2) a0 w0 51 := by
  refine ⟨Op.load 25 (Operand.tmp 1), 25, by kernel_rfl, fun a W hb hout _ => ?_⟩
  obtain ⟨k0, k1, k2, k3, k4, k5⟩ := c.hK W hb
  have d1 : a.tmps.getD 1 undef = .pointer (some ⟨B1, 0, none⟩) := (hout 1 (by kernel_rfl)).trans c.h1
  simp only [execOp, Act.eval, d1]
  go_simp
  exact ⟨Below.refl _ _, rfl⟩
set_option maxRecDepth 100000 in
theorem fx_52 {E : Nat → Addr} {a0 : Act} {w0 : World} {B1 B2 : Nat} (c : FxC E a0 w0 B1 B2) : Ob Tryz.prog opsF (ksF B2) a0 w0 52 := by
  refine ⟨Op.call { callee := Callee.value (Operand.func 16), args := #[Operand.tmp 56, Operand.const (Value.slice none 0 0)], argTypes := #[25, 26] }, 26, by kernel_rfl, fun a W hb _ hdep => ?_⟩
  have d56 : a.tmps.getD 56 undef = .agg #[.int .i64 0, .int .i64 3, .int .i64 2, .int .i64 0, .slice none 0 0, .slice none 0 0] := hdep 51 56 (by kernel_rfl) (by kernel_rfl)
  simp only [execOp]
  go_simp
  exact ⟨Below.refl _ _, (cB0 E _ W (Row.nil_ _ _) (c.hE.up hb)).mono fun e w1 hg => gives_u hg⟩
set_option maxRecDepth 100000 in
theorem fx_53 {E : Nat → Addr} {a0 : Act} {w0 : World} {B1 B2 : Nat} (_c : FxC E a0 w0 B1 B2) : Ob Tryz.prog opsF (ksF B2) a0 w0 53 := by
  refine ⟨Op.call { callee := Callee.builtin Builtin.len, args := #[Operand.tmp 57], argTypes := #[26] }, 3, by kernel_rfl, fun a W _ _ hdep => ?_⟩
  have d57 : Row W W.heap.size (a.tmps.getD 57 undef) [] := hdep 52 57 (by kernel_rfl) (by kernel_rfl)
  obtain ⟨v57, e57⟩ : ∃ v, a.tmps.getD 57 undef = v := ⟨_, rfl⟩
  rw [e57] at d57
  obtain ⟨A, _, rfl, _⟩ := d57
  simp only [execOp]
  go_simp
  exact ⟨Below.refl _ _, rfl⟩
set_option maxRecDepth 100000 in
theorem fx_54 {E : Nat → Addr} {a0 : Act} {w0 : World} {B1 B2 : Nat} (_c : FxC E a0 w0 B1 B2) : Ob Tryz.prog opsF (ksF B2) a0 w0 54 := by
  refine ⟨Op.binOp BinOp.eql 3 (Operand.tmp 58) (Operand.const (Value.int IntKind.i64 0)) 3, 4, by kernel_rfl, fun a W _ _ hdep => ?_⟩
  have d58 : a.tmps.getD 58 undef = .int .i64 0 := hdep 53 58 (by kernel_rfl) (by kernel_rfl)
  simp only [execOp, Act.eval, d58]
  go_simp
  exact ⟨Below.refl _ _, rfl⟩
set_option maxRecDepth 100000 in
theorem fx_55 {E : Nat → Addr} {a0 : Act} {w0 : World} {B1 B2 : Nat} (_c : FxC E a0 w0 B1 B2) : Ob Tryz.prog opsF (ksF B2) a0 w0 55 := by
  refine ⟨Op.pick (Operand.tmp 55) (Operand.tmp 59) (Operand.const (Value.bool false)), 4, by kernel_rfl, fun a W _ _ hdep => ?_⟩
  have d55 : a.tmps.getD 55 undef = .bool true := hdep 50 55 (by kernel_rfl) (by kernel_rfl)
  have d59 : a.tmps.getD 59 undef = .bool true := hdep 54 59 (by kernel_rfl) (by kernel_rfl)
  simp only [execOp, Act.eval, d55, d59]
  go_simp
  exact ⟨Below.refl _ _, rfl⟩
set_option maxRecDepth 100000 in
theorem fx_56 {E : Nat → Addr} {a0 : Act} {w0 : World} {B1 B2 : Nat} (_c : FxC E a0 w0 B1 B2) : Ob Tryz.prog opsF (ksF B2) a0 w0 56 := by
  refine ⟨Op.assign (Operand.tmp 60), 4, by kernel_rfl, fun a W _ _ hdep => ?_⟩
  have d60 : a.tmps.getD 60 undef = .bool true := hdep 55 60 (by kernel_rfl) (by kernel_rfl)
  simp only [execOp, Act.eval, d60]
  go_simp
  exact ⟨Below.refl _ _, rfl⟩
theorem all_step {p : Nat → Prop} {n : Nat} (h : ∀ i, i < n → p i) (hn : p n) : ∀ i, i < n + 1 → p i := fun i hi => if e : i = n then e ▸ hn else h i (by omega)
theorem fx_all {E : Nat → Addr} {a0 : Act} {w0 : World} {B1 B2 : Nat} (c : FxC E a0 w0 B1 B2) : ∀ i, i < opsF.size → Ob Tryz.prog opsF (ksF B2) a0 w0 i := by
  rw [show opsF.size = 57 by kernel_rfl]
  have s0 : ∀ i, i < 0 → Ob Tryz.prog opsF (ksF B2) a0 w0 i := fun i hi => absurd hi (Nat.not_lt_zero i)
  have s1 := all_step s0 (fx_0 c)
  clear s0
  have s2 := all_step s1 (fx_1 c)
  clear s1
  have s3 := all_step s2 (fx_2 c)
  clear s2
  have s4 := all_step s3 (fx_3 c)
  clear s3
  have s5 := all_step s4 (fx_4 c)
  clear s4
  have s6 := all_step s5 (fx_5 c)
  clear s5
  have s7 := all_step s6 (fx_6 c)
  clear s6
  have s8 := all_step s7 (fx_7 c)
  clear s7
  have s9 := all_step s8 (fx_8 c)
  clear s8
  have s10 := all_step s9 (fx_9 c)
  clear s9
  have s11 := all_step s10 (fx_10 c)
  clear s10
  have s12 := all_step s11 (fx_11 c)
  clear s11
  have s13 := all_step s12 (fx_12 c)
  clear s12
  have s14 := all_step s13 (fx_13 c)
  clear s13
  have s15 := all_step s14 (fx_14 c)
  clear s14
  have s16 := all_step s15 (fx_15 c)
  clear s15
  have s17 := all_step s16 (fx_16 c)
  clear s16
  have s18 := all_step s17 (fx_17 c)
  clear s17
  have s19 := all_step s18 (fx_18 c)
  clear s18
  have s20 := all_step s19 (fx_19 c)
  clear s19
  have s21 := all_step s20 (fx_20 c)
  clear s20
  have s22 := all_step s21 (fx_21 c)
  clear s21
  have s23 := all_step s22 (fx_22 c)
  clear s22
  have s24 := all_step s23 (fx_23 c)
  clear s23
  have s25 := all_step s24 (fx_24 c)
  clear s24
  have s26 := all_step s25 (fx_25 c)
  clear s25
  have s27 := all_step s26 (fx_26 c)
  clear s26
  have s28 := all_step s27 (fx_27 c)
  clear s27
  have s29 := all_step s28 (fx_28 c)
  clear s28
  have s30 := all_step s29 (fx_29 c)
  clear s29
  have s31 := all_step s30 (fx_30 c)
  clear s30
  have s32 := all_step s31 (fx_31 c)
  clear s31
  have s33 := all_step s32 (fx_32 c)
  clear s32
  have s34 := all_step s33 (fx_33 c)
  clear s33
  have s35 := all_step s34 (fx_34 c)
  clear s34
  have s36 := all_step s35 (fx_35 c)
  clear s35
  have s37 := all_step s36 (fx_36 c)
  clear s36
  have s38 := all_step s37 (fx_37 c)
  clear s37
  have s39 := all_step s38 (fx_38 c)
  clear s38
  have s40 := all_step s39 (fx_39 c)
  clear s39
  have s41 := all_step s40 (fx_40 c)
  clear s40
  have s42 := all_step s41 (fx_41 c)
  clear s41
  have s43 := all_step s42 (fx_42 c)
  clear s42
  have s44 := all_step s43 (fx_43 c)
  clear s43
  have s45 := all_step s44 (fx_44 c)
  clear s44
  have s46 := all_step s45 (fx_45 c)
  clear s45
  have s47 := all_step s46 (fx_46 c)
  clear s46
  have s48 := all_step s47 (fx_47 c)
  clear s47
  have s49 := all_step s48 (fx_48 c)
  clear s48
  have s50 := all_step s49 (fx_49 c)
  clear s49
  have s51 := all_step s50 (fx_50 c)
  clear s50
  have s52 := all_step s51 (fx_51 c)
  clear s51
  have s53 := all_step s52 (fx_52 c)
  clear s52
  have s54 := all_step s53 (fx_53 c)
  clear s53
  have s55 := all_step s54 (fx_54 c)
  clear s54
  have s56 := all_step s55 (fx_55 c)
  clear s55
  have s57 := all_step s56 (fx_56 c)
  clear s56
  exact s57

set_option maxHeartbeats 16000000 in
set_option maxRecDepth 100000 in
theorem fixed12_any (E : Nat → Addr) (w : World) (hE : Env E w) : Calls Tryz.prog 5 #[] w (Truly w) := by
  have hb0 : Below w.heap.size w ((w.alloc (.cells #[.int .i64 0, .int .i64 3, .int .i64 2, .int .i64 0, .slice none 0 0, .slice none 0 0] 25)).alloc (.cells #[.int .i64 5, .int .i64 (-1), .int .i64 7] 3)) := ((Below.refl w.heap.size w).alloc (Nat.le_refl _) _).alloc (by simp) _
  have hblk := (Blk.new w 25 #[.int .i64 0, .int .i64 3, .int .i64 2, .int .i64 0, .slice none 0 0, .slice none 0 0]).below ((Below.refl _ _).alloc (Nat.le_refl _) (.cells #[.int .i64 5, .int .i64 (-1), .int .i64 7] 3)) (by simp)
  have hrow := Row.here (Row.lit3 (w.alloc (.cells #[.int .i64 0, .int .i64 3, .int .i64 2, .int .i64 0, .slice none 0 0, .slice none 0 0] 25)) 5 (-1) 7)
  generalize hX : (w.alloc (.cells #[.int .i64 0, .int .i64 3, .int .i64 2, .int .i64 0, .slice none 0 0, .slice none 0 0] 25)).alloc (.cells #[.int .i64 5, .int .i64 (-1), .int .i64 7] 3) = X at *
  have HX := Lib.hid hX
  have Hb0 := Lib.hid hb0
  have hdr : Below X.heap.size X X.drew := (Below.refl _ X).drew
  have HR := Lib.hid (hrow.up hdr)
  have HE := Lib.hid ((hE.up hb0).up hdr)
  have Hblk := Lib.hid (hblk.below hdr hblk.lt)
  clear hE hX hb0 hblk hrow hdr
  go_enter Tryz.func5, Tryz.ntmps5
  go_wp2
  try rw [HX.out]
  refine wp_region_grants (ops := opsF) (ksF (w.heap.size + 1)) (by kernel_rfl) (by kernel_rfl) (fx_all (B1 := w.heap.size) (E := E) ⟨rfl, rfl, fun W hW => ⟨(Hblk.out.below hW Hblk.out.lt).cell 0, (Hblk.out.below hW Hblk.out.lt).cell 1, (Hblk.out.below hW Hblk.out.lt).cell 2, (Hblk.out.below hW Hblk.out.lt).cell 3, (Hblk.out.below hW Hblk.out.lt).cell 4, (Hblk.out.below hW Hblk.out.lt).cell 5⟩, by simpa using HR.out, HE.out⟩) ?_
  intro a' W hW hsz hdf hout hall
  have h0 : a'.tmps.getD 0 undef = .bool true := hall 56 0 (by rw [show opsF.size = 57 by kernel_rfl]; decide) (by kernel_rfl)
  go_wp2
  refine bodyPost_ret (v := .bool true) ?_ hdf ⟨rfl, below_next Hb0.out.drew (Nat.le_refl _) hW⟩
  simp [results, Tryz.f5, go_sem]
  simpa [Array.getD_eq_getD_getElem?] using h0

end Wp
end Go.Proofs.YtolnkgghejhaeaaGreatDoor
