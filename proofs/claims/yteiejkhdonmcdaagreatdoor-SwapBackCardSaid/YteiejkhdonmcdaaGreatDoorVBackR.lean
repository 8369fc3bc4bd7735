/- SwapBack's drawn regions, operation by operation (written by gen_vback.py). -/
import Derived.Test.YteiejkhdonmcdaaGreatDoorVTail
import Derived.Test.YteiejkhdonmcdaaGreatDoorZA
import Derived.Test.YteiejkhdonmcdaaGreatDoorYReg
namespace Go.Proofs.YteiejkhdonmcdaaGreatDoor
open Go Go.RowKit
namespace Wp
structure vbP where
  (B1 B2 B3 : Nat)
  (c0 c1 c2 c3 c4 c5 d0 d1 d2 d3 d4 d5 sv pv : Value)
  (P : List Int)
  (A B M G D : Bool)
noncomputable def vbO : Array Oper := regOf 1 (Tryz.f6.body.getD .skip)
structure vbC (a0 : Act) (w0 : World) (x : vbP) : Prop where
  h3 : a0.tmps.getD 3 undef = .pointer (some ⟨x.B1, 0, none⟩)
  h4 : a0.tmps.getD 4 undef = .pointer (some ⟨x.B2, 0, none⟩)
  h5 : a0.tmps.getD 5 undef = .pointer (some ⟨x.B3, 0, none⟩)
  hK1 : ∀ W, Below w0.heap.size w0 W → W.cell? ⟨x.B1, 0, none⟩ = some x.c0 ∧ W.cell? ⟨x.B1, 1, none⟩ = some x.c1 ∧ W.cell? ⟨x.B1, 2, none⟩ = some x.c2 ∧ W.cell? ⟨x.B1, 3, none⟩ = some x.c3 ∧ W.cell? ⟨x.B1, 4, none⟩ = some x.c4 ∧ W.cell? ⟨x.B1, 5, none⟩ = some x.c5
  hK2 : ∀ W, Below w0.heap.size w0 W → W.cell? ⟨x.B2, 0, none⟩ = some x.d0 ∧ W.cell? ⟨x.B2, 1, none⟩ = some x.d1 ∧ W.cell? ⟨x.B2, 2, none⟩ = some x.d2 ∧ W.cell? ⟨x.B2, 3, none⟩ = some x.d3 ∧ W.cell? ⟨x.B2, 4, none⟩ = some x.d4 ∧ W.cell? ⟨x.B2, 5, none⟩ = some x.d5
  hK30 : ∀ W, Below w0.heap.size w0 W → W.cell? ⟨x.B3, 0, none⟩ = some x.sv
  hK31 : ∀ W, Below w0.heap.size w0 W → W.cell? ⟨x.B3, 1, none⟩ = some x.pv
  hF : ∀ W, Below w0.heap.size w0 W → Calls Tryz.prog 15 #[] W (Says W true)
  hA : ∀ W, Below w0.heap.size w0 W → Calls Tryz.prog 14 #[.agg #[x.c0, x.c1, x.c2, x.c3, x.c4, x.c5], .int .i64 8] W (Says W x.A)
  hB : ∀ W, Below w0.heap.size w0 W → Calls Tryz.prog 14 #[.agg #[x.d0, x.d1, x.d2, x.d3, x.d4, x.d5], .int .i64 8] W (Says W x.B)
  hM : ∀ W, Below w0.heap.size w0 W → x.A = true → x.B = true → Calls Tryz.prog 19 #[.agg #[x.c0, x.c1, x.c2, x.c3, x.c4, x.c5], .agg #[x.d0, x.d1, x.d2, x.d3, x.d4, x.d5], x.sv] W (Says W x.M)
  hS : ∀ W, Below w0.heap.size w0 W → x.G = false → Calls Tryz.prog 32 #[x.pv] W (Gives W (sortL x.P))
  hG : decide ((20 : Int) < (x.P.length : Int)) = x.G
  hD : (((sortL x.P).length : Int) != (x.P.length : Int)) = x.D
  hL : ∃ Ap cp, x.pv = .slice Ap x.P.length cp
def vbK (x : vbP) : List Kind := [.eq (.bool true), .eq (.bool (!true)), .eq (.bool (!true)), .eq (.agg #[x.c0, x.c1, x.c2, x.c3, x.c4, x.c5]), .eq (.bool x.A), .eq (.bool (!x.A)), .eq (.bool ((!true) || (!x.A))), .eq (.bool ((!true) || (!x.A))), .eq (.agg #[x.d0, x.d1, x.d2, x.d3, x.d4, x.d5]), .eq (.bool x.B), .eq (.bool (!x.B)), .eq (.bool (((!true) || (!x.A)) || (!x.B))), .eq (.bool (((!true) || (!x.A)) || (!x.B))), .eq (.agg #[x.c0, x.c1, x.c2, x.c3, x.c4, x.c5]), .eq (.agg #[x.d0, x.d1, x.d2, x.d3, x.d4, x.d5]), .eq (.pointer (some ⟨x.B3, 0, none⟩)), .eq (x.sv), .eq (.bool x.M), .eq (.bool (!x.M)), .eq (.bool ((((!true) || (!x.A)) || (!x.B)) || (!x.M))), .eq (.bool ((((!true) || (!x.A)) || (!x.B)) || (!x.M))), .eq (.pointer (some ⟨x.B3, 1, none⟩)), .eq (x.pv), .eq (.int .i64 (x.P.length : Int)), .eq (.bool x.G), .eq (.bool (((((!true) || (!x.A)) || (!x.B)) || (!x.M)) || x.G)), .eq (.bool (((((!true) || (!x.A)) || (!x.B)) || (!x.M)) || x.G)), .eq (.pointer (some ⟨x.B3, 1, none⟩)), .eq (x.pv), .row (sortL x.P), .eq (.int .i64 ((sortL x.P).length : Int)), .eq (.pointer (some ⟨x.B3, 1, none⟩)), .eq (x.pv), .eq (.int .i64 (x.P.length : Int)), .eq (.bool x.D), .eq (.bool ((((((!true) || (!x.A)) || (!x.B)) || (!x.M)) || x.G) || x.D))]
set_option maxRecDepth 100000 in
theorem vb_0 {a0 : Act} {w0 : World} {x : vbP} (c : vbC a0 w0 x) : ObW Tryz.prog vbO (vbK x) a0 w0 0 := by
  refine ⟨Op.call { callee := Callee.value (Operand.func 15), args := #[], argTypes := #[] }, 4, by kernel_rfl, fun a W _ hb _ _ => ?_⟩
  simp only [execOp]
  go_simp
  exact ⟨Below.refl _ _, (c.hF W hb).mono fun e w1 ⟨he, hb1⟩ => ⟨_, he, hb1, rfl⟩⟩
set_option maxRecDepth 100000 in
theorem vb_1 {a0 : Act} {w0 : World} {x : vbP} (_c : vbC a0 w0 x) : ObW Tryz.prog vbO (vbK x) a0 w0 1 := by
  refine ⟨Op.unOp UnOp.not 4 (Operand.tmp 17), 4, by kernel_rfl, fun a W _ _ _ hdep => ?_⟩
  have e17 := hdep 0 17 (by kernel_rfl) (by kernel_rfl)
  rw [show ek vbO (vbK x) 0 = .eq (.bool true) from by kernel_rfl] at e17
  have e17 : a.tmps.getD 17 undef = .bool true := e17
  simp only [execOp, Act.eval, e17]
  go_simp
  exact ⟨Below.refl _ _, rfl⟩
set_option maxRecDepth 100000 in
theorem vb_2 {a0 : Act} {w0 : World} {x : vbP} (_c : vbC a0 w0 x) : ObW Tryz.prog vbO (vbK x) a0 w0 2 := by
  refine ⟨Op.move (Operand.tmp 18), 4, by kernel_rfl, fun a W _ _ _ hdep => ?_⟩
  have e18 := hdep 1 18 (by kernel_rfl) (by kernel_rfl)
  rw [show ek vbO (vbK x) 1 = .eq (.bool (!true)) from by kernel_rfl] at e18
  have e18 : a.tmps.getD 18 undef = .bool (!true) := e18
  simp only [execOp, Act.eval, e18]
  go_simp
  exact ⟨Below.refl _ _, rfl⟩
set_option maxRecDepth 100000 in
theorem vb_3 {a0 : Act} {w0 : World} {x : vbP} (c : vbC a0 w0 x) : ObW Tryz.prog vbO (vbK x) a0 w0 3 := by
  refine ⟨Op.load 25 (Operand.tmp 3), 25, by kernel_rfl, fun a W hw hb hout _ => ?_⟩
  rw [show wantK vbO (vbK x) 3 = ((!true) == false) from by kernel_rfl] at hw
  have e3 : a.tmps.getD 3 undef = .pointer (some ⟨x.B1, 0, none⟩) := (hout 3 (by kernel_rfl)).trans c.h3
  obtain ⟨k0, k1, k2, k3, k4, k5⟩ := c.hK1 W hb
  simp only [execOp, Act.eval, e3]
  go_simp
  exact ⟨Below.refl _ _, rfl⟩
set_option maxRecDepth 100000 in
theorem vb_4 {a0 : Act} {w0 : World} {x : vbP} (c : vbC a0 w0 x) : ObW Tryz.prog vbO (vbK x) a0 w0 4 := by
  refine ⟨Op.call { callee := Callee.value (Operand.func 14), args := #[Operand.tmp 20, Operand.const (Value.int IntKind.i64 8)], argTypes := #[25, 3] }, 4, by kernel_rfl, fun a W hw hb _ hdep => ?_⟩
  rw [show wantK vbO (vbK x) 4 = ((!true) == false) from by kernel_rfl] at hw
  have e20 := hdep 3 20 (by kernel_rfl) (by kernel_rfl)
  rw [show ek vbO (vbK x) 3 = if ((!true) == false) = true then .eq (.agg #[x.c0, x.c1, x.c2, x.c3, x.c4, x.c5]) else .eq undef from by kernel_rfl] at e20
  rw [if_pos hw] at e20
  have e20 : a.tmps.getD 20 undef = .agg #[x.c0, x.c1, x.c2, x.c3, x.c4, x.c5] := e20
  simp only [execOp]
  go_simp
  exact ⟨Below.refl _ _, (c.hA W hb).mono fun e w1 ⟨he, hb1⟩ => ⟨_, he, hb1, rfl⟩⟩
set_option maxRecDepth 100000 in
theorem vb_5 {a0 : Act} {w0 : World} {x : vbP} (_c : vbC a0 w0 x) : ObW Tryz.prog vbO (vbK x) a0 w0 5 := by
  refine ⟨Op.unOp UnOp.not 4 (Operand.tmp 21), 4, by kernel_rfl, fun a W hw _ _ hdep => ?_⟩
  rw [show wantK vbO (vbK x) 5 = ((!true) == false) from by kernel_rfl] at hw
  have e21 := hdep 4 21 (by kernel_rfl) (by kernel_rfl)
  rw [show ek vbO (vbK x) 4 = if ((!true) == false) = true then .eq (.bool x.A) else .eq undef from by kernel_rfl] at e21
  rw [if_pos hw] at e21
  have e21 : a.tmps.getD 21 undef = .bool x.A := e21
  simp only [execOp, Act.eval, e21]
  go_simp
  exact ⟨Below.refl _ _, rfl⟩
set_option maxRecDepth 100000 in
theorem vb_6 {a0 : Act} {w0 : World} {x : vbP} (_c : vbC a0 w0 x) : ObW Tryz.prog vbO (vbK x) a0 w0 6 := by
  refine ⟨Op.pick (Operand.tmp 19) (Operand.const (Value.bool true)) (Operand.tmp 22), 4, by kernel_rfl, fun a W _ _ _ hdep => ?_⟩
  have e19 := hdep 2 19 (by kernel_rfl) (by kernel_rfl)
  rw [show ek vbO (vbK x) 2 = .eq (.bool (!true)) from by kernel_rfl] at e19
  have e19 : a.tmps.getD 19 undef = .bool (!true) := e19
  have e22 := hdep 5 22 (by kernel_rfl) (by kernel_rfl)
  rw [show ek vbO (vbK x) 5 = if ((!true) == false) = true then .eq (.bool (!x.A)) else .eq undef from by kernel_rfl] at e22
  show Yv6 _ _ _ (Kind.holds (.eq (.bool ((!true) || (!x.A)))))
  generalize (!true) = p at *
  generalize (!x.A) = q at *
  obtain ⟨v, hv⟩ : ∃ v, a.tmps.getD 22 undef = v := ⟨_, rfl⟩
  rw [hv] at e22
  cases p
  all_goals
    simp at e22
    have e22 : v = _ := e22
    subst e22
    simp only [execOp, Act.eval, e19, hv]
    go_simp
    exact ⟨Below.refl _ _, rfl⟩
set_option maxRecDepth 100000 in
theorem vb_7 {a0 : Act} {w0 : World} {x : vbP} (_c : vbC a0 w0 x) : ObW Tryz.prog vbO (vbK x) a0 w0 7 := by
  refine ⟨Op.move (Operand.tmp 23), 4, by kernel_rfl, fun a W _ _ _ hdep => ?_⟩
  have e23 := hdep 6 23 (by kernel_rfl) (by kernel_rfl)
  rw [show ek vbO (vbK x) 6 = .eq (.bool ((!true) || (!x.A))) from by kernel_rfl] at e23
  have e23 : a.tmps.getD 23 undef = .bool ((!true) || (!x.A)) := e23
  simp only [execOp, Act.eval, e23]
  go_simp
  exact ⟨Below.refl _ _, rfl⟩
set_option maxRecDepth 100000 in
theorem vb_8 {a0 : Act} {w0 : World} {x : vbP} (c : vbC a0 w0 x) : ObW Tryz.prog vbO (vbK x) a0 w0 8 := by
  refine ⟨Op.load 25 (Operand.tmp 4), 25, by kernel_rfl, fun a W hw hb hout _ => ?_⟩
  rw [show wantK vbO (vbK x) 8 = (((!true) || (!x.A)) == false) from by kernel_rfl] at hw
  have e4 : a.tmps.getD 4 undef = .pointer (some ⟨x.B2, 0, none⟩) := (hout 4 (by kernel_rfl)).trans c.h4
  obtain ⟨k0, k1, k2, k3, k4, k5⟩ := c.hK2 W hb
  simp only [execOp, Act.eval, e4]
  go_simp
  exact ⟨Below.refl _ _, rfl⟩
set_option maxRecDepth 100000 in
theorem vb_9 {a0 : Act} {w0 : World} {x : vbP} (c : vbC a0 w0 x) : ObW Tryz.prog vbO (vbK x) a0 w0 9 := by
  refine ⟨Op.call { callee := Callee.value (Operand.func 14), args := #[Operand.tmp 25, Operand.const (Value.int IntKind.i64 8)], argTypes := #[25, 3] }, 4, by kernel_rfl, fun a W hw hb _ hdep => ?_⟩
  rw [show wantK vbO (vbK x) 9 = (((!true) || (!x.A)) == false) from by kernel_rfl] at hw
  have e25 := hdep 8 25 (by kernel_rfl) (by kernel_rfl)
  rw [show ek vbO (vbK x) 8 = if (((!true) || (!x.A)) == false) = true then .eq (.agg #[x.d0, x.d1, x.d2, x.d3, x.d4, x.d5]) else .eq undef from by kernel_rfl] at e25
  rw [if_pos hw] at e25
  have e25 : a.tmps.getD 25 undef = .agg #[x.d0, x.d1, x.d2, x.d3, x.d4, x.d5] := e25
  simp only [execOp]
  go_simp
  exact ⟨Below.refl _ _, (c.hB W hb).mono fun e w1 ⟨he, hb1⟩ => ⟨_, he, hb1, rfl⟩⟩
set_option maxRecDepth 100000 in
theorem vb_10 {a0 : Act} {w0 : World} {x : vbP} (_c : vbC a0 w0 x) : ObW Tryz.prog vbO (vbK x) a0 w0 10 := by
  refine ⟨Op.unOp UnOp.not 4 (Operand.tmp 26), 4, by kernel_rfl, fun a W hw _ _ hdep => ?_⟩
  rw [show wantK vbO (vbK x) 10 = (((!true) || (!x.A)) == false) from by kernel_rfl] at hw
  have e26 := hdep 9 26 (by kernel_rfl) (by kernel_rfl)
  rw [show ek vbO (vbK x) 9 = if (((!true) || (!x.A)) == false) = true then .eq (.bool x.B) else .eq undef from by kernel_rfl] at e26
  rw [if_pos hw] at e26
  have e26 : a.tmps.getD 26 undef = .bool x.B := e26
  simp only [execOp, Act.eval, e26]
  go_simp
  exact ⟨Below.refl _ _, rfl⟩
set_option maxRecDepth 100000 in
theorem vb_11 {a0 : Act} {w0 : World} {x : vbP} (_c : vbC a0 w0 x) : ObW Tryz.prog vbO (vbK x) a0 w0 11 := by
  refine ⟨Op.pick (Operand.tmp 24) (Operand.const (Value.bool true)) (Operand.tmp 27), 4, by kernel_rfl, fun a W _ _ _ hdep => ?_⟩
  have e24 := hdep 7 24 (by kernel_rfl) (by kernel_rfl)
  rw [show ek vbO (vbK x) 7 = .eq (.bool ((!true) || (!x.A))) from by kernel_rfl] at e24
  have e24 : a.tmps.getD 24 undef = .bool ((!true) || (!x.A)) := e24
  have e27 := hdep 10 27 (by kernel_rfl) (by kernel_rfl)
  rw [show ek vbO (vbK x) 10 = if (((!true) || (!x.A)) == false) = true then .eq (.bool (!x.B)) else .eq undef from by kernel_rfl] at e27
  show Yv6 _ _ _ (Kind.holds (.eq (.bool (((!true) || (!x.A)) || (!x.B)))))
  generalize ((!true) || (!x.A)) = p at *
  generalize (!x.B) = q at *
  obtain ⟨v, hv⟩ : ∃ v, a.tmps.getD 27 undef = v := ⟨_, rfl⟩
  rw [hv] at e27
  cases p
  all_goals
    simp at e27
    have e27 : v = _ := e27
    subst e27
    simp only [execOp, Act.eval, e24, hv]
    go_simp
    exact ⟨Below.refl _ _, rfl⟩
set_option maxRecDepth 100000 in
theorem vb_12 {a0 : Act} {w0 : World} {x : vbP} (_c : vbC a0 w0 x) : ObW Tryz.prog vbO (vbK x) a0 w0 12 := by
  refine ⟨Op.move (Operand.tmp 28), 4, by kernel_rfl, fun a W _ _ _ hdep => ?_⟩
  have e28 := hdep 11 28 (by kernel_rfl) (by kernel_rfl)
  rw [show ek vbO (vbK x) 11 = .eq (.bool (((!true) || (!x.A)) || (!x.B))) from by kernel_rfl] at e28
  have e28 : a.tmps.getD 28 undef = .bool (((!true) || (!x.A)) || (!x.B)) := e28
  simp only [execOp, Act.eval, e28]
  go_simp
  exact ⟨Below.refl _ _, rfl⟩
set_option maxRecDepth 100000 in
theorem vb_13 {a0 : Act} {w0 : World} {x : vbP} (c : vbC a0 w0 x) : ObW Tryz.prog vbO (vbK x) a0 w0 13 := by
  refine ⟨Op.load 25 (Operand.tmp 3), 25, by kernel_rfl, fun a W hw hb hout _ => ?_⟩
  rw [show wantK vbO (vbK x) 13 = ((((!true) || (!x.A)) || (!x.B)) == false) from by kernel_rfl] at hw
  have e3 : a.tmps.getD 3 undef = .pointer (some ⟨x.B1, 0, none⟩) := (hout 3 (by kernel_rfl)).trans c.h3
  obtain ⟨k0, k1, k2, k3, k4, k5⟩ := c.hK1 W hb
  simp only [execOp, Act.eval, e3]
  go_simp
  exact ⟨Below.refl _ _, rfl⟩
set_option maxRecDepth 100000 in
theorem vb_14 {a0 : Act} {w0 : World} {x : vbP} (c : vbC a0 w0 x) : ObW Tryz.prog vbO (vbK x) a0 w0 14 := by
  refine ⟨Op.load 25 (Operand.tmp 4), 25, by kernel_rfl, fun a W hw hb hout _ => ?_⟩
  rw [show wantK vbO (vbK x) 14 = ((((!true) || (!x.A)) || (!x.B)) == false) from by kernel_rfl] at hw
  have e4 : a.tmps.getD 4 undef = .pointer (some ⟨x.B2, 0, none⟩) := (hout 4 (by kernel_rfl)).trans c.h4
  obtain ⟨k0, k1, k2, k3, k4, k5⟩ := c.hK2 W hb
  simp only [execOp, Act.eval, e4]
  go_simp
  exact ⟨Below.refl _ _, rfl⟩
set_option maxRecDepth 100000 in
theorem vb_15 {a0 : Act} {w0 : World} {x : vbP} (c : vbC a0 w0 x) : ObW Tryz.prog vbO (vbK x) a0 w0 15 := by
  refine ⟨Op.fieldAddr 28 (Operand.tmp 5) 0, 0, by kernel_rfl, fun a W hw _ hout _ => ?_⟩
  rw [show wantK vbO (vbK x) 15 = ((((!true) || (!x.A)) || (!x.B)) == false) from by kernel_rfl] at hw
  have e5 : a.tmps.getD 5 undef = .pointer (some ⟨x.B3, 0, none⟩) := (hout 5 (by kernel_rfl)).trans c.h5
  simp only [execOp, Act.eval, e5]
  go_simp
  exact ⟨Below.refl _ _, rfl⟩
set_option maxRecDepth 100000 in
theorem vb_16 {a0 : Act} {w0 : World} {x : vbP} (c : vbC a0 w0 x) : ObW Tryz.prog vbO (vbK x) a0 w0 16 := by
  refine ⟨Op.load 26 (Operand.tmp 32), 26, by kernel_rfl, fun a W hw hb _ hdep => ?_⟩
  rw [show wantK vbO (vbK x) 16 = ((((!true) || (!x.A)) || (!x.B)) == false) from by kernel_rfl] at hw
  have e32 := hdep 15 32 (by kernel_rfl) (by kernel_rfl)
  rw [show ek vbO (vbK x) 15 = if ((((!true) || (!x.A)) || (!x.B)) == false) = true then .eq (.pointer (some ⟨x.B3, 0, none⟩)) else .eq undef from by kernel_rfl] at e32
  rw [if_pos hw] at e32
  have e32 : a.tmps.getD 32 undef = .pointer (some ⟨x.B3, 0, none⟩) := e32
  have k0 := c.hK30 W hb
  simp only [execOp, Act.eval, e32]
  go_simp
  exact ⟨Below.refl _ _, rfl⟩
set_option maxRecDepth 100000 in
theorem vb_17 {a0 : Act} {w0 : World} {x : vbP} (c : vbC a0 w0 x) : ObW Tryz.prog vbO (vbK x) a0 w0 17 := by
  refine ⟨Op.call { callee := Callee.value (Operand.func 19), args := #[Operand.tmp 30, Operand.tmp 31, Operand.tmp 33], argTypes := #[25, 25, 26] }, 4, by kernel_rfl, fun a W hw hb _ hdep => ?_⟩
  rw [show wantK vbO (vbK x) 17 = ((((!true) || (!x.A)) || (!x.B)) == false) from by kernel_rfl] at hw
  have e30 := hdep 13 30 (by kernel_rfl) (by kernel_rfl)
  rw [show ek vbO (vbK x) 13 = if ((((!true) || (!x.A)) || (!x.B)) == false) = true then .eq (.agg #[x.c0, x.c1, x.c2, x.c3, x.c4, x.c5]) else .eq undef from by kernel_rfl] at e30
  rw [if_pos hw] at e30
  have e30 : a.tmps.getD 30 undef = .agg #[x.c0, x.c1, x.c2, x.c3, x.c4, x.c5] := e30
  have e31 := hdep 14 31 (by kernel_rfl) (by kernel_rfl)
  rw [show ek vbO (vbK x) 14 = if ((((!true) || (!x.A)) || (!x.B)) == false) = true then .eq (.agg #[x.d0, x.d1, x.d2, x.d3, x.d4, x.d5]) else .eq undef from by kernel_rfl] at e31
  rw [if_pos hw] at e31
  have e31 : a.tmps.getD 31 undef = .agg #[x.d0, x.d1, x.d2, x.d3, x.d4, x.d5] := e31
  have e33 := hdep 16 33 (by kernel_rfl) (by kernel_rfl)
  rw [show ek vbO (vbK x) 16 = if ((((!true) || (!x.A)) || (!x.B)) == false) = true then .eq (x.sv) else .eq undef from by kernel_rfl] at e33
  rw [if_pos hw] at e33
  have e33 : a.tmps.getD 33 undef = x.sv := e33
  simp only [execOp]
  go_simp
  exact ⟨Below.refl _ _, (c.hM W hb (by revert hw; cases x.A <;> cases x.B <;> simp) (by revert hw; cases x.A <;> cases x.B <;> simp)).mono fun e w1 ⟨he, hb1⟩ => ⟨_, he, hb1, rfl⟩⟩
set_option maxRecDepth 100000 in
theorem vb_18 {a0 : Act} {w0 : World} {x : vbP} (_c : vbC a0 w0 x) : ObW Tryz.prog vbO (vbK x) a0 w0 18 := by
  refine ⟨Op.unOp UnOp.not 4 (Operand.tmp 34), 4, by kernel_rfl, fun a W hw _ _ hdep => ?_⟩
  rw [show wantK vbO (vbK x) 18 = ((((!true) || (!x.A)) || (!x.B)) == false) from by kernel_rfl] at hw
  have e34 := hdep 17 34 (by kernel_rfl) (by kernel_rfl)
  rw [show ek vbO (vbK x) 17 = if ((((!true) || (!x.A)) || (!x.B)) == false) = true then .eq (.bool x.M) else .eq undef from by kernel_rfl] at e34
  rw [if_pos hw] at e34
  have e34 : a.tmps.getD 34 undef = .bool x.M := e34
  simp only [execOp, Act.eval, e34]
  go_simp
  exact ⟨Below.refl _ _, rfl⟩
set_option maxRecDepth 100000 in
theorem vb_19 {a0 : Act} {w0 : World} {x : vbP} (_c : vbC a0 w0 x) : ObW Tryz.prog vbO (vbK x) a0 w0 19 := by
  refine ⟨Op.pick (Operand.tmp 29) (Operand.const (Value.bool true)) (Operand.tmp 35), 4, by kernel_rfl, fun a W _ _ _ hdep => ?_⟩
  have e29 := hdep 12 29 (by kernel_rfl) (by kernel_rfl)
  rw [show ek vbO (vbK x) 12 = .eq (.bool (((!true) || (!x.A)) || (!x.B))) from by kernel_rfl] at e29
  have e29 : a.tmps.getD 29 undef = .bool (((!true) || (!x.A)) || (!x.B)) := e29
  have e35 := hdep 18 35 (by kernel_rfl) (by kernel_rfl)
  rw [show ek vbO (vbK x) 18 = if ((((!true) || (!x.A)) || (!x.B)) == false) = true then .eq (.bool (!x.M)) else .eq undef from by kernel_rfl] at e35
  show Yv6 _ _ _ (Kind.holds (.eq (.bool ((((!true) || (!x.A)) || (!x.B)) || (!x.M)))))
  generalize (((!true) || (!x.A)) || (!x.B)) = p at *
  generalize (!x.M) = q at *
  obtain ⟨v, hv⟩ : ∃ v, a.tmps.getD 35 undef = v := ⟨_, rfl⟩
  rw [hv] at e35
  cases p
  all_goals
    simp at e35
    have e35 : v = _ := e35
    subst e35
    simp only [execOp, Act.eval, e29, hv]
    go_simp
    exact ⟨Below.refl _ _, rfl⟩
set_option maxRecDepth 100000 in
theorem vb_20 {a0 : Act} {w0 : World} {x : vbP} (_c : vbC a0 w0 x) : ObW Tryz.prog vbO (vbK x) a0 w0 20 := by
  refine ⟨Op.move (Operand.tmp 36), 4, by kernel_rfl, fun a W _ _ _ hdep => ?_⟩
  have e36 := hdep 19 36 (by kernel_rfl) (by kernel_rfl)
  rw [show ek vbO (vbK x) 19 = .eq (.bool ((((!true) || (!x.A)) || (!x.B)) || (!x.M))) from by kernel_rfl] at e36
  have e36 : a.tmps.getD 36 undef = .bool ((((!true) || (!x.A)) || (!x.B)) || (!x.M)) := e36
  simp only [execOp, Act.eval, e36]
  go_simp
  exact ⟨Below.refl _ _, rfl⟩
set_option maxRecDepth 100000 in
theorem vb_21 {a0 : Act} {w0 : World} {x : vbP} (c : vbC a0 w0 x) : ObW Tryz.prog vbO (vbK x) a0 w0 21 := by
  refine ⟨Op.fieldAddr 28 (Operand.tmp 5) 1, 0, by kernel_rfl, fun a W hw _ hout _ => ?_⟩
  rw [show wantK vbO (vbK x) 21 = (((((!true) || (!x.A)) || (!x.B)) || (!x.M)) == false) from by kernel_rfl] at hw
  have e5 : a.tmps.getD 5 undef = .pointer (some ⟨x.B3, 0, none⟩) := (hout 5 (by kernel_rfl)).trans c.h5
  simp only [execOp, Act.eval, e5]
  go_simp
  exact ⟨Below.refl _ _, rfl⟩
set_option maxRecDepth 100000 in
theorem vb_22 {a0 : Act} {w0 : World} {x : vbP} (c : vbC a0 w0 x) : ObW Tryz.prog vbO (vbK x) a0 w0 22 := by
  refine ⟨Op.load 26 (Operand.tmp 38), 26, by kernel_rfl, fun a W hw hb _ hdep => ?_⟩
  rw [show wantK vbO (vbK x) 22 = (((((!true) || (!x.A)) || (!x.B)) || (!x.M)) == false) from by kernel_rfl] at hw
  have e38 := hdep 21 38 (by kernel_rfl) (by kernel_rfl)
  rw [show ek vbO (vbK x) 21 = if (((((!true) || (!x.A)) || (!x.B)) || (!x.M)) == false) = true then .eq (.pointer (some ⟨x.B3, 1, none⟩)) else .eq undef from by kernel_rfl] at e38
  rw [if_pos hw] at e38
  have e38 : a.tmps.getD 38 undef = .pointer (some ⟨x.B3, 1, none⟩) := e38
  have k0 := c.hK31 W hb
  simp only [execOp, Act.eval, e38]
  go_simp
  exact ⟨Below.refl _ _, rfl⟩
set_option maxRecDepth 100000 in
theorem vb_23 {a0 : Act} {w0 : World} {x : vbP} (c : vbC a0 w0 x) : ObW Tryz.prog vbO (vbK x) a0 w0 23 := by
  refine ⟨Op.call { callee := Callee.builtin Builtin.len, args := #[Operand.tmp 39], argTypes := #[26] }, 3, by kernel_rfl, fun a W hw _ _ hdep => ?_⟩
  rw [show wantK vbO (vbK x) 23 = (((((!true) || (!x.A)) || (!x.B)) || (!x.M)) == false) from by kernel_rfl] at hw
  have e39 := hdep 22 39 (by kernel_rfl) (by kernel_rfl)
  rw [show ek vbO (vbK x) 22 = if (((((!true) || (!x.A)) || (!x.B)) || (!x.M)) == false) = true then .eq (x.pv) else .eq undef from by kernel_rfl] at e39
  rw [if_pos hw] at e39
  have e39 : a.tmps.getD 39 undef = x.pv := e39
  obtain ⟨Ap, cp, hp⟩ := c.hL
  rw [hp] at e39
  simp only [execOp]
  go_simp
  exact ⟨Below.refl _ _, rfl⟩
set_option maxRecDepth 100000 in
theorem vb_24 {a0 : Act} {w0 : World} {x : vbP} (c : vbC a0 w0 x) : ObW Tryz.prog vbO (vbK x) a0 w0 24 := by
  refine ⟨Op.binOp BinOp.gtr 3 (Operand.tmp 40) (Operand.const (Value.int IntKind.i64 20)) 3, 4, by kernel_rfl, fun a W hw _ _ hdep => ?_⟩
  rw [show wantK vbO (vbK x) 24 = (((((!true) || (!x.A)) || (!x.B)) || (!x.M)) == false) from by kernel_rfl] at hw
  have e40 := hdep 23 40 (by kernel_rfl) (by kernel_rfl)
  rw [show ek vbO (vbK x) 23 = if (((((!true) || (!x.A)) || (!x.B)) || (!x.M)) == false) = true then .eq (.int .i64 (x.P.length : Int)) else .eq undef from by kernel_rfl] at e40
  rw [if_pos hw] at e40
  have e40 : a.tmps.getD 40 undef = .int .i64 (x.P.length : Int) := e40
  simp only [execOp, Act.eval, e40]
  go_simp
  exact ⟨Below.refl _ _, congrArg Value.bool c.hG⟩
set_option maxRecDepth 100000 in
theorem vb_25 {a0 : Act} {w0 : World} {x : vbP} (_c : vbC a0 w0 x) : ObW Tryz.prog vbO (vbK x) a0 w0 25 := by
  refine ⟨Op.pick (Operand.tmp 37) (Operand.const (Value.bool true)) (Operand.tmp 41), 4, by kernel_rfl, fun a W _ _ _ hdep => ?_⟩
  have e37 := hdep 20 37 (by kernel_rfl) (by kernel_rfl)
  rw [show ek vbO (vbK x) 20 = .eq (.bool ((((!true) || (!x.A)) || (!x.B)) || (!x.M))) from by kernel_rfl] at e37
  have e37 : a.tmps.getD 37 undef = .bool ((((!true) || (!x.A)) || (!x.B)) || (!x.M)) := e37
  have e41 := hdep 24 41 (by kernel_rfl) (by kernel_rfl)
  rw [show ek vbO (vbK x) 24 = if (((((!true) || (!x.A)) || (!x.B)) || (!x.M)) == false) = true then .eq (.bool x.G) else .eq undef from by kernel_rfl] at e41
  show Yv6 _ _ _ (Kind.holds (.eq (.bool (((((!true) || (!x.A)) || (!x.B)) || (!x.M)) || x.G))))
  generalize ((((!true) || (!x.A)) || (!x.B)) || (!x.M)) = p at *
  generalize x.G = q at *
  obtain ⟨v, hv⟩ : ∃ v, a.tmps.getD 41 undef = v := ⟨_, rfl⟩
  rw [hv] at e41
  cases p
  all_goals
    simp at e41
    have e41 : v = _ := e41
    subst e41
    simp only [execOp, Act.eval, e37, hv]
    go_simp
    exact ⟨Below.refl _ _, rfl⟩
set_option maxRecDepth 100000 in
theorem vb_26 {a0 : Act} {w0 : World} {x : vbP} (_c : vbC a0 w0 x) : ObW Tryz.prog vbO (vbK x) a0 w0 26 := by
  refine ⟨Op.move (Operand.tmp 42), 4, by kernel_rfl, fun a W _ _ _ hdep => ?_⟩
  have e42 := hdep 25 42 (by kernel_rfl) (by kernel_rfl)
  rw [show ek vbO (vbK x) 25 = .eq (.bool (((((!true) || (!x.A)) || (!x.B)) || (!x.M)) || x.G)) from by kernel_rfl] at e42
  have e42 : a.tmps.getD 42 undef = .bool (((((!true) || (!x.A)) || (!x.B)) || (!x.M)) || x.G) := e42
  simp only [execOp, Act.eval, e42]
  go_simp
  exact ⟨Below.refl _ _, rfl⟩
set_option maxRecDepth 100000 in
theorem vb_27 {a0 : Act} {w0 : World} {x : vbP} (c : vbC a0 w0 x) : ObW Tryz.prog vbO (vbK x) a0 w0 27 := by
  refine ⟨Op.fieldAddr 28 (Operand.tmp 5) 1, 0, by kernel_rfl, fun a W hw _ hout _ => ?_⟩
  rw [show wantK vbO (vbK x) 27 = ((((((!true) || (!x.A)) || (!x.B)) || (!x.M)) || x.G) == false) from by kernel_rfl] at hw
  have e5 : a.tmps.getD 5 undef = .pointer (some ⟨x.B3, 0, none⟩) := (hout 5 (by kernel_rfl)).trans c.h5
  simp only [execOp, Act.eval, e5]
  go_simp
  exact ⟨Below.refl _ _, rfl⟩
set_option maxRecDepth 100000 in
theorem vb_28 {a0 : Act} {w0 : World} {x : vbP} (c : vbC a0 w0 x) : ObW Tryz.prog vbO (vbK x) a0 w0 28 := by
  refine ⟨Op.load 26 (Operand.tmp 44), 26, by kernel_rfl, fun a W hw hb _ hdep => ?_⟩
  rw [show wantK vbO (vbK x) 28 = ((((((!true) || (!x.A)) || (!x.B)) || (!x.M)) || x.G) == false) from by kernel_rfl] at hw
  have e44 := hdep 27 44 (by kernel_rfl) (by kernel_rfl)
  rw [show ek vbO (vbK x) 27 = if ((((((!true) || (!x.A)) || (!x.B)) || (!x.M)) || x.G) == false) = true then .eq (.pointer (some ⟨x.B3, 1, none⟩)) else .eq undef from by kernel_rfl] at e44
  rw [if_pos hw] at e44
  have e44 : a.tmps.getD 44 undef = .pointer (some ⟨x.B3, 1, none⟩) := e44
  have k0 := c.hK31 W hb
  simp only [execOp, Act.eval, e44]
  go_simp
  exact ⟨Below.refl _ _, rfl⟩
set_option maxRecDepth 100000 in
theorem vb_29 {a0 : Act} {w0 : World} {x : vbP} (c : vbC a0 w0 x) : ObW Tryz.prog vbO (vbK x) a0 w0 29 := by
  refine ⟨Op.call { callee := Callee.value (Operand.func 32), args := #[Operand.tmp 45], argTypes := #[26] }, 26, by kernel_rfl, fun a W hw hb _ hdep => ?_⟩
  rw [show wantK vbO (vbK x) 29 = ((((((!true) || (!x.A)) || (!x.B)) || (!x.M)) || x.G) == false) from by kernel_rfl] at hw
  have e45 := hdep 28 45 (by kernel_rfl) (by kernel_rfl)
  rw [show ek vbO (vbK x) 28 = if ((((((!true) || (!x.A)) || (!x.B)) || (!x.M)) || x.G) == false) = true then .eq (x.pv) else .eq undef from by kernel_rfl] at e45
  rw [if_pos hw] at e45
  have e45 : a.tmps.getD 45 undef = x.pv := e45
  simp only [execOp]
  go_simp
  exact ⟨Below.refl _ _, (c.hS W hb (by revert hw; cases x.G <;> simp)).mono fun e w1 ⟨_, he, hr1, hb1⟩ => ⟨_, he, hb1, hr1⟩⟩
set_option maxRecDepth 100000 in
theorem vb_30 {a0 : Act} {w0 : World} {x : vbP} (_c : vbC a0 w0 x) : ObW Tryz.prog vbO (vbK x) a0 w0 30 := by
  refine ⟨Op.call { callee := Callee.builtin Builtin.len, args := #[Operand.tmp 46], argTypes := #[26] }, 3, by kernel_rfl, fun a W hw _ _ hdep => ?_⟩
  rw [show wantK vbO (vbK x) 30 = ((((((!true) || (!x.A)) || (!x.B)) || (!x.M)) || x.G) == false) from by kernel_rfl] at hw
  have e46 := hdep 29 46 (by kernel_rfl) (by kernel_rfl)
  rw [show ek vbO (vbK x) 29 = if ((((((!true) || (!x.A)) || (!x.B)) || (!x.M)) || x.G) == false) = true then .row (sortL x.P) else .eq undef from by kernel_rfl] at e46
  rw [if_pos hw] at e46
  have e46 : Row W W.heap.size (a.tmps.getD 46 undef) (sortL x.P) := e46
  obtain ⟨v46, q46⟩ : ∃ v, a.tmps.getD 46 undef = v := ⟨_, rfl⟩
  rw [q46] at e46
  obtain ⟨A46, c46, rfl, _⟩ := e46
  simp only [execOp]
  go_simp
  exact ⟨Below.refl _ _, rfl⟩
set_option maxRecDepth 100000 in
theorem vb_31 {a0 : Act} {w0 : World} {x : vbP} (c : vbC a0 w0 x) : ObW Tryz.prog vbO (vbK x) a0 w0 31 := by
  refine ⟨Op.fieldAddr 28 (Operand.tmp 5) 1, 0, by kernel_rfl, fun a W hw _ hout _ => ?_⟩
  rw [show wantK vbO (vbK x) 31 = ((((((!true) || (!x.A)) || (!x.B)) || (!x.M)) || x.G) == false) from by kernel_rfl] at hw
  have e5 : a.tmps.getD 5 undef = .pointer (some ⟨x.B3, 0, none⟩) := (hout 5 (by kernel_rfl)).trans c.h5
  simp only [execOp, Act.eval, e5]
  go_simp
  exact ⟨Below.refl _ _, rfl⟩
set_option maxRecDepth 100000 in
theorem vb_32 {a0 : Act} {w0 : World} {x : vbP} (c : vbC a0 w0 x) : ObW Tryz.prog vbO (vbK x) a0 w0 32 := by
  refine ⟨Op.load 26 (Operand.tmp 48), 26, by kernel_rfl, fun a W hw hb _ hdep => ?_⟩
  rw [show wantK vbO (vbK x) 32 = ((((((!true) || (!x.A)) || (!x.B)) || (!x.M)) || x.G) == false) from by kernel_rfl] at hw
  have e48 := hdep 31 48 (by kernel_rfl) (by kernel_rfl)
  rw [show ek vbO (vbK x) 31 = if ((((((!true) || (!x.A)) || (!x.B)) || (!x.M)) || x.G) == false) = true then .eq (.pointer (some ⟨x.B3, 1, none⟩)) else .eq undef from by kernel_rfl] at e48
  rw [if_pos hw] at e48
  have e48 : a.tmps.getD 48 undef = .pointer (some ⟨x.B3, 1, none⟩) := e48
  have k0 := c.hK31 W hb
  simp only [execOp, Act.eval, e48]
  go_simp
  exact ⟨Below.refl _ _, rfl⟩
set_option maxRecDepth 100000 in
theorem vb_33 {a0 : Act} {w0 : World} {x : vbP} (c : vbC a0 w0 x) : ObW Tryz.prog vbO (vbK x) a0 w0 33 := by
  refine ⟨Op.call { callee := Callee.builtin Builtin.len, args := #[Operand.tmp 49], argTypes := #[26] }, 3, by kernel_rfl, fun a W hw _ _ hdep => ?_⟩
  rw [show wantK vbO (vbK x) 33 = ((((((!true) || (!x.A)) || (!x.B)) || (!x.M)) || x.G) == false) from by kernel_rfl] at hw
  have e49 := hdep 32 49 (by kernel_rfl) (by kernel_rfl)
  rw [show ek vbO (vbK x) 32 = if ((((((!true) || (!x.A)) || (!x.B)) || (!x.M)) || x.G) == false) = true then .eq (x.pv) else .eq undef from by kernel_rfl] at e49
  rw [if_pos hw] at e49
  have e49 : a.tmps.getD 49 undef = x.pv := e49
  obtain ⟨Ap, cp, hp⟩ := c.hL
  rw [hp] at e49
  simp only [execOp]
  go_simp
  exact ⟨Below.refl _ _, rfl⟩
set_option maxRecDepth 100000 in
theorem vb_34 {a0 : Act} {w0 : World} {x : vbP} (c : vbC a0 w0 x) : ObW Tryz.prog vbO (vbK x) a0 w0 34 := by
  refine ⟨Op.binOp BinOp.neq 3 (Operand.tmp 47) (Operand.tmp 50) 3, 4, by kernel_rfl, fun a W hw _ _ hdep => ?_⟩
  rw [show wantK vbO (vbK x) 34 = ((((((!true) || (!x.A)) || (!x.B)) || (!x.M)) || x.G) == false) from by kernel_rfl] at hw
  have e47 := hdep 30 47 (by kernel_rfl) (by kernel_rfl)
  rw [show ek vbO (vbK x) 30 = if ((((((!true) || (!x.A)) || (!x.B)) || (!x.M)) || x.G) == false) = true then .eq (.int .i64 ((sortL x.P).length : Int)) else .eq undef from by kernel_rfl] at e47
  rw [if_pos hw] at e47
  have e47 : a.tmps.getD 47 undef = .int .i64 ((sortL x.P).length : Int) := e47
  have e50 := hdep 33 50 (by kernel_rfl) (by kernel_rfl)
  rw [show ek vbO (vbK x) 33 = if ((((((!true) || (!x.A)) || (!x.B)) || (!x.M)) || x.G) == false) = true then .eq (.int .i64 (x.P.length : Int)) else .eq undef from by kernel_rfl] at e50
  rw [if_pos hw] at e50
  have e50 : a.tmps.getD 50 undef = .int .i64 (x.P.length : Int) := e50
  simp only [execOp, Act.eval, e47, e50]
  go_simp
  exact ⟨Below.refl _ _, congrArg Value.bool c.hD⟩
set_option maxRecDepth 100000 in
theorem vb_35 {a0 : Act} {w0 : World} {x : vbP} (_c : vbC a0 w0 x) : ObW Tryz.prog vbO (vbK x) a0 w0 35 := by
  refine ⟨Op.pick (Operand.tmp 43) (Operand.const (Value.bool true)) (Operand.tmp 51), 4, by kernel_rfl, fun a W _ _ _ hdep => ?_⟩
  have e43 := hdep 26 43 (by kernel_rfl) (by kernel_rfl)
  rw [show ek vbO (vbK x) 26 = .eq (.bool (((((!true) || (!x.A)) || (!x.B)) || (!x.M)) || x.G)) from by kernel_rfl] at e43
  have e43 : a.tmps.getD 43 undef = .bool (((((!true) || (!x.A)) || (!x.B)) || (!x.M)) || x.G) := e43
  have e51 := hdep 34 51 (by kernel_rfl) (by kernel_rfl)
  rw [show ek vbO (vbK x) 34 = if ((((((!true) || (!x.A)) || (!x.B)) || (!x.M)) || x.G) == false) = true then .eq (.bool x.D) else .eq undef from by kernel_rfl] at e51
  show Yv6 _ _ _ (Kind.holds (.eq (.bool ((((((!true) || (!x.A)) || (!x.B)) || (!x.M)) || x.G) || x.D))))
  generalize (((((!true) || (!x.A)) || (!x.B)) || (!x.M)) || x.G) = p at *
  generalize x.D = q at *
  obtain ⟨v, hv⟩ : ∃ v, a.tmps.getD 51 undef = v := ⟨_, rfl⟩
  rw [hv] at e51
  cases p
  all_goals
    simp at e51
    have e51 : v = _ := e51
    subst e51
    simp only [execOp, Act.eval, e43, hv]
    go_simp
    exact ⟨Below.refl _ _, rfl⟩
theorem vb_all {a0 : Act} {w0 : World} {x : vbP} (c : vbC a0 w0 x) : ∀ j, j < vbO.size → ObW Tryz.prog vbO (vbK x) a0 w0 j := by
  rw [show vbO.size = 36 by kernel_rfl]
  have s0 : ∀ j, j < 0 → ObW Tryz.prog vbO (vbK x) a0 w0 j := fun j hj => absurd hj (Nat.not_lt_zero j)
  have s1 := all_next s0 (vb_0 c)
  clear s0
  have s2 := all_next s1 (vb_1 c)
  clear s1
  have s3 := all_next s2 (vb_2 c)
  clear s2
  have s4 := all_next s3 (vb_3 c)
  clear s3
  have s5 := all_next s4 (vb_4 c)
  clear s4
  have s6 := all_next s5 (vb_5 c)
  clear s5
  have s7 := all_next s6 (vb_6 c)
  clear s6
  have s8 := all_next s7 (vb_7 c)
  clear s7
  have s9 := all_next s8 (vb_8 c)
  clear s8
  have s10 := all_next s9 (vb_9 c)
  clear s9
  have s11 := all_next s10 (vb_10 c)
  clear s10
  have s12 := all_next s11 (vb_11 c)
  clear s11
  have s13 := all_next s12 (vb_12 c)
  clear s12
  have s14 := all_next s13 (vb_13 c)
  clear s13
  have s15 := all_next s14 (vb_14 c)
  clear s14
  have s16 := all_next s15 (vb_15 c)
  clear s15
  have s17 := all_next s16 (vb_16 c)
  clear s16
  have s18 := all_next s17 (vb_17 c)
  clear s17
  have s19 := all_next s18 (vb_18 c)
  clear s18
  have s20 := all_next s19 (vb_19 c)
  clear s19
  have s21 := all_next s20 (vb_20 c)
  clear s20
  have s22 := all_next s21 (vb_21 c)
  clear s21
  have s23 := all_next s22 (vb_22 c)
  clear s22
  have s24 := all_next s23 (vb_23 c)
  clear s23
  have s25 := all_next s24 (vb_24 c)
  clear s24
  have s26 := all_next s25 (vb_25 c)
  clear s25
  have s27 := all_next s26 (vb_26 c)
  clear s26
  have s28 := all_next s27 (vb_27 c)
  clear s27
  have s29 := all_next s28 (vb_28 c)
  clear s28
  have s30 := all_next s29 (vb_29 c)
  clear s29
  have s31 := all_next s30 (vb_30 c)
  clear s30
  have s32 := all_next s31 (vb_31 c)
  clear s31
  have s33 := all_next s32 (vb_32 c)
  clear s32
  have s34 := all_next s33 (vb_33 c)
  clear s33
  have s35 := all_next s34 (vb_34 c)
  clear s34
  have s36 := all_next s35 (vb_35 c)
  clear s35
  exact s36
structure vzP where
  (B3 : Nat)
  (sv pv : Value)
  (s t : List Int)
noncomputable def vzO : Array Oper := regOf 15 (Tryz.f6.body.getD .skip)
structure vzC (a0 : Act) (w0 : World) (x : vzP) : Prop where
  h5 : a0.tmps.getD 5 undef = .pointer (some ⟨x.B3, 0, none⟩)
  hK30 : ∀ W, Below w0.heap.size w0 W → W.cell? ⟨x.B3, 0, none⟩ = some x.sv
  hK31 : ∀ W, Below w0.heap.size w0 W → W.cell? ⟨x.B3, 1, none⟩ = some x.pv
  hT1 : ∀ W, Below w0.heap.size w0 W → Calls Tryz.prog 22 #[x.sv, x.pv] W (Gives W x.t)
  hT2 : ∀ W, Below w0.heap.size w0 W → ∀ u, Row W W.heap.size u x.t → Calls Tryz.prog 22 #[u, x.pv] W (Gives W x.s)
  hS : ∀ W, Below w0.heap.size w0 W → ∀ u, Row W W.heap.size u x.s → Calls Tryz.prog 21 #[u, x.sv] W (Says W true)
def vzK (x : vzP) : List Kind := [.eq (.pointer (some ⟨x.B3, 0, none⟩)), .eq (x.sv), .eq (.pointer (some ⟨x.B3, 1, none⟩)), .eq (x.pv), .row (x.t), .eq (.pointer (some ⟨x.B3, 1, none⟩)), .eq (x.pv), .row (x.s), .eq (.pointer (some ⟨x.B3, 0, none⟩)), .eq (x.sv), .eq (.bool true), .eq (.bool true)]
set_option maxRecDepth 100000 in
theorem vz_0 {a0 : Act} {w0 : World} {x : vzP} (c : vzC a0 w0 x) : ObW Tryz.prog vzO (vzK x) a0 w0 0 := by
  refine ⟨Op.fieldAddr 28 (Operand.tmp 5) 0, 0, by kernel_rfl, fun a W _ _ hout _ => ?_⟩
  have e5 : a.tmps.getD 5 undef = .pointer (some ⟨x.B3, 0, none⟩) := (hout 5 (by kernel_rfl)).trans c.h5
  simp only [execOp, Act.eval, e5]
  go_simp
  exact ⟨Below.refl _ _, rfl⟩
set_option maxRecDepth 100000 in
theorem vz_1 {a0 : Act} {w0 : World} {x : vzP} (c : vzC a0 w0 x) : ObW Tryz.prog vzO (vzK x) a0 w0 1 := by
  refine ⟨Op.load 26 (Operand.tmp 124), 26, by kernel_rfl, fun a W _ hb _ hdep => ?_⟩
  have e124 := hdep 0 124 (by kernel_rfl) (by kernel_rfl)
  rw [show ek vzO (vzK x) 0 = .eq (.pointer (some ⟨x.B3, 0, none⟩)) from by kernel_rfl] at e124
  have e124 : a.tmps.getD 124 undef = .pointer (some ⟨x.B3, 0, none⟩) := e124
  have k0 := c.hK30 W hb
  simp only [execOp, Act.eval, e124]
  go_simp
  exact ⟨Below.refl _ _, rfl⟩
set_option maxRecDepth 100000 in
theorem vz_2 {a0 : Act} {w0 : World} {x : vzP} (c : vzC a0 w0 x) : ObW Tryz.prog vzO (vzK x) a0 w0 2 := by
  refine ⟨Op.fieldAddr 28 (Operand.tmp 5) 1, 0, by kernel_rfl, fun a W _ _ hout _ => ?_⟩
  have e5 : a.tmps.getD 5 undef = .pointer (some ⟨x.B3, 0, none⟩) := (hout 5 (by kernel_rfl)).trans c.h5
  simp only [execOp, Act.eval, e5]
  go_simp
  exact ⟨Below.refl _ _, rfl⟩
set_option maxRecDepth 100000 in
theorem vz_3 {a0 : Act} {w0 : World} {x : vzP} (c : vzC a0 w0 x) : ObW Tryz.prog vzO (vzK x) a0 w0 3 := by
  refine ⟨Op.load 26 (Operand.tmp 126), 26, by kernel_rfl, fun a W _ hb _ hdep => ?_⟩
  have e126 := hdep 2 126 (by kernel_rfl) (by kernel_rfl)
  rw [show ek vzO (vzK x) 2 = .eq (.pointer (some ⟨x.B3, 1, none⟩)) from by kernel_rfl] at e126
  have e126 : a.tmps.getD 126 undef = .pointer (some ⟨x.B3, 1, none⟩) := e126
  have k0 := c.hK31 W hb
  simp only [execOp, Act.eval, e126]
  go_simp
  exact ⟨Below.refl _ _, rfl⟩
set_option maxRecDepth 100000 in
theorem vz_4 {a0 : Act} {w0 : World} {x : vzP} (c : vzC a0 w0 x) : ObW Tryz.prog vzO (vzK x) a0 w0 4 := by
  refine ⟨Op.call { callee := Callee.value (Operand.func 22), args := #[Operand.tmp 125, Operand.tmp 127], argTypes := #[26, 26] }, 26, by kernel_rfl, fun a W _ hb _ hdep => ?_⟩
  have e125 := hdep 1 125 (by kernel_rfl) (by kernel_rfl)
  rw [show ek vzO (vzK x) 1 = .eq (x.sv) from by kernel_rfl] at e125
  have e125 : a.tmps.getD 125 undef = x.sv := e125
  have e127 := hdep 3 127 (by kernel_rfl) (by kernel_rfl)
  rw [show ek vzO (vzK x) 3 = .eq (x.pv) from by kernel_rfl] at e127
  have e127 : a.tmps.getD 127 undef = x.pv := e127
  simp only [execOp]
  go_simp
  exact ⟨Below.refl _ _, (c.hT1 W hb).mono fun e w1 ⟨_, he, hr1, hb1⟩ => ⟨_, he, hb1, hr1⟩⟩
set_option maxRecDepth 100000 in
theorem vz_5 {a0 : Act} {w0 : World} {x : vzP} (c : vzC a0 w0 x) : ObW Tryz.prog vzO (vzK x) a0 w0 5 := by
  refine ⟨Op.fieldAddr 28 (Operand.tmp 5) 1, 0, by kernel_rfl, fun a W _ _ hout _ => ?_⟩
  have e5 : a.tmps.getD 5 undef = .pointer (some ⟨x.B3, 0, none⟩) := (hout 5 (by kernel_rfl)).trans c.h5
  simp only [execOp, Act.eval, e5]
  go_simp
  exact ⟨Below.refl _ _, rfl⟩
set_option maxRecDepth 100000 in
theorem vz_6 {a0 : Act} {w0 : World} {x : vzP} (c : vzC a0 w0 x) : ObW Tryz.prog vzO (vzK x) a0 w0 6 := by
  refine ⟨Op.load 26 (Operand.tmp 129), 26, by kernel_rfl, fun a W _ hb _ hdep => ?_⟩
  have e129 := hdep 5 129 (by kernel_rfl) (by kernel_rfl)
  rw [show ek vzO (vzK x) 5 = .eq (.pointer (some ⟨x.B3, 1, none⟩)) from by kernel_rfl] at e129
  have e129 : a.tmps.getD 129 undef = .pointer (some ⟨x.B3, 1, none⟩) := e129
  have k0 := c.hK31 W hb
  simp only [execOp, Act.eval, e129]
  go_simp
  exact ⟨Below.refl _ _, rfl⟩
set_option maxRecDepth 100000 in
theorem vz_7 {a0 : Act} {w0 : World} {x : vzP} (c : vzC a0 w0 x) : ObW Tryz.prog vzO (vzK x) a0 w0 7 := by
  refine ⟨Op.call { callee := Callee.value (Operand.func 22), args := #[Operand.tmp 128, Operand.tmp 130], argTypes := #[26, 26] }, 26, by kernel_rfl, fun a W _ hb _ hdep => ?_⟩
  have e128 := hdep 4 128 (by kernel_rfl) (by kernel_rfl)
  rw [show ek vzO (vzK x) 4 = .row (x.t) from by kernel_rfl] at e128
  have e128 : Row W W.heap.size (a.tmps.getD 128 undef) (x.t) := e128
  have e130 := hdep 6 130 (by kernel_rfl) (by kernel_rfl)
  rw [show ek vzO (vzK x) 6 = .eq (x.pv) from by kernel_rfl] at e130
  have e130 : a.tmps.getD 130 undef = x.pv := e130
  obtain ⟨v128, q128⟩ : ∃ v, a.tmps.getD 128 undef = v := ⟨_, rfl⟩
  rw [q128] at e128
  simp only [execOp]
  go_simp
  exact ⟨Below.refl _ _, (c.hT2 W hb v128 e128).mono fun e w1 ⟨_, he, hr1, hb1⟩ => ⟨_, he, hb1, hr1⟩⟩
set_option maxRecDepth 100000 in
theorem vz_8 {a0 : Act} {w0 : World} {x : vzP} (c : vzC a0 w0 x) : ObW Tryz.prog vzO (vzK x) a0 w0 8 := by
  refine ⟨Op.fieldAddr 28 (Operand.tmp 5) 0, 0, by kernel_rfl, fun a W _ _ hout _ => ?_⟩
  have e5 : a.tmps.getD 5 undef = .pointer (some ⟨x.B3, 0, none⟩) := (hout 5 (by kernel_rfl)).trans c.h5
  simp only [execOp, Act.eval, e5]
  go_simp
  exact ⟨Below.refl _ _, rfl⟩
set_option maxRecDepth 100000 in
theorem vz_9 {a0 : Act} {w0 : World} {x : vzP} (c : vzC a0 w0 x) : ObW Tryz.prog vzO (vzK x) a0 w0 9 := by
  refine ⟨Op.load 26 (Operand.tmp 132), 26, by kernel_rfl, fun a W _ hb _ hdep => ?_⟩
  have e132 := hdep 8 132 (by kernel_rfl) (by kernel_rfl)
  rw [show ek vzO (vzK x) 8 = .eq (.pointer (some ⟨x.B3, 0, none⟩)) from by kernel_rfl] at e132
  have e132 : a.tmps.getD 132 undef = .pointer (some ⟨x.B3, 0, none⟩) := e132
  have k0 := c.hK30 W hb
  simp only [execOp, Act.eval, e132]
  go_simp
  exact ⟨Below.refl _ _, rfl⟩
set_option maxRecDepth 100000 in
theorem vz_10 {a0 : Act} {w0 : World} {x : vzP} (c : vzC a0 w0 x) : ObW Tryz.prog vzO (vzK x) a0 w0 10 := by
  refine ⟨Op.call { callee := Callee.value (Operand.func 21), args := #[Operand.tmp 131, Operand.tmp 133], argTypes := #[26, 26] }, 4, by kernel_rfl, fun a W _ hb _ hdep => ?_⟩
  have e131 := hdep 7 131 (by kernel_rfl) (by kernel_rfl)
  rw [show ek vzO (vzK x) 7 = .row (x.s) from by kernel_rfl] at e131
  have e131 : Row W W.heap.size (a.tmps.getD 131 undef) (x.s) := e131
  have e133 := hdep 9 133 (by kernel_rfl) (by kernel_rfl)
  rw [show ek vzO (vzK x) 9 = .eq (x.sv) from by kernel_rfl] at e133
  have e133 : a.tmps.getD 133 undef = x.sv := e133
  obtain ⟨v131, q131⟩ : ∃ v, a.tmps.getD 131 undef = v := ⟨_, rfl⟩
  rw [q131] at e131
  simp only [execOp]
  go_simp
  exact ⟨Below.refl _ _, (c.hS W hb v131 e131).mono fun e w1 ⟨he, hb1⟩ => ⟨_, he, hb1, rfl⟩⟩
set_option maxRecDepth 100000 in
theorem vz_11 {a0 : Act} {w0 : World} {x : vzP} (_c : vzC a0 w0 x) : ObW Tryz.prog vzO (vzK x) a0 w0 11 := by
  refine ⟨Op.assign (Operand.tmp 134), 4, by kernel_rfl, fun a W _ _ _ hdep => ?_⟩
  have e134 := hdep 10 134 (by kernel_rfl) (by kernel_rfl)
  rw [show ek vzO (vzK x) 10 = .eq (.bool true) from by kernel_rfl] at e134
  have e134 : a.tmps.getD 134 undef = .bool true := e134
  simp only [execOp, Act.eval, e134]
  go_simp
  exact ⟨Below.refl _ _, rfl⟩
theorem vz_all {a0 : Act} {w0 : World} {x : vzP} (c : vzC a0 w0 x) : ∀ j, j < vzO.size → ObW Tryz.prog vzO (vzK x) a0 w0 j := by
  rw [show vzO.size = 12 by kernel_rfl]
  have s0 : ∀ j, j < 0 → ObW Tryz.prog vzO (vzK x) a0 w0 j := fun j hj => absurd hj (Nat.not_lt_zero j)
  have s1 := all_next s0 (vz_0 c)
  clear s0
  have s2 := all_next s1 (vz_1 c)
  clear s1
  have s3 := all_next s2 (vz_2 c)
  clear s2
  have s4 := all_next s3 (vz_3 c)
  clear s3
  have s5 := all_next s4 (vz_4 c)
  clear s4
  have s6 := all_next s5 (vz_5 c)
  clear s5
  have s7 := all_next s6 (vz_6 c)
  clear s6
  have s8 := all_next s7 (vz_7 c)
  clear s7
  have s9 := all_next s8 (vz_8 c)
  clear s8
  have s10 := all_next s9 (vz_9 c)
  clear s9
  have s11 := all_next s10 (vz_10 c)
  clear s10
  have s12 := all_next s11 (vz_11 c)
  clear s11
  exact s12

end Wp
end Go.Proofs.YteiejkhdonmcdaaGreatDoor
