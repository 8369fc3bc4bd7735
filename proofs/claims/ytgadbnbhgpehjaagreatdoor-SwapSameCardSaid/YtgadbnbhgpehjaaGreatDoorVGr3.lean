/- The dues of what the program's Graph makes ahead: two sides, and a box for each, in whatever order (written by gen_vgr3.py). -/
import Derived.Test.YtgadbnbhgpehjaaGreatDoorVTail
import Derived.Test.YtgadbnbhgpehjaaGreatDoorVSwap
set_option maxRecDepth 100000
namespace Go.Proofs.YtgadbnbhgpehjaaGreatDoor
open Go Go.RowKit
namespace Wp
noncomputable def opsG : Array Oper := regOf 3 (Tryz.f11.body.getD .skip)
def sideK (c0 c1 c2 c3 c4 c5 sv : Value) (M : List Int) : KindT := ⟨fun v W => ∃ (A : Option Addr) (n c : Nat), v = .agg #[c0, c1, c2, c3, c4, c5, sv, .slice A n c] ∧ W.ownsRow 0 3 1 (.slice A n c) M.length (ints M), fun {_ _ _} h hb => by
 obtain ⟨A, n, c, h1, h2⟩ := h
 exact ⟨A, n, c, h1, P6_ h2 hb⟩⟩
structure GxC (a0 : Act) (w0 : World) (B1 B2 : Nat) (c0 c1 c2 c3 c4 c5 d0 d1 d2 d3 d4 d5 sv : Value) (FA FB : List Int) : Prop where
 h2 : a0.tmps.getD 2 undef = sv
 h3 : a0.tmps.getD 3 undef = .pointer (some ⟨B1, 0, none⟩)
 h4 : a0.tmps.getD 4 undef = .pointer (some ⟨B2, 0, none⟩)
 hK : ∀ W, Below w0.heap.size w0 W → W.cell? ⟨B1, 0, none⟩ = some c0 ∧ W.cell? ⟨B1, 1, none⟩ = some c1 ∧ W.cell? ⟨B1, 2, none⟩ = some c2 ∧ W.cell? ⟨B1, 3, none⟩ = some c3 ∧ W.cell? ⟨B1, 4, none⟩ = some c4 ∧ W.cell? ⟨B1, 5, none⟩ = some c5 ∧ W.cell? ⟨B2, 0, none⟩ = some d0 ∧ W.cell? ⟨B2, 1, none⟩ = some d1 ∧ W.cell? ⟨B2, 2, none⟩ = some d2 ∧ W.cell? ⟨B2, 3, none⟩ = some d3 ∧ W.cell? ⟨B2, 4, none⟩ = some d4 ∧ W.cell? ⟨B2, 5, none⟩ = some d5
 hA : ∀ W, Below w0.heap.size w0 W → Calls Tryz.prog 32 #[.agg #[c0, c1, c2, c3, c4, c5], sv] W (P7_ W c0 c1 c2 c3 c4 c5 sv FA)
 hB : ∀ W, Below w0.heap.size w0 W → Calls Tryz.prog 32 #[.agg #[d0, d1, d2, d3, d4, d5], sv] W (P7_ W d0 d1 d2 d3 d4 d5 sv FB)
def frG (i : Nat) : Bool := i == 6 || i == 7
def ksG (c0 c1 c2 c3 c4 c5 d0 d1 d2 d3 d4 d5 sv : Value) (FA FB : List Int) : List KindT := [.eq (.agg #[c0, c1, c2, c3, c4, c5]), .eq (sv), (sideK c0 c1 c2 c3 c4 c5 sv FA), .eq (.agg #[d0, d1, d2, d3, d4, d5]), .eq (sv), (sideK d0 d1 d2 d3 d4 d5 sv FB), .box 52 #[.int .i64 0, .int .i64 0, .int .i64 0, .int .i64 0, .slice none 0 0, .slice none 0 0, .slice none 0 0, .slice none 0 0], .box 52 #[.int .i64 0, .int .i64 0, .int .i64 0, .int .i64 0, .slice none 0 0, .slice none 0 0, .slice none 0 0, .slice none 0 0]]
theorem gx_0 {a0 : Act} {w0 : World} {B1 B2 : Nat} {c0 c1 c2 c3 c4 c5 d0 d1 d2 d3 d4 d5 sv : Value} {FA FB : List Int} (c : GxC a0 w0 B1 B2 c0 c1 c2 c3 c4 c5 d0 d1 d2 d3 d4 d5 sv FA FB) : ObT Tryz.prog opsG (ksG c0 c1 c2 c3 c4 c5 d0 d1 d2 d3 d4 d5 sv FA FB) frG 8 a0 w0 0 := by
 refine ⟨Op.load 25 (Operand.tmp 3), 25, by kernel_rfl, fun a W hb hout _ => ?_⟩
 obtain ⟨k0, k1, k2, k3, k4, k5, l0, l1, l2, l3, l4, l5⟩ := c.hK W hb
 have e3 : a.tmps.getD 3 undef = .pointer (some ⟨B1, 0, none⟩) := (hout 3 (by kernel_rfl)).trans c.h3
 simp only [execOp, Act.eval, e3]
 go_simp
 exact ⟨Below.refl _ _, rfl, fun h => absurd h (by decide)⟩
theorem gx_1 {a0 : Act} {w0 : World} {B1 B2 : Nat} {c0 c1 c2 c3 c4 c5 d0 d1 d2 d3 d4 d5 sv : Value} {FA FB : List Int} (c : GxC a0 w0 B1 B2 c0 c1 c2 c3 c4 c5 d0 d1 d2 d3 d4 d5 sv FA FB) : ObT Tryz.prog opsG (ksG c0 c1 c2 c3 c4 c5 d0 d1 d2 d3 d4 d5 sv FA FB) frG 8 a0 w0 1 := by
 refine ⟨Op.move (Operand.tmp 2), 26, by kernel_rfl, fun a W _ hout _ => ?_⟩
 have e2 : a.tmps.getD 2 undef = sv := (hout 2 (by kernel_rfl)).trans c.h2
 simp only [execOp, Act.eval, e2]
 go_simp
 exact ⟨Below.refl _ _, rfl, fun h => absurd h (by decide)⟩
theorem gx_2 {a0 : Act} {w0 : World} {B1 B2 : Nat} {c0 c1 c2 c3 c4 c5 d0 d1 d2 d3 d4 d5 sv : Value} {FA FB : List Int} (c : GxC a0 w0 B1 B2 c0 c1 c2 c3 c4 c5 d0 d1 d2 d3 d4 d5 sv FA FB) : ObT Tryz.prog opsG (ksG c0 c1 c2 c3 c4 c5 d0 d1 d2 d3 d4 d5 sv FA FB) frG 8 a0 w0 2 := by
 refine ⟨Op.call { callee := Callee.value (Operand.func 32), args := #[Operand.tmp 23, Operand.tmp 24], argTypes := #[25, 26] }, 52, by kernel_rfl, fun a W hb _ hdep => ?_⟩
 have e23 : a.tmps.getD 23 undef = .agg #[c0, c1, c2, c3, c4, c5] := hdep 0 23 (by kernel_rfl) (by kernel_rfl)
 have e24 : a.tmps.getD 24 undef = sv := hdep 1 24 (by kernel_rfl) (by kernel_rfl)
 simp only [execOp]
 go_simp
 exact ⟨Below.refl _ _, (c.hA W hb).mono fun e w1 ⟨A, n, cc, he, ho, hb1⟩ => ⟨_, he, hb1, ⟨A, n, cc, rfl, ho⟩, fun h => absurd h (by decide)⟩⟩
theorem gx_3 {a0 : Act} {w0 : World} {B1 B2 : Nat} {c0 c1 c2 c3 c4 c5 d0 d1 d2 d3 d4 d5 sv : Value} {FA FB : List Int} (c : GxC a0 w0 B1 B2 c0 c1 c2 c3 c4 c5 d0 d1 d2 d3 d4 d5 sv FA FB) : ObT Tryz.prog opsG (ksG c0 c1 c2 c3 c4 c5 d0 d1 d2 d3 d4 d5 sv FA FB) frG 8 a0 w0 3 := by
 refine ⟨Op.load 25 (Operand.tmp 4), 25, by kernel_rfl, fun a W hb hout _ => ?_⟩
 obtain ⟨k0, k1, k2, k3, k4, k5, l0, l1, l2, l3, l4, l5⟩ := c.hK W hb
 have e4 : a.tmps.getD 4 undef = .pointer (some ⟨B2, 0, none⟩) := (hout 4 (by kernel_rfl)).trans c.h4
 simp only [execOp, Act.eval, e4]
 go_simp
 exact ⟨Below.refl _ _, rfl, fun h => absurd h (by decide)⟩
theorem gx_4 {a0 : Act} {w0 : World} {B1 B2 : Nat} {c0 c1 c2 c3 c4 c5 d0 d1 d2 d3 d4 d5 sv : Value} {FA FB : List Int} (c : GxC a0 w0 B1 B2 c0 c1 c2 c3 c4 c5 d0 d1 d2 d3 d4 d5 sv FA FB) : ObT Tryz.prog opsG (ksG c0 c1 c2 c3 c4 c5 d0 d1 d2 d3 d4 d5 sv FA FB) frG 8 a0 w0 4 := by
 refine ⟨Op.move (Operand.tmp 2), 26, by kernel_rfl, fun a W _ hout _ => ?_⟩
 have e2 : a.tmps.getD 2 undef = sv := (hout 2 (by kernel_rfl)).trans c.h2
 simp only [execOp, Act.eval, e2]
 go_simp
 exact ⟨Below.refl _ _, rfl, fun h => absurd h (by decide)⟩
theorem gx_5 {a0 : Act} {w0 : World} {B1 B2 : Nat} {c0 c1 c2 c3 c4 c5 d0 d1 d2 d3 d4 d5 sv : Value} {FA FB : List Int} (c : GxC a0 w0 B1 B2 c0 c1 c2 c3 c4 c5 d0 d1 d2 d3 d4 d5 sv FA FB) : ObT Tryz.prog opsG (ksG c0 c1 c2 c3 c4 c5 d0 d1 d2 d3 d4 d5 sv FA FB) frG 8 a0 w0 5 := by
 refine ⟨Op.call { callee := Callee.value (Operand.func 32), args := #[Operand.tmp 26, Operand.tmp 27], argTypes := #[25, 26] }, 52, by kernel_rfl, fun a W hb _ hdep => ?_⟩
 have e26 : a.tmps.getD 26 undef = .agg #[d0, d1, d2, d3, d4, d5] := hdep 3 26 (by kernel_rfl) (by kernel_rfl)
 have e27 : a.tmps.getD 27 undef = sv := hdep 4 27 (by kernel_rfl) (by kernel_rfl)
 simp only [execOp]
 go_simp
 exact ⟨Below.refl _ _, (c.hB W hb).mono fun e w1 ⟨A, n, cc, he, ho, hb1⟩ => ⟨_, he, hb1, ⟨A, n, cc, rfl, ho⟩, fun h => absurd h (by decide)⟩⟩
theorem gx_6 {a0 : Act} {w0 : World} {B1 B2 : Nat} {c0 c1 c2 c3 c4 c5 d0 d1 d2 d3 d4 d5 sv : Value} {FA FB : List Int} (_c : GxC a0 w0 B1 B2 c0 c1 c2 c3 c4 c5 d0 d1 d2 d3 d4 d5 sv FA FB) : ObT Tryz.prog opsG (ksG c0 c1 c2 c3 c4 c5 d0 d1 d2 d3 d4 d5 sv FA FB) frG 8 a0 w0 6 := by
 refine ⟨Op.alloc 52, 0, by kernel_rfl, fun a W _ _ _ => ?_⟩
 simp only [execOp]
 go_simp
 exact ⟨(Below.refl _ W).alloc (Nat.le_refl _) _, ⟨_, rfl, Blk.new W _ _⟩, fun _ => ⟨_, rfl, Nat.le_refl _, by simp⟩⟩
theorem gx_7 {a0 : Act} {w0 : World} {B1 B2 : Nat} {c0 c1 c2 c3 c4 c5 d0 d1 d2 d3 d4 d5 sv : Value} {FA FB : List Int} (_c : GxC a0 w0 B1 B2 c0 c1 c2 c3 c4 c5 d0 d1 d2 d3 d4 d5 sv FA FB) : ObT Tryz.prog opsG (ksG c0 c1 c2 c3 c4 c5 d0 d1 d2 d3 d4 d5 sv FA FB) frG 8 a0 w0 7 := by
 refine ⟨Op.alloc 52, 0, by kernel_rfl, fun a W _ _ _ => ?_⟩
 simp only [execOp]
 go_simp
 exact ⟨(Below.refl _ W).alloc (Nat.le_refl _) _, ⟨_, rfl, Blk.new W _ _⟩, fun _ => ⟨_, rfl, Nat.le_refl _, by simp⟩⟩
theorem C8_ {p : Nat → Prop} {n : Nat} (h : ∀ i, i < n → p i) (hn : p n) : ∀ i, i < n + 1 → p i := fun i hi => if e : i = n then e ▸ hn else h i (by omega)
theorem Vq2 {a0 : Act} {w0 : World} {B1 B2 : Nat} {c0 c1 c2 c3 c4 c5 d0 d1 d2 d3 d4 d5 sv : Value} {FA FB : List Int} (c : GxC a0 w0 B1 B2 c0 c1 c2 c3 c4 c5 d0 d1 d2 d3 d4 d5 sv FA FB) : ∀ j, j < 8 → ObT Tryz.prog opsG (ksG c0 c1 c2 c3 c4 c5 d0 d1 d2 d3 d4 d5 sv FA FB) frG 8 a0 w0 j := by
 have s0 : ∀ j, j < 0 → ObT Tryz.prog opsG (ksG c0 c1 c2 c3 c4 c5 d0 d1 d2 d3 d4 d5 sv FA FB) frG 8 a0 w0 j := fun j hj => absurd hj (Nat.not_lt_zero j)
 have s1 := C8_ s0 (gx_0 c)
 clear s0
 have s2 := C8_ s1 (gx_1 c)
 clear s1
 have s3 := C8_ s2 (gx_2 c)
 clear s2
 have s4 := C8_ s3 (gx_3 c)
 clear s3
 have s5 := C8_ s4 (gx_4 c)
 clear s4
 have s6 := C8_ s5 (gx_5 c)
 clear s5
 have s7 := C8_ s6 (gx_6 c)
 clear s6
 have s8 := C8_ s7 (gx_7 c)
 clear s7
 exact s8
end Wp
end Go.Proofs.YtgadbnbhgpehjaaGreatDoor
