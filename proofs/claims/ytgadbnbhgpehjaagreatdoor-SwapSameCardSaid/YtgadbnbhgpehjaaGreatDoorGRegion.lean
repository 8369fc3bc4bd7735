/- A region whose order is drawn, by what each of its operations grants: one thing that its value is, or a list that it holds, in each world above. Nothing of the program here. -/
import Derived.Test.YtgadbnbhgpehjaaGreatDoorZA
import Derived.Test.YtgadbnbhgpehjaaGreatDoorZP
import Derived.StillTail
namespace Go.Proofs.YtgadbnbhgpehjaaGreatDoor.Wp
open Go Go.RowKit
inductive Kind where
 | eq (v : Value)
 | row (l : List Int)
def Kind.holds : Kind → Value → World → Prop
 | .eq u, v, _ => v = u
 | .row l, v, W => Row W W.heap.size v l
def Kind.isB : Kind → Bool → Bool
 | .eq (.bool c), b => c == b
 | _, _ => false
def kd (ks : List Kind) (i : Nat) : Kind := ks.getD i (.eq undef)
def Yq8 (P : Program) (r : Result Next) (w : World) (G : Value → World → Prop) : Prop :=
 match r with
 | .ok (.value u) w' => Below w.heap.size w w' ∧ G u w'
 | .ok (.enter f args) w' => Below w.heap.size w w' ∧ Calls P f args w' (fun e w'' => ∃ u, e = .returned u ∧ Below w.heap.size w w'' ∧ G u w'')
 | _ => False
section
variable {P : Program} {ops : Array Oper} {Q : Exit → Act → World → Prop}
theorem Zn7 {o : Oper} {a : Act} {w : World} {K : Act → World → Prop} {G : Value → World → Prop}
  (h : Yq8 P ((execOp a.eval o).run P w) w G) (hK : ∀ u w', Below w.heap.size w w' → G u w' → K (a.put o.dst u) w') : o.wp P a w K Q := by
 unfold Oper.wp
 generalize (execOp a.eval o).run P w = r at *
 cases r with
 | ok n w' =>
  cases n <;> simp only [Yq8] at h <;> simp only [Oper.upon]
  case value u => exact hK u w' h.1 h.2
  case enter f args => exact h.2.mono fun e w'' ⟨u, he, hb, hG⟩ => by subst he; exact hK u w'' hb hG
 | halt x w' => simp only [Yq8] at h
def dstOf (ops : Array Oper) (i : Nat) : Option Tmp := (ops[i]?).bind (·.dst)
def Vq1 (ops : Array Oper) (t : Tmp) : Bool := (List.range ops.size).all fun i => dstOf ops i != some t
structure Reg (ops : Array Oper) (ks : List Kind) (n : Nat) : Prop where
 lt : ∀ i d, dstOf ops i = some d → d < n
 one : ∀ i j d, dstOf ops i = some d → dstOf ops j = some d → i = j
 back : ∀ (i : Nat) (o : Oper), ops[i]? = some o → ∀ e ∈ o.after, e.on < i
 guard : ∀ (i : Nat) (o : Oper) (g : Nat) (b : Bool), ops[i]? = some o → o.guard = some (g, b) → Region.waitsFor .any ops i g = true ∧ (∃ d, dstOf ops g = some d) ∧ (kd ks g).isB b = true
structure Got (ops : Array Oper) (ks : List Kind) (a0 : Act) (w0 : World) (listed : Array Bool) (a : Act) (w : World) : Prop where
 size : listed.size = ops.size
 below : Below w0.heap.size w0 w
 asize : a.tmps.size = a0.tmps.size
 defs : a.defers = a0.defers
 outer : ∀ t, Vq1 ops t = true → a.tmps.getD t undef = a0.tmps.getD t undef
 got : ∀ i d, dstOf ops i = some d → listed.getD i false = true → (kd ks i).holds (a.tmps.getD d undef) w
theorem Zw3 (ρ : Operand → Value) (o : Oper) : execOp ρ o = execOp ρ { dst := none, op := o.op, type := o.type, pos := "", after := #[], guard := none } := rfl
theorem Zw4 (a : Act) {d : Tmp} (v : Value) (h : d < a.tmps.size) : (a.put (some d) v).tmps.getD d undef = v := by
 simp [Act.put, Array.getD, h]
theorem P8_ (a : Act) {x : Option Tmp} {t : Tmp} (v : Value) (h : x ≠ some t) : (a.put x v).tmps.getD t undef = a.tmps.getD t undef := by
 cases x with
 | none => rfl
 | some d =>
  have hd : d ≠ t := fun e => h (by rw [e])
  simp [Act.put, Array.getD_eq_getD_getElem?, Array.getElem?_setIfInBounds_ne hd]
theorem Xf6 (a : Act) (x : Option Tmp) (v : Value) : (a.put x v).tmps.size = a.tmps.size := by cases x <;> simp [Act.put]
theorem Xf7 (a : Act) (x : Option Tmp) (v : Value) : (a.put x v).defers = a.defers := by cases x <;> rfl
end
end Go.Proofs.YtgadbnbhgpehjaaGreatDoor.Wp
