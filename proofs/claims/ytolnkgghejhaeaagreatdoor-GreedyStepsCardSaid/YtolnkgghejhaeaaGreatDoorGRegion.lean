/- A region whose order is drawn, by what each of its operations grants: one thing that its value is, or a list that it holds, in each world above. Nothing of the program here. -/
import Derived.Test.YtolnkgghejhaeaaGreatDoorZA
import Derived.Test.YtolnkgghejhaeaaGreatDoorZP
import Derived.StillTail
namespace Go.Proofs.YtolnkgghejhaeaaGreatDoor.Wp
open Go Go.RowKit

/-- What an operation's value is: just this; or a list of these numbers. -/
inductive Kind where
  | eq (v : Value)
  | row (l : List Int)
def Kind.holds : Kind → Value → World → Prop
  | .eq u, v, _ => v = u
  | .row l, v, W => Row W W.heap.size v l
def Kind.isB : Kind → Bool → Bool
  | .eq (.bool c), b => c == b
  | _, _ => false
theorem Kind.up {k : Kind} {v : Value} {W W' : World} (h : k.holds v W) (hb : Below W.heap.size W W') : k.holds v W' := by
  cases k with
  | eq u => exact h
  | row l => exact Row.up h hb
theorem Kind.bool {k : Kind} {b : Bool} {v : Value} {W : World} (h : k.isB b = true) (hv : k.holds v W) : v = .bool b := by
  cases k with
  | eq u =>
    cases u with
    | bool c =>
      have e : c = b := by simpa [Kind.isB] using h
      rw [← e]
      exact hv
    | _ => simp [Kind.isB] at h
  | row l => simp [Kind.isB] at h
def kd (ks : List Kind) (i : Nat) : Kind := ks.getD i (.eq undef)

/-- It yields a value for which G holds, and only makes memory. -/
def Grants (P : Program) (r : Result Next) (w : World) (G : Value → World → Prop) : Prop :=
  match r with
  | .ok (.value u) w' => Below w.heap.size w w' ∧ G u w'
  | .ok (.enter f args) w' => Below w.heap.size w w' ∧ Calls P f args w' (fun e w'' => ∃ u, e = .returned u ∧ Below w.heap.size w w'' ∧ G u w'')
  | _ => False

section
variable {P : Program} {ops : Array Oper} {Q : Exit → Act → World → Prop}
theorem wp_of_grants {o : Oper} {a : Act} {w : World} {K : Act → World → Prop} {G : Value → World → Prop}
    (h : Grants P ((execOp a.eval o).run P w) w G) (hK : ∀ u w', Below w.heap.size w w' → G u w' → K (a.put o.dst u) w') : o.wp P a w K Q := by
  unfold Oper.wp
  generalize (execOp a.eval o).run P w = r at *
  cases r with
  | ok n w' =>
    cases n <;> simp only [Grants] at h <;> simp only [Oper.upon]
    case value u => exact hK u w' h.1 h.2
    case enter f args => exact h.2.mono fun e w'' ⟨u, he, hb, hG⟩ => by subst he; exact hK u w'' hb hG
  | halt x w' => simp only [Grants] at h

def dstOf (ops : Array Oper) (i : Nat) : Option Tmp := (ops[i]?).bind (·.dst)
def notDst (ops : Array Oper) (t : Tmp) : Bool := (List.range ops.size).all fun i => dstOf ops i != some t
/-- Each has a temporary of its own, waits for earlier ones alone, and for the one that guards it. -/
def regB (ops : Array Oper) (ks : List Kind) (n : Nat) : Bool :=
  (List.range ops.size).all fun i => match ops[i]? with
    | none => false
    | some o => (match o.dst with
        | some d => decide (d < n) && (List.range ops.size).all fun j => decide (j = i) || dstOf ops j != some d
        | none => true) && (o.after.all fun e => decide (e.on < i)) && (match o.guard with
        | none => true
        | some (g, b) => Region.waitsFor .any ops i g && (dstOf ops g).isSome && (kd ks g).isB b)

structure Reg (ops : Array Oper) (ks : List Kind) (n : Nat) : Prop where
  lt : ∀ i d, dstOf ops i = some d → d < n
  one : ∀ i j d, dstOf ops i = some d → dstOf ops j = some d → i = j
  back : ∀ (i : Nat) (o : Oper), ops[i]? = some o → ∀ e ∈ o.after, e.on < i
  guard : ∀ (i : Nat) (o : Oper) (g : Nat) (b : Bool), ops[i]? = some o → o.guard = some (g, b) → Region.waitsFor .any ops i g = true ∧ (∃ d, dstOf ops g = some d) ∧ (kd ks g).isB b = true
theorem reg_of {ks : List Kind} {n : Nat} (h : regB ops ks n = true) : Reg ops ks n := by
  have key : ∀ (i : Nat) (o : Oper), ops[i]? = some o → ((match o.dst with
        | some d => decide (d < n) && (List.range ops.size).all fun j => decide (j = i) || dstOf ops j != some d
        | none => true) = true ∧ (o.after.all fun e => decide (e.on < i)) = true) ∧ (match o.guard with
        | none => true
        | some (g, b) => Region.waitsFor .any ops i g && (dstOf ops g).isSome && (kd ks g).isB b) = true := fun i o ho => by
    have hi : i < ops.size := (Array.getElem?_eq_some_iff.1 ho).1
    have h1 := List.all_eq_true.1 h i (List.mem_range.2 hi)
    simp only [ho, Bool.and_eq_true] at h1
    exact h1
  have hd : ∀ i d, dstOf ops i = some d → ∃ o, ops[i]? = some o ∧ o.dst = some d := fun i d h => by
    unfold dstOf at h
    cases ho : ops[i]? with
    | none => rw [ho] at h; cases h
    | some o => rw [ho] at h; exact ⟨o, rfl, h⟩
  refine ⟨fun i d hi => ?_, fun i j d hi hj => ?_, fun i o ho e he => ?_, fun i o g b ho hg => ?_⟩
  · obtain ⟨o, ho, hod⟩ := hd i d hi
    have h1 := (key i o ho).1.1
    simp only [hod, Bool.and_eq_true, decide_eq_true_eq] at h1
    exact h1.1
  · obtain ⟨o, ho, hod⟩ := hd i d hi
    have h1 := (key i o ho).1.1
    simp only [hod, Bool.and_eq_true, decide_eq_true_eq] at h1
    obtain ⟨o', ho', _⟩ := hd j d hj
    have h2 := List.all_eq_true.1 h1.2 j (List.mem_range.2 (Array.getElem?_eq_some_iff.1 ho').1)
    rw [hj] at h2
    simp at h2
    exact h2.symm
  · have h1 := (key i o ho).1.2
    have h2 := Array.all_eq_true_iff_forall_mem.1 h1 e he
    simpa using h2
  · have h1 := (key i o ho).2
    simp only [hg, Bool.and_eq_true] at h1
    exact ⟨h1.1.1, Option.isSome_iff_exists.1 h1.1.2, h1.2⟩

/-- What the frame holds of the operations that came up; all else is as it was. -/
structure Got (ops : Array Oper) (ks : List Kind) (a0 : Act) (w0 : World) (listed : Array Bool) (a : Act) (w : World) : Prop where
  size : listed.size = ops.size
  below : Below w0.heap.size w0 w
  asize : a.tmps.size = a0.tmps.size
  defs : a.defers = a0.defers
  outer : ∀ t, notDst ops t = true → a.tmps.getD t undef = a0.tmps.getD t undef
  got : ∀ i d, dstOf ops i = some d → listed.getD i false = true → (kd ks i).holds (a.tmps.getD d undef) w

/-- One operation's due. -/
def Ob (P : Program) (ops : Array Oper) (ks : List Kind) (a0 : Act) (w0 : World) (i : Nat) : Prop :=
  ∃ (op : Op) (ty : TypeId), (ops[i]?).map (fun o => (o.op, o.type)) = some (op, ty) ∧ ∀ (a : Act) (W : World), Below w0.heap.size w0 W → (∀ t, notDst ops t = true → a.tmps.getD t undef = a0.tmps.getD t undef) →
    (∀ j d, Region.waitsFor .any ops i j = true → dstOf ops j = some d → (kd ks j).holds (a.tmps.getD d undef) W) → Grants P ((execOp a.eval { dst := none, op := op, type := ty, pos := "", after := #[], guard := none }).run P W) W (kd ks i).holds
theorem execOp_bare (ρ : Operand → Value) (o : Oper) : execOp ρ o = execOp ρ { dst := none, op := o.op, type := o.type, pos := "", after := #[], guard := none } := rfl

theorem put_get (a : Act) {d : Tmp} (v : Value) (h : d < a.tmps.size) : (a.put (some d) v).tmps.getD d undef = v := by
  simp [Act.put, Array.getD, h]
theorem put_other (a : Act) {x : Option Tmp} {t : Tmp} (v : Value) (h : x ≠ some t) : (a.put x v).tmps.getD t undef = a.tmps.getD t undef := by
  cases x with
  | none => rfl
  | some d =>
    have hd : d ≠ t := fun e => h (by rw [e])
    simp [Act.put, Array.getD_eq_getD_getElem?, Array.getElem?_setIfInBounds_ne hd]
theorem put_size (a : Act) (x : Option Tmp) (v : Value) : (a.put x v).tmps.size = a.tmps.size := by cases x <;> simp [Act.put]
theorem put_defs (a : Act) (x : Option Tmp) (v : Value) : (a.put x v).defers = a.defers := by cases x <;> rfl

theorem listed_all {listed : Array Bool} {ks : List Kind} {n : Nat} (hR : Reg ops ks n) (hs : listed.size = ops.size) (h : Region.ready .any ops listed = []) : ∀ i, i < ops.size → listed.getD i false = true := by
  intro i
  induction i using Nat.strongRecOn with
  | _ i ih =>
    intro hi
    cases hl : listed.getD i false with
    | true => rfl
    | false =>
      have hm : i ∈ Region.ready .any ops listed := mem_ready.2 ⟨getD_in (by omega) hl, ops[i], by simp [hi], fun e he _ => by
        have hlt := hR.back i ops[i] (by simp [hi]) e he
        exact ih e.on hlt (by omega)⟩
      rw [h] at hm
      cases hm
theorem wpAny_of_grants {ks : List Kind} {a0 : Act} {w0 : World} (hR : Reg ops ks a0.tmps.size) (hop : ∀ i, i < ops.size → Ob P ops ks a0 w0 i)
    (hQ : ∀ listed a W, Got ops ks a0 w0 listed a W → (∀ i, i < ops.size → listed.getD i false = true) → Q .normal a W) :
    ∀ (fuel : Nat) (listed : Array Bool) (a : Act) (w : World), Got ops ks a0 w0 listed a w → cnt (fun i => !listed.getD i false) ops.size = fuel → wpAny P .any ops Q fuel listed a w
  | 0, listed, a, w, hg, hc => by
    have hall : ∀ i, i < ops.size → listed.getD i false = true := fun i hi => by
      cases hl : listed.getD i false with
      | true => rfl
      | false =>
        have := cnt_lt (p := fun _ => false) (q := fun i => !listed.getD i false) (n := ops.size) (fun _ _ h => by cases h) ⟨i, hi, rfl, by simp [hl]⟩
        omega
    refine ⟨?_, hQ _ _ _ hg hall⟩
    cases hr : Region.ready .any ops listed with
    | nil => rfl
    | cons x xs =>
      have hx : x ∈ Region.ready .any ops listed := by rw [hr]; simp
      obtain ⟨h1, o, ho, _⟩ := mem_ready.1 hx
      have := hall x (Array.getElem?_eq_some_iff.1 ho).1
      rw [getD_both h1] at this
      cases this
  | fuel + 1, listed, a, w, hg, hc => by
    refine ⟨fun h0 => hQ _ _ _ hg (listed_all hR hg.size h0), fun i hi => ?_⟩
    obtain ⟨hun, o, ho, hall⟩ := mem_ready.1 hi
    have hlt : i < ops.size := (Array.getElem?_eq_some_iff.1 ho).1
    obtain ⟨op, ty, hot, hO⟩ := hop i hlt
    rw [ho] at hot
    simp only [Option.map_some, Option.some.injEq, Prod.mk.injEq] at hot
    have hdep : ∀ j d, Region.waitsFor .any ops i j = true → dstOf ops j = some d → (kd ks j).holds (a.tmps.getD d undef) w := fun j d hw hd => by
      obtain ⟨oj, hoj, e, he, hb, hon⟩ := Region.waitsFor_spec hw
      have : oj = o := Option.some.inj (hoj.symm.trans ho)
      subst this
      exact hg.got j d hd (by rw [← hon]; exact hall e he hb)
    have hw : Region.wanted o (yielded ops a.tmps) = true := by
      unfold Region.wanted
      cases hgd : o.guard with
      | none => rfl
      | some gb =>
        obtain ⟨g, b⟩ := gb
        obtain ⟨h1, ⟨d, hd⟩, h3⟩ := hR.guard i o g b ho hgd
        have h4 := Kind.bool h3 (hdep g d h1 hd)
        have hdl : d < a.tmps.size := by rw [hg.asize]; exact hR.lt g d hd
        have h5 : a.tmps[d]? = some (.bool b) := by
          rw [← h4]
          simp [Array.getD, hdl]
        simp only [yielded]
        unfold dstOf at hd
        rw [hd]
        simp [h5]
    unfold wpOp
    simp only [ho, hw, if_true]
    refine .inl (wp_of_grants (G := (kd ks i).holds) (by rw [execOp_bare, hot.1, hot.2]; exact hO a w hg.below hg.outer hdep) fun u w' hb hG => ?_)
    have hil : i < listed.size := by rw [hg.size]; exact hlt
    refine wpAny_of_grants hR hop hQ fuel _ _ _ ⟨by simp [hg.size], hg.below.trans (hb.mono hg.below.size), by rw [put_size]; exact hg.asize, by rw [put_defs]; exact hg.defs, fun t ht => ?_, fun j d hj hl => ?_⟩ ?_
    · rw [put_other a u (fun e => by
        have h1 := List.all_eq_true.1 ht i (List.mem_range.2 hlt)
        have : dstOf ops i = some t := by unfold dstOf; rw [ho]; exact e
        rw [this] at h1
        simp at h1)]
      exact hg.outer t ht
    · by_cases hij : i = j
      · subst hij
        have hod : o.dst = some d := by unfold dstOf at hj; rw [ho] at hj; exact hj
        rw [hod, put_get a u (by rw [hg.asize]; exact hR.lt i d hj)]
        exact hG
      · rw [put_other a u (fun e => hij (hR.one i j d (by unfold dstOf; rw [ho]; exact e) hj))]
        rw [getD_set_ne false hij] at hl
        exact Kind.up (hg.got j d hj hl) hb
    · have hq : (fun k => !(listed.setIfInBounds i true).getD k false) i = false := by simp [hil]
      have h1 := cnt_one (p := fun k => !listed.getD k false) (q := fun k => !(listed.setIfInBounds i true).getD k false) (y := i) (by simp only [getD_both hun]; rfl) hq (fun v hv => by simp only [getD_set_ne false (Ne.symm hv)]) (n := ops.size)
      rw [if_pos hlt] at h1
      omega
/-- Whatever order is drawn: each operation grants what it owes, and what follows may lean on all that. -/
theorem wp_region_grants {id : Nat} {a : Act} {w : World} (ks : List Kind) (hm : P.follows .mixedOrders = true) (hB : regB ops ks a.tmps.size = true) (hop : ∀ i, i < ops.size → Ob P ops ks a w.drew i)
    (hQ : ∀ a' W, Below w.drew.heap.size w.drew W → a'.tmps.size = a.tmps.size → a'.defers = a.defers → (∀ t, notDst ops t = true → a'.tmps.getD t undef = a.tmps.getD t undef) → (∀ i d, i < ops.size → dstOf ops i = some d → (kd ks i).holds (a'.tmps.getD d undef) W) → Q .normal a' W) :
    (Code.region id ops true).wp P Q a w := by
  refine wp_region_any hm ?_
  exact wpAny_of_grants (w0 := w.drew) (reg_of hB) hop (fun listed a' W hg hall => hQ a' W hg.below hg.asize hg.defs hg.outer fun i d hi hd => hg.got i d hd (hall i hi)) _ _ _ _
    ⟨by simp, Below.refl _ _, rfl, rfl, fun _ _ => rfl, fun i d _ hl => by rw [getD_replicate_false] at hl; cases hl⟩ (cnt_full fun v _ => by simp only [getD_replicate_false]; rfl)
end

end Go.Proofs.YtolnkgghejhaeaaGreatDoor.Wp
