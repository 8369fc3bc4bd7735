/- A region whose order is drawn, some of whose operations are passed over: what each operation that is come up grants; what is passed over is left undefined. Nothing of the program here. -/
import Derived.Test.YteiejkhdonmcdaaGreatDoorVTail
namespace Go.Proofs.YteiejkhdonmcdaaGreatDoor.Wp
open Go Go.RowKit

def Kind.isBool : Kind → Bool
  | .eq (.bool _) => true
  | _ => false
/-- Whether an operation comes up. -/
def wantK (ops : Array Oper) (ks : List Kind) (i : Nat) : Bool := match ops[i]? with
  | none => true
  | some o => match o.guard with
    | none => true
    | some (g, b) => (kd ks g).isB b
/-- What it then is; undefined where it is passed over. -/
def ek (ops : Array Oper) (ks : List Kind) (i : Nat) : Kind := if wantK ops ks i then kd ks i else .eq undef
def regW (ops : Array Oper) (ks : List Kind) (n : Nat) : Bool :=
  (List.range ops.size).all fun i => match ops[i]? with
    | none => false
    | some o => (match o.dst with
        | some d => decide (d < n) && (List.range ops.size).all fun j => decide (j = i) || dstOf ops j != some d
        | none => true) && (o.after.all fun e => decide (e.on < i)) && (match o.guard with
        | none => true
        | some (g, _) => Region.waitsFor .any ops i g && (dstOf ops g).isSome && (kd ks g).isBool && (match ops[g]? with
          | some og => og.guard.isNone
          | none => false))
structure RegW (ops : Array Oper) (ks : List Kind) (n : Nat) : Prop where
  lt : ∀ i d, dstOf ops i = some d → d < n
  one : ∀ i j d, dstOf ops i = some d → dstOf ops j = some d → i = j
  back : ∀ (i : Nat) (o : Oper), ops[i]? = some o → ∀ e ∈ o.after, e.on < i
  guard : ∀ (i : Nat) (o : Oper) (g : Nat) (b : Bool), ops[i]? = some o → o.guard = some (g, b) → Region.waitsFor .any ops i g = true ∧ (∃ d, dstOf ops g = some d) ∧ (∃ c, kd ks g = .eq (.bool c)) ∧ wantK ops ks g = true
theorem Kind.bool_of {k : Kind} (h : k.isBool = true) : ∃ c, k = .eq (.bool c) := by
  cases k with
  | eq u =>
    cases u with
    | bool c => exact ⟨c, rfl⟩
    | _ => simp [Kind.isBool] at h
  | row l => simp [Kind.isBool] at h
theorem all_next {p : Nat → Prop} {n : Nat} (h : ∀ i, i < n → p i) (hn : p n) : ∀ i, i < n + 1 → p i := fun i hi => if e : i = n then e ▸ hn else h i (by omega)
section
variable {P : Program} {ops : Array Oper} {Q : Exit → Act → World → Prop}
theorem regW_of {ks : List Kind} {n : Nat} (h : regW ops ks n = true) : RegW ops ks n := by
  have key : ∀ (i : Nat) (o : Oper), ops[i]? = some o → ((match o.dst with
        | some d => decide (d < n) && (List.range ops.size).all fun j => decide (j = i) || dstOf ops j != some d
        | none => true) = true ∧ (o.after.all fun e => decide (e.on < i)) = true) ∧ (match o.guard with
        | none => true
        | some (g, _) => Region.waitsFor .any ops i g && (dstOf ops g).isSome && (kd ks g).isBool && (match ops[g]? with
          | some og => og.guard.isNone
          | none => false)) = true := fun i o ho => by
    have hi : i < ops.size := (Array.getElem?_eq_some_iff.1 ho).1
    have h1 := List.all_eq_true.1 h i (List.mem_range.2 hi)
    simp only [ho, Bool.and_eq_true] at h1 ⊢
    exact h1
  have hd : ∀ i d, dstOf ops i = some d → ∃ o, ops[i]? = some o ∧ o.dst = some d := fun i d h => by
    unfold dstOf at h
    cases ho : ops[i]? with
    | none => rw [ho] at h; cases h
    | some o => rw [ho] at h; exact ⟨o, rfl, h⟩
  refine ⟨fun i d hi => ?_, fun i j d hi hj => ?_, fun i o ho e he => ?_, fun i o g b ho hg => ?_⟩
  · obtain ⟨o, ho, hod⟩ := hd i d hi
    have h1 := (key i o ho).1.1
    simp only [hod, Bool.and_eq_true, decide_eq_true_eq] at h1
    exact h1.1
  · obtain ⟨o, ho, hod⟩ := hd i d hi
    have h1 := (key i o ho).1.1
    simp only [hod, Bool.and_eq_true, decide_eq_true_eq] at h1
    obtain ⟨o', ho', _⟩ := hd j d hj
    have h2 := List.all_eq_true.1 h1.2 j (List.mem_range.2 (Array.getElem?_eq_some_iff.1 ho').1)
    rw [hj] at h2
    simp at h2
    exact h2.symm
  · have h1 := (key i o ho).1.2
    have h2 := Array.all_eq_true_iff_forall_mem.1 h1 e he
    simpa using h2
  · have h1 := (key i o ho).2
    simp only [hg, Bool.and_eq_true] at h1
    refine ⟨h1.1.1.1, Option.isSome_iff_exists.1 h1.1.1.2, Kind.bool_of h1.1.2, ?_⟩
    unfold wantK
    have h2 := h1.2
    cases hog : ops[g]? with
    | none => rfl
    | some og =>
      rw [hog] at h2
      have h3 : og.guard = none := by simpa using h2
      simp only [h3]

structure GotW (ops : Array Oper) (ks : List Kind) (a0 : Act) (w0 : World) (listed : Array Bool) (a : Act) (w : World) : Prop where
  size : listed.size = ops.size
  below : Below w0.heap.size w0 w
  asize : a.tmps.size = a0.tmps.size
  defs : a.defers = a0.defers
  outer : ∀ t, Ym1 ops t = true → a.tmps.getD t undef = a0.tmps.getD t undef
  got : ∀ i d, dstOf ops i = some d → listed.getD i false = true → (ek ops ks i).holds (a.tmps.getD d undef) w

/-- One operation's due, if it comes up. -/
def ObW (P : Program) (ops : Array Oper) (ks : List Kind) (a0 : Act) (w0 : World) (i : Nat) : Prop :=
  ∃ (op : Op) (ty : TypeId), (ops[i]?).map (fun o => (o.op, o.type)) = some (op, ty) ∧ ∀ (a : Act) (W : World), wantK ops ks i = true → Below w0.heap.size w0 W → (∀ t, Ym1 ops t = true → a.tmps.getD t undef = a0.tmps.getD t undef) →
    (∀ j d, Region.waitsFor .any ops i j = true → dstOf ops j = some d → (ek ops ks j).holds (a.tmps.getD d undef) W) → Yv6 P ((execOp a.eval { dst := none, op := op, type := ty, pos := "", after := #[], guard := none }).run P W) W (kd ks i).holds

theorem listedW_all {listed : Array Bool} {ks : List Kind} {n : Nat} (hR : RegW ops ks n) (hs : listed.size = ops.size) (h : Region.ready .any ops listed = []) : ∀ i, i < ops.size → listed.getD i false = true := by
  intro i
  induction i using Nat.strongRecOn with
  | _ i ih =>
    intro hi
    cases hl : listed.getD i false with
    | true => rfl
    | false =>
      have hm : i ∈ Region.ready .any ops listed := mem_ready.2 ⟨getD_in (by omega) hl, ops[i], by simp [hi], fun e he _ => by
        have hlt := hR.back i ops[i] (by simp [hi]) e he
        exact ih e.on hlt (by omega)⟩
      rw [h] at hm
      cases hm
theorem wpAny_of_ways {ks : List Kind} {a0 : Act} {w0 : World} (hR : RegW ops ks a0.tmps.size) (hop : ∀ i, i < ops.size → ObW P ops ks a0 w0 i)
    (hQ : ∀ listed a W, GotW ops ks a0 w0 listed a W → (∀ i, i < ops.size → listed.getD i false = true) → Q .normal a W) :
    ∀ (fuel : Nat) (listed : Array Bool) (a : Act) (w : World), GotW ops ks a0 w0 listed a w → cnt (fun i => !listed.getD i false) ops.size = fuel → wpAny P .any ops Q fuel listed a w
  | 0, listed, a, w, hg, hc => by
    have hall : ∀ i, i < ops.size → listed.getD i false = true := fun i hi => by
      cases hl : listed.getD i false with
      | true => rfl
      | false =>
        have := Zu8 (p := fun _ => false) (q := fun i => !listed.getD i false) (n := ops.size) (fun _ _ h => by cases h) ⟨i, hi, rfl, by simp [hl]⟩
        omega
    refine ⟨?_, hQ _ _ _ hg hall⟩
    cases hr : Region.ready .any ops listed with
    | nil => rfl
    | cons x xs =>
      have hx : x ∈ Region.ready .any ops listed := by rw [hr]; simp
      obtain ⟨h1, o, ho, _⟩ := mem_ready.1 hx
      have := hall x (Array.getElem?_eq_some_iff.1 ho).1
      rw [getD_both h1] at this
      cases this
  | fuel + 1, listed, a, w, hg, hc => by
    refine ⟨fun h0 => hQ _ _ _ hg (listedW_all hR hg.size h0), fun i hi => ?_⟩
    obtain ⟨hun, o, ho, hall⟩ := mem_ready.1 hi
    have hlt : i < ops.size := (Array.getElem?_eq_some_iff.1 ho).1
    obtain ⟨op, ty, hot, hO⟩ := hop i hlt
    rw [ho] at hot
    simp only [Option.map_some, Option.some.injEq, Prod.mk.injEq] at hot
    have hdep : ∀ j d, Region.waitsFor .any ops i j = true → dstOf ops j = some d → (ek ops ks j).holds (a.tmps.getD d undef) w := fun j d hw hd => by
      obtain ⟨oj, hoj, e, he, hb, hon⟩ := Region.waitsFor_spec hw
      have : oj = o := Option.some.inj (hoj.symm.trans ho)
      subst this
      exact hg.got j d hd (by rw [← hon]; exact hall e he hb)
    have hw : Region.wanted o (yielded ops a.tmps) = wantK ops ks i := by
      unfold Region.wanted wantK
      rw [ho]
      cases hgd : o.guard with
      | none => simp [hgd]
      | some gb =>
        obtain ⟨g, b⟩ := gb
        obtain ⟨h1, ⟨d, hd⟩, ⟨c, h3⟩, hwg⟩ := hR.guard i o g b ho hgd
        have h4 := hdep g d h1 hd
        unfold ek at h4
        rw [hwg, if_pos rfl, h3] at h4
        have h4 : a.tmps.getD d undef = .bool c := h4
        have hdl : d < a.tmps.size := by rw [hg.asize]; exact hR.lt g d hd
        have h5 : a.tmps[d]? = some (.bool c) := by
          rw [← h4]
          simp [Array.getD, hdl]
        unfold dstOf at hd
        simp [hgd, yielded, h3, Kind.isB, hd, h5]
    have hil : i < listed.size := by rw [hg.size]; exact hlt
    have next : ∀ u w', Below w.heap.size w w' → (ek ops ks i).holds u w' → wpAny P .any ops Q fuel (listed.setIfInBounds i true) (a.put o.dst u) w' := fun u w' hb hG => by
      refine wpAny_of_ways hR hop hQ fuel _ _ _ ⟨by simp [hg.size], hg.below.trans (hb.mono hg.below.size), by rw [Ym2]; exact hg.asize, by rw [Ym3]; exact hg.defs, fun t ht => ?_, fun j d hj hl => ?_⟩ ?_
      · rw [K7_ a u (fun e => by
          have h1 := List.all_eq_true.1 ht i (List.mem_range.2 hlt)
          have : dstOf ops i = some t := by unfold dstOf; rw [ho]; exact e
          rw [this] at h1
          simp at h1)]
        exact hg.outer t ht
      · by_cases hij : i = j
        · subst hij
          have hod : o.dst = some d := by unfold dstOf at hj; rw [ho] at hj; exact hj
          rw [hod, Zs0 a u (by rw [hg.asize]; exact hR.lt i d hj)]
          exact hG
        · rw [K7_ a u (fun e => hij (hR.one i j d (by unfold dstOf; rw [ho]; exact e) hj))]
          rw [getD_set_ne false hij] at hl
          exact Kind.up (hg.got j d hj hl) hb
      · have hq : (fun k => !(listed.setIfInBounds i true).getD k false) i = false := by simp [hil]
        have h1 := Zz4 (p := fun k => !listed.getD k false) (q := fun k => !(listed.setIfInBounds i true).getD k false) (y := i) (by simp only [getD_both hun]; rfl) hq (fun v hv => by simp only [getD_set_ne false (Ne.symm hv)]) (n := ops.size)
        rw [if_pos hlt] at h1
        omega
    unfold wpOp
    simp only [ho, hw]
    cases hwk : wantK ops ks i with
    | true =>
      rw [if_pos rfl]
      have he : ek ops ks i = kd ks i := by unfold ek; rw [hwk, if_pos rfl]
      exact .inl (Zv7 (G := (kd ks i).holds) (by rw [Zf8, hot.1, hot.2]; exact hO a w hwk hg.below hg.outer hdep) fun u w' hb hG => next u w' hb (by rw [he]; exact hG))
    | false =>
      rw [if_neg (by decide)]
      have he : ek ops ks i = .eq undef := by unfold ek; rw [hwk, if_neg (by decide)]
      exact next undef w (Below.refl _ _) (by rw [he]; exact rfl)
/-- Whatever order is drawn: each operation that comes up grants what it owes, and what follows may lean on all that. -/
theorem wp_region_ways {id : Nat} {a : Act} {w : World} (ks : List Kind) (hm : P.follows .mixedOrders = true) (hB : regW ops ks a.tmps.size = true) (hop : ∀ i, i < ops.size → ObW P ops ks a w.drew i)
    (hQ : ∀ a' W, Below w.drew.heap.size w.drew W → a'.tmps.size = a.tmps.size → a'.defers = a.defers → (∀ t, Ym1 ops t = true → a'.tmps.getD t undef = a.tmps.getD t undef) → (∀ i d, i < ops.size → dstOf ops i = some d → (ek ops ks i).holds (a'.tmps.getD d undef) W) → Q .normal a' W) :
    (Code.region id ops true).wp P Q a w := by
  refine wp_region_any hm ?_
  exact wpAny_of_ways (w0 := w.drew) (regW_of hB) hop (fun listed a' W hg hall => hQ a' W hg.below hg.asize hg.defs hg.outer fun i d hi hd => hg.got i d hd (hall i hi)) _ _ _ _
    ⟨by simp, Below.refl _ _, rfl, rfl, fun _ _ => rfl, fun i d _ hl => by rw [getD_replicate_false] at hl; cases hl⟩ (P8_ fun v _ => by simp only [getD_replicate_false]; rfl)
end

end Go.Proofs.YteiejkhdonmcdaaGreatDoor.Wp
