/- A region whose order is drawn up to its last operations, which come in one order alone: by what each of the ones ahead grants. Nothing of the program here. -/
import Derived.Test.YtgadbnbhgpehjaaGreatDoorGRegion
namespace Go.Proofs.YtgadbnbhgpehjaaGreatDoor.Wp
open Go Go.RowKit
structure KindT where
 holds : Value → World → Prop
 up : ∀ {v : Value} {W W' : World}, holds v W → Below W.heap.size W W' → holds v W'
def KindT.eq (u : Value) : KindT := ⟨fun v _ => v = u, fun h _ => h⟩
def KindT.box (t : TypeId) (cs : Array Value) : KindT := ⟨fun v W => ∃ g, v = .pointer (some ⟨g, 0, none⟩) ∧ Blk W g t cs, fun {_ _ _} h hb => by
 obtain ⟨g, h1, h2⟩ := h
 exact ⟨g, h1, h2.below hb h2.lt⟩⟩
def kdT (ks : List KindT) (i : Nat) : KindT := ks.getD i (.eq undef)
section
variable {P : Program} {ops : Array Oper} {Q : Exit → Act → World → Prop}
def notD (ops : Array Oper) (n : Nat) (t : Tmp) : Bool := (List.range n).all fun i => dstOf ops i != some t
def regT (ops : Array Oper) (n N : Nat) : Bool :=
 (List.range n).all fun i => match ops[i]? with
  | none => false
  | some o => (match o.dst with
    | some d => decide (d < N) && (List.range n).all fun j => decide (j = i) || dstOf ops j != some d
    | none => true) && (o.after.all fun e => decide (e.on < i)) && o.guard.isNone
structure RegT (ops : Array Oper) (n N : Nat) : Prop where
 lt : ∀ i d, i < n → dstOf ops i = some d → d < N
 one : ∀ i j d, i < n → j < n → dstOf ops i = some d → dstOf ops j = some d → i = j
 back : ∀ (i : Nat) (o : Oper), i < n → ops[i]? = some o → ∀ e ∈ o.after, e.on < i
 guard : ∀ (i : Nat) (o : Oper), i < n → ops[i]? = some o → o.guard = none
theorem Xt7 {n N : Nat} (h : regT ops n N = true) : RegT ops n N := by
 have key : ∀ (i : Nat) (o : Oper), i < n → ops[i]? = some o → ((match o.dst with
    | some d => decide (d < N) && (List.range n).all fun j => decide (j = i) || dstOf ops j != some d
    | none => true) = true ∧ (o.after.all fun e => decide (e.on < i)) = true) ∧ o.guard.isNone = true := fun i o hi ho => by
  have h1 := List.all_eq_true.1 h i (List.mem_range.2 hi)
  simp only [ho, Bool.and_eq_true] at h1
  exact h1
 have hd : ∀ i d, dstOf ops i = some d → ∃ o, ops[i]? = some o ∧ o.dst = some d := fun i d h => by
  unfold dstOf at h
  cases ho : ops[i]? with
  | none => rw [ho] at h; cases h
  | some o => rw [ho] at h; exact ⟨o, rfl, h⟩
 refine ⟨fun i d hin hi => ?_, fun i j d hin hjn hi hj => ?_, fun i o hin ho e he => ?_, fun i o hin ho => ?_⟩
 ·obtain ⟨o, ho, hod⟩ := hd i d hi
  have h1 := (key i o hin ho).1.1
  simp only [hod, Bool.and_eq_true, decide_eq_true_eq] at h1
  exact h1.1
 ·obtain ⟨o, ho, hod⟩ := hd i d hi
  have h1 := (key i o hin ho).1.1
  simp only [hod, Bool.and_eq_true, decide_eq_true_eq] at h1
  have h2 := List.all_eq_true.1 h1.2 j (List.mem_range.2 hjn)
  rw [hj] at h2
  simp at h2
  exact h2.symm
 ·have h1 := (key i o hin ho).1.2
  have h2 := Array.all_eq_true_iff_forall_mem.1 h1 e he
  simpa using h2
 ·have h1 := (key i o hin ho).2
  simpa using h1
structure GotT (ops : Array Oper) (ks : List KindT) (fr : Nat → Bool) (n : Nat) (a0 : Act) (w0 : World) (listed : Array Bool) (a : Act) (w : World) : Prop where
 below : Below w0.heap.size w0 w
 asize : a.tmps.size = a0.tmps.size
 defs : a.defers = a0.defers
 outer : ∀ t, notD ops n t = true → a.tmps.getD t undef = a0.tmps.getD t undef
 got : ∀ i d, i < n → dstOf ops i = some d → listed.getD i false = true → (kdT ks i).holds (a.tmps.getD d undef) w
 fresh : ∀ i d, i < n → fr i = true → dstOf ops i = some d → listed.getD i false = true → ∃ g, a.tmps.getD d undef = .pointer (some ⟨g, 0, none⟩) ∧ g < w.heap.size ∧ w0.heap.size ≤ g
 apart : ∀ i j d d' g g', i < n → j < n → i ≠ j → fr i = true → fr j = true → dstOf ops i = some d → dstOf ops j = some d' → listed.getD i false = true → listed.getD j false = true → a.tmps.getD d undef = .pointer (some ⟨g, 0, none⟩) → a.tmps.getD d' undef = .pointer (some ⟨g', 0, none⟩) → g ≠ g'
def PostT (ks : List KindT) (fr : Nat → Bool) (i : Nat) (W : World) (u : Value) (W' : World) : Prop := (kdT ks i).holds u W' ∧ (fr i = true → ∃ g, u = .pointer (some ⟨g, 0, none⟩) ∧ W.heap.size ≤ g ∧ g < W'.heap.size)
def ObT (P : Program) (ops : Array Oper) (ks : List KindT) (fr : Nat → Bool) (n : Nat) (a0 : Act) (w0 : World) (i : Nat) : Prop :=
 ∃ (op : Op) (ty : TypeId), (ops[i]?).map (fun o => (o.op, o.type)) = some (op, ty) ∧ ∀ (a : Act) (W : World), Below w0.heap.size w0 W → (∀ t, notD ops n t = true → a.tmps.getD t undef = a0.tmps.getD t undef) →
  (∀ j d, Region.waitsFor .any ops i j = true → dstOf ops j = some d → (kdT ks j).holds (a.tmps.getD d undef) W) → Yq8 P ((execOp a.eval { dst := none, op := op, type := ty, pos := "", after := #[], guard := none }).run P W) W (PostT ks fr i W)
def Zg6 (n m : Nat) : Array Bool := Array.replicate n true ++ Array.replicate (m - n) false
theorem Xt8 {n : Nat} {listed : Array Bool} (hn : n < ops.size) (inv : HeadInv .any ops n listed) (h : ∀ i, i < n → listed.getD i false = true) : listed = Zg6 n ops.size := by
 have hs := inv.size
 refine Array.ext_getElem? fun i => ?_
 unfold Zg6
 by_cases hi : i < n
 ·have h1 := h i hi
  have h2 : i < listed.size := by omega
  simp only [Array.getD, h2, dif_pos] at h1
  rw [Array.getElem?_append_left (by simpa using hi), Array.getElem?_eq_getElem h2]
  simp [hi]
  exact h1
 ·by_cases h2 : i < listed.size
  ·have h1 := inv.tail i (by omega) (by omega)
   simp only [Array.getD, h2, dif_pos] at h1
   rw [Array.getElem?_append_right (by simpa using Nat.le_of_not_lt hi), Array.getElem?_eq_getElem h2]
   simp [show i - n < ops.size - n by omega]
   exact h1
  ·rw [Array.getElem?_eq_none (by omega), Array.getElem?_eq_none (by simp; omega)]
theorem I0_ {ks : List KindT} {fr : Nat → Bool} {n : Nat} {a0 : Act} {w0 : World} (hR : RegT ops n a0.tmps.size) (hs : Region.sinkB .any ops n = true) (hc : Region.chainB .any ops n = true) (hn : n < ops.size)
  (hq : Region.seqB .any ops (ops.toList.drop n).length n (Zg6 n ops.size) = true) (hop : ∀ i, i < n → ObT P ops ks fr n a0 w0 i)
  (hQ : ∀ a W, Below w0.heap.size w0 W → a.tmps.size = a0.tmps.size → a.defers = a0.defers → (∀ t, notD ops n t = true → a.tmps.getD t undef = a0.tmps.getD t undef) → (∀ i d, i < n → dstOf ops i = some d → (kdT ks i).holds (a.tmps.getD d undef) W) → (∀ i j d d' g g', i < n → j < n → i ≠ j → fr i = true → fr j = true → dstOf ops i = some d → dstOf ops j = some d' → a.tmps.getD d undef = .pointer (some ⟨g, 0, none⟩) → a.tmps.getD d' undef = .pointer (some ⟨g', 0, none⟩) → g ≠ g') → (∀ i d, i < n → fr i = true → dstOf ops i = some d → ∃ g, a.tmps.getD d undef = .pointer (some ⟨g, 0, none⟩) ∧ w0.heap.size ≤ g) → wpList P ops Q (ops.toList.drop n) a W) :
  ∀ (fuel : Nat) (listed : Array Bool) (a : Act) (w : World), GotT ops ks fr n a0 w0 listed a w → HeadInv .any ops n listed → cnt (fun i => !listed.getD i false) n = fuel → wpAny P .any ops Q (fuel + (ops.toList.drop n).length) listed a w
 | 0, listed, a, w, hg, inv, hc0 => by
  have hall : ∀ i, i < n → listed.getD i false = true := fun i hi => by
   cases hl : listed.getD i false with
   | true => rfl
   | false =>
    have := Ym1 (p := fun _ => false) (q := fun i => !listed.getD i false) (n := n) (fun _ _ h => by cases h) ⟨i, hi, rfl, by simp [hl]⟩
    omega
  rw [Nat.zero_add]
  refine wpAny_of_seq _ n listed a w (fun j => by rw [List.getElem?_drop, Array.getElem?_toList]) ?_ (hQ a w hg.below hg.asize hg.defs hg.outer (fun i d hi hd => hg.got i d hi hd (hall i hi)) (fun i j d d' g g' hi hj hij h1 h2 h3 h4 => hg.apart i j d d' g g' hi hj hij h1 h2 h3 h4 (hall i hi) (hall j hj)) (fun i d hi hf hd => (hg.fresh i d hi hf hd (hall i hi)).elim fun g h => ⟨g, h.1, h.2.2⟩))
  rw [Xt8 hn inv hall]
  exact hq
 | fuel + 1, listed, a, w, hg, inv, hc0 => by
  have hex : ∃ i, i < n ∧ listed.getD i false = false := by
   refine Classical.byContradiction fun hno => ?_
   have h1 : cnt (fun i => !listed.getD i false) n = 0 := by
    unfold cnt
    rw [List.filter_eq_nil_iff.2 fun v hv => ?_]
    ·rfl
    ·have hv := List.mem_range.1 hv
     cases hl : listed.getD v false with
     | true => simp
     | false => exact absurd ⟨v, hv, hl⟩ hno
   omega
  rw [show fuel + 1 + (ops.toList.drop n).length = (fuel + (ops.toList.drop n).length) + 1 by omega]
  obtain ⟨i0, hi0, hl0⟩ := hex
  have hun0 : listed.getD i0 true = false := getD_in (by rw [inv.size]; omega) hl0
  refine ⟨fun h0 => ?_, fun i hi => ?_⟩
  ·exfalso
   have hall : ∀ i, i < n → listed.getD i false = true := by
    intro i
    induction i using Nat.strongRecOn with
    | _ i ih =>
     intro hi
     cases hl : listed.getD i false with
     | true => rfl
     | false =>
      have hm : i ∈ Region.ready .any ops listed := mem_ready.2 ⟨getD_in (by rw [inv.size]; omega) hl, ops[i], by simp [show i < ops.size by omega], fun e he _ => by
       have hlt := hR.back i ops[i] hi (by simp [show i < ops.size by omega]) e he
       exact ih e.on hlt (by omega)⟩
      rw [h0] at hm
      cases hm
   rw [hall i0 hi0] at hl0
   cases hl0
  ·have hin : i < n := by
    rcases Nat.lt_or_ge i n with h | h
    ·exact h
    ·exact absurd hi (tail_waits hs hc hn inv _ i0 rfl hi0 hun0 i h)
   obtain ⟨hun, o, ho, hall⟩ := mem_ready.1 hi
   obtain ⟨op, ty, hot, hO⟩ := hop i hin
   rw [ho] at hot
   simp only [Option.map_some, Option.some.injEq, Prod.mk.injEq] at hot
   have hdep : ∀ j d, Region.waitsFor .any ops i j = true → dstOf ops j = some d → (kdT ks j).holds (a.tmps.getD d undef) w := fun j d hw hd => by
    obtain ⟨oj, hoj, e, he, hb, hon⟩ := Region.waitsFor_spec hw
    have : oj = o := Option.some.inj (hoj.symm.trans ho)
    subst this
    exact hg.got j d (by rw [← hon]; have := hR.back i oj hin ho e he; omega) hd (by rw [← hon]; exact hall e he hb)
   have hw : Region.wanted o (yielded ops a.tmps) = true := by
    unfold Region.wanted
    rw [hR.guard i o hin ho]
   unfold wpOp
   simp only [ho, hw, if_true]
   refine .inl (Zn7 (G := PostT ks fr i w) (by rw [Zw3, hot.1, hot.2]; exact hO a w hg.below hg.outer hdep) fun u w' hb hG => ?_)
   have hil : i < listed.size := by rw [inv.size]; omega
   refine I0_ hR hs hc hn hq hop hQ fuel _ _ _ ⟨hg.below.trans (hb.mono hg.below.size), by rw [Xf6]; exact hg.asize, by rw [Xf7]; exact hg.defs, fun t ht => ?_, fun j d hjn hj hl => ?_, fun j d hjn hf hj hl => ?_, fun j k d d' g g' hjn hkn hjk hfj hfk hj hk hlj hlk hg1 hg2 => ?_⟩ (inv.set hi hin) ?_
   ·rw [P8_ a u (fun e => by
     have h1 := List.all_eq_true.1 ht i (List.mem_range.2 hin)
     have : dstOf ops i = some t := by unfold dstOf; rw [ho]; exact e
     rw [this] at h1
     simp at h1)]
    exact hg.outer t ht
   ·by_cases hij : i = j
    ·subst hij
     have hod : o.dst = some d := by unfold dstOf at hj; rw [ho] at hj; exact hj
     rw [hod, Zw4 a u (by rw [hg.asize]; exact hR.lt i d hin hj)]
     exact hG.1
    ·rw [P8_ a u (fun e => hij (hR.one i j d hin hjn (by unfold dstOf; rw [ho]; exact e) hj))]
     rw [getD_set_ne false hij] at hl
     exact (kdT ks j).up (hg.got j d hjn hj hl) hb
   ·by_cases hij : i = j
    ·subst hij
     have hod : o.dst = some d := by unfold dstOf at hj; rw [ho] at hj; exact hj
     rw [hod, Zw4 a u (by rw [hg.asize]; exact hR.lt i d hin hj)]
     obtain ⟨g, h1, h2, h3⟩ := hG.2 hf
     exact ⟨g, h1, h3, Nat.le_trans hg.below.size h2⟩
    ·rw [P8_ a u (fun e => hij (hR.one i j d hin hjn (by unfold dstOf; rw [ho]; exact e) hj))]
     rw [getD_set_ne false hij] at hl
     obtain ⟨g, h1, h2, h3⟩ := hg.fresh j d hjn hf hj hl
     exact ⟨g, h1, Nat.lt_of_lt_of_le h2 hb.size, h3⟩
   ·have own : ∀ q dq gq, q < n → i = q → fr q = true → dstOf ops q = some dq → (a.put o.dst u).tmps.getD dq undef = .pointer (some ⟨gq, 0, none⟩) → w.heap.size ≤ gq := fun q dq gq hq hiq hf hd he => by
     subst hiq
     have hod : o.dst = some dq := by unfold dstOf at hd; rw [ho] at hd; exact hd
     rw [hod, Zw4 a u (by rw [hg.asize]; exact hR.lt i dq hin hd)] at he
     obtain ⟨g0, h1, h2, _⟩ := hG.2 hf
     rw [h1] at he
     injection he with he
     injection he with he
     injection he with he
     omega
    have old : ∀ q dq gq, q < n → i ≠ q → fr q = true → dstOf ops q = some dq → (listed.setIfInBounds i true).getD q false = true → (a.put o.dst u).tmps.getD dq undef = .pointer (some ⟨gq, 0, none⟩) → gq < w.heap.size ∧ a.tmps.getD dq undef = .pointer (some ⟨gq, 0, none⟩) ∧ listed.getD q false = true := fun q dq gq hq hiq hf hd hl he => by
     rw [P8_ a u (fun e => hiq (hR.one i q dq hin hq (by unfold dstOf; rw [ho]; exact e) hd))] at he
     rw [getD_set_ne false hiq] at hl
     obtain ⟨g0, h1, h2, _⟩ := hg.fresh q dq hq hf hd hl
     refine ⟨?_, he, hl⟩
     rw [h1] at he
     injection he with he
     injection he with he
     injection he with he
     omega
    by_cases hij : i = j
    ·have h1 := own j d g hjn hij hfj hj hg1
     have h2 := (old k d' g' hkn (by omega) hfk hk hlk hg2).1
     omega
    ·have h1 := old j d g hjn hij hfj hj hlj hg1
     by_cases hik : i = k
     ·have h2 := own k d' g' hkn hik hfk hk hg2
      have h3 := h1.1
      omega
     ·have h2 := old k d' g' hkn hik hfk hk hlk hg2
      exact hg.apart j k d d' g g' hjn hkn hjk hfj hfk hj hk h1.2.2 h2.2.2 h1.2.1 h2.2.1
   ·have hq2 : (fun k => !(listed.setIfInBounds i true).getD k false) i = false := by simp [hil]
    have h1 := Zz9 (p := fun k => !listed.getD k false) (q := fun k => !(listed.setIfInBounds i true).getD k false) (y := i) (by simp only [getD_both hun]; rfl) hq2 (fun v hv => by simp only [getD_set_ne false (Ne.symm hv)]) (n := n)
    rw [if_pos hin] at h1
    omega
theorem S5_ {id : Nat} {a : Act} {w : World} (n : Nat) (ks : List KindT) (fr : Nat → Bool) (hm : P.follows .mixedOrders = true) (hB : (regT ops n a.tmps.size && Region.sinkB .any ops n && Region.chainB .any ops n && decide (n < ops.size) && Region.seqB .any ops (ops.toList.drop n).length n (Zg6 n ops.size)) = true) (hop : ∀ i, i < n → ObT P ops ks fr n a w.drew i)
  (hQ : ∀ a' W, Below w.drew.heap.size w.drew W → a'.tmps.size = a.tmps.size → a'.defers = a.defers → (∀ t, notD ops n t = true → a'.tmps.getD t undef = a.tmps.getD t undef) → (∀ i d, i < n → dstOf ops i = some d → (kdT ks i).holds (a'.tmps.getD d undef) W) → (∀ i j d d' g g', i < n → j < n → i ≠ j → fr i = true → fr j = true → dstOf ops i = some d → dstOf ops j = some d' → a'.tmps.getD d undef = .pointer (some ⟨g, 0, none⟩) → a'.tmps.getD d' undef = .pointer (some ⟨g', 0, none⟩) → g ≠ g') → (∀ i d, i < n → fr i = true → dstOf ops i = some d → ∃ g, a'.tmps.getD d undef = .pointer (some ⟨g, 0, none⟩) ∧ w.drew.heap.size ≤ g) → wpList P ops Q (ops.toList.drop n) a' W) :
  (Code.region id ops true).wp P Q a w := by
 simp only [Bool.and_eq_true, decide_eq_true_eq] at hB
 obtain ⟨⟨⟨⟨h1, h2⟩, h3⟩, h4⟩, h5⟩ := hB
 refine wp_region_any hm ?_
 have h := I0_ (w0 := w.drew) (Xt7 h1) h2 h3 h4 h5 hop (fun a' W => hQ a' W) (cnt (fun i => !(Array.replicate ops.size false).getD i false) n) (Array.replicate ops.size false) a w.drew
  ⟨Below.refl _ _, rfl, rfl, fun _ _ => rfl, fun i d _ _ hl => (by rw [getD_replicate_false] at hl; cases hl), fun i d _ _ _ hl => (by rw [getD_replicate_false] at hl; cases hl), fun i j d d' g g' _ _ _ _ _ _ _ hl => (by rw [getD_replicate_false] at hl; cases hl)⟩ ⟨by simp, fun j oj _ hl => (by rw [getD_replicate_false] at hl; cases hl), fun t _ ht => (by simp [Array.getD, ht])⟩ rfl
 have hcn : cnt (fun i => !(Array.replicate ops.size false).getD i false) n = n := O1_ fun v _ => by simp only [getD_replicate_false]; rfl
 rw [hcn] at h
 rw [show n + (ops.toList.drop n).length = ops.size by simp; omega] at h
 exact h
end
theorem Zc3 {i : Nat} {v : Value} : ∀ {D : List (Nat × Value)}, D.lookup i = some v → (i, v) ∈ D
 | [], h => by cases h
 | (k, u) :: r, h => by
  rw [List.lookup_cons] at h
  cases hk : (i == k) with
  | true =>
   rw [hk] at h
   have e : i = k := by simpa using hk
   simp only [Option.some.injEq] at h
   rw [e, ← h]; simp
  | false =>
   rw [hk] at h
   exact List.mem_cons_of_mem _ (Zc3 h)
theorem Xf8 {ops : Array Oper} {n N : Nat} {a a' : Act} (D : List (Nat × Value)) (hs : a.tmps.size = N) (hsz : a'.tmps.size = a.tmps.size) (hdf : a'.defers = a.defers) (hout : ∀ t, notD ops n t = true → a'.tmps.getD t undef = a.tmps.getD t undef)
  (hB : ((List.range N).all fun i => (D.lookup i).isSome || notD ops n i) = true) (hD : ∀ p ∈ D, a'.tmps.getD p.1 undef = p.2) : a' = ⟨((List.range N).map fun i => (D.lookup i).getD (a.tmps.getD i undef)).toArray, a.defers⟩ := by
 obtain ⟨t', d'⟩ := a'
 simp only at hsz hdf hout hD
 subst hdf
 congr 1
 refine Array.ext_getElem? fun i => ?_
 by_cases hi : i < N
 ·have h1 := List.all_eq_true.1 hB i (List.mem_range.2 hi)
  have h2 : i < t'.size := by omega
  have h4 : t'.getD i undef = (D.lookup i).getD (a.tmps.getD i undef) := by
   cases hl : D.lookup i with
   | none =>
    rw [hl] at h1
    exact hout i (by simpa using h1)
   | some v => exact hD (i, v) (Zc3 hl)
  have h5 : t'[i]? = some (t'.getD i undef) := by simp [Array.getD, h2]
  rw [h5, h4]
  simp [hi]
 ·rw [Array.getElem?_eq_none (by omega), Array.getElem?_eq_none (by simp; omega)]
def regOf (k : Nat) : Code → Array Oper
 | .region id ops _ => if id = k then ops else #[]
 | .seq a b => let x := regOf k a; if x.size = 0 then regOf k b else x
 | .cond _ a b => let x := regOf k a; if x.size = 0 then regOf k b else x
 | .block _ a => regOf k a
 | .loop a => regOf k a
 | _ => #[]
end Go.Proofs.YtgadbnbhgpehjaaGreatDoor.Wp
