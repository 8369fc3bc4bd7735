/- The program's takeOff, walked. The program's rank of columns, walked. -/
import Derived.Test.YtgadbnbhgpehjaaGreatDoorZP
import Derived.Maps.RangeWalk
import Derived.Maps.OwnSet
import Derived.WalkKit
import Derived.Test.YtgadbnbhgpehjaaGreatDoorZA
import Derived.Deep.OwnRows
import Derived.Test.YtgadbnbhgpehjaaGreatDoorZM
import Derived.Maps.OwnOps
import Derived.StillTailTactics
import Derived.IntWalk
import Derived.Lib.SliceRun
import Derived.Test.YtgadbnbhgpehjaaGreatDoorZE
import Derived.Shelf.Abstract
import Derived.Laws.EntriesVeiled
import Derived.Maps.AppendAt
set_option maxHeartbeats 8000000
set_option maxRecDepth 100000
open Go.Lib (hid)
open Nat (le_refl)
namespace Go.Proofs.YtgadbnbhgpehjaaGreatDoor.Wp.L
open Go
def Reads (D : DataW Unit) (f : Nat → Int) : Prop := ∀ (x : Int) (zd : DataW Unit), D.atKey (.int .i64 x) zd = if 0 ≤ x ∧ f x.toNat ≠ 0 then .lit (.int .i64 (f x.toNat)) else zd
theorem Zt2 : Reads (.map []) fun _ => 0 := fun x zd => by simp [DataW.atKey]
theorem Yn8 {D : DataW Unit} {f : Nat → Int} (hD : Maps.IsMap D) (h : Reads D f) (a : Nat) {t : Int} (ht : t ≠ 0) (hk : WideAt.IsKeyLit (.int .i64 (a : Int))) : Reads (D.put (.int .i64 (a : Int)) (.lit (.int .i64 t))) (upd f a t) := by
 intro x zd
 by_cases hx : x = (a : Int)
 ·subst hx
  rw [Maps.atKey_put_same hD hk]
  unfold upd
  simp [ht]
 ·rw [Maps.atKey_put_other (by intro e; injection e with _ e; exact hx e), h x zd]
  by_cases h0 : 0 ≤ x
  ·have hne : x.toNat ≠ a := by omega
   unfold upd
   rw [if_neg hne]
  ·rw [if_neg (fun e => h0 e.1), if_neg (fun e => h0 e.1)]
end Go.Proofs.YtgadbnbhgpehjaaGreatDoor.Wp.L
namespace Go.Proofs.YtgadbnbhgpehjaaGreatDoor.Wp.L
open Go Go.RowKit
variable {p : Int} {R : Nat}
theorem Zl1 {a b : Int} (hp : p ≤ 2147483647) (ha : 0 ≤ a) (ha' : a < p) (hb : 0 ≤ b) (hb' : b < p) : 0 ≤ a * b ∧ a * b < 4611686018427387904 := by
 refine ⟨Int.mul_nonneg ha hb, ?_⟩
 have h1 : a * b ≤ 2147483646 * b := Int.mul_le_mul_of_nonneg_right (by omega) hb
 omega
theorem Xp2 {x : Int} (h1 : -9223372036854775808 ≤ x) (h2 : x < 9223372036854775808) : wrap64 x = x := by
 unfold wrap64
 omega
theorem Zx2 {a b : Int} (hp : p ≤ 2147483647) (ha : 0 ≤ a) (ha' : a < p) (hb : 0 ≤ b) (hb' : b < p) : wrap64 (a * b) = a * b := by
 have := Zl1 hp ha ha' hb hb'
 exact Xp2 (by omega) (by omega)
theorem Yd8 {left : List Int} {l : Line} {t : Int} : subU p left l t l.lead = left := by
 apply List.ext_getElem
 ·exact Q1_
 ·intro i h1 h2
  have := I8_ (p := p) (l := l) (t := t) (k := l.lead) h2
  rw [if_neg (by omega)] at this
  simpa [List.getD, h1, h2] using this
theorem Xp3 {left : List Int} {l : Line} {t : Int} {r : Nat} (h : r < left.length) : (subU p left l t r).getD r 0 = left.getD r 0 := by
 rw [I8_ h, if_neg (by omega)]
theorem Yn9 {left : List Int} {l : Line} {t : Int} {r : Nat} (h : l.lead ≤ r) : (subU p left l t r).set r ((left.getD r 0 - t * l.left.getD r 0) % p) = subU p left l t (r + 1) := by
 apply List.ext_getElem
 ·simp [Q1_]
 ·intro i h1 h2
  have hi : i < left.length := by simpa [Q1_] using h2
  have e1 := I8_ (p := p) (left := left) (l := l) (t := t) (k := r + 1) hi
  have e2 := I8_ (p := p) (left := left) (l := l) (t := t) (k := r) hi
  rw [List.getD_eq_getElem?_getD, List.getElem?_eq_getElem h2] at e1
  rw [List.getD_eq_getElem?_getD, List.getElem?_eq_getElem (by rw [Q1_]; exact hi)] at e2
  rw [show (subU p left l t (r + 1))[i] = _ from e1, List.getElem_set]
  by_cases h3 : r = i
  ·subst h3
   rw [if_pos rfl, if_pos ⟨h, by omega⟩]
  ·rw [if_neg h3, show (subU p left l t r)[i]'(by rw [Q1_]; exact hi) = _ from e2]
   by_cases h4 : l.lead ≤ i ∧ i < r
   ·rw [if_pos h4, if_pos ⟨h4.1, by omega⟩]
   ·rw [if_neg h4, if_neg (by omega)]
def takeN (p : Int) (ls : List Line) (col : List Int) (k : Nat) : List Int × (Nat → Int) := (ls.take k).foldl (stepT p) (col, fun _ => 0)
theorem Yd9 {ls : List Line} {col : List Int} {k : Nat} (hk : k < ls.length) : takeN p ls col (k + 1) = stepT p (takeN p ls col k) ls[k] := by
 unfold takeN
 rw [List.take_succ_eq_append_getElem hk, List.foldl_append]
 rfl
theorem Yo0 {ls : List Line} {col : List Int} : takeN p ls col ls.length = takeT p ls col := by
 unfold takeN takeT
 rw [List.take_length]
theorem Yj2 : ∀ {ls : List Line} {k : Nat}, Ech p R ls → Ech p R (ls.take k)
 | [], k, _ => by simp [Ech]
 | l :: ls, 0, _ => by simp [Ech]
 | l :: ls, k + 1, ⟨h1, h2, h3⟩ => ⟨h1, fun m hm => h2 m (List.mem_of_mem_take hm), Yj2 h3⟩
theorem Zx3 (hp : 0 < p) {ls : List Line} {col : List Int} {k : Nat} (h : Ech p R ls) (hc : InR p R col) : Taken p R (ls.take k) col (fun _ => 0) (takeN p ls col k) :=
 taken hp (Yj2 h) hc (fun _ => ⟨by omega, hp⟩) fun _ _ => rfl
theorem Ye0 {s : List Int × (Nat → Int)} {l : Line} (h : (s.1.getD l.lead 0 * l.inv) % p = 0) : stepT p s l = s := if_pos h
theorem Ye1 {s : List Int × (Nat → Int)} {l : Line} {t : Int} (h : (s.1.getD l.lead 0 * l.inv) % p = t) (h0 : t ≠ 0) : stepT p s l = (subU p s.1 l t s.1.length, upd s.2 l.place t) := by
 subst h
 exact if_neg h0
end Go.Proofs.YtgadbnbhgpehjaaGreatDoor.Wp.L
namespace Go.Proofs.YtgadbnbhgpehjaaGreatDoor
open Go.RowKit
namespace Wp.L
theorem Xp4 : Go.Maps.Keyed Tryz.prog 3 := Go.Maps.int_keyed Tryz.underlying3
def MapAt (w : World) (b n : Nat) (f : Nat → Int) : Prop := ∃ D : DataW Unit, w.ownsMap Tryz.prog 3 (plainElem Tryz.prog 3) b n D ∧ Reads D f
theorem MapAt.kept {w w' : World} {b n : Nat} {f : Nat → Int} {row : Option Nat} (h : MapAt w b n f) (hg : w.grownBy w' row) (hne : some b ≠ row) : MapAt w' b n f := by
 obtain ⟨D, h1, h2⟩ := h
 exact ⟨D, h1.kept hg hne, h2⟩
theorem MapAt.lt {w : World} {b n : Nat} {f : Nat → Int} (h : MapAt w b n f) : b < w.heap.size := by
 obtain ⟨D, h1, _⟩ := h
 exact h1.lt
theorem MapAt.mono {w : World} {b n n' : Nat} {f : Nat → Int} (h : MapAt w b n f) (hn : n ≤ n') : MapAt w b n' f := by
 obtain ⟨D, h1, h2⟩ := h
 exact ⟨D, h1.mono hn, h2⟩
theorem MapAt.not_row {w : World} {b n : Nat} {f : Nat → Int} (h : MapAt w b n f) {base size k : Nat} {e : TypeId} {v : Value} {xs : List Value} (hr : w.ownsRow base e size v k xs) : some b ≠ v.ownBlock := by
 obtain ⟨D, ⟨es, clock, h1, _⟩, _⟩ := h
 rcases hr.2 with ⟨rfl, _⟩ | ⟨g, cap, cur, rfl, _, hg, _⟩
 ·simp [Value.ownBlock]
 ·intro he
  have he' : b = g := by simpa [Value.ownBlock] using he
  subst he'
  rw [h1] at hg
  cases hg
def V0_ (u : Value) (b : Nat) (l : Line) : List Value := [.int .i64 (l.place : Int), u, .int .i64 (l.lead : Int), .int .i64 l.inv, .map (some b)]
def Zt3 (w : World) (B : Nat) (v : Value) (ls : List Line) : Prop :=
 ∃ A c, v = .slice A ls.length c ∧ (ls.length ≤ c ∧ c ≤ maxLen ∧ (A = none → c = 0)) ∧
  ∀ k (hk : k < ls.length), ∃ (ad : Addr) (u : Value) (b : Nat), A = some ad ∧ ad.block < B ∧
   (w.cell? (ad.add (k * 5)) = some (.int .i64 ((ls[k]).place : Int)) ∧ w.cell? ⟨(ad.add (k * 5)).block, (ad.add (k * 5)).off + 1, none⟩ = some u ∧
    w.cell? ⟨(ad.add (k * 5)).block, (ad.add (k * 5)).off + 2, none⟩ = some (.int .i64 ((ls[k]).lead : Int)) ∧ w.cell? ⟨(ad.add (k * 5)).block, (ad.add (k * 5)).off + 3, none⟩ = some (.int .i64 (ls[k]).inv) ∧
    w.cell? ⟨(ad.add (k * 5)).block, (ad.add (k * 5)).off + 4, none⟩ = some (.map (some b))) ∧
   Row w B u (ls[k]).left ∧ b < B ∧ MapAt w b 64 (ls[k]).by_
def flatL : List (Value × Nat × Line) → List Value
 | [] => []
 | (u, b, l) :: r => V0_ u b l ++ flatL r
theorem T9_ : ∀ (a b : List (Value × Nat × Line)), flatL (a ++ b) = flatL a ++ flatL b
 | [], b => rfl
 | (u, c, l) :: a, b => by simp [flatL, T9_ a b]
theorem Yj3 : ∀ (ns : List (Value × Nat × Line)) (k i : Nat) (hk : k < ns.length), i < 5 → (flatL ns)[k * 5 + i]? = (V0_ ns[k].1 ns[k].2.1 ns[k].2.2)[i]?
 | [], k, i, h, _ => absurd h (by simp)
 | (u, b, l) :: r, 0, i, _, hi => by
  simp only [flatL, Nat.zero_mul, Nat.zero_add, List.getElem_cons_zero]
  rw [List.getElem?_append_left (by simp [V0_]; omega)]
 | (u, b, l) :: r, k + 1, i, h, hi => by
  have ih := Yj3 r k i (by simp at h; omega) hi
  have e1 : (k + 1) * 5 + i = 5 + (k * 5 + i) := by omega
  rw [e1]
  simp only [flatL, List.getElem_cons_succ]
  rw [List.getElem?_append_right (by simp [V0_]), show 5 + (k * 5 + i) - (V0_ u b l).length = k * 5 + i by simp [V0_]]
  exact ih
structure OwnL (w : World) (base : Nat) (v : Value) (ns : List (Value × Nat × Line)) : Prop where
 own : w.ownsRow base 135 5 v ns.length (flatL ns)
 rows : ∀ x ∈ ns, w.ownsRow base 3 1 x.1 x.2.2.left.length (ints x.2.2.left)
 maps : ∀ x ∈ ns, base ≤ x.2.1 ∧ MapAt w x.2.1 64 x.2.2.by_
theorem Xq2 (w : World) (base : Nat) : OwnL w base (.slice none 0 0) [] := ⟨World.ownsRow_nil _ _ _ _, fun _ h => (by cases h), fun _ h => (by cases h)⟩
theorem OwnL.kept {w w' : World} {base : Nat} {v : Value} {ns : List (Value × Nat × Line)} (h : OwnL w base v ns) (hg : w.grownBy w' none) : OwnL w' base v ns := by
 have hn : ∀ (u : Value), u.ownBlock = none ∨ u.ownBlock ≠ none := fun u => by
  rcases u.ownBlock with _ | k
  ·exact .inl rfl
  ·exact .inr (by simp)
 exact ⟨h.own.kept hg (hn v), fun x hx => (h.rows x hx).kept hg (hn x.1), fun x hx => ⟨(h.maps x hx).1, (h.maps x hx).2.kept hg (by simp)⟩⟩
theorem OwnL.grow {w w' : World} {base : Nat} {v v' : Value} {ns ns' : List (Value × Nat × Line)} (h : OwnL w base v ns) (hg : w.grownBy w' v.ownBlock) (ho : w'.ownsRow base 135 5 v' ns'.length (flatL ns'))
  (hn : ∀ x ∈ ns', x ∈ ns ∨ (w.ownsRow base 3 1 x.1 x.2.2.left.length (ints x.2.2.left) ∧ base ≤ x.2.1 ∧ MapAt w x.2.1 64 x.2.2.by_)) : OwnL w' base v' ns' := by
 have hr : ∀ x ∈ ns', w.ownsRow base 3 1 x.1 x.2.2.left.length (ints x.2.2.left) := fun x hx => (hn x hx).elim (fun hm => h.rows x hm) fun hm => hm.1
 have hm : ∀ x ∈ ns', base ≤ x.2.1 ∧ MapAt w x.2.1 64 x.2.2.by_ := fun x hx => (hn x hx).elim (fun hm => h.maps x hm) fun hm => hm.2
 exact ⟨ho, fun x hx => (hr x hx).kept hg (T2_ (hr x hx) h.own (by decide)), fun x hx => ⟨(hm x hx).1, (hm x hx).2.kept hg ((hm x hx).2.not_row h.own)⟩⟩
theorem OwnL.lines {w : World} {base : Nat} {v : Value} {ns : List (Value × Nat × Line)} (h : OwnL w base v ns) : Zt3 w w.heap.size v (ns.map fun x => x.2.2) := by
 have hc := h.own
 rcases hc.2 with ⟨rfl, h0⟩ | ⟨g, cap, cur, rfl, hb, hg, hcl, hcm, _⟩
 ·have : ns = [] := List.eq_nil_of_length_eq_zero h0
  subst this
  exact ⟨none, 0, rfl, ⟨le_refl _, by decide, fun _ => rfl⟩, fun k hk => absurd hk (by simp)⟩
 ·refine ⟨_, cap, by rw [List.length_map], ⟨by rw [List.length_map]; exact hcl, hcm, fun e => by cases e⟩, fun k hk => ?_⟩
  have hkn : k < ns.length := by simpa using hk
  have hmem : ns[k] ∈ ns := List.getElem_mem hkn
  have cell : ∀ i u, i < 5 → (V0_ ns[k].1 ns[k].2.1 ns[k].2.2)[i]? = some u → w.cell? (Addr.add ⟨g, 0, none⟩ (k * 5 + i)) = some u := fun i u hi hu =>
   World.ownsRow.cells hc (g := g) rfl _ _ ((Yj3 ns k i hkn hi).trans hu)
  have sp : ∀ i, (⟨((⟨g, 0, none⟩ : Addr).add (k * 5)).block, ((⟨g, 0, none⟩ : Addr).add (k * 5)).off + i, none⟩ : Addr) = (⟨g, 0, none⟩ : Addr).add (k * 5 + i) := by
   intro i
   unfold Addr.add
   by_cases hj : k * 5 = 0
   ·by_cases hi : i = 0
    ·simp [hj, hi]
    ·simp [hj, hi]
   ·simp [hj]
  refine ⟨_, ns[k].1, ns[k].2.1, rfl, (World.ownsRow.lt hc g rfl).2, ?_, ?_, (h.maps _ hmem).2.lt, ?_⟩
  ·simp only [List.getElem_map]
   refine ⟨cell 0 _ (by omega) rfl, ?_, ?_, ?_, ?_⟩
   ·rw [sp]; exact cell 1 _ (by omega) rfl
   ·rw [sp]; exact cell 2 _ (by omega) rfl
   ·rw [sp]; exact cell 3 _ (by omega) rfl
   ·rw [sp]; exact cell 4 _ (by omega) rfl
  ·simp only [List.getElem_map]
   exact Row.of_own (h.rows _ hmem) rfl
  ·simp only [List.getElem_map]
   exact (h.maps _ hmem).2
end Wp.L
end Go.Proofs.YtgadbnbhgpehjaaGreatDoor
namespace Go.Proofs.YtgadbnbhgpehjaaGreatDoor
open Go.RowKit
namespace Wp.L
theorem clone_any (v : Value) (zs : List Int) (w : World) (hr : Row w w.heap.size v zs) (hl : zs.length ≤ 1048576) :
  Calls Tryz.prog 110 #[v] w fun e w' => ∃ u, e = .returned u ∧ w'.ownsRow w.heap.size 3 1 u zs.length (ints zs) ∧ Below w.heap.size w w' := by
 have Hr := hid hr
 obtain ⟨A, c, rfl, hn, hk⟩ := hr
 rcases A with _ | ad
 ·have hz : zs = [] := by
   cases zs with
   | nil => rfl
   | cons y r =>
    obtain ⟨_, hA, _⟩ := hk 0 (by simp)
    cases hA
  subst hz
  obtain rfl := hn.2.2 rfl
  clear hk hn
  have q26 : ∀ (w : World) (a : Option Addr) (n c n' c' : Nat), (binOp .eql 26 (.slice a n c) (.slice none n' c')).run Tryz.prog w = .ok (.bool a.isNone) w := fun w a n c n' c' => Lib.run_eql_slice_nil w _ _ a n c n' c' Tryz.underlying26
  go_enter Tryz.func110, Tryz.ntmps110
  go_wp2
  go_ret
  exact ⟨_, rfl, World.ownsRow_nil _ _ _ _, Below.refl _ _⟩
 ·have Hown : Hid ((w.alloc (.cells #[] 3)).ownsRow w.heap.size 3 1 (.slice (some ⟨w.heap.size, 0, none⟩) 0 0) ([] : List Int).length (ints [])) :=
   World.ownsRow_lit w #[] 0 (le_refl _) (by unfold maxLen; omega) rfl
  have hl' : (zs.length : Int) ≤ 1048576 := by omega
  clear hk hn
  have q26 : ∀ (w : World) (a : Option Addr) (n c n' c' : Nat), (binOp .eql 26 (.slice a n c) (.slice none n' c')).run Tryz.prog w = .ok (.bool a.isNone) w := fun w a n c n' c' => Lib.run_eql_slice_nil w _ _ a n c n' c' Tryz.underlying26
  go_enter Tryz.func110, Tryz.ntmps110
  go_wp2_with (at_builtin; refine Z4_ rfl _ _ rfl w.heap.size _ _ _ [] zs rfl rfl Hown.out (Hr.out.upA _) (by simp) (by omega) (by simp) ?_)
  intro v2 w2 hown2 hg2
  have hb2 : Below w.heap.size w w2 := ((Below.refl _ w).alloc (le_refl _) _).grown hg2 (by simp) (fun i hi => (Hown.out.lt i hi).1)
  go_wp2
  go_ret
  exact ⟨_, rfl, hown2, hb2⟩
theorem isMap_of {w : World} {b n : Nat} {D : DataW Unit} (h : w.ownsMap Tryz.prog 3 (plainElem Tryz.prog 3) b n D) : Maps.IsMap D := by
 obtain ⟨_, _, _, _, _, hD⟩ := h
 exact ⟨_, hD⟩
def Takes (w : World) (left : List Int) (f : Nat → Int) (e : Ending) (w' : World) : Prop :=
 ∃ u b, e = .returned (.tuple #[u, .map (some b)]) ∧ w'.ownsRow w.heap.size 3 1 u left.length (ints left) ∧ w.heap.size ≤ b ∧ MapAt w' b 64 f ∧ Below w.heap.size w w'
theorem O8_ {zs : List Int} {j : Nat} (h : j < zs.length) : (ints zs)[j]? = some (.int .i64 (zs.getD j 0)) := by
 simp [ints, List.getD, h]
theorem Xq3 (zs : List Int) (j : Nat) (x : Int) : (ints zs).set j (.int .i64 x) = ints (zs.set j x) := by
 unfold ints
 rw [List.map_set]
theorem Xq4 (p : Int) (R : Nat) (v vc : Value) (ls : List Line) (col : List Int) (w : World) (hp1 : 2 ≤ p) (hp2 : p ≤ 2147483647) (hls : Zt3 w w.heap.size v ls) (hE : Ech p R ls) (hcol : Row w w.heap.size vc col) (hc : InR p R col) (hR : R ≤ 64) (hn : ls.length ≤ 64) (hpl : ∀ l ∈ ls, l.place < 64) :
  Calls Tryz.prog 142 #[.int .i64 p, v, vc] w (Takes w (takeT p ls col).1 (takeT p ls col).2) := by
 have Hls := hid hls
 have HE := hid hE
 have Hc := hid hc
 have Hpl := hid hpl
 have Hmod := hid (fun a w => Zd9 a p w ⟨by omega, hp2⟩)
 obtain ⟨A, c, rfl, _, hcells⟩ := hls
 have Hcells := hid hcells
 have hn' : (ls.length : Int) ≤ 64 := by omega
 clear hcells
 have hmm := @run_makeMap Tryz.prog
 go_enter Tryz.func142, Tryz.ntmps142
 go_wp2_with fail
 refine (clone_any vc col w hcol (by rw [hc.1]; omega)).mono ?_
 rintro e w1 ⟨u, rfl, hown1, hb1⟩
 have Hown1 := hid hown1
 have Hb1 := hid hb1
 clear hcol hE hc hown1 hb1 hpl
 obtain ⟨mb, hmb⟩ : ∃ mb, mb = w1.heap.size := ⟨_, rfl⟩
 have Hmap0 : Hid (MapAt (w1.alloc (.map #[] 0)) mb 0 (fun _ => 0)) := by
  show MapAt _ _ _ _
  rw [hmb]
  exact ⟨_, World.ownsMap_made w1 Tryz.prog 3 _, Zt2⟩
 have Hown0 : Hid ((w1.alloc (.map #[] 0)).ownsRow w.heap.size 3 1 u R (ints col)) := by
  show World.ownsRow _ _ _ _ _ _ _
  rw [← Hc.out.1]
  exact Hown1.out.alloc _
 have Hmbw : Hid (w.heap.size ≤ mb) := by
  show _ ≤ _
  rw [hmb]; exact Hb1.out.size
 have Hb0 : Hid (Below w.heap.size w (w1.alloc (.map #[] 0))) := Hb1.out.alloc Hb1.out.size _
 go_wp2
 rw [← hmb]
 have Hmb := hid hmb
 clear hmb hmm
 go_loopw [19] (fun vk wr => ∃ k : Nat, vk = .int .i64 k ∧ k ≤ ls.length ∧ wr.ownsRow w.heap.size 3 1 u R (ints (takeN p ls col k).1) ∧ MapAt wr mb k (takeN p ls col k).2 ∧ Below w.heap.size w wr) (fun vk _ => ls.length - (intOf vk).toNat)
 case atStart => exact ⟨0, rfl, Nat.zero_le _, Hown0.out, Hmap0.out, Hb0.out⟩
 case round =>
  obtain ⟨k, rfl, hk, hown, hmap, hbr⟩ := hrel
  clear Hown0 Hmap0 Hb0
  have Hbr := hid hbr
  have Hmap := hid hmap
  have Hown := hid hown
  clear hbr hmap hown
  by_cases hlt : k < ls.length
  ·obtain ⟨ad, u', b', hA, hab, ⟨q0, q1, q2, q3, q4⟩, hrow', hb'lt, hmap'⟩ := Hcells.out k hlt
   subst hA
   have HT := (Zx3 (by omega) HE.out Hc.out (k := k)).row
   have hok := Xh8 HE.out _ (List.getElem_mem hlt)
   have hsucc := Yd9 (p := p) (col := col) hlt
   generalize hs : takeN p ls col k = s at *
   have hplk := Hpl.out _ (List.getElem_mem hlt)
   generalize hl : ls[k] = l at *
   have Hsucc := hid hsucc
   have Hok := hid hok
   have HTr := hid HT
   have Hrow' := hid hrow'
   clear hsucc hok HT hrow' hs hl hmap' Hcells HE
   obtain ⟨lf, f⟩ := s
   obtain ⟨pl, ll, ld, iv, bf⟩ := l
   simp only at q0 q1 q2 q3 q4 hplk
   have hld : ld < R := Hok.out.lt
   have hx := HTr.out.get (by omega) ld
   have hiv := Hok.out.invr
   have hll := Hok.out.row.1
   obtain ⟨A', c', hu', _, hrc⟩ := Hrow'.out
   have Hrc := hid hrc
   simp only at hll
   rw [hll] at hu'
   subst hu'
   have Hll := hid hll
   clear hrc hll
   simp only at hx hiv
   obtain ⟨g, cu, rfl, hgB⟩ := G9_ Hown.out (by omega)
   have hcl : wr.cell? ⟨g, ld, none⟩ = some (.int .i64 (lf.getD ld 0)) := by
    rw [Hown.out.cellAt ld (by omega), O8_ (by rw [HTr.out.1]; exact hld)]
   obtain ⟨x, hxe⟩ : ∃ x, x = lf.getD ld 0 := ⟨_, rfl⟩
   rw [← hxe] at hcl hx
   have hmul := Zx2 hp2 hx.1 hx.2 hiv.1 hiv.2
   have hmr := Zl1 hp2 hx.1 hx.2 hiv.1 hiv.2
   have e0 := (Hbr.out.cell (p := ad.add (k * 5)) (by rw [Z2_]; exact hab)).trans q0
   have e1 := (Hbr.out.cell (p := ⟨(ad.add (k * 5)).block, (ad.add (k * 5)).off + 1, none⟩) (by show (ad.add (k * 5)).block < _; rw [Z2_]; exact hab)).trans q1
   have e2 := (Hbr.out.cell (p := ⟨(ad.add (k * 5)).block, (ad.add (k * 5)).off + 2, none⟩) (by show (ad.add (k * 5)).block < _; rw [Z2_]; exact hab)).trans q2
   have e3 := (Hbr.out.cell (p := ⟨(ad.add (k * 5)).block, (ad.add (k * 5)).off + 3, none⟩) (by show (ad.add (k * 5)).block < _; rw [Z2_]; exact hab)).trans q3
   have e4 := (Hbr.out.cell (p := ⟨(ad.add (k * 5)).block, (ad.add (k * 5)).off + 4, none⟩) (by show (ad.add (k * 5)).block < _; rw [Z2_]; exact hab)).trans q4
   clear q0 q1 q2 q3 q4
   have Hnew := hid (Blk.new wr 135 #[.int .i64 (pl : Int), .slice A' R c', .int .i64 (ld : Int), .int .i64 iv, .map (some b')])
   have HownW := hid (Hown.out.alloc (.cells #[.int .i64 (pl : Int), .slice A' R c', .int .i64 (ld : Int), .int .i64 iv, .map (some b')] 135))
   have HmapW := hid (Hmap.out.kept (World.grownBy_alloc wr (.cells #[.int .i64 (pl : Int), .slice A' R c', .int .i64 (ld : Int), .int .i64 iv, .map (some b')] 135) none) (by simp))
   have HbrW := hid (Hbr.out.alloc Hbr.out.size (.cells #[.int .i64 (pl : Int), .slice A' R c', .int .i64 (ld : Int), .int .i64 iv, .map (some b')] 135))
   have Hgx : Hid (g ≠ wr.heap.size ∧ mb ≠ wr.heap.size ∧ w.heap.size ≤ wr.heap.size) := by
    have h1 := (Hown.out.lt g rfl).2
    have h2 := Hmap.out.lt
    exact ⟨by omega, by omega, Hbr.out.size⟩
   clear hcl
   obtain ⟨t, ht⟩ : ∃ t, t = x * iv % p := ⟨_, rfl⟩
   have htr := em_lt (a := x * iv) (p := p) (by omega)
   have Ht := hid (fun w => Hmod.out (x * iv) w)
   rw [← ht] at htr Ht
   have Hte : Hid ((lf.getD ld 0 * iv) % p = t) := by
    show _ = _
    rw [← hxe, ht]
   have hwr : IntKind.i64.wrap (x * iv) = x * iv := by
    rw [IntKind.wrap_i64]
    omega
   have Hxe := hid hxe
   clear ht hxe hmul Hown Hmap
   go_wp2
   generalize wr.alloc (.cells #[.int .i64 (pl : Int), .slice A' R c', .int .i64 (ld : Int), .int .i64 iv, .map (some b')] 135) = W at *
   have hcl : W.cell? ⟨g, ld, none⟩ = some (.int .i64 x) := by
    rw [HownW.out.cellAt ld (by omega), O8_ (by rw [HTr.out.1]; exact hld), ← Hxe.out]
   generalize wr.heap.size = bx at *
   have d2 := Hnew.out.cell 2
   have d3 := Hnew.out.cell 3
   simp only [List.getElem?_toArray, List.getElem?_cons_zero, List.getElem?_cons_succ] at d2 d3
   have hld' : (ld : Int) < (R : Int) := by omega
   go_quiet ((go_at_call 163; exact Calls.quiet_of_same (Ht.out _)))
   have HownD : Hid ((W.drewN nq).ownsRow w.heap.size 3 1 (.slice (some ⟨g, 0, none⟩) R cu) R (ints lf)) := HownW
   have HmapD : Hid (MapAt (W.drewN nq) mb k f) := HmapW
   have HbrD : Hid (Below w.heap.size w (W.drewN nq)) := hid (Y0_ HbrW.out nq)
   have HnewD : Hid (Blk (W.drewN nq) bx 135 #[.int .i64 (pl : Int), .slice A' R c', .int .i64 (ld : Int), .int .i64 iv, .map (some b')]) := Hnew
   clear hcl d2 d3 HownW HmapW HbrW Hnew
   generalize W.drewN nq = W2 at *
   by_cases h0 : t = 0
   ·subst h0
    have Hs2 := hid (Hsucc.out.trans (Ye0 Hte.out))
    go_wp2
    go_roundw
    case rel =>
     refine ⟨k + 1, by go_num, by omega, ?_, ?_, HbrD.out⟩
     ·rw [Hs2.out]; exact HownD.out
     ·rw [Hs2.out]; exact HmapD.out.mono (Nat.le_succ k)
    case measure => simp [intOf]; omega
   ·have ht0 : (t == 0) = false := by rw [beq_eq_false_iff_ne]; exact h0
    have d0 := HnewD.out.cell 0
    simp only [List.getElem?_toArray, List.getElem?_cons_zero] at d0
    have d2 := HnewD.out.cell 2
    simp only [List.getElem?_toArray, List.getElem?_cons_zero, List.getElem?_cons_succ] at d2
    obtain ⟨D, hD1, hD2⟩ := HmapD.out
    have HD1 := hid hD1
    have HD2 := hid hD2
    have Hne := hid (HmapD.out.not_row HownD.out)
    have Hwfx := hid (WalkArith.wf_i64 (n := (pl : Int)) (by omega))
    have Hwft := hid (WalkArith.wf_i64 (n := t) (by omega))
    have D2 := hid d2
    clear hD1 hD2 d2
    go_wp2_with (at_mapUpdate; refine wpList_mapUpdate_own _ rfl _ _ _ 126 rfl 3 3 Xp4 Tryz.underlying126 _ mb k _ rfl HD1.out (by unfold maxLen; omega) _ _ _ rfl rfl (Maps.keyOf_int_mk Tryz.underlying3 Hwfx.out) _ [] (plainElem_int Tryz.underlying3 Hwft.out) ?_)
    intro w3 hmap3 hgr3
    have Hmap3 : Hid (MapAt w3 mb (k + 1) (upd f pl t)) := ⟨_, hmap3, Yn8 (isMap_of HD1.out) HD2.out pl h0 trivial⟩
    have Hown3 := hid (HownD.out.kept hgr3 (.inr (fun e => Hne.out e.symm)))
    have Hnew3 := hid (HnewD.out.grown hgr3 (by have := Hgx.out.2.1; intro e; injection e with e; omega))
    have Hbr3 := hid (HbrD.out.grown hgr3 HbrD.out.size (fun i hi => by injection hi with hi; rw [← hi]; exact Hmbw.out))
    have d2 := Hnew3.out.cell 2
    simp only [List.getElem?_toArray, List.getElem?_cons_zero, List.getElem?_cons_succ] at d2
    clear hmap3 hgr3 HownD HmapD HnewD HbrD HD1 HD2 D2 d0
    have Hs2 := hid (Hsucc.out.trans (Ye1 Hte.out h0))
    simp only at Hs2
    have Hrow0 : Hid (w3.ownsRow w.heap.size 3 1 (.slice (some ⟨g, 0, none⟩) R cu) R (ints (subU p lf ⟨pl, ll, ld, iv, bf⟩ t ld))) := by
     show World.ownsRow _ _ _ _ _ _ _
     rw [show subU p lf ⟨pl, ll, ld, iv, bf⟩ t ld = lf from Yd8 (l := ⟨pl, ll, ld, iv, bf⟩)]
     exact Hown3.out
    clear Hown3
    go_wp2
    go_loopw [13] (fun vr wq => ∃ r : Nat, vr = .int .i64 r ∧ ld ≤ r ∧ r ≤ R ∧ wq.ownsRow w.heap.size 3 1 (.slice (some ⟨g, 0, none⟩) R cu) R (ints (subU p lf ⟨pl, ll, ld, iv, bf⟩ t r)) ∧ MapAt wq mb (k + 1) (upd f pl t) ∧
     Blk wq bx 135 #[.int .i64 (pl : Int), .slice A' R c', .int .i64 (ld : Int), .int .i64 iv, .map (some b')] ∧ Below w.heap.size w wq) (fun vr _ => R - (intOf vr).toNat)
    case atStart => exact ⟨ld, rfl, le_refl _, Nat.le_of_lt hld, Hrow0.out, Hmap3.out, Hnew3.out, Hbr3.out⟩
    case round =>
     clear Hrow0 Hmap3 Hnew3 Hbr3 d2
     obtain ⟨r, rfl, hr1, hr2, hown4, hmap4, hnew4, hbr4⟩ := hrel
     have Hown4 := hid hown4
     have Hmap4 := hid hmap4
     have Hnew4 := hid hnew4
     have Hbr4 := hid hbr4
     clear hown4 hmap4 hnew4 hbr4
     by_cases hrR : r < R
     ·have hrlf : r < lf.length := by rw [HTr.out.1]; exact hrR
      obtain ⟨ad', hA', hab', hc'⟩ := Hrc.out r (by rw [Hll.out]; exact hrR)
      subst hA'
      have hcz := (Hbr4.out.cell (p := ad'.add r) (by rw [Z2_]; exact hab')).trans hc'
      have hcy : wr.cell? ⟨g, r, none⟩ = some (.int .i64 (lf.getD r 0)) := by
       rw [Hown4.out.cellAt r (by omega), O8_ (by rw [Q1_]; exact hrlf), Xp3 hrlf]
      have hfz : wr.frozen? ⟨g, r, none⟩ = false := Hown4.out.frozenAt r
      have hy := HTr.out.get (by omega) r
      have hz := Hok.out.row.get (by omega) r
      simp only at hz
      have Hset := hid (Yn9 (p := p) (left := lf) (l := ⟨pl, ll, ld, iv, bf⟩) (t := t) (r := r) hr1)
      simp only at Hset
      generalize lf.getD r 0 = y at *
      generalize ll.getD r 0 = z at *
      have hmz := Zl1 hp2 htr.1 htr.2 hz.1 hz.2
      have hw1 : IntKind.i64.wrap (t * z) = t * z := by rw [IntKind.wrap_i64]; omega
      have hw2 : IntKind.i64.wrap (y - t * z) = y - t * z := by rw [IntKind.wrap_i64]; omega
      have Hq := hid (fun w => Hmod.out (y - t * z) w)
      generalize (y - t * z) % p = q at *
      have d1 := Hnew4.out.cell 1
      simp only [List.getElem?_toArray, List.getElem?_cons_zero, List.getElem?_cons_succ] at d1
      have hrR' : (r : Int) < (R : Int) := by omega
      have Hst := hid (Hown4.out.stored r (.int .i64 q))
      have HmapE := hid (Hmap4.out.kept Hst.out.2 (by have := Hmap4.out.not_row Hown4.out; exact this))
      have HnewE := hid (Hnew4.out.grown Hst.out.2 (by have := Hgx.out.1; intro e; injection e with e; omega))
      have HbrE := hid (Hbr4.out.setCell (p := ⟨g, r, none⟩) hgB (.int .i64 q))
      rw [Xq3, Hset.out] at Hst
      clear Hmap4 Hnew4 Hbr4 Hown4 Hset hc' hmz
      go_wp2
      refine wp_region_still_tail 17 (by kernel_rfl) (by kernel_rfl) ?_
      simp only [List.take_succ_cons, List.take_zero, List.drop_succ_cons, List.drop_zero]
      repeat still_step
      still_call (Hq.out _)
      repeat still_step
      try refine wpStill_nil ?_
      change wpList _ _ _ _ _ wr.drew
      go_wp2
      go_roundw
      case rel => exact ⟨r + 1, by go_num, by omega, by omega, Hst.out.1, HmapE.out, HnewE.out, HbrE.out.drew⟩
      case measure => simp [intOf]; omega
     ·have hre : r = R := by omega
      subst hre
      go_wp2
      go_roundw
      case rel =>
       refine ⟨k + 1, by go_num, by omega, ?_, ?_, Hbr4.out⟩
       ·rw [Hs2.out, HTr.out.1]; exact Hown4.out
       ·rw [Hs2.out]; exact Hmap4.out
      case measure => simp [intOf]; omega
  ·have hke : k = ls.length := by omega
   subst hke
   have HT := hid (Zx3 (by omega) HE.out Hc.out (k := ls.length)).row
   rw [Yo0] at Hown Hmap HT
   go_wp2
   go_ret2
   refine ⟨u, mb, rfl, ?_, Hmbw.out, Hmap.out.mono hn, Hbr.out⟩
   rw [HT.out.1]
   exact Hown.out
end Wp.L
end Go.Proofs.YtgadbnbhgpehjaaGreatDoor
namespace Go.Proofs.YtgadbnbhgpehjaaGreatDoor
open Go.RowKit
namespace Wp.L
theorem Zl2 (x : Int) (W : World) : Calls Tryz.prog 164 #[.int .i64 x] W fun e W' => e = .returned (.bool (decide (x ≠ 0))) ∧ W' = W := by
 by_cases h : x = 0
 ·subst h
  go_enter Tryz.func164, Tryz.ntmps164
  go_wp2
  go_ret
  exact ⟨rfl, rfl⟩
 ·rw [decide_eq_true h]
  have h1 : (x != 0) = true := by simp [h]
  go_enter Tryz.func164, Tryz.ntmps164
  go_wp2
  go_ret
  exact ⟨rfl, rfl⟩
theorem Xq5 (w : World) : Tests w 164 #[] fun x => decide (x ≠ 0) := fun x W _ => (Zl2 x W).mono fun e W' ⟨h1, h2⟩ => ⟨h1, by rw [h2]; exact Below.refl _ _⟩
theorem Zf0 {zs : List Int} {r : Int} (h : Found (fun x => decide (x ≠ 0)) 0 zs r) : r = leadI zs := by
 rcases h with ⟨rfl, h⟩ | ⟨i, hi, rfl, h1, h2⟩
 ·exact (R8_ fun j hj => by simpa using h j hj).symm
 ·exact (Zk1 hi (by simpa using h1) fun j hj => by simpa using h2 j hj).symm
theorem Xq6 (v : Value) (zs : List Int) (w : World) (hr : Row w w.heap.size v zs) (hl : zs.length ≤ 1048576) :
  Calls Tryz.prog 143 #[v] w fun e w' => e = .returned (.int .i64 (leadI zs)) ∧ Below w.heap.size w w' := by
 have Hc := hid (Zl0 164 #[] _ v zs w (enters_of Tryz.func164 (by kernel_rfl) rfl) hr hl (Xq5 w))
 obtain ⟨A, c, rfl, _⟩ := hr
 go_enter Tryz.func143, Tryz.ntmps143
 go_wp2_with fail
 refine (Hc.out).mono ?_
 rintro e w1 ⟨r, rfl, hf, hb⟩
 have Hf := hid (Zf0 hf)
 clear hf
 go_wp2
 go_ret
 exact ⟨by rw [← Hf.out]; rfl, hb⟩
def wrongB (p x : Int) : Bool := decide (x < 0 ∨ p ≤ x)
def badRow (p rows : Int) (col : List Int) : Bool := decide ((col.length : Int) ≠ rows) || col.any (wrongB p)
def elimB (p rows : Int) (cols : List (List Int)) : Bool := prB p && decide (0 ≤ rows ∧ rows ≤ 64) && decide (cols.length ≤ 64) && !cols.any (badRow p rows)
theorem wrong_any (p x : Int) (B : Nat) (W : World) (hc : W.cell? ⟨B, 0, none⟩ = some (.int .i64 p)) :
  Calls Tryz.prog 138 #[.int .i64 x, .pointer (some ⟨B, 0, none⟩)] W fun e W' => e = .returned (.bool (wrongB p x)) ∧ Below W.heap.size W W' := by
 unfold wrongB
 by_cases h1 : x < 0
 ·rw [decide_eq_true (Or.inl h1)]
  go_enter Tryz.func138, Tryz.ntmps138
  go_wp2
  go_ret
  exact ⟨rfl, Below.refl _ _⟩
 ·have h1' : 0 ≤ x := by omega
  rw [show decide (x < 0 ∨ p ≤ x) = decide (p ≤ x) from decide_eq_decide.2 ⟨fun h => h.resolve_left h1, .inr⟩]
  clear h1
  go_enter Tryz.func138, Tryz.ntmps138
  go_wp2
  go_ret
  refine ⟨?_, Below.refl _ _⟩
  show Ending.returned (.bool (decide (x < 0) || decide (p ≤ x))) = _
  rw [decide_eq_false (show ¬ x < 0 by omega), Bool.false_or]
theorem wrongtest (p : Int) (B : Nat) (w : World) (hB : B < w.heap.size) (hc : w.cell? ⟨B, 0, none⟩ = some (.int .i64 p)) : Tests w 138 #[.pointer (some ⟨B, 0, none⟩)] (wrongB p) :=
 fun x W hW => wrong_any p x B W ((hW.cell (p := ⟨B, 0, none⟩) hB).trans hc)
theorem badrow_any (p rows : Int) (bp br bw : Nat) (v : Value) (zs : List Int) (w : World) (hbp : bp < w.heap.size) (hp : w.cell? ⟨bp, 0, none⟩ = some (.int .i64 p)) (hrows : w.cell? ⟨br, 0, none⟩ = some (.int .i64 rows))
  (hw : w.cell? ⟨bw, 0, none⟩ = some (.func (.func 138) #[] #[.pointer (some ⟨bp, 0, none⟩)])) (hr : Row w w.heap.size v zs) (h64 : rows ≤ 64) :
  Calls Tryz.prog 140 #[v, .pointer (some ⟨br, 0, none⟩), .pointer (some ⟨bw, 0, none⟩)] w fun e w' => e = .returned (.bool (badRow p rows zs)) ∧ Below w.heap.size w w' := by
 unfold badRow
 by_cases hl : (zs.length : Int) = rows
 ·have Hc := hid (K3_ 138 #[.pointer (some ⟨bp, 0, none⟩)] (wrongB p) v zs w (enters_of Tryz.func138 (by kernel_rfl) rfl) hr (by omega) (wrongtest p bp w hbp hp))
  obtain ⟨A, c, rfl, _⟩ := hr
  rw [decide_eq_false (by omega), Bool.false_or]
  generalize zs.any (wrongB p) = b at *
  have hne : ((zs.length : Int) != rows) = false := by simp [hl]
  clear hl hp
  go_enter Tryz.func140, Tryz.ntmps140
  go_wp2_with fail
  refine (Hc.out).mono ?_
  rintro e w1 ⟨rfl, hb1⟩
  go_wp2
  go_ret
  refine ⟨?_, hb1⟩
  rfl
 ·rw [decide_eq_true hl, Bool.true_or]
  obtain ⟨A, c, rfl, _⟩ := hr
  have hne : ((zs.length : Int) != rows) = true := by simpa using hl
  clear hl hp
  go_enter Tryz.func140, Tryz.ntmps140
  go_wp2
  go_ret
  exact ⟨rfl, Below.refl _ _⟩
theorem badtest (p rows : Int) (bp br bw : Nat) (w : World) (hbp : bp < w.heap.size) (hbr : br < w.heap.size) (hbw : bw < w.heap.size) (hp : w.cell? ⟨bp, 0, none⟩ = some (.int .i64 p)) (hrows : w.cell? ⟨br, 0, none⟩ = some (.int .i64 rows))
  (hw : w.cell? ⟨bw, 0, none⟩ = some (.func (.func 138) #[] #[.pointer (some ⟨bp, 0, none⟩)])) (h64 : rows ≤ 64) :
  Zk9 w 140 #[.pointer (some ⟨br, 0, none⟩), .pointer (some ⟨bw, 0, none⟩)] (badRow p rows) :=
 fun u zs W hW hu => badrow_any p rows bp br bw u zs W (Nat.lt_of_lt_of_le hbp hW.size) ((hW.cell (p := ⟨bp, 0, none⟩) hbp).trans hp) ((hW.cell (p := ⟨br, 0, none⟩) hbr).trans hrows) ((hW.cell (p := ⟨bw, 0, none⟩) hbw).trans hw) hu h64
theorem prime_is (p : Int) (b : Bool) (h : prB p = b) (w : World) (hM : Met w) : Calls Tryz.prog 137 #[.int .i64 p] w (Gets w (.bool b)) := by
 subst h
 exact N8_ p w hM
theorem below_two (w : World) (o1 o2 : Obj) : Below w.heap.size w ((w.alloc o1).alloc o2) := ((Below.refl _ w).alloc (le_refl _) _).alloc (by simp) _
theorem may_any (p rows : Int) (v : Value) (cols : List (List Int)) (w : World) (hM : Met w) (hr : Rows2 w w.heap.size v cols) :
  Calls Tryz.prog 113 #[.int .i64 p, .int .i64 rows, v] w (Says w (elimB p rows cols)) := by
 have Hr := hid hr
 have HM := hid hM
 obtain ⟨A, c, rfl, hn, _⟩ := hr
 have hlm : (cols.length : Int) ≤ 9223372036854775807 := by have := hn.1; have := hn.2.1; unfold maxLen at *; omega
 have Hb0 := hid (below_two w (.cells #[.int .i64 p] 3) (.cells #[.int .i64 rows] 3))
 clear hn hM
 unfold elimB
 rcases hp : prB p with _ | _
 ·simp only [Bool.false_and]
  have HP := hid hp
  clear hp
  go_enter Tryz.func113, Tryz.ntmps113
  go_wp2_with fail
  refine (prime_is p false HP.out _ (HM.out.up Hb0.out)).mono ?_
  rintro e w1 ⟨rfl, hb1⟩
  have Hb1 := hid (Z0_ Hb0.out (le_refl _) hb1)
  clear hb1
  go_wp2
  go_ret
  exact ⟨rfl, Hb1.out⟩
 ·simp only [Bool.true_and]
  have HP := hid hp
  clear hp
  by_cases h1 : rows < 0
  ·rw [decide_eq_false (show ¬ (0 ≤ rows ∧ rows ≤ 64) by omega)]
   simp only [Bool.false_and]
   go_enter Tryz.func113, Tryz.ntmps113
   go_wp2_with fail
   refine (prime_is p true HP.out _ (HM.out.up Hb0.out)).mono ?_
   rintro e w1 ⟨rfl, hb1⟩
   have c0 : w1.cell? ⟨w.heap.size, 0, none⟩ = some (.int .i64 p) := (hb1.cell (p := ⟨w.heap.size, 0, none⟩) (by simp; omega)).trans (by simp [go_sem])
   have c1 : w1.cell? ⟨w.heap.size + 1, 0, none⟩ = some (.int .i64 rows) := (hb1.cell (p := ⟨w.heap.size + 1, 0, none⟩) (by simp)).trans (by simp [go_sem])
   have Hb1 := hid (Z0_ Hb0.out (le_refl _) hb1)
   have Hs1 : Hid (w.heap.size + 1 < w1.heap.size) := by
    have := hb1.size
    show _ < _
    simp at this
    omega
   clear hb1
   go_wp2
   go_ret
   exact ⟨rfl, Hb1.out⟩
  ·have h1' : 0 ≤ rows := by omega
   clear h1
   by_cases h2 : 64 < rows
   ·rw [decide_eq_false (show ¬ (0 ≤ rows ∧ rows ≤ 64) by omega)]
    simp only [Bool.false_and]
    go_enter Tryz.func113, Tryz.ntmps113
    go_wp2_with fail
    refine (prime_is p true HP.out _ (HM.out.up Hb0.out)).mono ?_
    rintro e w1 ⟨rfl, hb1⟩
    have c0 : w1.cell? ⟨w.heap.size, 0, none⟩ = some (.int .i64 p) := (hb1.cell (p := ⟨w.heap.size, 0, none⟩) (by simp; omega)).trans (by simp [go_sem])
    have c1 : w1.cell? ⟨w.heap.size + 1, 0, none⟩ = some (.int .i64 rows) := (hb1.cell (p := ⟨w.heap.size + 1, 0, none⟩) (by simp)).trans (by simp [go_sem])
    have Hb1 := hid (Z0_ Hb0.out (le_refl _) hb1)
    have Hs1 : Hid (w.heap.size + 1 < w1.heap.size) := by
     have := hb1.size
     show _ < _
     simp at this
     omega
    clear hb1
    go_wp2
    go_ret
    exact ⟨rfl, Hb1.out⟩
   ·have h2' : rows ≤ 64 := by omega
    rw [decide_eq_true (show 0 ≤ rows ∧ rows ≤ 64 from ⟨h1', h2'⟩), Bool.true_and]
    clear h2
    by_cases h3 : cols.length ≤ 64
    ·rw [decide_eq_true h3, Bool.true_and]
     have h3' : (cols.length : Int) ≤ 64 := by omega
     generalize hcb : cols.any (badRow p rows) = cb
     have Hcb := hid hcb
     have H3 := hid h3
     clear hcb h3
     go_enter Tryz.func113, Tryz.ntmps113
     go_wp2_with fail
     refine (prime_is p true HP.out _ (HM.out.up Hb0.out)).mono ?_
     rintro e w1 ⟨rfl, hb1⟩
     have c0 : w1.cell? ⟨w.heap.size, 0, none⟩ = some (.int .i64 p) := (hb1.cell (p := ⟨w.heap.size, 0, none⟩) (by simp; omega)).trans (by simp [go_sem])
     have c1 : w1.cell? ⟨w.heap.size + 1, 0, none⟩ = some (.int .i64 rows) := (hb1.cell (p := ⟨w.heap.size + 1, 0, none⟩) (by simp)).trans (by simp [go_sem])
     have Hb1 := hid (Z0_ Hb0.out (le_refl _) hb1)
     have Hs1 : Hid (w.heap.size + 1 < w1.heap.size) := by
      have := hb1.size
      show _ < _
      simp at this
      omega
     clear hb1
     have Hd : Hid (Below w.heap.size w (w1.alloc (.cells #[.func (.func 138) #[] #[.pointer (some ⟨w.heap.size, 0, none⟩)]] 60))) := Hb1.out.alloc Hb1.out.size _
     go_wp2_with fail
     refine (H8_ 140 _ (badRow p rows) _ cols _ (enters_of Tryz.func140 (by kernel_rfl) rfl) (Hr.out.up Hd.out) (by have := H3.out; omega) (badtest p rows w.heap.size (w.heap.size + 1) w1.heap.size _ (by have := Hs1.out; simp; omega) (by have := Hs1.out; simp; omega) (by simp) ?_ ?_ ?_ h2')).mono ?_
     ·rw [World.cell?_alloc_lt]
      ·exact c0
      ·have := Hs1.out
       show w.heap.size < _
       omega
     ·rw [World.cell?_alloc_lt]
      ·exact c1
      ·exact Hs1.out
     ·exact (Blk.new w1 _ _).cell 0
     rintro e w2 ⟨rfl, hb2⟩
     rw [Hcb.out]
     have Hb2 := hid (Z0_ Hd.out (le_refl _) hb2)
     clear hb2
     go_wp2
     go_ret
     exact ⟨rfl, Hb2.out⟩
    ·rw [decide_eq_false h3, Bool.false_and]
     have h3' : 64 < (cols.length : Int) := by omega
     clear h3
     go_enter Tryz.func113, Tryz.ntmps113
     go_wp2_with fail
     refine (prime_is p true HP.out _ (HM.out.up Hb0.out)).mono ?_
     rintro e w1 ⟨rfl, hb1⟩
     have c0 : w1.cell? ⟨w.heap.size, 0, none⟩ = some (.int .i64 p) := (hb1.cell (p := ⟨w.heap.size, 0, none⟩) (by simp; omega)).trans (by simp [go_sem])
     have c1 : w1.cell? ⟨w.heap.size + 1, 0, none⟩ = some (.int .i64 rows) := (hb1.cell (p := ⟨w.heap.size + 1, 0, none⟩) (by simp)).trans (by simp [go_sem])
     have Hb1 := hid (Z0_ Hb0.out (le_refl _) hb1)
     have Hs1 : Hid (w.heap.size + 1 < w1.heap.size) := by
      have := hb1.size
      show _ < _
      simp at this
      omega
     clear hb1
     go_wp2
     go_ret
     exact ⟨rfl, Hb1.out⟩
end Wp.L
end Go.Proofs.YtgadbnbhgpehjaaGreatDoor
namespace Go.Proofs.YtgadbnbhgpehjaaGreatDoor
open Go.RowKit
namespace Wp.L
theorem Yj4 {p : Int} (h : prB p = true) : ∀ x, 0 < x → x < p → p ∣ x * invI x p - 1 ∧ 0 ≤ invI x p ∧ invI x p < p := by
 intro x h0 h1
 obtain ⟨h2, hM, hpr⟩ := prB_iff.1 h
 obtain ⟨P, rfl⟩ : ∃ P : Nat, p = P := ⟨p.toNat, by omega⟩
 obtain ⟨X, rfl⟩ : ∃ X : Nat, x = X := ⟨x.toNat, by omega⟩
 rw [Int.toNat_natCast] at hpr
 have hx : (X : Int) % (P : Int) = X := Int.emod_eq_of_lt (by omega) (by omega)
 obtain ⟨_, e⟩ := Vy0 h (by omega) (by omega) hx (by omega)
 rw [e]
 have hlt : X ^ (P - 2) % P < P := Nat.mod_lt _ (by omega)
 have e2 := Xn7 hpr (Xn8 (x := X) (by omega) (by omega))
 refine ⟨?_, by omega, by omega⟩
 generalize X ^ (P - 2) % P = y at *
 have e3 : ((y * X : Nat) : Int) % (P : Int) = 1 := by
  rw [← Int.natCast_emod, e2]
  rfl
 rw [Int.mul_comm]
 have := A2_ (p := (P : Int)) ((y * X : Nat) : Int)
 rw [e3] at this
 simpa using this
theorem fld_ok {p : Int} (h : prB p = true) : Fld p := by
 intro c hc
 obtain ⟨h2, _, _⟩ := prB_iff.1 h
 have hb := em_lt (a := c) (p := p) (by omega)
 have hn : c % p ≠ 0 := fun e => hc (Int.dvd_of_emod_eq_zero e)
 obtain ⟨h3, _⟩ := Yj4 h (c % p) (by omega) hb.2
 refine ⟨invI (c % p) p, ?_⟩
 have h4 := Int.dvd_trans (A2_ (p := p) c) (Int.dvd_mul_right _ (invI (c % p) p))
 have h5 := Int.dvd_add h3 h4
 rwa [show c % p * invI (c % p) p - 1 + (c - c % p) * invI (c % p) p = c * invI (c % p) p - 1 by rw [Int.sub_mul]; omega] at h5
theorem Vx0 (a p i : Int) (b : Bool) (h1 : invI a p = i) (h2 : invB a p = b) (w : World) (hM : Met w) : Calls Tryz.prog 144 #[.int .i64 a, .int .i64 p] w (Gets w (.tuple #[.int .i64 i, .bool b])) := by
 subst h1 h2
 exact Xn6 a p w hM
theorem Xq7 : (Tryz.prog.info? 135).map (fun i => (i.zero, i.size, i.bytes)) = some (some (.agg #[.int .i64 0, .slice none 0 0, .int .i64 0, .int .i64 0, .map none]), 5, 56) := by kernel_rfl
theorem O9_ {w : World} {ops : Array Oper} {rest : List Oper} {o : Oper} {a : Act} {Q : Exit → Act → World → Prop} (hgd : o.guard = none) (s x : Operand)
  (ho : o.op = .call { callee := .builtin .append, args := #[s, x], argTypes := #[111, 111] })
  (base : Nat) (v : Value) (ns : List (Value × Nat × Line)) (u : Value) (b : Nat) (l : Line) (hs : a.eval s = v) (hown : OwnL w base v ns) (g : Nat) (hx : a.eval x = .slice (some ⟨g, 0, none⟩) 1 1) (hc : Blk w g 135 (V0_ u b l).toArray) (hu : u.oneCell' = true)
  (hrow : w.ownsRow base 3 1 u l.left.length (ints l.left)) (hmap : base ≤ b ∧ MapAt w b 64 l.by_) (hz : ns.length ≤ 64) (hb : base ≤ w.heap.size)
  (h : ∀ v' w', OwnL w' base v' (ns ++ [(u, b, l)]) → w.grownBy w' v.ownBlock → wpList Tryz.prog ops Q rest (a.put o.dst v') w') : wpList Tryz.prog ops Q (o :: rest) a w := by
 obtain ⟨i0, hi, hz0, hz1, hz2⟩ := info_parts Xq7
 refine wpList_append_own_at w hgd s x _ ho base 135 i0 (.agg #[.int .i64 0, .slice none 0 0, .int .i64 0, .int .i64 0, .map none]) 5 56 (by kernel_rfl) hi hz0 hz1 hz2 rfl (by decide) v ns.length (flatL ns) hs hown.own ⟨g, 0, none⟩ 1 1 (V0_ u b l) hx (by simp [V0_]) ?_ ?_ ?_ ?_ hb ?_
 ·intro j y hj
  have h0 := hc.cell j
  rw [show (V0_ u b l).toArray[j]? = some y by simpa using hj] at h0
  unfold Addr.add
  by_cases hj0 : j = 0
  ·subst hj0
   simpa using h0
  ·simpa [hj0] using h0
 ·intro y hy
  simp only [V0_, List.mem_cons, List.not_mem_nil, or_false] at hy
  rcases hy with rfl | rfl | rfl | rfl | rfl
  ·rfl
  ·exact hu
  ·rfl
  ·rfl
  ·rfl
 ·unfold maxLen; omega
 ·have : (ns.length + 1) * 56 ≤ 65 * 56 := Nat.mul_le_mul (by omega) (le_refl _)
  omega
 ·intro v' w' h1 h2 _ _
  refine h v' w' (hown.grow h2 ?_ fun x hx => ?_) h2
  ·rw [T9_, List.length_append]
   simpa [flatL] using h1
  ·rcases List.mem_append.1 hx with hx | hx
   ·exact .inl hx
   ·obtain rfl := List.mem_singleton.1 hx
    exact .inr ⟨hrow, hmap⟩
theorem own_le {w : World} {base base' : Nat} {e : TypeId} {size : Nat} {v : Value} {n : Nat} {xs : List Value} (h : w.ownsRow base e size v n xs) (hb : base' ≤ base) : w.ownsRow base' e size v n xs := by
 obtain ⟨h1, h2⟩ := h
 refine ⟨h1, ?_⟩
 rcases h2 with h2 | ⟨g, cap, cur, a1, a2, a3⟩
 ·exact .inl h2
 ·exact .inr ⟨g, cap, cur, a1, by omega, a3⟩
def Xi3 (w : World) (ls : List Line) (e : Ending) (w' : World) : Prop := ∃ v, e = .returned v ∧ Zt3 w' w'.heap.size v ls ∧ Below w.heap.size w w'
theorem Xq8 (p : Int) (R : Nat) (v : Value) (cols : List (List Int)) (w : World) (hM : Met w) (hpr : prB p = true) (hr : Rows2 w w.heap.size v cols) (hc : Zy6 p R cols) (hR : R ≤ 64) (hn : cols.length ≤ 64) :
  Calls Tryz.prog 114 #[.int .i64 p, v] w (Xi3 w (L9_ p (fun x => invI x p) cols cols.length)) := by
 have Hr := hid hr
 have HM := hid hM
 have Hc := hid hc
 have HP := hid hpr
 obtain ⟨h2, h31, _⟩ := prB_iff.1 hpr
 obtain ⟨A, c, rfl, _, hcell⟩ := hr
 have Hcell := hid hcell
 have hn' : (cols.length : Int) ≤ 64 := by omega
 clear hM hc hpr hcell
 go_enter Tryz.func114, Tryz.ntmps114
 go_wp2
 go_loopw [5, 15] (fun vb vk wr => ∃ (k : Nat) (ns : List (Value × Nat × Line)), vk = .int .i64 k ∧ k ≤ cols.length ∧ OwnL wr w.heap.size vb ns ∧ ns.map (fun x => x.2.2) = L9_ p (fun x => invI x p) cols k ∧ Below w.heap.size w wr) (fun _ vk _ => cols.length - (intOf vk).toNat)
 case atStart => exact ⟨0, [], rfl, Nat.zero_le _, Xq2 _ _, rfl, Below.refl _ _⟩
 case round =>
  obtain ⟨k, ns, rfl, hk, hown, hns, hbr⟩ := hrel
  have Hown := hid hown
  have Hns := hid hns
  have Hbr := hid hbr
  clear hown hns hbr
  by_cases hlt : k < cols.length
  ·obtain ⟨ad, u, hA, hab, hcu, hru⟩ := Hcell.out k hlt
   subst hA
   have hc1 := (Hbr.out.cell (p := ad.add k) (by rw [Z2_]; exact hab)).trans hcu
   have Hru := hid ((hru.below Hbr.out).mono Hbr.out.size)
   have hlines := Zy5 (by omega) (Yj4 HP.out) (cols := cols) (k := k) fun i hi => Hc.out i (by omega)
   have hcin := Hc.out k hlt
   obtain ⟨cl, hcl⟩ : ∃ cl, cl = cols.getD k [] := ⟨_, rfl⟩
   rw [← hcl] at hcin Hru
   have hnl : ns.length ≤ 64 := by
    have e1 := congrArg List.length Hns.out
    rw [List.length_map] at e1
    have e2 := congrArg List.length hlines.pl
    rw [List.length_map] at e2
    have e3 := Ym8 (p := p) (R := R) (cols := cols) (k := k)
    omega
   have Htake := hid (hlines.take (by omega) hcin)
   have Hlines := hid hlines
   have Hcin := hid hcin
   have Hnext : Hid (L9_ p (fun x => invI x p) cols (k + 1) = addL p (fun x => invI x p) (L9_ p (fun x => invI x p) cols k) k cl) := by
    show _ = _
    rw [hcl]
    rfl
   have Hcl := hid hcl
   have HlinesAt := hid Hown.out.lines
   clear hlines hcin hcl hcu hru
   rw [Hns.out] at HlinesAt
   obtain ⟨ls, hls⟩ : ∃ ls, ls = L9_ p (fun x => invI x p) cols k := ⟨_, rfl⟩
   rw [← hls] at HlinesAt Htake Hlines Hnext Hns
   have hlsn : ls.length ≤ 64 := by rw [← Hns.out, List.length_map]; exact hnl
   have Hls := hid hls
   clear hls
   go_wp2_with fail
   refine (Xq4 p R _ _ ls cl _ h2 h31 HlinesAt.out Hlines.out.ech Hru.out Hcin.out hR hlsn (fun l hl => Nat.lt_of_lt_of_le (Hlines.out.lt hl) (by omega))).mono ?_
   rintro e w1 ⟨u1, b1, rfl, hown1, hb1, hmap1, hbel1⟩
   generalize hT : takeT p ls cl = T at *
   obtain ⟨lf, f⟩ := T
   simp only at hown1 hmap1
   have hTrow := Htake.out.row
   simp only at hTrow
   have HTrow := hid hTrow
   have HT := hid hT
   have Hown1 := hid hown1
   have Hmap1 := hid hmap1
   have Hbel1 := hid hbel1
   have HownL1 := hid (Hown.out.kept (Z9_ hbel1 none))
   have Hrow1 := hid (Row.of_own hown1 rfl)
   clear hown1 hmap1 hbel1 hTrow hT Htake HlinesAt Hru
   go_wp2_with fail
   refine (Xq6 u1 lf w1 Hrow1.out (by rw [HTrow.out.1]; omega)).mono ?_
   rintro e w2 ⟨rfl, hbel2⟩
   have Hbel2 := hid hbel2
   have Hbr2 := hid (Z0_ (Z0_ Hbr.out (le_refl _) Hbel1.out) (le_refl _) hbel2)
   have HownL2 := hid (HownL1.out.kept (Z9_ hbel2 none))
   have hnone : u1.ownBlock = none ∨ u1.ownBlock ≠ none := by
    rcases u1.ownBlock with _ | q
    ·exact .inl rfl
    ·exact .inr (by simp)
   have Hown2 := hid (Hown1.out.kept (Z9_ hbel2 none) hnone)
   have Hmap2 := hid (Hmap1.out.kept (Z9_ hbel2 none) (by simp))
   clear hbel2 hnone Hown1 Hmap1 HownL1 Hrow1
   rcases M6_ lf with ⟨hl, _⟩ | ⟨i, hil, hl, hx, _⟩
   ·rw [hl]
    have Hnx : Hid (L9_ p (fun x => invI x p) cols (k + 1) = ls) := by
     show _ = _
     rw [Hnext.out]
     unfold addL
     rw [HT.out, if_pos (by rw [hl]; decide)]
    clear hl
    go_wp2
    go_roundw
    case rel => exact ⟨k + 1, ns, by go_num, by omega, HownL2.out, by rw [Hnx.out]; exact Hns.out, Hbr2.out⟩
    case measure => simp [intOf]; omega
   ·rw [hl]
    have hiR : i < R := by rw [← HTrow.out.1]; exact hil
    obtain ⟨g, cu, rfl, hgB⟩ := G9_ Hown2.out (by omega)
    have hcx : w2.cell? ⟨g, i, none⟩ = some (.int .i64 (lf.getD i 0)) := by
     rw [Hown2.out.cellAt i (by omega), O8_ hil]
    obtain ⟨x, hxe⟩ : ∃ x, x = lf.getD i 0 := ⟨_, rfl⟩
    rw [← hxe] at hcx hx
    have hi' : (i : Int) < (lf.length : Int) := by omega
    have Hnx : Hid (L9_ p (fun x => invI x p) cols (k + 1) = ls ++ [⟨k, lf, i, invI x p, f⟩]) := by
     show _ = _
     rw [Hnext.out]
     unfold addL
     rw [HT.out]
     simp only
     rw [hl, if_neg (by omega), Int.toNat_natCast, ← hxe]
    obtain ⟨iv, hiv⟩ : ∃ iv, iv = invI x p := ⟨_, rfl⟩
    obtain ⟨ok, hok⟩ : ∃ ok, ok = invB x p := ⟨_, rfl⟩
    have Hinv := hid (Vx0 x p iv ok hiv.symm hok.symm)
    rw [← hiv] at Hnx
    have HM2 := hid (HM.out.up Hbr2.out)
    clear hl hxe hiv hok hx
    go_wp2_with fail
    refine (Hinv.out w2 HM2.out).mono ?_
    rintro e w3 ⟨rfl, hbel3⟩
    have Hbr3 := hid (Z0_ Hbr2.out (le_refl _) hbel3)
    have HownL3 := hid (HownL2.out.kept (Z9_ hbel3 none))
    have Hown3 := hid (Hown2.out.kept (Z9_ hbel3 none) (.inr (by simp [Value.ownBlock])))
    have Hmap3 := hid (Hmap2.out.kept (Z9_ hbel3 none) (by simp))
    clear hbel3 Hown2 Hmap2 HownL2 Hinv hcx
    have Hnew := hid (Blk.new w3 135 (V0_ (.slice (some ⟨g, 0, none⟩) lf.length cu) b1 ⟨k, lf, i, iv, f⟩).toArray)
    have Hg4 := hid (World.grownBy_alloc w3 (.cells (V0_ (.slice (some ⟨g, 0, none⟩) lf.length cu) b1 ⟨k, lf, i, iv, f⟩).toArray 135) none)
    have Hbr4 := hid (Hbr3.out.alloc Hbr3.out.size (.cells (V0_ (.slice (some ⟨g, 0, none⟩) lf.length cu) b1 ⟨k, lf, i, iv, f⟩).toArray 135))
    have HownL4 := hid (HownL3.out.kept Hg4.out)
    have Hown4 := hid (own_le (Hown3.out.kept Hg4.out (.inr (by simp [Value.ownBlock]))) Hbr.out.size)
    have Hmap4 := hid (Hmap3.out.kept Hg4.out (by simp))
    clear HownL3 Hown3 Hmap3 Hg4
    go_wp2_with (at_builtin; refine O9_ rfl _ _ rfl w.heap.size _ ns _ b1 ⟨k, lf, i, iv, f⟩ rfl HownL4.out w3.heap.size rfl Hnew.out rfl Hown4.out ⟨by have := Hbr.out.size; omega, Hmap4.out⟩ hnl Hbr4.out.size ?_)
    intro v5 w5 hown5 hgr5
    have Hbr5 := hid (Hbr4.out.grown hgr5 Hbr4.out.size (fun i hi => (HownL4.out.own.lt i hi).1))
    have Hown5 := hid hown5
    clear hown5 hgr5
    go_wp2
    go_roundw
    case rel =>
     refine ⟨k + 1, _, by go_num, by omega, Hown5.out, ?_, Hbr5.out⟩
     rw [List.map_append, Hns.out, Hnx.out]
     rfl
    case measure => simp [intOf]; omega
  ·have hke : k = cols.length := by omega
   subst hke
   have Hfin := hid Hown.out.lines
   rw [Hns.out] at Hfin
   go_wp2
   go_ret
   exact ⟨_, rfl, Hfin.out, Hbr.out⟩
end Wp.L
end Go.Proofs.YtgadbnbhgpehjaaGreatDoor
namespace Go.Proofs.YtgadbnbhgpehjaaGreatDoor
open Go.RowKit
namespace Wp.L
theorem Xi4 (p rows : Int) (v : Value) (cols : List (List Int)) (b : Bool) (h : elimB p rows cols = b) (w : World) (hM : Met w) (hr : Rows2 w w.heap.size v cols) :
  Calls Tryz.prog 113 #[.int .i64 p, .int .i64 rows, v] w (Says w b) := by
 subst h
 exact may_any p rows v cols w hM hr
theorem elimB_in {p rows : Int} {cols : List (List Int)} (h : elimB p rows cols = true) : prB p = true ∧ ∃ R : Nat, rows = (R : Int) ∧ R ≤ 64 ∧ cols.length ≤ 64 ∧ Zy6 p R cols := by
 unfold elimB at h
 rw [Bool.and_eq_true, Bool.and_eq_true, Bool.and_eq_true, decide_eq_true_iff, decide_eq_true_iff] at h
 obtain ⟨⟨⟨h1, h2, h3⟩, h4⟩, h5⟩ := h
 refine ⟨h1, rows.toNat, by omega, by omega, h4, fun i hi => ?_⟩
 have h6 : cols.any (badRow p rows) = false := by simpa using h5
 have h7 := List.any_eq_false.1 h6 cols[i] (List.getElem_mem hi)
 rw [show cols.getD i [] = cols[i] by simp [List.getD, hi]]
 unfold badRow at h7
 rw [Bool.or_eq_true, decide_eq_true_iff, not_or, Classical.not_not] at h7
 refine ⟨by omega, fun x hx => ?_⟩
 have h8 := List.any_eq_false.1 (by simpa using h7.2 : cols[i].any (wrongB p) = false) x hx
 unfold wrongB at h8
 rw [decide_eq_true_iff] at h8
 omega
theorem Xq9 {p : Int} {R : Nat} {cols : List (List Int)} (h1 : prB p = true) (h2 : R ≤ 64) (h3 : cols.length ≤ 64) (h4 : Zy6 p R cols) : elimB p (R : Int) cols = true := by
 unfold elimB
 rw [h1, decide_eq_true (show (0 : Int) ≤ (R : Int) ∧ (R : Int) ≤ 64 by omega), decide_eq_true h3]
 simp only [Bool.true_and]
 rw [Bool.not_eq_true', List.any_eq_false]
 intro c hc
 obtain ⟨i, hi, rfl⟩ := List.mem_iff_getElem.1 hc
 have := h4 i hi
 rw [show cols.getD i [] = cols[i] by simp [List.getD, hi]] at this
 unfold badRow
 rw [Bool.or_eq_true, decide_eq_true_iff, not_or, Classical.not_not]
 refine ⟨by rw [this.1], ?_⟩
 rw [Bool.not_eq_true, List.any_eq_false]
 intro x hx
 have := this.2 x hx
 unfold wrongB
 rw [decide_eq_true_iff]
 omega
def Zl3 (p : Int) (cols : List (List Int)) : List Line := L9_ p (fun x => invI x p) cols cols.length
def rankI (p rows : Int) (cols : List (List Int)) : Int := if elimB p rows cols then ((Zl3 p cols).length : Int) else -1
theorem linesI_lines {p : Int} {R : Nat} {cols : List (List Int)} (h1 : prB p = true) (hc : Zy6 p R cols) : Lines p R cols cols.length (Zl3 p cols) :=
 Zy5 (by have := (prB_iff.1 h1).1; omega) (Yj4 h1) hc
theorem Zf1 {p : Int} {R : Nat} {cols : List (List Int)} (h1 : prB p = true) (hc : Zy6 p R cols) : (Zl3 p cols).length ≤ cols.length := by
 have e := congrArg List.length (linesI_lines h1 hc).pl
 rw [List.length_map] at e
 have := Ym8 (p := p) (R := R) (cols := cols) (k := cols.length)
 omega
theorem rank_any (p rows : Int) (v : Value) (cols : List (List Int)) (w : World) (hM : Met w) (hr : Rows2 w w.heap.size v cols) :
  Calls Tryz.prog 87 #[.int .i64 p, .int .i64 rows, v] w (Gets w (.int .i64 (rankI p rows cols))) := by
 have Hr := hid hr
 have HM := hid hM
 obtain ⟨A, c, rfl, _⟩ := hr
 unfold rankI
 rcases hb : elimB p rows cols with _ | _
 ·have Hb := hid hb
  clear hb hM
  simp only [Bool.false_eq_true, if_false]
  go_enter Tryz.func87, Tryz.ntmps87
  go_wp2_with fail
  refine (Xi4 p rows _ cols false Hb.out w HM.out Hr.out).mono ?_
  rintro e w1 ⟨rfl, hb1⟩
  go_wp2
  go_ret
  exact ⟨rfl, hb1⟩
 ·obtain ⟨h1, R, rfl, h2, h3, h4⟩ := elimB_in hb
  have Hb := hid hb
  have Hl := hid (fun w1 (hM1 : Met w1) (hr1 : Rows2 w1 w1.heap.size (Value.slice A cols.length c) cols) => Xq8 p R _ cols w1 hM1 h1 hr1 h4 h2 h3)
  have hnl := Zf1 h1 h4
  change Hid (∀ w1, Met w1 → Rows2 w1 w1.heap.size (Value.slice A cols.length c) cols → Calls Tryz.prog 114 #[.int .i64 p, .slice A cols.length c] w1 (Xi3 w1 (Zl3 p cols))) at Hl
  generalize Zl3 p cols = ls at *
  clear hb hM h1 h4
  simp only [if_true]
  go_enter Tryz.func87, Tryz.ntmps87
  go_wp2_with fail
  refine (Xi4 p R _ cols true Hb.out w HM.out Hr.out).mono ?_
  rintro e w1 ⟨rfl, hb1⟩
  have Hb1 := hid hb1
  clear hb1
  go_wp2_with fail
  refine (Hl.out w1 (HM.out.up Hb1.out) (Hr.out.up Hb1.out)).mono ?_
  rintro e w2 ⟨v2, rfl, hls, hb2⟩
  have Hb2 := hid (Z0_ Hb1.out (le_refl _) hb2)
  obtain ⟨A2, c2, rfl, _⟩ := hls
  clear hb2
  go_wp2
  go_ret
  exact ⟨rfl, Hb2.out⟩
end Wp.L
end Go.Proofs.YtgadbnbhgpehjaaGreatDoor
