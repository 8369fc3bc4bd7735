/- What the library's listed tables give the walks; and a world that holds them. The last step of each law's row: what was there before is as it was, so the arguments read as they read. What came in as an argument reads as it did; an integer's bounds. A list of lists of integers that came in as an argument, as the walks take it. A matroid that came in as an argument, as the walks take it; how much of it there may be. -/
import Derived.Test.YtgadbnbhgpehjaaGreatDoorCards
import Derived.Test.YtgadbnbhgpehjaaGreatDoorTie
import Derived.Test.YtgadbnbhgpehjaaGreatDoorZM
import Derived.WalkKit
import Derived.ProofKit
import Derived.OpenShut
import Derived.LaidMore
import Derived.LaidHandle
import Derived.LaidLaws
import Derived.RowKitTokens
import Derived.Stop.Joined
import Derived.Stop.LaidErr
import Derived.Deep.DeepHandedRow
import Derived.Deep.DeepWitnessRowRef
import Derived.Lib.LaidU8
import Derived.ChangeSame
import Derived.Carry
import Derived.ChangeSlices
import Derived.WideKeyPair
import Derived.RowKit
import Derived.Test.YtgadbnbhgpehjaaGreatDoorZA
import Derived.Deep.Slices
import Derived.Test.YtgadbnbhgpehjaaGreatDoorZQ
import Derived.Deep.Fields
import Derived.SizedLaws
set_option maxHeartbeats 1000000
set_option maxRecDepth 100000
namespace Go.Proofs.YtgadbnbhgpehjaaGreatDoor
open Go.ChangeShapes Go.WideShapes Go.ChangeAt Go.RowKit
namespace Wp
theorem own : ownKnob Tryz.prog.godebug = none := by kernel_rfl
theorem gn64 : Tryz.prog.globalNamed "math/bits.deBruijn64tab" = some 8 := by kernel_rfl
theorem gt64 : (Tryz.prog.globals[8]?).map (·.type) = some 180 := by kernel_rfl
theorem Xn9 : Tryz.prog.cellsOf 5 = 1 := by kernel_rfl
open Go.ChangeShapes Go.WideShapes Go.ChangeAt Go.RowKit
section
variable {H : Type} {enc : TypeId × Value → H} {P : Program}
theorem Ze3 {f : Func} {s : ChangeSpec} {apart fresh handsOn again : Bool} {W W' : World} {args : Array Value} {v : Value} {ds gs : List (DataW H)} {before pa pv : List MemPlace}
  (hW : DataW.Whole enc P f.params.toList s.vars apart W args.toList ds gs before)
  (hres : ∀ (b : Nat) (sp : Nat → Bool) (hd : Bool), DataW.TrodAll enc P W' b sp hd f.resultTypes.toList (v.resultList f.resultTypes.size) (s.fn H (ds ++ gs)).results [])
  (hargs : ∀ sp : Nat → Bool, (∀ p ∈ before, sp p.block = true) → DataW.TrodAll enc P W' 0 sp true f.params.toList args.toList (s.fn H (ds ++ gs)).args pa)
  (hvars : ∀ sp : Nat → Bool, (∀ p ∈ before, sp p.block = true) → DataW.TrodVars enc P W' sp s.vars (s.fn H (ds ++ gs)).vars pv)
  (hps : before = pa ++ pv) (hb : Below W.heap.size W W')
  (hok : ∀ (j : Nat) (t : TypeId) (r : Value), f.resultTypes[j]? = some t → (v.resultList f.resultTypes.size)[j]? = some r → Value.okWide P W' .any 0 t r) :
  s.post enc P f apart fresh handsOn again W args v W' := by
 have hlt : ∀ p ∈ before, p.block < W.heap.size := fun p hp => hW.lt p hp
 have hold : ∀ p ∈ before, (fun b => decide (b < W.heap.size)) p.block = true := fun p hp => by simpa using hlt p hp
 refine ⟨ds, gs, before, [], pa, pv, hW, hres _ _ _, hargs _ hold, hvars _ hold, World.keptBut_mono (fun p hp => ⟨hp, ?_⟩) (hb.frame (· ∈ before)), fun _ => ?_⟩
 ·rw [hps, List.mem_append] at hp
  exact Or.inr hp
 ·obtain ⟨_, _, _, _, _, hz, hn⟩ := hW
  refine ⟨hok, _, _, ([] ++ pa) ++ pv, ⟨[] ++ pa, pv, trodAll_append (hargs _ (fun _ _ => rfl)) (hres _ _ _), hvars _ (fun _ _ => rfl), rfl, ?_, ?_⟩, ?_⟩
  ·intro b off hp
   have hin : MemPlace.cell b off ∈ before := by rw [hps]; simpa using hp
   rw [hb.frozen (hlt _ hin)]
   exact hz b off hin
  ·intro ha
   have := hn ha
   rw [hps] at this
   simpa using this
  ·intro p hp _
   rw [hps]
   simpa using hp
end
open Go.ChangeShapes Go.WideShapes Go.ChangeAt Go.RowKit
theorem Xo0 : laidOutB Tryz.prog = true := by kernel_rfl
theorem Zi4 {H : Type} {enc : TypeId × Value → H} {W W' : World} {t : TypeId} {v : Value} {d : DataW H} {ps : List MemPlace} (hr : Tryz.prog.readableRec t = true) (hrow : t < Tryz.prog.types.size)
  (h : DataW.Trod enc Tryz.prog W 0 (fun _ => true) true t v d ps) (hb : Below W.heap.size W W') (hlt : ∀ x ∈ ps, x.block < W.heap.size) (sp : Nat → Bool) (hsp : ∀ x ∈ ps, sp x.block = true) :
  DataW.Trod enc Tryz.prog W' 0 sp true t v d ps :=
 WideElems.Trod_stays Xo0 hr hrow h (fun x hx => hb.same (hlt x hx)) hsp
open Go.ChangeShapes Go.WideShapes Go.ChangeAt Go.RowKit
theorem Yl7 : Tryz.prog.cellsOf 3 = 1 := by kernel_rfl
theorem Vy1 : Tryz.prog.cellsOf 26 = 1 := by kernel_rfl
theorem Zr2 {H : Type} {enc : TypeId × Value → H} {W : World} {u : Value} {d : DataW H} {ps : List MemPlace} {fuel : Nat}
  (hf : DataW.trod enc Tryz.prog W 0 (fun _ => true) true fuel 26 [u] = some (d, ps)) (hlt : ∀ x ∈ ps, x.block < W.heap.size) : ∃ zs, Row W W.heap.size u zs := by
 rcases open_ints Tryz.underlying26 Tryz.underlying3 Yl7 hf with ⟨hcs, hx⟩ | ⟨a, len, cap, zs, hcs, _, hl, hm, hz, hx, hcell, hwz⟩
 ·injection hcs with hcs _
  subst hcs
  exact ⟨[], none, 0, rfl, ⟨Nat.le_refl _, by decide, fun _ => rfl⟩, fun k hk => absurd hk (by simp)⟩
 ·injection hcs with hcs _
  subst hcs
  simp only [Prod.mk.injEq] at hx
  obtain ⟨_, rfl⟩ := hx
  simp only [if_true] at hz
  have hlen : (zs.take len).length = len := by rw [List.length_take]; omega
  refine ⟨zs.take len, some a, cap, by rw [hlen], ⟨by rw [hlen]; exact hl, hm, fun e => by cases e⟩, fun k hk => ⟨a, rfl, ?_, ?_⟩⟩
  ·exact hlt (.cell a.block a.off) (MemPlace.mem_row.2 ⟨0, by omega, by simp⟩)
  ·rw [hcell k (by omega)]
   congr 2
   rw [hlen] at hk
   simp [List.getD, hk]
theorem Yb6 {H : Type} {enc : TypeId × Value → H} {W : World} {v : Value} {d : DataW H} {ps : List MemPlace} {base : Nat} (hv : Value.okWide Tryz.prog W .any base 26 v)
  (h : DataW.Trod enc Tryz.prog W 0 (fun _ => true) true 26 v d ps) (hlt : ∀ x ∈ ps, x.block < W.heap.size) : ∃ zs, Row W W.heap.size v zs := by
 obtain ⟨a0, len, cap, rfl⟩ := okWide_slice Tryz.underlying26 hv
 obtain ⟨fuel, hf⟩ := h
 rcases open_ints Tryz.underlying26 Tryz.underlying3 Yl7 hf with ⟨hcs, hx⟩ | ⟨a, len', cap', zs, hcs, _, hl, hm, hz, hx, hcell, hwz⟩
 ·simp [Value.cells] at hcs
  obtain ⟨rfl, rfl, rfl⟩ := hcs
  exact ⟨[], none, 0, rfl, ⟨Nat.le_refl _, by decide, fun _ => rfl⟩, fun k hk => absurd hk (by simp)⟩
 ·simp [Value.cells] at hcs
  obtain ⟨rfl, rfl, rfl⟩ := hcs
  simp only [Prod.mk.injEq] at hx
  obtain ⟨_, rfl⟩ := hx
  simp only [if_true] at hz
  have hlen : (zs.take len).length = len := by rw [List.length_take]; omega
  refine ⟨zs.take len, some a, cap, by rw [hlen], ⟨by rw [hlen]; exact hl, hm, fun e => by cases e⟩, fun k hk => ⟨a, rfl, ?_, ?_⟩⟩
  ·have h1 := hlt (.cell a.block a.off) (MemPlace.mem_row.2 ⟨0, by omega, by simp⟩)
   exact h1
  ·rw [hcell k (by omega)]
   congr 2
   rw [hlen] at hk
   simp [List.getD, hk]
open Go.ChangeShapes Go.WideShapes Go.ChangeAt Go.RowKit
inductive Lim : Mat → Prop
 | mk {t n a b : Int} {l : List (List Int)} {i : List Mat} (h1 : l.length ≤ 140737488355328) (h2 : ∀ r ∈ l, r.length ≤ 140737488355328) (h3 : i.length ≤ 140737488355328) (h4 : ∀ x ∈ i, Lim x) : Lim (.mk t n a b l i)
theorem M4_ {H : Type} {P : Program} {e : TypeId} {d : DataW H} : ∀ {l : List (DataW H)}, d ∈ l → ∀ n ∈ d.weights P e, n ∈ DataW.weightsAll P e l
 | x :: r, hd, n, hn => by
  simp only [DataW.weightsAll, List.mem_append]
  rcases List.mem_cons.1 hd with rfl | h
  ·exact .inl hn
  ·exact .inr (M4_ h n hn)
section
variable {H : Type} {enc : TypeId × Value → H} {P : Program} {w : World} {base : Nat} {spare : Nat → Bool} {held : Bool}
theorem O0_ {t : TypeId} {fs : Array Field} {fuel : Nat} {cs : List Value} {x : DataW H × List MemPlace} (hs : P.underlying t = some (.struct fs)) (hone : Go.Deep.oneCellFields P fs = true) (hC : P.cellsOf t = fs.size)
  (h : DataW.trod enc P w base spare held fuel t cs = some x) :
  ∃ (ys : List (DataW H × List MemPlace)) (n : Nat), x = (.agg (ys.map (·.1)), ys.flatMap (·.2)) ∧ ys.length = fs.size ∧ cs.length = fs.size ∧ ∀ (j : Nat) (f : Field) (c : Value), fs[j]? = some f → cs[j]? = some c → DataW.trod enc P w base spare held n f.type [c] = ys[j]? := by
 obtain ⟨ys, n, _, hx, hl, hy, hf⟩ := DataW.trod_struct hs h
 refine ⟨ys, n, hx, hy, hl.trans hC, fun j f c hj hc => ?_⟩
 obtain ⟨ho, hk⟩ := Go.Deep.hone_of hone j f hj
 have h1 := hf j f hj
 rw [ho, hk] at h1
 rw [← h1]
 congr 1
 obtain ⟨hlt, rfl⟩ := List.getElem?_eq_some_iff.1 hc
 rw [List.drop_eq_getElem_cons hlt]
 rfl
end
theorem Xv8 : Tryz.prog.cellsOf 25 = 6 := by kernel_rfl
theorem Vy2 : Tryz.prog.bytesOf 3 = 8 := by kernel_rfl
theorem Vy3 : Tryz.prog.bytesOf 26 = 24 := by kernel_rfl
theorem Xv9 : 1 ≤ Tryz.prog.bytesOf 25 := by decide +kernel
theorem Xo1 {H : Type} {enc : TypeId × Value → H} {W : World} {u : Value} {d : DataW H} {ps : List MemPlace} {fuel : Nat} {zs : List Int} {B : Nat}
  (hf : DataW.trod enc Tryz.prog W 0 (fun _ => true) true fuel 26 [u] = some (d, ps)) (hr : Row W B u zs) (hw : ∀ n ∈ d.weights Tryz.prog 26, n ≤ reachBytes) : zs.length ≤ 140737488355328 := by
 obtain ⟨A, c, rfl, _⟩ := hr
 rcases Go.Deep.open_slice1 Tryz.underlying26 Yl7 hf with ⟨hcs, _⟩ | ⟨a, len, cap, m, n, V, D, Pl, hcs, _, _, _, _, hx, _⟩
 ·simp at hcs
  omega
 ·simp at hcs
  obtain ⟨_, rfl, _⟩ := hcs
  simp only [Prod.mk.injEq] at hx
  have h1 := hw ((zs.length + (m - zs.length)) * 8) (by rw [hx.1]; simp [DataW.weights, Tryz.underlying26, Vy2])
  have hr := reachBytes_lt
  omega
theorem Yl8 {H : Type} {enc : TypeId × Value → H} {W : World} {v : Value} {d : DataW H} {ps : List MemPlace} {fuel : Nat}
  (hf : DataW.trod enc Tryz.prog W 0 (fun _ => true) true fuel 22 [v] = some (d, ps)) (hlt : ∀ x ∈ ps, x.block < W.heap.size) (hw : ∀ n ∈ d.weights Tryz.prog 22, n ≤ reachBytes) :
  ∃ pp, Rows2 W W.heap.size v pp ∧ pp.length ≤ 140737488355328 ∧ ∀ r ∈ pp, r.length ≤ 140737488355328 := by
 rcases Go.Deep.open_slice1 Tryz.underlying22 Vy1 hf with ⟨hcs, _⟩ | ⟨a, len, cap, m, n, V, D, Pl, hcs, _, hl, hm, hmm, hx, hcell⟩
 ·simp at hcs
  subst hcs
  exact ⟨[], ⟨none, 0, rfl, ⟨Nat.le_refl _, by decide, fun _ => rfl⟩, fun k hk => absurd hk (by simp)⟩, by simp, fun r hr => by cases hr⟩
 ·simp at hcs
  subst hcs
  simp only [if_true] at hmm
  subst hmm
  simp only [Prod.mk.injEq] at hx
  have hblk : 0 < m → a.block < W.heap.size := fun h0 => hlt (.cell a.block a.off) (by
   rw [hx.2]
   exact List.mem_append.2 (.inl (MemPlace.mem_row.2 ⟨0, by omega, by simp⟩)))
  have hall : ∀ n ∈ DataW.weights Tryz.prog 22 (.slice ((List.range len).map D) ((List.range (m - len)).map fun j => D (len + j))), n ≤ reachBytes := by rw [← hx.1]; exact hw
  obtain ⟨q, hq⟩ := Go.Deep.choose_lt (α := List Int) (n := len) (p := fun i zs => Row W W.heap.size (V i) zs ∧ zs.length ≤ 140737488355328) (fun i hi => by
   obtain ⟨_, h2⟩ := hcell i (by omega)
   obtain ⟨zs, hr⟩ := Zr2 h2 fun x hx' => hlt x (by
    rw [hx.2]
    exact List.mem_append.2 (.inr (List.mem_flatMap.2 ⟨i, List.mem_range.2 (by omega), hx'⟩)))
   refine ⟨zs, hr, Xo1 h2 hr fun n hn => hall n ?_⟩
   simp only [DataW.weights, Tryz.underlying22]
   exact List.mem_cons_of_mem _ (List.mem_append.2 (.inl (M4_ (List.mem_map.2 ⟨i, List.mem_range.2 hi, rfl⟩) n hn))))
  refine ⟨(List.range len).map q, ⟨some a, m, by simp, ⟨by simpa using hl, hm, fun e => by cases e⟩, fun k hk => ⟨a, V k, rfl, ?_, ?_, ?_⟩⟩, ?_, ?_⟩
  ·simp at hk
   exact hblk (by omega)
  ·simp at hk
   exact (hcell k (by omega)).1
  ·simp at hk
   have := (hq k (by omega)).1
   simpa [List.getD, hk] using this
  ·have h1 := hall ((len + (m - len)) * 24) (by simp [DataW.weights, Tryz.underlying22, Vy3])
   have hr := reachBytes_lt
   simp
   omega
  ·intro r hr
   obtain ⟨i, hi, rfl⟩ := List.mem_map.1 hr
   exact (hq i (List.mem_range.1 hi)).2
theorem Zr3 {H : Type} {enc : TypeId × Value → H} {W : World} : ∀ (N : Nat) (d : DataW H) (fuel : Nat) (cs : List Value) (ps : List MemPlace), SizeOf.sizeOf d ≤ N →
  DataW.trod enc Tryz.prog W 0 (fun _ => true) true fuel 25 cs = some (d, ps) → (∀ x ∈ ps, x.block < W.heap.size) → (∀ n ∈ d.weights Tryz.prog 25, n ≤ reachBytes) →
  ∃ (c0 c1 c2 c3 c4 c5 : Value) (m : Mat), cs = [c0, c1, c2, c3, c4, c5] ∧ MatV W W.heap.size (.agg #[c0, c1, c2, c3, c4, c5]) m ∧ Lim m := by
 intro N
 induction N with
 | zero => intro d fuel cs ps hN; cases d <;> simp at hN
 | succ N ih =>
  intro d fuel cs ps hN h hlt hw
  obtain ⟨ys, n, hx, hy, hc, hf⟩ := O0_ Tryz.underlying25 (by kernel_rfl) (by kernel_rfl) h
  match ys, hy, cs, hc with
  | [y0, y1, y2, y3, y4, y5], _, [c0, c1, c2, c3, c4, c5], _ =>
   have t0 := hf 0 _ c0 rfl rfl
   have t1 := hf 1 _ c1 rfl rfl
   have t2 := hf 2 _ c2 rfl rfl
   have t3 := hf 3 _ c3 rfl rfl
   have t4 := hf 4 _ c4 rfl rfl
   have t5 := hf 5 _ c5 rfl rfl
   simp only [Prod.mk.injEq] at hx
   obtain ⟨hd, hp⟩ := hx
   subst hd hp
   obtain ⟨x0, e0, _⟩ := DataW.trod_int Tryz.underlying3 t0
   obtain ⟨x1, e1, _⟩ := DataW.trod_int Tryz.underlying3 t1
   obtain ⟨x2, e2, _⟩ := DataW.trod_int Tryz.underlying3 t2
   obtain ⟨x3, e3, _⟩ := DataW.trod_int Tryz.underlying3 t3
   simp at e0 e1 e2 e3
   subst e0 e1 e2 e3
   have hwe : ∀ n ∈ DataW.weightsEach Tryz.prog [3, 3, 3, 3, 22, 23] [y0.1, y1.1, y2.1, y3.1, y4.1, y5.1], n ≤ reachBytes := by
    intro n hn
    refine hw n ?_
    simp only [DataW.weights, Tryz.underlying25]
    exact hn
   obtain ⟨l, hl, hll, hlr⟩ := Yl8 (v := c4) (d := y4.1) (ps := y4.2) (fuel := n) t4 (fun x hx => hlt x (by simp [hx])) (fun n hn => hwe n (DataW.weights_mem_each (j := 4) (t := 22) (d := y4.1) rfl rfl n hn))
   have hw5 : ∀ n ∈ y5.1.weights Tryz.prog 23, n ≤ reachBytes := fun n hn => hwe n (DataW.weights_mem_each (j := 5) (t := 23) (d := y5.1) rfl rfl n hn)
   have hlt5 : ∀ x ∈ y5.2, x.block < W.heap.size := fun x hx => hlt x (by simp [hx])
   obtain ⟨d5, p5⟩ := y5
   rcases Go.Deep.open_slice Tryz.underlying23 t5 with ⟨hcs, _⟩ | ⟨a, len, cap, m, n', D, Pl, hcs, _, hle, hcap, hmm, hx, hcell⟩
   ·simp at hcs
    subst hcs
    exact ⟨_, _, _, _, _, _, _, rfl, MatV.shut (t := x0) (n := x1) (a := x2) (b := x3) hl (MatL.nil_ _ _), .mk hll hlr (by simp) (fun x hx => by cases hx)⟩
   ·simp at hcs
    subst hcs
    simp only [if_true] at hmm
    subst hmm
    simp only [Prod.mk.injEq] at hx
    obtain ⟨rfl, rfl⟩ := hx
    rw [Xv8] at hcell hlt5
    have hblk : 0 < m → a.block < W.heap.size := fun h0 => hlt5 (.cell a.block a.off) (List.mem_append.2 (.inl (MemPlace.mem_row.2 ⟨0, by omega, by simp⟩)))
    have hin : ∀ i, i < len → ∃ um : Value × Mat, SixV W (a.add (i * 6)) um.1 ∧ MatV W W.heap.size um.1 um.2 ∧ Lim um.2 := by
     intro i hi
     obtain ⟨cs', h1, h2⟩ := hcell i (by omega)
     have hmem : D i ∈ (List.range len).map D := List.mem_map.2 ⟨i, List.mem_range.2 hi, rfl⟩
     have hsz : SizeOf.sizeOf (D i) ≤ N := by
      have s1 := List.sizeOf_lt_of_mem hmem
      simp at hN
      omega
     obtain ⟨z0, z1, z2, z3, z4, z5, mm, rfl, hm1, hm2⟩ := ih (D i) n' cs' (Pl i) hsz h2 (fun x hx => hlt5 x (List.mem_append.2 (.inr (List.mem_flatMap.2 ⟨i, List.mem_range.2 (by omega), hx⟩)))) (fun k hk => hw5 k (by
      simp only [DataW.weights, Tryz.underlying23]
      exact List.mem_cons_of_mem _ (List.mem_append.2 (.inl (M4_ hmem k hk)))))
     obtain ⟨_, _, hat⟩ := World.cells?_some h1
     have g0 := hat 0 (by decide)
     have g1 := hat 1 (by decide)
     have g2 := hat 2 (by decide)
     have g3 := hat 3 (by decide)
     have g4 := hat 4 (by decide)
     have g5 := hat 5 (by decide)
     rw [add_zero] at g0
     refine ⟨(.agg #[z0, z1, z2, z3, z4, z5], mm), ⟨z0, z1, z2, z3, z4, z5, rfl, by simpa using g0, ?_, ?_, ?_, ?_, ?_⟩, hm1, hm2⟩
     ·simpa [Addr.add] using g1
     ·simpa [Addr.add] using g2
     ·simpa [Addr.add] using g3
     ·simpa [Addr.add] using g4
     ·simpa [Addr.add] using g5
    obtain ⟨q, hq⟩ := Go.Deep.choose_lt (α := Value × Mat) (n := len) (p := fun i um => SixV W (a.add (i * 6)) um.1 ∧ MatV W W.heap.size um.1 um.2 ∧ Lim um.2) hin
    refine ⟨_, _, _, _, _, _, .mk x0 x1 x2 x3 l ((List.range len).map fun i => (q i).2), rfl, MatV.shut hl ⟨some a, m, by simp, ⟨by simpa using hle, hcap, fun e => by cases e⟩, fun k hk => ⟨a, (q k).1, rfl, ?_, ?_, ?_⟩⟩, .mk hll hlr ?_ ?_⟩
    ·simp at hk
     exact hblk (by omega)
    ·simp at hk
     exact (hq k hk).1
    ·simp at hk
     have := (hq k hk).2.1
     simpa [List.getD, hk] using this
    ·have h1 := hw5 ((len + (m - len)) * Tryz.prog.bytesOf 25) (by simp [DataW.weights, Tryz.underlying23])
     have hr := reachBytes_lt
     have hb := Nat.mul_le_mul_left (len + (m - len)) Xv9
     simp
     omega
    ·intro x hx
     obtain ⟨i, hi, rfl⟩ := List.mem_map.1 hx
     exact (hq i (List.mem_range.1 hi)).2.2
end Wp
end Go.Proofs.YtgadbnbhgpehjaaGreatDoor
