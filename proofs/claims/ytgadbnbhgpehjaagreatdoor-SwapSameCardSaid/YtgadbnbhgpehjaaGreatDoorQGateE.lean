/- What the nine listed package-level variables give the walks; and a world that holds them. -/
import Derived.Test.YtgadbnbhgpehjaaGreatDoorZG
set_option maxHeartbeats 1000000
set_option maxRecDepth 100000
namespace Go.Proofs.YtgadbnbhgpehjaaGreatDoor
open Go.ChangeShapes Go.WideShapes Go.ChangeAt Go.RowKit
namespace Wp
theorem et : Tryz.prog.globalNamed "errors.errorType" = some 1 := by kernel_rfl
theorem gnF : Tryz.prog.globalNamed "greenwood/matroid.forms" = some 4 := by kernel_rfl
theorem gtF : (Tryz.prog.globals[4]?).map (·.type) = some 157 := by kernel_rfl
theorem gn0 : Tryz.prog.globalNamed "greenwood/matroid.errDeep" = some 0 := by kernel_rfl
theorem gn1 : Tryz.prog.globalNamed "greenwood/matroid.errKind" = some 2 := by kernel_rfl
theorem gn2 : Tryz.prog.globalNamed "greenwood/matroid.errMany" = some 3 := by kernel_rfl
theorem gn3 : Tryz.prog.globalNamed "greenwood/matroid.errForm" = some 5 := by kernel_rfl
theorem gn4 : Tryz.prog.globalNamed "greenwood/matroid.errFit" = some 6 := by kernel_rfl
theorem gt0 : (Tryz.prog.globals[0]?).map (·.type) = some 101 := by kernel_rfl
theorem gt1 : (Tryz.prog.globals[2]?).map (·.type) = some 101 := by kernel_rfl
theorem gt2 : (Tryz.prog.globals[3]?).map (·.type) = some 101 := by kernel_rfl
theorem gt3 : (Tryz.prog.globals[5]?).map (·.type) = some 101 := by kernel_rfl
theorem gt4 : (Tryz.prog.globals[6]?).map (·.type) = some 101 := by kernel_rfl
theorem rtT : (Tryz.prog.cutTypes.find? (·.1 == "internal/reflectlite.rtype")).map (·.2) = some 163 := by kernel_rfl
theorem Vy4 : Tryz.prog.types.size = 214 := by kernel_rfl
theorem Vy5 : ((List.range 214).filter fun t => Tryz.prog.rowNamed t [101, 114, 114, 111, 114]) = [101] := by kernel_rfl
theorem Zi5 : Tryz.prog.cellsOf 202 = 1 := by kernel_rfl
theorem Zi6 : Tryz.prog.cellsOf 9 = 1 := by kernel_rfl
theorem Yl9 : Tryz.prog.cellsOf 156 = 5 := by kernel_rfl
theorem star : "*" ++ "errors.errorString" = "*errors.errorString" := by decide
theorem rowX (u : TypeId) (h : Tryz.prog.typeName? 3 u = some "*errors.errorString") : u = 181 :=
 typeName_ptr_named (nm := "errors.errorString") (by rw [star]; kernel_rfl) (by kernel_rfl) (by decide) u (by rw [star]; exact h)
def laidQ : List (String × DataW Unit) := [("math/bits.deBruijn32tab", Rows.laid_math_bits_deBruijn32tab), ("math/bits.deBruijn64tab", Rows.laid_math_bits_deBruijn64tab), ("errors.errorType", Rows.laid_errors_errorType), ("greenwood/matroid.forms", Rows.laid_greenwood_matroid_forms), ("greenwood/matroid.errDeep", Rows.laid_greenwood_matroid_errDeep), ("greenwood/matroid.errKind", Rows.laid_greenwood_matroid_errKind), ("greenwood/matroid.errMany", Rows.laid_greenwood_matroid_errMany), ("greenwood/matroid.errForm", Rows.laid_greenwood_matroid_errForm), ("greenwood/matroid.errFit", Rows.laid_greenwood_matroid_errFit)]
def laidR : List (String × DataW Unit) := [("math/bits.deBruijn32tab", Rows.laid_math_bits_deBruijn32tab), ("math/bits.deBruijn64tab", Rows.laid_math_bits_deBruijn64tab), ("greenwood/matroid.forms", Rows.laid_greenwood_matroid_forms), ("greenwood/matroid.errDeep", Rows.laid_greenwood_matroid_errDeep), ("greenwood/matroid.errKind", Rows.laid_greenwood_matroid_errKind), ("greenwood/matroid.errMany", Rows.laid_greenwood_matroid_errMany), ("greenwood/matroid.errForm", Rows.laid_greenwood_matroid_errForm), ("greenwood/matroid.errFit", Rows.laid_greenwood_matroid_errFit)]
theorem Yb7 {W : World} (h : laidMetH Tryz.prog laidQ W) : laidMet Tryz.prog laidR W ∧ handlesMet Tryz.prog [("errors.errorType", Rows.laid_errors_errorType)] W := h
theorem Zq6 {W : World} (h : handlesMet Tryz.prog [("errors.errorType", Rows.laid_errors_errorType)] W) : W.cell? ⟨1, 0, none⟩ = some (.iface 163 (.agg #[.pointer (some ⟨9, 101, none⟩)])) := by
 obtain ⟨name, u, ty, e1, e2, e3, e4, e5⟩ := h _ (List.mem_singleton.2 rfl)
 have en : name = [101, 114, 114, 111, 114] := (Option.some.inj e1).symm
 subst en
 obtain rfl := Option.some.inj (rtT.symm.trans e2)
 have hm : ty ∈ (List.range 214).filter fun t => Tryz.prog.rowNamed t [101, 114, 114, 111, 114] := List.mem_filter.2 ⟨List.mem_range.2 (by rw [← Vy4]; exact e3), e4⟩
 rw [Vy5] at hm
 obtain rfl := List.mem_singleton.1 hm
 have hh : typeHandle Tryz.prog 101 = .pointer (some ⟨9, 101, none⟩) := by kernel_rfl
 rw [hh] at e5
 simpa using World.var?_cell et e5 0
theorem Zr4 {W : World} (h' : laidMet Tryz.prog laidR W) : Met W := by
 obtain ⟨g, t, cs, fuel, p, hg, ht, hv, hd⟩ := Lib.laidMet.reads h' (n := "math/bits.deBruijn64tab") (d := Rows.laid_math_bits_deBruijn64tab) (by unfold laidR; simp)
 obtain rfl := Option.some.inj (gn64.symm.trans hg)
 obtain rfl := Option.some.inj (gt64.symm.trans ht)
 have hd' : DataW.trod (fun _ => ()) Tryz.prog W 0 (fun _ => true) false fuel 180 cs.toList = some (.agg (Lib.deBruijn64tab.map fun z : Nat => DataW.lit (.int .u8 (z : Int))), p) := hd
 have key : ∀ i, i < 64 → W.cell? ⟨8, i, none⟩ = some (.int .u8 (Lib.deBruijn64tab.getD i 0 : Nat)) := by
  intro i hi
  obtain ⟨f', d, q, h1, h2⟩ := Lib.array_elem Tryz.underlying180 hd' i hi
  rw [Xn9, Nat.mul_one] at h2
  obtain ⟨z, hz, hdq, _⟩ := DataW.trod_int Tryz.underlying5 h2
  obtain rfl : d = .lit (.int .u8 z) := congrArg Prod.fst hdq
  have h3 : cs.toList[i]? = some (.int .u8 z) := by
   have := congrArg (·[0]?) hz
   simpa [List.getElem?_take, List.getElem?_drop] using this
  have h4 : i < Lib.deBruijn64tab.length := hi
  rw [List.getElem?_map, List.getElem?_eq_getElem h4] at h1
  simp only [Option.map_some, Option.some.injEq, DataW.lit.injEq, Lit.int.injEq, true_and] at h1
  have h5 := World.var?_cell gn64 hv i
  rw [h5, ← Array.getElem?_toList, h3, ← h1]
  simp [List.getD, h4]
 refine ⟨?_, key⟩
 rcases Nat.lt_or_ge 8 W.heap.size with h | h
 ·exact h
 ·have := key 0 (by decide)
  simp [World.cell?, Array.getElem?_eq_none h] at this
def formD (f : Form) : DataW Unit := .agg [.lit (.bool f.fa), .lit (.bool f.fb), .lit (.int .i64 f.lists), .lit (.int .i64 f.least), .lit (.int .i64 f.most)]
theorem Ym0 : Rows.laid_greenwood_matroid_forms = .agg ((List.range 10).map fun t : Nat => formD (form (t : Int))) := by rfl
theorem Ze4 {W : World} (h' : laidMet Tryz.prog laidR W) (t : Nat) (h : t < 10) :
  W.cell? ⟨4, t * 5, none⟩ = some (.bool (form t).fa) ∧ W.cell? ⟨4, t * 5 + 1, none⟩ = some (.bool (form t).fb) ∧ W.cell? ⟨4, t * 5 + 2, none⟩ = some (.int .i64 (form t).lists) ∧
   W.cell? ⟨4, t * 5 + 3, none⟩ = some (.int .i64 (form t).least) ∧ W.cell? ⟨4, t * 5 + 4, none⟩ = some (.int .i64 (form t).most) := by
 obtain ⟨g, ty, cs, fuel, p, hg, ht, hv, hd⟩ := Lib.laidMet.reads h' (n := "greenwood/matroid.forms") (d := Rows.laid_greenwood_matroid_forms) (by unfold laidR; simp)
 obtain rfl := Option.some.inj (gnF.symm.trans hg)
 obtain rfl := Option.some.inj (gtF.symm.trans ht)
 rw [Ym0] at hd
 obtain ⟨f', d, q, h1, h2⟩ := Lib.array_elem Tryz.underlying157 hd t h
 rw [Yl9] at h2
 rw [List.getElem?_map, List.getElem?_range h] at h1
 obtain rfl := Option.some.inj h1
 obtain ⟨ys, n, hx, hy, hc, hf⟩ := O0_ Tryz.underlying156 (by kernel_rfl) (by kernel_rfl) h2
 have hcell : ∀ j, j < 5 → ((cs.toList.drop (t * 5)).take 5)[j]? = W.cell? ⟨4, t * 5 + j, none⟩ := by
  intro j hj
  rw [World.var?_cell gnF hv, ← Array.getElem?_toList, List.getElem?_take, if_pos hj, List.getElem?_drop]
 generalize (cs.toList.drop (t * 5)).take 5 = l at *
 match ys, hy, l, hc with
 | [y0, y1, y2, y3, y4], _, [c0, c1, c2, c3, c4], _ =>
  have t0 := hf 0 _ c0 rfl rfl
  have t1 := hf 1 _ c1 rfl rfl
  have t2 := hf 2 _ c2 rfl rfl
  have t3 := hf 3 _ c3 rfl rfl
  have t4 := hf 4 _ c4 rfl rfl
  have q0 := hcell 0 (by decide)
  have q1 := hcell 1 (by decide)
  have q2 := hcell 2 (by decide)
  have q3 := hcell 3 (by decide)
  have q4 := hcell 4 (by decide)
  obtain ⟨b0, e0, r0⟩ := DataW.trod_bool Tryz.underlying4 t0
  obtain ⟨b1, e1, r1⟩ := DataW.trod_bool Tryz.underlying4 t1
  obtain ⟨x2, e2, r2, _⟩ := DataW.trod_int Tryz.underlying3 t2
  obtain ⟨x3, e3, r3, _⟩ := DataW.trod_int Tryz.underlying3 t3
  obtain ⟨x4, e4, r4, _⟩ := DataW.trod_int Tryz.underlying3 t4
  simp only [Prod.mk.injEq, List.map_cons, List.map_nil, formD, DataW.agg.injEq, List.cons.injEq, and_true] at hx
  obtain ⟨⟨a0, a1, a2, a3, a4⟩, _⟩ := hx
  subst r0 r1 r2 r3 r4
  simp at e0 e1 e2 e3 e4
  simp only [DataW.lit.injEq, Lit.bool.injEq, Lit.int.injEq, true_and] at a0 a1 a2 a3 a4
  subst e0 e1 e2 e3 e4
  rw [a0, a1, a2, a3, a4]
  exact ⟨q0.symm, q1.symm, q2.symm, q3.symm, q4.symm⟩
theorem Zr5 {W : World} (hL : laidMetH Tryz.prog laidQ W) : ∃ E, Env E W := by
 obtain ⟨h', hH⟩ := Yb7 hL
 have hT := Zq6 hH
 have hM := Zr4 h'
 have hF := Ze4 h'
 obtain ⟨ps, ⟨gA, tA, csA, fA, pA, qA, hgA, htA, hvA, hdA, ⟨gB, tB, csB, fB, pB, qB, hgB, htB, hvB, hdB, ⟨gC, tC, csC, fC, pC, qC, hgC, htC, hvC, hdC, ⟨g0, t0, cs0, f0, p0, q0, hg0, ht0, hv0, hd0, ⟨g1, t1, cs1, f1, p1, q1, hg1, ht1, hv1, hd1, ⟨g2, t2, cs2, f2, p2, q2, hg2, ht2, hv2, hd2, ⟨g3, t3, cs3, f3, p3, q3, hg3, ht3, hv3, hd3, ⟨g4, t4, cs4, f4, p4, q4, hg4, ht4, hv4, hd4, hq4, e4⟩, e3⟩, e2⟩, e1⟩, e0⟩, eC⟩, eB⟩, eA⟩, hnd, hrows⟩ := h'
 obtain rfl := Option.some.inj (gn0.symm.trans hg0)
 obtain rfl := Option.some.inj (gn1.symm.trans hg1)
 obtain rfl := Option.some.inj (gn2.symm.trans hg2)
 obtain rfl := Option.some.inj (gn3.symm.trans hg3)
 obtain rfl := Option.some.inj (gn4.symm.trans hg4)
 obtain rfl := Option.some.inj (gt0.symm.trans ht0)
 obtain rfl := Option.some.inj (gt1.symm.trans ht1)
 obtain rfl := Option.some.inj (gt2.symm.trans ht2)
 obtain rfl := Option.some.inj (gt3.symm.trans ht3)
 obtain rfl := Option.some.inj (gt4.symm.trans ht4)
 have hq4' : q4 = [] := hq4
 subst hq4' e4 e3 e2 e1 e0 eC eB eA
 clear hvA hvB hvC hdA hdB hdC hgA hgB hgC htA htB htC
 obtain ⟨l0⟩ := cs0
 obtain ⟨l1⟩ := cs1
 obtain ⟨l2⟩ := cs2
 obtain ⟨l3⟩ := cs3
 obtain ⟨l4⟩ := cs4
 have ok0 : ∀ u v, l0 = [.iface u v] → Value.okWide Tryz.prog W .any 0 u v := fun u v e => by
  subst e
  exact (hrows 0 0 (by simp [MemPlace.row])).2 u v (by simpa using World.var?_cell gn0 hv0 0)
 have ok1 : ∀ u v, l1 = [.iface u v] → Value.okWide Tryz.prog W .any 0 u v := fun u v e => by
  subst e
  exact (hrows 2 0 (by simp [MemPlace.row])).2 u v (by simpa using World.var?_cell gn1 hv1 0)
 have ok2 : ∀ u v, l2 = [.iface u v] → Value.okWide Tryz.prog W .any 0 u v := fun u v e => by
  subst e
  exact (hrows 3 0 (by simp [MemPlace.row])).2 u v (by simpa using World.var?_cell gn2 hv2 0)
 have ok3 : ∀ u v, l3 = [.iface u v] → Value.okWide Tryz.prog W .any 0 u v := fun u v e => by
  subst e
  exact (hrows 5 0 (by simp [MemPlace.row])).2 u v (by simpa using World.var?_cell gn3 hv3 0)
 have ok4 : ∀ u v, l4 = [.iface u v] → Value.okWide Tryz.prog W .any 0 u v := fun u v e => by
  subst e
  exact (hrows 6 0 (by simp [MemPlace.row])).2 u v (by simpa using World.var?_cell gn4 hv4 0)
 obtain ⟨a0, s0, rfl, hc0, _, _, rfl⟩ := errorString_of_trod Tryz.underlying101 rowX Tryz.underlying181 Tryz.underlying202 rfl rfl Tryz.underlying9 Zi5 Zi6 hd0 ok0
 obtain ⟨a1, s1, rfl, hc1, _, _, rfl⟩ := errorString_of_trod Tryz.underlying101 rowX Tryz.underlying181 Tryz.underlying202 rfl rfl Tryz.underlying9 Zi5 Zi6 hd1 ok1
 obtain ⟨a2, s2, rfl, hc2, _, _, rfl⟩ := errorString_of_trod Tryz.underlying101 rowX Tryz.underlying181 Tryz.underlying202 rfl rfl Tryz.underlying9 Zi5 Zi6 hd2 ok2
 obtain ⟨a3, s3, rfl, hc3, _, _, rfl⟩ := errorString_of_trod Tryz.underlying101 rowX Tryz.underlying181 Tryz.underlying202 rfl rfl Tryz.underlying9 Zi5 Zi6 hd3 ok3
 obtain ⟨a4, s4, rfl, hc4, _, _, rfl⟩ := errorString_of_trod Tryz.underlying101 rowX Tryz.underlying181 Tryz.underlying202 rfl rfl Tryz.underlying9 Zi5 Zi6 hd4 ok4
 have b0 := (hrows a0.block a0.off (by simp [MemPlace.row])).1
 have b1 := (hrows a1.block a1.off (by simp [MemPlace.row])).1
 have b2 := (hrows a2.block a2.off (by simp [MemPlace.row])).1
 have b3 := (hrows a3.block a3.off (by simp [MemPlace.row])).1
 have b4 := (hrows a4.block a4.off (by simp [MemPlace.row])).1
 have hnd := (List.nodup_append.1 (List.nodup_append.1 (List.nodup_append.1 hnd).2.1).2.1).2.1
 have n01 : a1 ≠ a0 := by rintro rfl; simp [MemPlace.row] at hnd
 have n02 : a2 ≠ a0 := by rintro rfl; simp [MemPlace.row] at hnd
 have n03 : a3 ≠ a0 := by rintro rfl; simp [MemPlace.row] at hnd
 have n04 : a4 ≠ a0 := by rintro rfl; simp [MemPlace.row] at hnd
 refine ⟨fun k => if k = 0 then a0 else if k = 1 then a1 else if k = 2 then a2 else if k = 3 then a3 else a4, ?_⟩
 exact {
  tab := hM
  gt := hT
  g0 := by simpa [eS] using World.var?_cell gn0 hv0 0
  g1 := by simpa [eS] using World.var?_cell gn1 hv1 0
  g2 := by simpa [eS] using World.var?_cell gn2 hv2 0
  g3 := by simpa [eS] using World.var?_cell gn3 hv3 0
  g4 := by simpa [eS] using World.var?_cell gn4 hv4 0
  f0 := fun t ht => (hF t ht).1
  f1 := fun t ht => (hF t ht).2.1
  f2 := fun t ht => (hF t ht).2.2.1
  f3 := fun t ht => (hF t ht).2.2.2.1
  f4 := fun t ht => (hF t ht).2.2.2.2
  nine := hM.lt
  blk := by
   intro k hk
   rcases (by omega : k = 0 ∨ k = 1 ∨ k = 2 ∨ k = 3 ∨ k = 4) with rfl | rfl | rfl | rfl | rfl
   ·exact b0
   ·exact b1
   ·exact b2
   ·exact b3
   ·exact b4
  ne := by
   intro k h1 h4
   rcases (by omega : k = 1 ∨ k = 2 ∨ k = 3 ∨ k = 4) with rfl | rfl | rfl | rfl
   ·exact n01
   ·exact n02
   ·exact n03
   ·exact n04 }
theorem Yb8 {H : Type} {enc : TypeId × Value → H} {W : World} {v : Value} {d : DataW H} {ps : List MemPlace} {base : Nat} (hv : Value.okWide Tryz.prog W .any base 25 v)
  (h : DataW.Trod enc Tryz.prog W 0 (fun _ => true) true 25 v d ps) (hlt : ∀ x ∈ ps, x.block < W.heap.size) {ts : List TypeId} {ds : List (DataW H)} (hsz : (DataW.weightsEach Tryz.prog ts ds).all (· ≤ reachBytes) = true) {j : Nat} (ht : ts[j]? = some 25) (hd : ds[j]? = some d) :
  ∃ m, MatV W W.heap.size v m ∧ Lim m := by
 obtain ⟨cs, rfl, _⟩ := okWide_struct Tryz.underlying25 hv
 obtain ⟨fuel, hf⟩ := h
 obtain ⟨c0, c1, c2, c3, c4, c5, m, hc, hm, hl⟩ := Zr3 _ d fuel _ ps (Nat.le_refl _) hf hlt (fun n hn => by
  have := List.all_eq_true.1 hsz n (DataW.weights_mem_each ht hd n hn)
  simpa using this)
 obtain ⟨cl⟩ := cs
 have hc' : cl = [c0, c1, c2, c3, c4, c5] := hc
 subst hc'
 exact ⟨m, hm, hl⟩
theorem Xj0 (os : Os) (args : Array Value) : laidMetH Tryz.prog laidQ ((World.doorLaid Tryz.prog 400 os).forCall (fun _ _ => 0) ⟨#[], args, []⟩).memory :=
 laidMetH_of_parts (laidMet_of_run' 8 (by kernel_rfl) (by kernel_rfl)) (by kernel_rfl)
end Wp
end Go.Proofs.YtgadbnbhgpehjaaGreatDoor
