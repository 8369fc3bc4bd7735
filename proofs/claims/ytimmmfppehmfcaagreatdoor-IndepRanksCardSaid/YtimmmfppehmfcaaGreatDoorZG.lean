/- What the library's listed tables give the walks; and a world that holds them. The last step of each law's row: what was there before is as it was, so the arguments read as they read. What came in as an argument reads as it did; an integer's bounds. A list of lists of integers that came in as an argument, as the walks take it. A matroid that came in as an argument, as the walks take it; how much of it there may be. What the nine listed package-level variables give the walks; and a world that holds them. -/
import Derived.Test.YtimmmfppehmfcaaGreatDoorCards
import Derived.Test.YtimmmfppehmfcaaGreatDoorTie
import Derived.Test.YtimmmfppehmfcaaGreatDoorMKit
import Derived.WalkKit
import Derived.ProofKit
import Derived.OpenShut
import Derived.LaidMore
import Derived.LaidHandle
import Derived.LaidLaws
import Derived.RowKitTokens
import Derived.Stop.Joined
import Derived.Stop.LaidErr
import Derived.Deep.DeepHandedRow
import Derived.Deep.DeepWitnessRowRef
import Derived.Lib.LaidU8
import Derived.ChangeSame
import Derived.Carry
import Derived.ChangeSlices
import Derived.WideKeyPair
import Derived.RowKit
import Derived.Test.YtimmmfppehmfcaaGreatDoorLRows
import Derived.Deep.Slices
import Derived.Test.YtimmmfppehmfcaaGreatDoorQMem
import Derived.Deep.Fields
import Derived.SizedLaws
namespace Go.Proofs.YtimmmfppehmfcaaGreatDoor
open Go.ChangeShapes Go.WideShapes Go.ChangeAt Go.RowKit
namespace Wp

theorem own : ownKnob Tryz.prog.godebug = none := by kernel_rfl
theorem gn64 : Tryz.prog.globalNamed "math/bits.deBruijn64tab" = some 8 := by kernel_rfl
theorem gt64 : (Tryz.prog.globals[8]?).map (·.type) = some 154 := by kernel_rfl
theorem cellsU8 : Tryz.prog.cellsOf 5 = 1 := by kernel_rfl

/-- The list of the rows of this seat. -/
def laidM : List (String × DataW Unit) := [("math/bits.deBruijn32tab", Rows.laid_math_bits_deBruijn32tab), ("math/bits.deBruijn64tab", Rows.laid_math_bits_deBruijn64tab)]

set_option maxRecDepth 100000 in
theorem met_of_laid {W : World} (hL : laidMetH Tryz.prog laidM W) : Met W := by
  have h' : laidMet Tryz.prog laidM W := hL
  obtain ⟨g, t, cs, fuel, p, hg, ht, hv, hd⟩ := Lib.laidMet.reads h' (n := "math/bits.deBruijn64tab") (d := Rows.laid_math_bits_deBruijn64tab) (by unfold laidM; simp)
  obtain rfl := Option.some.inj (gn64.symm.trans hg)
  obtain rfl := Option.some.inj (gt64.symm.trans ht)
  have hd' : DataW.trod (fun _ => ()) Tryz.prog W 0 (fun _ => true) false fuel 154 cs.toList = some (.agg (Lib.deBruijn64tab.map fun z : Nat => DataW.lit (.int .u8 (z : Int))), p) := hd
  have key : ∀ i, i < 64 → W.cell? ⟨8, i, none⟩ = some (.int .u8 (Lib.deBruijn64tab.getD i 0 : Nat)) := by
    intro i hi
    obtain ⟨f', d, q, h1, h2⟩ := Lib.array_elem Tryz.underlying154 hd' i hi
    rw [cellsU8, Nat.mul_one] at h2
    obtain ⟨z, hz, hdq, _⟩ := DataW.trod_int Tryz.underlying5 h2
    obtain rfl : d = .lit (.int .u8 z) := congrArg Prod.fst hdq
    have h3 : cs.toList[i]? = some (.int .u8 z) := by
      have := congrArg (·[0]?) hz
      simpa [List.getElem?_take, List.getElem?_drop] using this
    have h4 : i < Lib.deBruijn64tab.length := hi
    rw [List.getElem?_map, List.getElem?_eq_getElem h4] at h1
    simp only [Option.map_some, Option.some.injEq, DataW.lit.injEq, Lit.int.injEq, true_and] at h1
    have h5 := World.var?_cell gn64 hv i
    rw [h5, ← Array.getElem?_toList, h3, ← h1]
    simp [List.getD, h4]
  refine ⟨?_, key⟩
  rcases Nat.lt_or_ge 8 W.heap.size with h | h
  · exact h
  · have := key 0 (by decide)
    simp [World.cell?, Array.getElem?_eq_none h] at this

/-- The heap that the program's own start leaves holds the list. -/
theorem door_met (os : Os) (args : Array Value) : laidMetH Tryz.prog laidM ((World.doorLaid Tryz.prog 400 os).forCall (fun _ _ => 0) ⟨#[], args, []⟩).memory :=
  laidMetH_of_parts (laidMet_of_run' 8 (by kernel_rfl) (by kernel_rfl)) (by kernel_rfl)

end Wp
end Go.Proofs.YtimmmfppehmfcaaGreatDoor

namespace Go.Proofs.YtimmmfppehmfcaaGreatDoor
open Go.ChangeShapes Go.WideShapes Go.ChangeAt Go.RowKit
namespace Wp

section
variable {H : Type} {enc : TypeId × Value → H} {P : Program}
theorem post_of_below {f : Func} {s : ChangeSpec} {apart fresh handsOn again : Bool} {W W' : World} {args : Array Value} {v : Value} {ds gs : List (DataW H)} {before pa pv : List MemPlace}
    (hW : DataW.Whole enc P f.params.toList s.vars apart W args.toList ds gs before)
    (hres : ∀ (b : Nat) (sp : Nat → Bool) (hd : Bool), DataW.TrodAll enc P W' b sp hd f.resultTypes.toList (v.resultList f.resultTypes.size) (s.fn H (ds ++ gs)).results [])
    (hargs : ∀ sp : Nat → Bool, (∀ p ∈ before, sp p.block = true) → DataW.TrodAll enc P W' 0 sp true f.params.toList args.toList (s.fn H (ds ++ gs)).args pa)
    (hvars : ∀ sp : Nat → Bool, (∀ p ∈ before, sp p.block = true) → DataW.TrodVars enc P W' sp s.vars (s.fn H (ds ++ gs)).vars pv)
    (hps : before = pa ++ pv) (hb : Below W.heap.size W W')
    (hok : ∀ (j : Nat) (t : TypeId) (r : Value), f.resultTypes[j]? = some t → (v.resultList f.resultTypes.size)[j]? = some r → Value.okWide P W' .any 0 t r) :
    s.post enc P f apart fresh handsOn again W args v W' := by
  have hlt : ∀ p ∈ before, p.block < W.heap.size := fun p hp => hW.lt p hp
  have hold : ∀ p ∈ before, (fun b => decide (b < W.heap.size)) p.block = true := fun p hp => by simpa using hlt p hp
  refine ⟨ds, gs, before, [], pa, pv, hW, hres _ _ _, hargs _ hold, hvars _ hold, World.keptBut_mono (fun p hp => ⟨hp, ?_⟩) (hb.frame (· ∈ before)), fun _ => ?_⟩
  · rw [hps, List.mem_append] at hp
    exact Or.inr hp
  · obtain ⟨_, _, _, _, _, hz, hn⟩ := hW
    refine ⟨hok, _, _, ([] ++ pa) ++ pv, ⟨[] ++ pa, pv, trodAll_append (hargs _ (fun _ _ => rfl)) (hres _ _ _), hvars _ (fun _ _ => rfl), rfl, ?_, ?_⟩, ?_⟩
    · intro b off hp
      have hin : MemPlace.cell b off ∈ before := by rw [hps]; simpa using hp
      rw [hb.frozen (hlt _ hin)]
      exact hz b off hin
    · intro ha
      have := hn ha
      rw [hps] at this
      simpa using this
    · intro p hp _
      rw [hps]
      simpa using hp
end

end Wp
end Go.Proofs.YtimmmfppehmfcaaGreatDoor

namespace Go.Proofs.YtimmmfppehmfcaaGreatDoor
open Go.ChangeShapes Go.WideShapes Go.ChangeAt Go.RowKit
namespace Wp

theorem laidOut : laidOutB Tryz.prog = true := by kernel_rfl

theorem int_le {n : Int} (h : (Lit.int .i64 n).wf = true) : n ≤ 9223372036854775807 := by
  simp [Lit.wf] at h
  omega

theorem arg_stays {H : Type} {enc : TypeId × Value → H} {W W' : World} {t : TypeId} {v : Value} {d : DataW H} {ps : List MemPlace} (hr : Tryz.prog.readableRec t = true) (hrow : t < Tryz.prog.types.size)
    (h : DataW.Trod enc Tryz.prog W 0 (fun _ => true) true t v d ps) (hb : Below W.heap.size W W') (hlt : ∀ x ∈ ps, x.block < W.heap.size) (sp : Nat → Bool) (hsp : ∀ x ∈ ps, sp x.block = true) :
    DataW.Trod enc Tryz.prog W' 0 sp true t v d ps :=
  WideElems.Trod_stays laidOut hr hrow h (fun x hx => hb.same (hlt x hx)) hsp

end Wp
end Go.Proofs.YtimmmfppehmfcaaGreatDoor

namespace Go.Proofs.YtimmmfppehmfcaaGreatDoor
open Go.ChangeShapes Go.WideShapes Go.ChangeAt Go.RowKit
namespace Wp

theorem cellsI : Tryz.prog.cellsOf 3 = 1 := by kernel_rfl
theorem cellsL : Tryz.prog.cellsOf 26 = 1 := by kernel_rfl

set_option maxRecDepth 100000 in
/-- A cell that reads as a list of integers holds one. -/
theorem row_of_trod {H : Type} {enc : TypeId × Value → H} {W : World} {u : Value} {d : DataW H} {ps : List MemPlace} {fuel : Nat}
    (hf : DataW.trod enc Tryz.prog W 0 (fun _ => true) true fuel 26 [u] = some (d, ps)) (hlt : ∀ x ∈ ps, x.block < W.heap.size) : ∃ zs, Row W W.heap.size u zs := by
  rcases open_ints Tryz.underlying26 Tryz.underlying3 cellsI hf with ⟨hcs, hx⟩ | ⟨a, len, cap, zs, hcs, _, hl, hm, hz, hx, hcell, hwz⟩
  · injection hcs with hcs _
    subst hcs
    exact ⟨[], none, 0, rfl, ⟨Nat.le_refl _, by decide, fun _ => rfl⟩, fun k hk => absurd hk (by simp)⟩
  · injection hcs with hcs _
    subst hcs
    simp only [Prod.mk.injEq] at hx
    obtain ⟨_, rfl⟩ := hx
    simp only [if_true] at hz
    have hlen : (zs.take len).length = len := by rw [List.length_take]; omega
    refine ⟨zs.take len, some a, cap, by rw [hlen], ⟨by rw [hlen]; exact hl, hm, fun e => by cases e⟩, fun k hk => ⟨a, rfl, ?_, ?_⟩⟩
    · exact hlt (.cell a.block a.off) (MemPlace.mem_row.2 ⟨0, by omega, by simp⟩)
    · rw [hcell k (by omega)]
      congr 2
      rw [hlen] at hk
      simp [List.getD, hk]

set_option maxRecDepth 100000 in
theorem rows2_of_arg {H : Type} {enc : TypeId × Value → H} {W : World} {v : Value} {d : DataW H} {ps : List MemPlace} {base : Nat} (hv : Value.okWide Tryz.prog W .any base 22 v)
    (h : DataW.Trod enc Tryz.prog W 0 (fun _ => true) true 22 v d ps) (hlt : ∀ x ∈ ps, x.block < W.heap.size) : ∃ pp, Rows2 W W.heap.size v pp := by
  obtain ⟨a0, len, cap, rfl⟩ := okWide_slice Tryz.underlying22 hv
  obtain ⟨fuel, hf⟩ := h
  rcases Go.Deep.open_slice1 Tryz.underlying22 cellsL hf with ⟨hcs, _⟩ | ⟨a, len', cap', m, n, V, D, Pl, hcs, _, hl, hm, hmm, hx, hcell⟩
  · simp [Value.cells] at hcs
    obtain ⟨rfl, rfl, rfl⟩ := hcs
    exact ⟨[], none, 0, rfl, ⟨Nat.le_refl _, by decide, fun _ => rfl⟩, fun k hk => absurd hk (by simp)⟩
  · simp [Value.cells] at hcs
    obtain ⟨rfl, rfl, rfl⟩ := hcs
    simp only [if_true] at hmm
    subst hmm
    simp only [Prod.mk.injEq] at hx
    have hblk : 0 < m → a.block < W.heap.size := fun h0 => hlt (.cell a.block a.off) (by
      rw [hx.2]
      exact List.mem_append.2 (.inl (MemPlace.mem_row.2 ⟨0, by omega, by simp⟩)))
    obtain ⟨q, hq⟩ := Go.Deep.choose_lt (α := List Int) (n := m) (p := fun i zs => Row W W.heap.size (V i) zs) (fun i hi => by
      obtain ⟨_, h2⟩ := hcell i hi
      exact row_of_trod h2 fun x hx' => hlt x (by
        rw [hx.2]
        exact List.mem_append.2 (.inr (List.mem_flatMap.2 ⟨i, List.mem_range.2 hi, hx'⟩))))
    refine ⟨(List.range len).map q, some a, m, by simp, ⟨by simpa using hl, hm, fun e => by cases e⟩, fun k hk => ⟨a, V k, rfl, ?_, ?_, ?_⟩⟩
    · simp at hk
      exact hblk (by omega)
    · simp at hk
      exact (hcell k (by omega)).1
    · simp at hk
      have := hq k (by omega)
      simpa [List.getD, hk] using this

set_option maxRecDepth 100000 in
theorem row_of_arg {H : Type} {enc : TypeId × Value → H} {W : World} {v : Value} {d : DataW H} {ps : List MemPlace} {base : Nat} (hv : Value.okWide Tryz.prog W .any base 26 v)
    (h : DataW.Trod enc Tryz.prog W 0 (fun _ => true) true 26 v d ps) (hlt : ∀ x ∈ ps, x.block < W.heap.size) : ∃ zs, Row W W.heap.size v zs := by
  obtain ⟨a0, len, cap, rfl⟩ := okWide_slice Tryz.underlying26 hv
  obtain ⟨fuel, hf⟩ := h
  rcases open_ints Tryz.underlying26 Tryz.underlying3 cellsI hf with ⟨hcs, hx⟩ | ⟨a, len', cap', zs, hcs, _, hl, hm, hz, hx, hcell, hwz⟩
  · simp [Value.cells] at hcs
    obtain ⟨rfl, rfl, rfl⟩ := hcs
    exact ⟨[], none, 0, rfl, ⟨Nat.le_refl _, by decide, fun _ => rfl⟩, fun k hk => absurd hk (by simp)⟩
  · simp [Value.cells] at hcs
    obtain ⟨rfl, rfl, rfl⟩ := hcs
    simp only [Prod.mk.injEq] at hx
    obtain ⟨_, rfl⟩ := hx
    simp only [if_true] at hz
    have hlen : (zs.take len).length = len := by rw [List.length_take]; omega
    refine ⟨zs.take len, some a, cap, by rw [hlen], ⟨by rw [hlen]; exact hl, hm, fun e => by cases e⟩, fun k hk => ⟨a, rfl, ?_, ?_⟩⟩
    · have h1 := hlt (.cell a.block a.off) (MemPlace.mem_row.2 ⟨0, by omega, by simp⟩)
      exact h1
    · rw [hcell k (by omega)]
      congr 2
      rw [hlen] at hk
      simp [List.getD, hk]

end Wp
end Go.Proofs.YtimmmfppehmfcaaGreatDoor

namespace Go.Proofs.YtimmmfppehmfcaaGreatDoor
open Go.ChangeShapes Go.WideShapes Go.ChangeAt Go.RowKit
namespace Wp

/-- No more in any list than the reach has room for. -/
inductive Lim : Mat → Prop
  | mk {t n a b : Int} {l : List (List Int)} {i : List Mat} (h1 : l.length ≤ 140737488355328) (h2 : ∀ r ∈ l, r.length ≤ 140737488355328) (h3 : i.length ≤ 140737488355328) (h4 : ∀ x ∈ i, Lim x) : Lim (.mk t n a b l i)

theorem weights_all {H : Type} {P : Program} {e : TypeId} {d : DataW H} : ∀ {l : List (DataW H)}, d ∈ l → ∀ n ∈ d.weights P e, n ∈ DataW.weightsAll P e l
  | x :: r, hd, n, hn => by
    simp only [DataW.weightsAll, List.mem_append]
    rcases List.mem_cons.1 hd with rfl | h
    · exact .inl hn
    · exact .inr (weights_all h n hn)

section
variable {H : Type} {enc : TypeId × Value → H} {P : Program} {w : World} {base : Nat} {spare : Nat → Bool} {held : Bool}
/-- Of a struct of fields of one cell each: each cell by itself. -/
theorem trod_cellwise {t : TypeId} {fs : Array Field} {fuel : Nat} {cs : List Value} {x : DataW H × List MemPlace} (hs : P.underlying t = some (.struct fs)) (hone : Go.Deep.oneCellFields P fs = true) (hC : P.cellsOf t = fs.size)
    (h : DataW.trod enc P w base spare held fuel t cs = some x) :
    ∃ (ys : List (DataW H × List MemPlace)) (n : Nat), x = (.agg (ys.map (·.1)), ys.flatMap (·.2)) ∧ ys.length = fs.size ∧ cs.length = fs.size ∧ ∀ (j : Nat) (f : Field) (c : Value), fs[j]? = some f → cs[j]? = some c → DataW.trod enc P w base spare held n f.type [c] = ys[j]? := by
  obtain ⟨ys, n, _, hx, hl, hy, hf⟩ := DataW.trod_struct hs h
  refine ⟨ys, n, hx, hy, hl.trans hC, fun j f c hj hc => ?_⟩
  obtain ⟨ho, hk⟩ := Go.Deep.hone_of hone j f hj
  have h1 := hf j f hj
  rw [ho, hk] at h1
  rw [← h1]
  congr 1
  obtain ⟨hlt, rfl⟩ := List.getElem?_eq_some_iff.1 hc
  rw [List.drop_eq_getElem_cons hlt]
  rfl
end

theorem cellsMat : Tryz.prog.cellsOf 25 = 6 := by kernel_rfl
theorem bytesI : Tryz.prog.bytesOf 3 = 8 := by kernel_rfl
theorem bytesL : Tryz.prog.bytesOf 26 = 24 := by kernel_rfl
theorem bytesMat : 1 ≤ Tryz.prog.bytesOf 25 := by decide +kernel

/-- A row's length, by its datum. -/
theorem row_lim {H : Type} {enc : TypeId × Value → H} {W : World} {u : Value} {d : DataW H} {ps : List MemPlace} {fuel : Nat} {zs : List Int} {B : Nat}
    (hf : DataW.trod enc Tryz.prog W 0 (fun _ => true) true fuel 26 [u] = some (d, ps)) (hr : Row W B u zs) (hw : ∀ n ∈ d.weights Tryz.prog 26, n ≤ reachBytes) : zs.length ≤ 140737488355328 := by
  obtain ⟨A, c, rfl, _⟩ := hr
  rcases Go.Deep.open_slice1 Tryz.underlying26 cellsI hf with ⟨hcs, _⟩ | ⟨a, len, cap, m, n, V, D, Pl, hcs, _, _, _, _, hx, _⟩
  · simp at hcs
    omega
  · simp at hcs
    obtain ⟨_, rfl, _⟩ := hcs
    simp only [Prod.mk.injEq] at hx
    have h1 := hw ((zs.length + (m - zs.length)) * 8) (by rw [hx.1]; simp [DataW.weights, Tryz.underlying26, bytesI])
    have hr := reachBytes_lt
    omega

set_option maxRecDepth 100000 in
theorem rows2_lim {H : Type} {enc : TypeId × Value → H} {W : World} {v : Value} {d : DataW H} {ps : List MemPlace} {fuel : Nat}
    (hf : DataW.trod enc Tryz.prog W 0 (fun _ => true) true fuel 22 [v] = some (d, ps)) (hlt : ∀ x ∈ ps, x.block < W.heap.size) (hw : ∀ n ∈ d.weights Tryz.prog 22, n ≤ reachBytes) :
    ∃ pp, Rows2 W W.heap.size v pp ∧ pp.length ≤ 140737488355328 ∧ ∀ r ∈ pp, r.length ≤ 140737488355328 := by
  rcases Go.Deep.open_slice1 Tryz.underlying22 cellsL hf with ⟨hcs, _⟩ | ⟨a, len, cap, m, n, V, D, Pl, hcs, _, hl, hm, hmm, hx, hcell⟩
  · simp at hcs
    subst hcs
    exact ⟨[], ⟨none, 0, rfl, ⟨Nat.le_refl _, by decide, fun _ => rfl⟩, fun k hk => absurd hk (by simp)⟩, by simp, fun r hr => by cases hr⟩
  · simp at hcs
    subst hcs
    simp only [if_true] at hmm
    subst hmm
    simp only [Prod.mk.injEq] at hx
    have hblk : 0 < m → a.block < W.heap.size := fun h0 => hlt (.cell a.block a.off) (by
      rw [hx.2]
      exact List.mem_append.2 (.inl (MemPlace.mem_row.2 ⟨0, by omega, by simp⟩)))
    have hall : ∀ n ∈ DataW.weights Tryz.prog 22 (.slice ((List.range len).map D) ((List.range (m - len)).map fun j => D (len + j))), n ≤ reachBytes := by rw [← hx.1]; exact hw
    obtain ⟨q, hq⟩ := Go.Deep.choose_lt (α := List Int) (n := len) (p := fun i zs => Row W W.heap.size (V i) zs ∧ zs.length ≤ 140737488355328) (fun i hi => by
      obtain ⟨_, h2⟩ := hcell i (by omega)
      obtain ⟨zs, hr⟩ := row_of_trod h2 fun x hx' => hlt x (by
        rw [hx.2]
        exact List.mem_append.2 (.inr (List.mem_flatMap.2 ⟨i, List.mem_range.2 (by omega), hx'⟩)))
      refine ⟨zs, hr, row_lim h2 hr fun n hn => hall n ?_⟩
      simp only [DataW.weights, Tryz.underlying22]
      exact List.mem_cons_of_mem _ (List.mem_append.2 (.inl (weights_all (List.mem_map.2 ⟨i, List.mem_range.2 hi, rfl⟩) n hn))))
    refine ⟨(List.range len).map q, ⟨some a, m, by simp, ⟨by simpa using hl, hm, fun e => by cases e⟩, fun k hk => ⟨a, V k, rfl, ?_, ?_, ?_⟩⟩, ?_, ?_⟩
    · simp at hk
      exact hblk (by omega)
    · simp at hk
      exact (hcell k (by omega)).1
    · simp at hk
      have := (hq k (by omega)).1
      simpa [List.getD, hk] using this
    · have h1 := hall ((len + (m - len)) * 24) (by simp [DataW.weights, Tryz.underlying22, bytesL])
      have hr := reachBytes_lt
      simp
      omega
    · intro r hr
      obtain ⟨i, hi, rfl⟩ := List.mem_map.1 hr
      exact (hq i (List.mem_range.1 hi)).2

set_option maxHeartbeats 1000000 in
set_option maxRecDepth 100000 in
theorem mat_of_trod {H : Type} {enc : TypeId × Value → H} {W : World} : ∀ (N : Nat) (d : DataW H) (fuel : Nat) (cs : List Value) (ps : List MemPlace), SizeOf.sizeOf d ≤ N →
    DataW.trod enc Tryz.prog W 0 (fun _ => true) true fuel 25 cs = some (d, ps) → (∀ x ∈ ps, x.block < W.heap.size) → (∀ n ∈ d.weights Tryz.prog 25, n ≤ reachBytes) →
    ∃ (c0 c1 c2 c3 c4 c5 : Value) (m : Mat), cs = [c0, c1, c2, c3, c4, c5] ∧ MatV W W.heap.size (.agg #[c0, c1, c2, c3, c4, c5]) m ∧ Lim m := by
  intro N
  induction N with
  | zero => intro d fuel cs ps hN; cases d <;> simp at hN
  | succ N ih =>
    intro d fuel cs ps hN h hlt hw
    obtain ⟨ys, n, hx, hy, hc, hf⟩ := trod_cellwise Tryz.underlying25 (by kernel_rfl) (by kernel_rfl) h
    match ys, hy, cs, hc with
    | [y0, y1, y2, y3, y4, y5], _, [c0, c1, c2, c3, c4, c5], _ =>
      have t0 := hf 0 _ c0 rfl rfl
      have t1 := hf 1 _ c1 rfl rfl
      have t2 := hf 2 _ c2 rfl rfl
      have t3 := hf 3 _ c3 rfl rfl
      have t4 := hf 4 _ c4 rfl rfl
      have t5 := hf 5 _ c5 rfl rfl
      simp only [Prod.mk.injEq] at hx
      obtain ⟨hd, hp⟩ := hx
      subst hd hp
      obtain ⟨x0, e0, _⟩ := DataW.trod_int Tryz.underlying3 t0
      obtain ⟨x1, e1, _⟩ := DataW.trod_int Tryz.underlying3 t1
      obtain ⟨x2, e2, _⟩ := DataW.trod_int Tryz.underlying3 t2
      obtain ⟨x3, e3, _⟩ := DataW.trod_int Tryz.underlying3 t3
      simp at e0 e1 e2 e3
      subst e0 e1 e2 e3
      have hwe : ∀ n ∈ DataW.weightsEach Tryz.prog [3, 3, 3, 3, 22, 23] [y0.1, y1.1, y2.1, y3.1, y4.1, y5.1], n ≤ reachBytes := by
        intro n hn
        refine hw n ?_
        simp only [DataW.weights, Tryz.underlying25]
        exact hn
      obtain ⟨l, hl, hll, hlr⟩ := rows2_lim (v := c4) (d := y4.1) (ps := y4.2) (fuel := n) t4 (fun x hx => hlt x (by simp [hx])) (fun n hn => hwe n (DataW.weights_mem_each (j := 4) (t := 22) (d := y4.1) rfl rfl n hn))
      have hw5 : ∀ n ∈ y5.1.weights Tryz.prog 23, n ≤ reachBytes := fun n hn => hwe n (DataW.weights_mem_each (j := 5) (t := 23) (d := y5.1) rfl rfl n hn)
      have hlt5 : ∀ x ∈ y5.2, x.block < W.heap.size := fun x hx => hlt x (by simp [hx])
      obtain ⟨d5, p5⟩ := y5
      rcases Go.Deep.open_slice Tryz.underlying23 t5 with ⟨hcs, _⟩ | ⟨a, len, cap, m, n', D, Pl, hcs, _, hle, hcap, hmm, hx, hcell⟩
      · simp at hcs
        subst hcs
        exact ⟨_, _, _, _, _, _, _, rfl, MatV.shut (t := x0) (n := x1) (a := x2) (b := x3) hl (MatL.nil_ _ _), .mk hll hlr (by simp) (fun x hx => by cases hx)⟩
      · simp at hcs
        subst hcs
        simp only [if_true] at hmm
        subst hmm
        simp only [Prod.mk.injEq] at hx
        obtain ⟨rfl, rfl⟩ := hx
        rw [cellsMat] at hcell hlt5
        have hblk : 0 < m → a.block < W.heap.size := fun h0 => hlt5 (.cell a.block a.off) (List.mem_append.2 (.inl (MemPlace.mem_row.2 ⟨0, by omega, by simp⟩)))
        have hin : ∀ i, i < len → ∃ um : Value × Mat, SixV W (a.add (i * 6)) um.1 ∧ MatV W W.heap.size um.1 um.2 ∧ Lim um.2 := by
          intro i hi
          obtain ⟨cs', h1, h2⟩ := hcell i (by omega)
          have hmem : D i ∈ (List.range len).map D := List.mem_map.2 ⟨i, List.mem_range.2 hi, rfl⟩
          have hsz : SizeOf.sizeOf (D i) ≤ N := by
            have s1 := List.sizeOf_lt_of_mem hmem
            simp at hN
            omega
          obtain ⟨z0, z1, z2, z3, z4, z5, mm, rfl, hm1, hm2⟩ := ih (D i) n' cs' (Pl i) hsz h2 (fun x hx => hlt5 x (List.mem_append.2 (.inr (List.mem_flatMap.2 ⟨i, List.mem_range.2 (by omega), hx⟩)))) (fun k hk => hw5 k (by
            simp only [DataW.weights, Tryz.underlying23]
            exact List.mem_cons_of_mem _ (List.mem_append.2 (.inl (weights_all hmem k hk)))))
          obtain ⟨_, _, hat⟩ := World.cells?_some h1
          have g0 := hat 0 (by decide)
          have g1 := hat 1 (by decide)
          have g2 := hat 2 (by decide)
          have g3 := hat 3 (by decide)
          have g4 := hat 4 (by decide)
          have g5 := hat 5 (by decide)
          rw [add_zero] at g0
          refine ⟨(.agg #[z0, z1, z2, z3, z4, z5], mm), ⟨z0, z1, z2, z3, z4, z5, rfl, by simpa using g0, ?_, ?_, ?_, ?_, ?_⟩, hm1, hm2⟩
          · simpa [Addr.add] using g1
          · simpa [Addr.add] using g2
          · simpa [Addr.add] using g3
          · simpa [Addr.add] using g4
          · simpa [Addr.add] using g5
        obtain ⟨q, hq⟩ := Go.Deep.choose_lt (α := Value × Mat) (n := len) (p := fun i um => SixV W (a.add (i * 6)) um.1 ∧ MatV W W.heap.size um.1 um.2 ∧ Lim um.2) hin
        refine ⟨_, _, _, _, _, _, .mk x0 x1 x2 x3 l ((List.range len).map fun i => (q i).2), rfl, MatV.shut hl ⟨some a, m, by simp, ⟨by simpa using hle, hcap, fun e => by cases e⟩, fun k hk => ⟨a, (q k).1, rfl, ?_, ?_, ?_⟩⟩, .mk hll hlr ?_ ?_⟩
        · simp at hk
          exact hblk (by omega)
        · simp at hk
          exact (hq k hk).1
        · simp at hk
          have := (hq k hk).2.1
          simpa [List.getD, hk] using this
        · have h1 := hw5 ((len + (m - len)) * Tryz.prog.bytesOf 25) (by simp [DataW.weights, Tryz.underlying23])
          have hr := reachBytes_lt
          have hb := Nat.mul_le_mul_left (len + (m - len)) bytesMat
          simp
          omega
        · intro x hx
          obtain ⟨i, hi, rfl⟩ := List.mem_map.1 hx
          exact (hq i (List.mem_range.1 hi)).2.2

end Wp
end Go.Proofs.YtimmmfppehmfcaaGreatDoor

namespace Go.Proofs.YtimmmfppehmfcaaGreatDoor
open Go.ChangeShapes Go.WideShapes Go.ChangeAt Go.RowKit
namespace Wp

theorem et : Tryz.prog.globalNamed "errors.errorType" = some 1 := by kernel_rfl
theorem gnF : Tryz.prog.globalNamed "greenwood/matroid.forms" = some 4 := by kernel_rfl
theorem gtF : (Tryz.prog.globals[4]?).map (·.type) = some 113 := by kernel_rfl
theorem gn32 : Tryz.prog.globalNamed "math/bits.deBruijn32tab" = some 7 := by kernel_rfl
theorem gn0 : Tryz.prog.globalNamed "greenwood/matroid.errDeep" = some 0 := by kernel_rfl
theorem gn1 : Tryz.prog.globalNamed "greenwood/matroid.errKind" = some 2 := by kernel_rfl
theorem gn2 : Tryz.prog.globalNamed "greenwood/matroid.errMany" = some 3 := by kernel_rfl
theorem gn3 : Tryz.prog.globalNamed "greenwood/matroid.errForm" = some 5 := by kernel_rfl
theorem gn4 : Tryz.prog.globalNamed "greenwood/matroid.errFit" = some 6 := by kernel_rfl
theorem gt0 : (Tryz.prog.globals[0]?).map (·.type) = some 64 := by kernel_rfl
theorem gt1 : (Tryz.prog.globals[2]?).map (·.type) = some 64 := by kernel_rfl
theorem gt2 : (Tryz.prog.globals[3]?).map (·.type) = some 64 := by kernel_rfl
theorem gt3 : (Tryz.prog.globals[5]?).map (·.type) = some 64 := by kernel_rfl
theorem gt4 : (Tryz.prog.globals[6]?).map (·.type) = some 64 := by kernel_rfl
theorem rtT : (Tryz.prog.cutTypes.find? (·.1 == "internal/reflectlite.rtype")).map (·.2) = some 125 := by kernel_rfl
theorem nTypes : Tryz.prog.types.size = 197 := by kernel_rfl
theorem oneRow : ((List.range 197).filter fun t => Tryz.prog.rowNamed t [101, 114, 114, 111, 114]) = [64] := by kernel_rfl
theorem cellsX : Tryz.prog.cellsOf 185 = 1 := by kernel_rfl
theorem cellsS : Tryz.prog.cellsOf 9 = 1 := by kernel_rfl
theorem cellsForm : Tryz.prog.cellsOf 112 = 5 := by kernel_rfl
theorem star : "*" ++ "errors.errorString" = "*errors.errorString" := by decide
theorem rowX (u : TypeId) (h : Tryz.prog.typeName? 3 u = some "*errors.errorString") : u = 164 :=
  typeName_ptr_named (nm := "errors.errorString") (by rw [star]; kernel_rfl) (by kernel_rfl) (by decide) u (by rw [star]; exact h)

/-- The list of the rows of this seat, and its plain part. -/
def laidQ : List (String × DataW Unit) := [("math/bits.deBruijn32tab", Rows.laid_math_bits_deBruijn32tab), ("math/bits.deBruijn64tab", Rows.laid_math_bits_deBruijn64tab), ("errors.errorType", Rows.laid_errors_errorType), ("greenwood/matroid.forms", Rows.laid_greenwood_matroid_forms), ("greenwood/matroid.errDeep", Rows.laid_greenwood_matroid_errDeep), ("greenwood/matroid.errKind", Rows.laid_greenwood_matroid_errKind), ("greenwood/matroid.errMany", Rows.laid_greenwood_matroid_errMany), ("greenwood/matroid.errForm", Rows.laid_greenwood_matroid_errForm), ("greenwood/matroid.errFit", Rows.laid_greenwood_matroid_errFit)]
def laidR : List (String × DataW Unit) := [("math/bits.deBruijn32tab", Rows.laid_math_bits_deBruijn32tab), ("math/bits.deBruijn64tab", Rows.laid_math_bits_deBruijn64tab), ("greenwood/matroid.forms", Rows.laid_greenwood_matroid_forms), ("greenwood/matroid.errDeep", Rows.laid_greenwood_matroid_errDeep), ("greenwood/matroid.errKind", Rows.laid_greenwood_matroid_errKind), ("greenwood/matroid.errMany", Rows.laid_greenwood_matroid_errMany), ("greenwood/matroid.errForm", Rows.laid_greenwood_matroid_errForm), ("greenwood/matroid.errFit", Rows.laid_greenwood_matroid_errFit)]
theorem laid_parts {W : World} (h : laidMetH Tryz.prog laidQ W) : laidMet Tryz.prog laidR W ∧ handlesMet Tryz.prog [("errors.errorType", Rows.laid_errors_errorType)] W := h

set_option maxRecDepth 100000 in
theorem handle_of_laid {W : World} (h : handlesMet Tryz.prog [("errors.errorType", Rows.laid_errors_errorType)] W) : W.cell? ⟨1, 0, none⟩ = some (.iface 125 (.agg #[.pointer (some ⟨9, 64, none⟩)])) := by
  obtain ⟨name, u, ty, e1, e2, e3, e4, e5⟩ := h _ (List.mem_singleton.2 rfl)
  have en : name = [101, 114, 114, 111, 114] := (Option.some.inj e1).symm
  subst en
  obtain rfl := Option.some.inj (rtT.symm.trans e2)
  have hm : ty ∈ (List.range 197).filter fun t => Tryz.prog.rowNamed t [101, 114, 114, 111, 114] := List.mem_filter.2 ⟨List.mem_range.2 (by rw [← nTypes]; exact e3), e4⟩
  rw [oneRow] at hm
  obtain rfl := List.mem_singleton.1 hm
  have hh : typeHandle Tryz.prog 64 = .pointer (some ⟨9, 64, none⟩) := by kernel_rfl
  rw [hh] at e5
  simpa using World.var?_cell et e5 0

set_option maxRecDepth 100000 in
theorem tab_of_laid {W : World} (h' : laidMet Tryz.prog laidR W) : Met W := by
  obtain ⟨g, t, cs, fuel, p, hg, ht, hv, hd⟩ := Lib.laidMet.reads h' (n := "math/bits.deBruijn64tab") (d := Rows.laid_math_bits_deBruijn64tab) (by unfold laidR; simp)
  obtain rfl := Option.some.inj (gn64.symm.trans hg)
  obtain rfl := Option.some.inj (gt64.symm.trans ht)
  have hd' : DataW.trod (fun _ => ()) Tryz.prog W 0 (fun _ => true) false fuel 154 cs.toList = some (.agg (Lib.deBruijn64tab.map fun z : Nat => DataW.lit (.int .u8 (z : Int))), p) := hd
  have key : ∀ i, i < 64 → W.cell? ⟨8, i, none⟩ = some (.int .u8 (Lib.deBruijn64tab.getD i 0 : Nat)) := by
    intro i hi
    obtain ⟨f', d, q, h1, h2⟩ := Lib.array_elem Tryz.underlying154 hd' i hi
    rw [cellsU8, Nat.mul_one] at h2
    obtain ⟨z, hz, hdq, _⟩ := DataW.trod_int Tryz.underlying5 h2
    obtain rfl : d = .lit (.int .u8 z) := congrArg Prod.fst hdq
    have h3 : cs.toList[i]? = some (.int .u8 z) := by
      have := congrArg (·[0]?) hz
      simpa [List.getElem?_take, List.getElem?_drop] using this
    have h4 : i < Lib.deBruijn64tab.length := hi
    rw [List.getElem?_map, List.getElem?_eq_getElem h4] at h1
    simp only [Option.map_some, Option.some.injEq, DataW.lit.injEq, Lit.int.injEq, true_and] at h1
    have h5 := World.var?_cell gn64 hv i
    rw [h5, ← Array.getElem?_toList, h3, ← h1]
    simp [List.getD, h4]
  refine ⟨?_, key⟩
  rcases Nat.lt_or_ge 8 W.heap.size with h | h
  · exact h
  · have := key 0 (by decide)
    simp [World.cell?, Array.getElem?_eq_none h] at this

/-- A form's datum. -/
def formD (f : Form) : DataW Unit := .agg [.lit (.bool f.fa), .lit (.bool f.fb), .lit (.int .i64 f.lists), .lit (.int .i64 f.least), .lit (.int .i64 f.most)]
theorem forms_are : Rows.laid_greenwood_matroid_forms = .agg ((List.range 10).map fun t : Nat => formD (form (t : Int))) := by rfl

set_option maxRecDepth 100000 in
theorem forms_of_laid {W : World} (h' : laidMet Tryz.prog laidR W) (t : Nat) (h : t < 10) :
    W.cell? ⟨4, t * 5, none⟩ = some (.bool (form t).fa) ∧ W.cell? ⟨4, t * 5 + 1, none⟩ = some (.bool (form t).fb) ∧ W.cell? ⟨4, t * 5 + 2, none⟩ = some (.int .i64 (form t).lists) ∧
      W.cell? ⟨4, t * 5 + 3, none⟩ = some (.int .i64 (form t).least) ∧ W.cell? ⟨4, t * 5 + 4, none⟩ = some (.int .i64 (form t).most) := by
  obtain ⟨g, ty, cs, fuel, p, hg, ht, hv, hd⟩ := Lib.laidMet.reads h' (n := "greenwood/matroid.forms") (d := Rows.laid_greenwood_matroid_forms) (by unfold laidR; simp)
  obtain rfl := Option.some.inj (gnF.symm.trans hg)
  obtain rfl := Option.some.inj (gtF.symm.trans ht)
  rw [forms_are] at hd
  obtain ⟨f', d, q, h1, h2⟩ := Lib.array_elem Tryz.underlying113 hd t h
  rw [cellsForm] at h2
  rw [List.getElem?_map, List.getElem?_range h] at h1
  obtain rfl := Option.some.inj h1
  obtain ⟨ys, n, hx, hy, hc, hf⟩ := trod_cellwise Tryz.underlying112 (by kernel_rfl) (by kernel_rfl) h2
  have hcell : ∀ j, j < 5 → ((cs.toList.drop (t * 5)).take 5)[j]? = W.cell? ⟨4, t * 5 + j, none⟩ := by
    intro j hj
    rw [World.var?_cell gnF hv, ← Array.getElem?_toList, List.getElem?_take, if_pos hj, List.getElem?_drop]
  generalize (cs.toList.drop (t * 5)).take 5 = l at *
  match ys, hy, l, hc with
  | [y0, y1, y2, y3, y4], _, [c0, c1, c2, c3, c4], _ =>
    have t0 := hf 0 _ c0 rfl rfl
    have t1 := hf 1 _ c1 rfl rfl
    have t2 := hf 2 _ c2 rfl rfl
    have t3 := hf 3 _ c3 rfl rfl
    have t4 := hf 4 _ c4 rfl rfl
    have q0 := hcell 0 (by decide)
    have q1 := hcell 1 (by decide)
    have q2 := hcell 2 (by decide)
    have q3 := hcell 3 (by decide)
    have q4 := hcell 4 (by decide)
    obtain ⟨b0, e0, r0⟩ := DataW.trod_bool Tryz.underlying4 t0
    obtain ⟨b1, e1, r1⟩ := DataW.trod_bool Tryz.underlying4 t1
    obtain ⟨x2, e2, r2, _⟩ := DataW.trod_int Tryz.underlying3 t2
    obtain ⟨x3, e3, r3, _⟩ := DataW.trod_int Tryz.underlying3 t3
    obtain ⟨x4, e4, r4, _⟩ := DataW.trod_int Tryz.underlying3 t4
    simp only [Prod.mk.injEq, List.map_cons, List.map_nil, formD, DataW.agg.injEq, List.cons.injEq, and_true] at hx
    obtain ⟨⟨a0, a1, a2, a3, a4⟩, _⟩ := hx
    subst r0 r1 r2 r3 r4
    simp at e0 e1 e2 e3 e4
    simp only [DataW.lit.injEq, Lit.bool.injEq, Lit.int.injEq, true_and] at a0 a1 a2 a3 a4
    subst e0 e1 e2 e3 e4
    rw [a0, a1, a2, a3, a4]
    exact ⟨q0.symm, q1.symm, q2.symm, q3.symm, q4.symm⟩

theorem lt_of_heap {W : World} {k : Nat} {o : Obj} (h : W.heap[k]? = some o) : k < W.heap.size := lt_of_block h

set_option maxHeartbeats 1000000 in
set_option maxRecDepth 100000 in
theorem env_of_laid {W : World} (hL : laidMetH Tryz.prog laidQ W) : ∃ E, Env E W := by
  obtain ⟨h', hH⟩ := laid_parts hL
  have hT := handle_of_laid hH
  have hM := tab_of_laid h'
  have hF := forms_of_laid h'
  obtain ⟨ps, ⟨gA, tA, csA, fA, pA, qA, hgA, htA, hvA, hdA, ⟨gB, tB, csB, fB, pB, qB, hgB, htB, hvB, hdB, ⟨gC, tC, csC, fC, pC, qC, hgC, htC, hvC, hdC, ⟨g0, t0, cs0, f0, p0, q0, hg0, ht0, hv0, hd0, ⟨g1, t1, cs1, f1, p1, q1, hg1, ht1, hv1, hd1, ⟨g2, t2, cs2, f2, p2, q2, hg2, ht2, hv2, hd2, ⟨g3, t3, cs3, f3, p3, q3, hg3, ht3, hv3, hd3, ⟨g4, t4, cs4, f4, p4, q4, hg4, ht4, hv4, hd4, hq4, e4⟩, e3⟩, e2⟩, e1⟩, e0⟩, eC⟩, eB⟩, eA⟩, hnd, hrows⟩ := h'
  obtain rfl := Option.some.inj (gn0.symm.trans hg0)
  obtain rfl := Option.some.inj (gn1.symm.trans hg1)
  obtain rfl := Option.some.inj (gn2.symm.trans hg2)
  obtain rfl := Option.some.inj (gn3.symm.trans hg3)
  obtain rfl := Option.some.inj (gn4.symm.trans hg4)
  obtain rfl := Option.some.inj (gt0.symm.trans ht0)
  obtain rfl := Option.some.inj (gt1.symm.trans ht1)
  obtain rfl := Option.some.inj (gt2.symm.trans ht2)
  obtain rfl := Option.some.inj (gt3.symm.trans ht3)
  obtain rfl := Option.some.inj (gt4.symm.trans ht4)
  have hq4' : q4 = [] := hq4
  subst hq4' e4 e3 e2 e1 e0 eC eB eA
  clear hvA hvB hvC hdA hdB hdC hgA hgB hgC htA htB htC
  obtain ⟨l0⟩ := cs0
  obtain ⟨l1⟩ := cs1
  obtain ⟨l2⟩ := cs2
  obtain ⟨l3⟩ := cs3
  obtain ⟨l4⟩ := cs4
  have ok0 : ∀ u v, l0 = [.iface u v] → Value.okWide Tryz.prog W .any 0 u v := fun u v e => by
    subst e
    exact (hrows 0 0 (by simp [MemPlace.row])).2 u v (by simpa using World.var?_cell gn0 hv0 0)
  have ok1 : ∀ u v, l1 = [.iface u v] → Value.okWide Tryz.prog W .any 0 u v := fun u v e => by
    subst e
    exact (hrows 2 0 (by simp [MemPlace.row])).2 u v (by simpa using World.var?_cell gn1 hv1 0)
  have ok2 : ∀ u v, l2 = [.iface u v] → Value.okWide Tryz.prog W .any 0 u v := fun u v e => by
    subst e
    exact (hrows 3 0 (by simp [MemPlace.row])).2 u v (by simpa using World.var?_cell gn2 hv2 0)
  have ok3 : ∀ u v, l3 = [.iface u v] → Value.okWide Tryz.prog W .any 0 u v := fun u v e => by
    subst e
    exact (hrows 5 0 (by simp [MemPlace.row])).2 u v (by simpa using World.var?_cell gn3 hv3 0)
  have ok4 : ∀ u v, l4 = [.iface u v] → Value.okWide Tryz.prog W .any 0 u v := fun u v e => by
    subst e
    exact (hrows 6 0 (by simp [MemPlace.row])).2 u v (by simpa using World.var?_cell gn4 hv4 0)
  obtain ⟨a0, s0, rfl, hc0, _, _, rfl⟩ := errorString_of_trod Tryz.underlying64 rowX Tryz.underlying164 Tryz.underlying185 rfl rfl Tryz.underlying9 cellsX cellsS hd0 ok0
  obtain ⟨a1, s1, rfl, hc1, _, _, rfl⟩ := errorString_of_trod Tryz.underlying64 rowX Tryz.underlying164 Tryz.underlying185 rfl rfl Tryz.underlying9 cellsX cellsS hd1 ok1
  obtain ⟨a2, s2, rfl, hc2, _, _, rfl⟩ := errorString_of_trod Tryz.underlying64 rowX Tryz.underlying164 Tryz.underlying185 rfl rfl Tryz.underlying9 cellsX cellsS hd2 ok2
  obtain ⟨a3, s3, rfl, hc3, _, _, rfl⟩ := errorString_of_trod Tryz.underlying64 rowX Tryz.underlying164 Tryz.underlying185 rfl rfl Tryz.underlying9 cellsX cellsS hd3 ok3
  obtain ⟨a4, s4, rfl, hc4, _, _, rfl⟩ := errorString_of_trod Tryz.underlying64 rowX Tryz.underlying164 Tryz.underlying185 rfl rfl Tryz.underlying9 cellsX cellsS hd4 ok4
  have b0 := (hrows a0.block a0.off (by simp [MemPlace.row])).1
  have b1 := (hrows a1.block a1.off (by simp [MemPlace.row])).1
  have b2 := (hrows a2.block a2.off (by simp [MemPlace.row])).1
  have b3 := (hrows a3.block a3.off (by simp [MemPlace.row])).1
  have b4 := (hrows a4.block a4.off (by simp [MemPlace.row])).1
  have hnd := (List.nodup_append.1 (List.nodup_append.1 (List.nodup_append.1 hnd).2.1).2.1).2.1
  have n01 : a1 ≠ a0 := by rintro rfl; simp [MemPlace.row] at hnd
  have n02 : a2 ≠ a0 := by rintro rfl; simp [MemPlace.row] at hnd
  have n03 : a3 ≠ a0 := by rintro rfl; simp [MemPlace.row] at hnd
  have n04 : a4 ≠ a0 := by rintro rfl; simp [MemPlace.row] at hnd
  refine ⟨fun k => if k = 0 then a0 else if k = 1 then a1 else if k = 2 then a2 else if k = 3 then a3 else a4, ?_⟩
  exact {
    tab := hM
    gt := hT
    g0 := by simpa [eS] using World.var?_cell gn0 hv0 0
    g1 := by simpa [eS] using World.var?_cell gn1 hv1 0
    g2 := by simpa [eS] using World.var?_cell gn2 hv2 0
    g3 := by simpa [eS] using World.var?_cell gn3 hv3 0
    g4 := by simpa [eS] using World.var?_cell gn4 hv4 0
    f0 := fun t ht => (hF t ht).1
    f1 := fun t ht => (hF t ht).2.1
    f2 := fun t ht => (hF t ht).2.2.1
    f3 := fun t ht => (hF t ht).2.2.2.1
    f4 := fun t ht => (hF t ht).2.2.2.2
    nine := hM.lt
    blk := by
      intro k hk
      rcases (by omega : k = 0 ∨ k = 1 ∨ k = 2 ∨ k = 3 ∨ k = 4) with rfl | rfl | rfl | rfl | rfl
      · exact b0
      · exact b1
      · exact b2
      · exact b3
      · exact b4
    ne := by
      intro k h1 h4
      rcases (by omega : k = 1 ∨ k = 2 ∨ k = 3 ∨ k = 4) with rfl | rfl | rfl | rfl
      · exact n01
      · exact n02
      · exact n03
      · exact n04 }

set_option maxRecDepth 100000 in
/-- A matroid that came in, and a list of them. -/
theorem mat_of_arg {H : Type} {enc : TypeId × Value → H} {W : World} {v : Value} {d : DataW H} {ps : List MemPlace} {base : Nat} (hv : Value.okWide Tryz.prog W .any base 25 v)
    (h : DataW.Trod enc Tryz.prog W 0 (fun _ => true) true 25 v d ps) (hlt : ∀ x ∈ ps, x.block < W.heap.size) {ts : List TypeId} {ds : List (DataW H)} (hsz : (DataW.weightsEach Tryz.prog ts ds).all (· ≤ reachBytes) = true) {j : Nat} (ht : ts[j]? = some 25) (hd : ds[j]? = some d) :
    ∃ m, MatV W W.heap.size v m ∧ Lim m := by
  obtain ⟨cs, rfl, _⟩ := okWide_struct Tryz.underlying25 hv
  obtain ⟨fuel, hf⟩ := h
  obtain ⟨c0, c1, c2, c3, c4, c5, m, hc, hm, hl⟩ := mat_of_trod _ d fuel _ ps (Nat.le_refl _) hf hlt (fun n hn => by
    have := List.all_eq_true.1 hsz n (DataW.weights_mem_each ht hd n hn)
    simpa using this)
  obtain ⟨cl⟩ := cs
  have hc' : cl = [c0, c1, c2, c3, c4, c5] := hc
  subst hc'
  exact ⟨m, hm, hl⟩

set_option maxRecDepth 100000 in
theorem mats_of_arg {H : Type} {enc : TypeId × Value → H} {W : World} {v : Value} {d : DataW H} {ps : List MemPlace} {base : Nat} (hv : Value.okWide Tryz.prog W .any base 23 v)
    (h : DataW.Trod enc Tryz.prog W 0 (fun _ => true) true 23 v d ps) (hlt : ∀ x ∈ ps, x.block < W.heap.size) {ts : List TypeId} {ds : List (DataW H)} (hsz : (DataW.weightsEach Tryz.prog ts ds).all (· ≤ reachBytes) = true) {j : Nat} (ht : ts[j]? = some 23) (hd : ds[j]? = some d) :
    ∃ l, MatL W W.heap.size v l ∧ (l.length ≤ 140737488355328 ∧ ∀ x ∈ l, Lim x) := by
  have hw : ∀ n ∈ d.weights Tryz.prog 23, n ≤ reachBytes := fun n hn => by
    have := List.all_eq_true.1 hsz n (DataW.weights_mem_each ht hd n hn)
    simpa using this
  obtain ⟨a0, len0, cap0, rfl⟩ := okWide_slice Tryz.underlying23 hv
  obtain ⟨fuel, hf⟩ := h
  rcases Go.Deep.open_slice Tryz.underlying23 hf with ⟨hcs, _⟩ | ⟨a, len, cap, m, n', D, Pl, hcs, _, hle, hcap, hmm, hx, hcell⟩
  · simp [Value.cells] at hcs
    obtain ⟨rfl, rfl, rfl⟩ := hcs
    exact ⟨[], MatL.nil_ _ _, by simp, fun x hx => by cases hx⟩
  · simp [Value.cells] at hcs
    obtain ⟨rfl, rfl, rfl⟩ := hcs
    simp only [if_true] at hmm
    subst hmm
    simp only [Prod.mk.injEq] at hx
    obtain ⟨rfl, rfl⟩ := hx
    rw [cellsMat] at hcell hlt
    have hblk : 0 < m → a.block < W.heap.size := fun h0 => hlt (.cell a.block a.off) (List.mem_append.2 (.inl (MemPlace.mem_row.2 ⟨0, by omega, by simp⟩)))
    have hin : ∀ i, i < len0 → ∃ um : Value × Mat, SixV W (a.add (i * 6)) um.1 ∧ MatV W W.heap.size um.1 um.2 ∧ Lim um.2 := by
      intro i hi
      obtain ⟨cs', h1, h2⟩ := hcell i (by omega)
      have hmem : D i ∈ (List.range len0).map D := List.mem_map.2 ⟨i, List.mem_range.2 hi, rfl⟩
      obtain ⟨z0, z1, z2, z3, z4, z5, mm, rfl, hm1, hm2⟩ := mat_of_trod _ (D i) n' cs' (Pl i) (Nat.le_refl _) h2 (fun x hx => hlt x (List.mem_append.2 (.inr (List.mem_flatMap.2 ⟨i, List.mem_range.2 (by omega), hx⟩)))) (fun k hk => hw k (by
        simp only [DataW.weights, Tryz.underlying23]
        exact List.mem_cons_of_mem _ (List.mem_append.2 (.inl (weights_all hmem k hk)))))
      obtain ⟨_, _, hat⟩ := World.cells?_some h1
      have g0 := hat 0 (by decide)
      have g1 := hat 1 (by decide)
      have g2 := hat 2 (by decide)
      have g3 := hat 3 (by decide)
      have g4 := hat 4 (by decide)
      have g5 := hat 5 (by decide)
      rw [add_zero] at g0
      refine ⟨(.agg #[z0, z1, z2, z3, z4, z5], mm), ⟨z0, z1, z2, z3, z4, z5, rfl, by simpa using g0, ?_, ?_, ?_, ?_, ?_⟩, hm1, hm2⟩
      · simpa [Addr.add] using g1
      · simpa [Addr.add] using g2
      · simpa [Addr.add] using g3
      · simpa [Addr.add] using g4
      · simpa [Addr.add] using g5
    obtain ⟨q, hq⟩ := Go.Deep.choose_lt (α := Value × Mat) (n := len0) (p := fun i um => SixV W (a.add (i * 6)) um.1 ∧ MatV W W.heap.size um.1 um.2 ∧ Lim um.2) hin
    refine ⟨(List.range len0).map fun i => (q i).2, ⟨some a, m, by simp, ⟨by simpa using hle, hcap, fun e => by cases e⟩, fun k hk => ⟨a, (q k).1, rfl, ?_, ?_, ?_⟩⟩, ?_, ?_⟩
    · simp at hk
      exact hblk (by omega)
    · simp at hk
      exact (hq k hk).1
    · simp at hk
      have := (hq k hk).2.1
      simpa [List.getD, hk] using this
    · have h1 := hw ((len0 + (m - len0)) * Tryz.prog.bytesOf 25) (by simp [DataW.weights, Tryz.underlying23])
      have hr := reachBytes_lt
      have hb := Nat.mul_le_mul_left (len0 + (m - len0)) bytesMat
      simp
      omega
    · intro x hx
      obtain ⟨i, hi, rfl⟩ := List.mem_map.1 hx
      exact (hq i (List.mem_range.1 hi)).2.2

/-- The heap that the program's own start leaves holds the list. -/
theorem door_env (os : Os) (args : Array Value) : laidMetH Tryz.prog laidQ ((World.doorLaid Tryz.prog 400 os).forCall (fun _ _ => 0) ⟨#[], args, []⟩).memory :=
  laidMetH_of_parts (laidMet_of_run' 8 (by kernel_rfl) (by kernel_rfl)) (by kernel_rfl)

end Wp
end Go.Proofs.YtimmmfppehmfcaaGreatDoor
