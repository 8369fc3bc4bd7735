/- The library's Backward over lines: what it hands a loop, walked: the last line first. -/
import Derived.Test.YtmnhpccdhefddaaDoorLBasis
import Derived.RangeFuncNested
import Derived.RangeFuncBound
import Derived.RangeFuncCalls
import Derived.RangeFuncLeaves
import Derived.Shelf.RegionOpen
import Derived.OwnWalkIn
import Derived.TacticsInMore
import Derived.LoopNIn
import Derived.LoopIn
namespace Go.Proofs.YtmnhpccdhefddaaDoor
open Go.RowKit
attribute [local go_sem] Oper.semAt_some
namespace Wp

/-- A line as a value. -/
def lineV (u : Value) (b : Nat) (l : Line) : Value := .agg #[.int .i64 (l.place : Int), u, .int .i64 (l.lead : Int), .int .i64 l.inv, .map (some b)]
/-- Where the lines' rows and maps lie. -/
def LinesU (w : World) (ad : Addr) (ls : List Line) (U : Nat → Value) (M : Nat → Nat) : Prop :=
  ∀ k (hk : k < ls.length), w.cell? (ad.add (k * 5)) = some (.int .i64 ((ls[k]).place : Int)) ∧ w.cell? ⟨(ad.add (k * 5)).block, (ad.add (k * 5)).off + 1, none⟩ = some (U k) ∧
    w.cell? ⟨(ad.add (k * 5)).block, (ad.add (k * 5)).off + 2, none⟩ = some (.int .i64 ((ls[k]).lead : Int)) ∧ w.cell? ⟨(ad.add (k * 5)).block, (ad.add (k * 5)).off + 3, none⟩ = some (.int .i64 (ls[k]).inv) ∧
    w.cell? ⟨(ad.add (k * 5)).block, (ad.add (k * 5)).off + 4, none⟩ = some (.map (some (M k)))
def backEnc (ls : List Line) (U : Nat → Value) (M : Nat → Nat) (x : Fin ls.length) : Array Value := #[.int .i64 (x.1 : Int), lineV (U x.1) (M x.1) (ls[x.1]'x.2)]
/-- The last first. -/
def AllBack (n : Nat) (ys : List (Fin n)) : Prop := ys.map Fin.val = (List.range n).map fun j => n - 1 - j
/-- What lies below n₀, and in one block more, is as it was. -/
def KeepsBox (n₀ Bs : Nat) (W W' : World) : Prop := Below n₀ W W' ∧ W'.cell? ⟨Bs, 0, none⟩ = W.cell? ⟨Bs, 0, none⟩
theorem keepsBox_t {n₀ Bs : Nat} {A B C : World} (h : KeepsBox n₀ Bs A B) (k : KeepsBox n₀ Bs B C) : KeepsBox n₀ Bs A C := ⟨h.1.trans k.1, k.2.trans h.2⟩
theorem keepsBox_b {n₀ Bs : Nat} {w : World} (hn : n₀ ≤ w.heap.size) (hB : Bs < w.heap.size) (W : World) (l : Nat) (o o' : Obj) (hl : w.heap.size ≤ l) (h : W.heap[l]? = some o) (_ : o.isCells = false) (_ : o.isWalk = false) : KeepsBox n₀ Bs W (W.putObj l o') :=
  ⟨(Below.refl n₀ W).grown (grownBy_putObj' W l o') (by have := (Array.getElem?_eq_some_iff.1 h).1; omega) (fun k e => by cases e; omega), World.cell?_of_block (a := ⟨Bs, 0, none⟩) (World.putObj_heap_other (show Bs ≠ l by omega))⟩

set_option maxHeartbeats 1000000 in
set_option maxRecDepth 100000 in
theorem backward_any (A : Option Addr) (len cap : Nat) (w : World) :
    Calls Tryd.prog 28 #[.slice A len cap] w fun e w' => e = .returned (.func (.func 39) #[] #[.pointer (some ⟨w.heap.size, 0, none⟩)]) ∧ w' = w.alloc (.cells #[.slice A len cap] 39) := by
  go_enter Tryd.func28, Tryd.ntmps28
  go_wp2
  go_ret
  exact ⟨rfl, rfl⟩

set_option maxRecDepth 100000 in
set_option maxHeartbeats 2000000 in
theorem back1_in (F : Fence) (n : Nat) (hf : F.fn 39) (hro : F.round = none) (hn : 1 ≤ n) (l Bs n₀ : Nat) (A : Option Addr) (ad : Addr) (cap : Nat) (ls : List Line) (U : Nat → Value) (M : Nat → Nat) (hA : 0 < ls.length → A = some ad) (hb : 0 < ls.length → ad.block < n₀) (h64 : ls.length ≤ 64)
    (J Jx : List (Fin ls.length) → World → Prop)
    (hY : ∀ pre x W, J pre W → pre.length < ls.length → YieldAt F (n - 1) Tryd.prog l (backEnc ls U M x) W fun e W' =>
      (e = .returned (.bool true) ∧ J (pre ++ [x]) W' ∧ KeepsBox n₀ Bs W W') ∨ (e = .returned (.bool false) ∧ Jx (pre ++ [x]) W'))
    (W : World) (hBs : W.cell? ⟨Bs, 0, none⟩ = some (.slice A ls.length cap)) (hc : LinesU W ad ls U M) (h0 : J [] W) :
    CallsIn F n Tryd.prog 39 #[.func (.yield l) #[] #[], .pointer (some ⟨Bs, 0, none⟩)] W fun e W' => (∃ v, e = .returned v) ∧
      ((∃ ys, AllBack ls.length ys ∧ J ys W') ∨ (∃ pre, True ∧ Jx pre W')) := by
  refine callsIn_of_wp Tryd.func39 rfl hf ?_ hro
  simp only [Tryd.ntmps39, List.size_toArray, List.length_cons, List.length_nil, Nat.reduceAdd, Nat.reduceSub, Array.replicate_succ, Array.replicate_zero, List.push_toArray, List.append_toArray, List.nil_append, List.cons_append]
  have h64' : (ls.length : Int) ≤ 64 := by omega
  have Hc := Lib.hid hc
  have HY := Lib.hid hY
  have HBs := Lib.hid hBs
  have HA := Lib.hid hA
  have Hb := Lib.hid hb
  clear hc hY hA hb
  gi_wp2
  gi_loopw [3] (fun i wr => ∃ (k : Nat) (pre : List (Fin ls.length)), k ≤ ls.length ∧ i = .int .i64 ((ls.length : Int) - 1 - (k : Int)) ∧ pre.map Fin.val = (List.range k).map (fun j => ls.length - 1 - j) ∧ J pre wr ∧ KeepsBox n₀ Bs W wr)
    (fun i _ => (intOf i + 1).toNat)
  case atStart => exact ⟨0, [], Nat.zero_le _, by simp, rfl, h0, Below.refl _ _, rfl⟩
  case round =>
    clear hBs
    obtain ⟨k, pre, hk, rfl, hpre, hJs, hkp⟩ := hrel
    have Hpre := Lib.hid hpre
    have Hkp := Lib.hid hkp
    have HJ := Lib.hid hJs
    clear hpre hkp hJs
    by_cases hlt : k < ls.length
    · have hb := Hb.out (by omega)
      have hA := HA.out (by omega)
      subst hA
      obtain ⟨m, hm⟩ : ∃ m, m = ls.length - 1 - k := ⟨_, rfl⟩
      have hml : m < ls.length := by omega
      have hmi : (ls.length : Int) - 1 - (k : Int) = (m : Int) := by omega
      rw [hmi]
      have hlen : pre.length = k := by
        have := congrArg List.length Hpre.out
        simpa using this
      obtain ⟨fn, tmps, assign, body, hy, hR⟩ := HY.out pre ⟨m, hml⟩ wr HJ.out (by omega)
      unfold backEnc lineV at hy
      dsimp only at hy
      obtain ⟨q0, q1, q2, q3, q4⟩ := Hc.out m hml
      have ec : ∀ o, wr.cell? ⟨(ad.add (m * 5)).block, o, none⟩ = W.cell? ⟨(ad.add (m * 5)).block, o, none⟩ := fun o => Hkp.out.1.cell (p := ⟨(ad.add (m * 5)).block, o, none⟩) (by show (ad.add (m * 5)).block < _; rw [add_block]; exact hb)
      have e0 := (Hkp.out.1.cell (p := ad.add (m * 5)) (by rw [add_block]; exact hb)).trans q0
      have e1 := (ec _).trans q1
      have e2 := (ec _).trans q2
      have e3 := (ec _).trans q3
      have e4 := (ec _).trans q4
      have eB := Hkp.out.2.trans HBs.out
      have hmn : (m : Int) < (ls.length : Int) := by omega
      have Hm := Lib.hid hm
      have Hmi := Lib.hid hmi
      clear ec q0 q1 q2 q3 q4 hm hmi hlen HA
      gi_wp2
      refine hR.mono ?_
      rintro e W3 (⟨rfl, hJ3, hk3⟩ | ⟨rfl, hJx3⟩)
      · gi_wp2
        go_roundw
        case rel =>
          refine ⟨k + 1, pre ++ [⟨m, hml⟩], by omega, by rw [show (m : Int) - 1 = (ls.length : Int) - 1 - ((k + 1 : Nat) : Int) by have := Hmi.out; omega], ?_, hJ3, keepsBox_t Hkp.out hk3⟩
          rw [List.map_append, Hpre.out, List.range_succ, List.map_append]
          simp only [List.map_cons, List.map_nil]
          rw [Hm.out]
        case measure => simp [intOf] <;> omega
      · gi_wp2
        refine bodyPost_ret (results_none rfl _ _ _) rfl ?_
        exact ⟨⟨_, rfl⟩, .inr ⟨_, trivial, hJx3⟩⟩
    · obtain rfl : k = ls.length := by omega
      rw [show (ls.length : Int) - 1 - (ls.length : Int) = -1 by omega]
      gi_wp2
      go_end0
      exact ⟨⟨_, rfl⟩, .inl ⟨_, Hpre.out, HJ.out⟩⟩

theorem LinesU.below {w w' : World} {ad : Addr} {ls : List Line} {U : Nat → Value} {M : Nat → Nat} {n₀ : Nat} (h : LinesU w ad ls U M) (hb : 0 < ls.length → ad.block < n₀) (hW : Below n₀ w w') : LinesU w' ad ls U M := by
  intro k hk
  obtain ⟨q0, q1, q2, q3, q4⟩ := h k hk
  have hb' : (ad.add (k * 5)).block < n₀ := by rw [add_block]; exact hb (by omega)
  exact ⟨(hW.cell hb').trans q0, (hW.cell (p := ⟨_, _, none⟩) hb').trans q1, (hW.cell (p := ⟨_, _, none⟩) hb').trans q2, (hW.cell (p := ⟨_, _, none⟩) hb').trans q3, (hW.cell (p := ⟨_, _, none⟩) hb').trans q4⟩
theorem back_stops (F : Fence) (n : Nat) (hf : F.fn 39) (hro : F.round = none) (hn : 1 ≤ n) (Bs n₀ : Nat) (A : Option Addr) (ad : Addr) (cap : Nat) (ls : List Line) (U : Nat → Value) (M : Nat → Nat) (hA : 0 < ls.length → A = some ad) (hb : 0 < ls.length → ad.block < n₀) (h64 : ls.length ≤ 64)
    (w : World) (hBs : Bs < w.heap.size) (hn₀ : n₀ ≤ w.heap.size) (hc : w.cell? ⟨Bs, 0, none⟩ = some (.slice A ls.length cap)) (hL : LinesU w ad ls U M) :
    SeqStopsK F n Tryd.prog 39 #[.pointer (some ⟨Bs, 0, none⟩)] (backEnc ls U M) (KeepsBox n₀ Bs) (AllBack ls.length) (fun _ => True) ls.length w :=
  fun l J Jx W hW _ _ hY h0 => back1_in F n hf hro hn l Bs n₀ A ad cap ls U M hA hb h64 J Jx hY W ((hW.cell (p := ⟨Bs, 0, none⟩) hBs).trans hc) (hL.below (fun h => Nat.lt_of_lt_of_le (hb h) hn₀) hW) h0
/-- All lines, the last first: as a fold from behind. -/
theorem back_fold {ls : List Line} {ys : List (Fin ls.length)} (h : AllBack ls.length ys) {β : Type} (f : Line → β → β) (b : β) : ys.foldl (fun T y => f (ls[y.1]'y.2) T) b = ls.foldr f b := by
  have hl : ys.length = ls.length := by
    have := congrArg List.length h
    simpa using this
  have e : ys.map (fun y => ls[y.1]'y.2) = ls.reverse := by
    apply List.ext_getElem
    · simp [hl]
    · intro i h1 h2
      have hi : i < ys.length := by simpa using h1
      have h3 : (ys.map Fin.val)[i]? = some (ls.length - 1 - i) := by
        rw [show ys.map Fin.val = (List.range ls.length).map (fun j => ls.length - 1 - j) from h]
        simp [show i < ls.length by omega]
      rw [List.getElem?_map, List.getElem?_eq_getElem hi] at h3
      simp only [Option.map_some, Option.some.injEq] at h3
      rw [List.getElem_map, List.getElem_reverse]
      congr 1
  rw [← List.foldl_reverse, ← e, List.foldl_map]

end Wp
end Go.Proofs.YtmnhpccdhefddaaDoor
