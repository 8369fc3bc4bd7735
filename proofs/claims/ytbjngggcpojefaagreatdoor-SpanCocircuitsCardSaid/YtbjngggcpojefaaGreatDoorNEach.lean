/- The program's iterator of the elements of a set, each with all others, walked. -/
import Derived.Test.YtbjngggcpojefaaGreatDoorNRange
namespace Go.Proofs.YtbjngggcpojefaaGreatDoor
open Go.RowKit
attribute [local go_sem] Oper.semAt_some
namespace Wp

def eachEnc (t : List Int) (x : Fin t.length × Value) : Array Value := #[.int .i64 (t.getD x.1.1 0), x.2]
def eachGood (t : List Int) (x : Fin t.length × Value) (W : World) : Prop := Row W W.heap.size x.2 (minusL t [t.getD x.1.1 0])
def EachAll (t : List Int) (xs : List (Fin t.length × Value)) : Prop := xs.map (fun x => x.1.1) = List.range t.length

set_option maxHeartbeats 1000000 in
set_option maxRecDepth 100000 in
theorem each_any (A : Option Addr) (len cap : Nat) (w : World) :
    Calls Tryz.prog 42 #[.slice A len cap] w fun e w' => e = .returned (.func (.func 63) #[] #[.pointer (some ⟨w.heap.size, 0, none⟩)]) ∧ w' = w.alloc (.cells #[.slice A len cap] 26) := by
  go_enter Tryz.func42, Tryz.ntmps42
  go_wp2
  go_ret
  exact ⟨rfl, rfl⟩

set_option maxRecDepth 100000 in
set_option maxHeartbeats 4000000 in
theorem each1_good (n : Nat) (hn : 1 ≤ n) (Bs n₀ : Nat) (A : Option Addr) (c : Nat) (t : List Int) (w : World) (hB : Bs < w.heap.size) (hn₀ : n₀ ≤ w.heap.size) (hcell : w.cell? ⟨Bs, 0, none⟩ = some (.slice A t.length c)) (hrow : Row w n₀ (.slice A t.length c) t) (hlen : t.length ≤ 1048576) :
    SeqGood Fence.wide n Tryz.prog 63 #[.pointer (some ⟨Bs, 0, none⟩)] (eachEnc t) (eachGood t) (KeepsBox n₀ Bs) (EachAll t) t.length w := by
  intro l J W hW hJa hY h0
  refine callsIn_of_wp Tryz.func63 rfl trivial ?_ rfl
  simp only [Tryz.ntmps63, List.size_toArray, List.length_cons, List.length_nil, Nat.reduceAdd, Nat.reduceSub, Array.replicate_succ, Array.replicate_zero, List.push_toArray, List.append_toArray, List.nil_append, List.cons_append]
  have hBW : W.cell? ⟨Bs, 0, none⟩ = some (.slice A t.length c) := (hW.cell (p := ⟨Bs, 0, none⟩) hB).trans hcell
  have HBW := Lib.hid hBW
  have HY := Lib.hid hY
  have HJa := Lib.hid hJa
  have HRow := Lib.hid (hrow.below (hW.mono hn₀))
  have hnW : n₀ ≤ W.heap.size := Nat.le_trans hn₀ hW.size
  have hBW2 : Bs < W.heap.size := Nat.lt_of_lt_of_le hB hW.size
  have hlenI : (t.length : Int) ≤ 1048576 := by omega
  have Hpart := Lib.hid (fun (va vb : Value) (x : Int) (V : World) (ha : Row V V.heap.size va t) (hb : Row V V.heap.size vb [x]) => minus_any va vb t [x] V ha hb hlen (by simp))
  clear hY hJa hrow hcell hW
  gi_wp2
  gi_loopw [7] (fun i wr => ∃ (k : Nat) (pre : List (Fin t.length × Value)), i = .int .i64 (k : Int) ∧ k ≤ t.length ∧ pre.map (fun x => x.1.1) = List.range k ∧ J pre wr ∧ KeepsBox n₀ Bs W wr ∧ W.heap.size ≤ wr.heap.size) (fun i _ => t.length - (intOf i).toNat)
  case atStart => exact ⟨0, [], rfl, Nat.zero_le _, rfl, h0, ⟨Below.refl _ _, rfl⟩, Nat.le_refl _⟩
  case round =>
    clear h0 hBW
    obtain ⟨k, pre, rfl, hk, hpre, hJs, hkp, hsz⟩ := hrel
    have Hpre := Lib.hid hpre
    have Hkp := Lib.hid hkp
    have HJ := Lib.hid hJs
    clear hpre hkp hJs
    by_cases hlt : k < t.length
    · have hltI : (k : Int) < (t.length : Int) := by omega
      obtain ⟨ad, hA, hcl⟩ := Row.nth HRow.out hlt
      subst hA
      have g1 := hcl wr Hkp.out.1
      obtain ⟨x, hx⟩ : ∃ x, t.getD k 0 = x := ⟨_, rfl⟩
      rw [hx] at g1
      have Hx := Lib.hid hx
      have eB := Hkp.out.2.trans HBW.out
      have hBr : Bs < wr.heap.size := by omega
      have eB2 : (wr.alloc (.cells #[.int .i64 x] 3)).cell? ⟨Bs, 0, none⟩ = some (.slice (some ad) t.length c) := (World.cell?_alloc_lt _ _ _ (by show Bs < _; exact hBr)).trans eB
      have hlen2 : pre.length = k := by
        have := congrArg List.length Hpre.out
        simpa using this
      have Hlen2 := Lib.hid hlen2
      have hra := (HRow.out.below Hkp.out.1).mono (show n₀ ≤ wr.heap.size by omega)
      have Hra := Lib.hid (hra.upA (.cells #[.int .i64 x] 3))
      have Hrx := Lib.hid (Row.lit1 wr x).here
      clear hcl hx hlen2 hra
      gi_wp2_with fail
      refine ⟨trivial, (callsIn_wide.2 (Hpart.out _ _ x _ Hra.out Hrx.out)).mono ?_⟩
      rintro e w3 ⟨v3, rfl, hr3, hb3⟩
      have hb30 : Below wr.heap.size wr w3 := ((Below.refl wr.heap.size wr).alloc (Nat.le_refl _) _).trans (hb3.mono (by simp))
      have HJ3 := Lib.hid (abides_below HJa.out HJ.out hb30)
      have Hkp3 := Lib.hid (keepsBox_t Hkp.out (keepsBox_below hb30 (by omega) hBr))
      have hs3 : wr.heap.size ≤ w3.heap.size := hb30.size
      obtain ⟨fn, tmps, assign, body, hy, hR⟩ := HY.out pre (⟨k, hlt⟩, v3) w3 HJ3.out (by unfold eachGood; rw [Hx.out]; exact hr3) (by rw [Hlen2.out]; exact hlt)
      unfold eachEnc at hy
      simp only at hy
      rw [Hx.out] at hy
      clear hr3 hb3 hb30 g1 eB eB2 Hra Hrx
      gi_wp2
      refine hR.mono ?_
      rintro e W3 ⟨rfl, hJ3, hk3⟩
      have HJ4 := Lib.hid hJ3
      have Hkp4 := Lib.hid (keepsBox_t Hkp3.out hk3)
      have hs4 : w3.heap.size ≤ W3.heap.size := hk3.1.size
      clear hJ3 hk3 hy hR
      gi_wp2
      go_roundw
      case rel =>
        refine ⟨k + 1, pre ++ [(⟨k, hlt⟩, v3)], by go_num, by omega, ?_, HJ4.out, Hkp4.out, by omega⟩
        rw [List.map_append, Hpre.out, List.range_succ]
        rfl
      case measure => simp [intOf] <;> omega
    · obtain rfl : k = t.length := by omega
      gi_wp2
      go_end0
      exact ⟨⟨_, rfl⟩, _, Hpre.out, HJ.out⟩

end Wp
end Go.Proofs.YtbjngggcpojefaaGreatDoor
