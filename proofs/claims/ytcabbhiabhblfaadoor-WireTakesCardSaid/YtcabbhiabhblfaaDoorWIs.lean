/- Go's own errors.Is, walked, at a fault that wraps one of this package's errors. -/
import Derived.Test.YtcabbhiabhblfaaDoorWEnv
import Derived.Test.YtcabbhiabhblfaaDoorWMeth
import Derived.LaidEql
import Derived.Stop.Asserts
import Derived.RowKitTokens
namespace Go.Proofs.YtcabbhiabhblfaaDoor
open Go.RowKit Go.Extern.Stop Go.Stop Go.Extern
namespace Wp

theorem isTypeOf (v : Value) (w : World) : (Extern.ReflectliteType.typeOf #[.iface 101 v]).run Tryd.prog w = .ok (.iface 86 (.agg #[.pointer (some ⟨5, 101, none⟩)])) w := by kernel_rfl
theorem isComparable : ∃ fn, Extern.find Tryd.f78 = some fn ∧ ∀ w : World, (fn #[.agg #[.pointer (some ⟨5, 101, none⟩)]]).run Tryd.prog w = .ok (.bool true) w :=
  ⟨Extern.ReflectliteType.method fun t => do Extern.Rtype.noPackHeld "Comparable" t; pure (.bool (← typeInfo t).comparable), by kernel_rfl, fun w => by kernel_rfl⟩
theorem isComp : (Tryd.prog.info? 101).map (·.comparable) = some true := by kernel_rfl
theorem isSize : (Tryd.prog.info? 120).map (·.size) = some 1 := by kernel_rfl
theorem underE : Tryd.prog.underlying 47 = some (.interface #[("Error", 63)]) := by kernel_rfl
theorem underX : Tryd.prog.underlying 101 = some (.pointer 120) := by kernel_rfl
theorem noIsE (v : Value) (xT : TypeId) (w : World) : (Instr.typeAssert (.iface 101 v) xT 98 true).run Tryd.prog w = .ok (.tuple #[.nilIface, .bool false]) w := run_typeAssert_lacksB Tryd.underlying98 (by kernel_rfl) (by kernel_rfl) v xT w
theorem noUnwrapE (v : Value) (xT : TypeId) (w : World) : (Instr.typeAssert (.iface 101 v) xT 93 true).run Tryd.prog w = .ok (.tuple #[.nilIface, .bool false]) w := run_typeAssert_lacksB Tryd.underlying93 (by kernel_rfl) (by kernel_rfl) v xT w
theorem noUnwrapsE (v : Value) (xT : TypeId) (w : World) : (Instr.typeAssert (.iface 101 v) xT 95 true).run Tryd.prog w = .ok (.tuple #[.nilIface, .bool false]) w := run_typeAssert_lacksB Tryd.underlying95 (by kernel_rfl) (by kernel_rfl) v xT w
theorem noIsW (v : Value) (xT : TypeId) (w : World) : (Instr.typeAssert (.iface 53 v) xT 98 true).run Tryd.prog w = .ok (.tuple #[.nilIface, .bool false]) w := run_typeAssert_lacksB Tryd.underlying98 (by kernel_rfl) (by kernel_rfl) v xT w
theorem hasUnwrapW (v : Value) (xT : TypeId) (w : World) : (Instr.typeAssert (.iface 53 v) xT 93 true).run Tryd.prog w = .ok (.tuple #[.iface 53 v, .bool true]) w := run_typeAssert_hasB Tryd.underlying93 (by kernel_rfl) v xT w

theorem unwrap_any (x y : Value) (w : World) : Calls Tryd.prog 71 #[.agg #[x, y]] w fun e w' => e = .returned y ∧ w.alloc (.cells #[x, y] 53) = w' := by
  go_enter Tryd.func71, Tryd.ntmps71
  go_wp2
  go_ret
  exact ⟨rfl, rfl⟩

set_option maxHeartbeats 1000000 in
set_option maxRecDepth 100000 in
theorem is_hit (x : Value) (b : Addr) (w : World) :
    Calls Tryd.prog 42 #[.iface 53 (.agg #[x, .iface 101 (.pointer (some b))]), .iface 101 (.pointer (some b))] w fun e w' => e = .returned (.bool true) ∧ w.alloc (.cells #[x, .iface 101 (.pointer (some b))] 53) = w' := by
  obtain ⟨i, hi, hcmp⟩ := Option.map_eq_some_iff.1 isComp
  obtain ⟨j, hj, hjs⟩ := Option.map_eq_some_iff.1 isSize
  have h8 := @run_callFunc_extern Tryd.prog 48 _ Extern.ReflectliteType.typeOf Tryd.func48 (by kernel_rfl) (by kernel_rfl) (by kernel_rfl) (by kernel_rfl)
  obtain ⟨fn, hfn, cT⟩ := isComparable
  have h32 := @run_callFunc_extern Tryd.prog 78 _ fn Tryd.func78 (by kernel_rfl) (by kernel_rfl) (by kernel_rfl) hfn
  clear hfn
  have tT := isTypeOf
  have mR := mComparable
  have nW := noIsW
  have uW := hasUnwrapW
  have mU := mUnwrap
  have heq := run_eql_iface_ptr_same (P := Tryd.prog) (w.alloc (.cells #[x, .iface 101 (.pointer (some b))] 53)) b underE underX hi hcmp hj
  have hty := run_eql_iface_types (P := Tryd.prog) 53 101 (.agg #[x, .iface 101 (.pointer (some b))]) (.pointer (some b)) underE (by decide) w
  go_enter Tryd.func42, Tryd.ntmps42
  go_wp2
  refine wp_loop_rounds 2 ?_
  rw [rounds_succ]
  go_wp2
  rw [rounds_succ]
  go_wp2
  go_ret
  exact ⟨rfl, rfl⟩

set_option maxHeartbeats 1000000 in
set_option maxRecDepth 100000 in
theorem is_miss (x : Value) (a b : Addr) (ca cb : Array Value) (ta tb : TypeId) (w : World) (hne : a ≠ b) (ha : w.heap[a.block]? = some (.cells ca ta (0, 0))) (hb : w.heap[b.block]? = some (.cells cb tb (0, 0))) :
    Calls Tryd.prog 42 #[.iface 53 (.agg #[x, .iface 101 (.pointer (some a))]), .iface 101 (.pointer (some b))] w fun e w' => e = .returned (.bool false) ∧ w.alloc (.cells #[x, .iface 101 (.pointer (some a))] 53) = w' := by
  obtain ⟨i, hi, hcmp⟩ := Option.map_eq_some_iff.1 isComp
  obtain ⟨j, hj, hjs⟩ := Option.map_eq_some_iff.1 isSize
  have h8 := @run_callFunc_extern Tryd.prog 48 _ Extern.ReflectliteType.typeOf Tryd.func48 (by kernel_rfl) (by kernel_rfl) (by kernel_rfl) (by kernel_rfl)
  obtain ⟨fn, hfn, cT⟩ := isComparable
  have h32 := @run_callFunc_extern Tryd.prog 78 _ fn Tryd.func78 (by kernel_rfl) (by kernel_rfl) (by kernel_rfl) hfn
  clear hfn
  have tT := isTypeOf
  have mR := mComparable
  have nE := noIsE
  have uE := noUnwrapE
  have vE := noUnwrapsE
  have nW := noIsW
  have uW := hasUnwrapW
  have mU := mUnwrap
  have hla : a.block < w.heap.size := by
    rcases Nat.lt_or_ge a.block w.heap.size with h | h
    · exact h
    · rw [Array.getElem?_eq_none h] at ha; cases ha
  have hlb : b.block < w.heap.size := by
    rcases Nat.lt_or_ge b.block w.heap.size with h | h
    · exact h
    · rw [Array.getElem?_eq_none h] at hb; cases hb
  have heq := run_eql_iface_ptr_other (P := Tryd.prog) (w.alloc (.cells #[x, .iface 101 (.pointer (some a))] 53)) underE underX hi hcmp hj (by rw [hjs]; decide) hne ((Below.heap_alloc w _ _ hla).trans ha) ((Below.heap_alloc w _ _ hlb).trans hb)
  have hty := run_eql_iface_types (P := Tryd.prog) 53 101 (.agg #[x, .iface 101 (.pointer (some a))]) (.pointer (some b)) underE (by decide) w
  clear ha hb
  go_enter Tryd.func42, Tryd.ntmps42
  go_wp2
  refine wp_loop_rounds 2 ?_
  rw [rounds_succ]
  go_wp2
  rw [rounds_succ]
  go_wp2
  go_ret
  exact ⟨rfl, rfl⟩

end Wp
end Go.Proofs.YtcabbhiabhblfaaDoor
