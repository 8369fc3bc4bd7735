/- Go's own errors.As and errors.Is, walked at this package's errors; and the program's told. -/
import Derived.Test.YtolnkgghejhaeaaGreatDoorZQ
import Derived.LaidEql
import Derived.Stop.Asserts
import Derived.RowKitTokens
import Derived.Test.YtolnkgghejhaeaaGreatDoorProg
import Derived.WalkKit
namespace Go.Proofs.YtolnkgghejhaeaaGreatDoor
open Go.RowKit Go.Extern.Stop Go.Stop Go.Extern
namespace Wp

theorem valueOfP (t : Addr) (w : World) : (ReflectliteValue.unpack (.iface 64 (.pointer (some t)))).run Tryz.prog w
    = .ok (.agg #[.pointer (some ⟨9, 64, none⟩), .pointer (some ⟨w.heap.size, 0, none⟩), .int .u64 150]) (w.alloc (.cells #[.pointer (some t)] 64)) := by kernel_rfl
theorem typeP (a : Addr) (w : World) : (ReflectliteValue.methodAny (ReflectliteValue.valueError "reflectlite.Value.Type" 0) (fun t _ _ _ => ReflectliteType.toType t) #[.agg #[.pointer (some ⟨9, 64, none⟩), .pointer (some a), .int .u64 150]]).run Tryz.prog w
    = .ok (.iface 115 (.agg #[.pointer (some ⟨9, 64, none⟩)])) w := by kernel_rfl
theorem kindP (w : World) : ((ReflectliteType.abiMethod fun t => (fun a : Nat => Value.int IntKind.u8 (a : Int)) <$> Rtype.kind t) #[.pointer (some ⟨9, 64, none⟩)]).run Tryz.prog w = .ok (.int .u8 22) w := by kernel_rfl
theorem kindS (w : World) : ((ReflectliteType.abiMethod fun t => (fun a : Nat => Value.int IntKind.u8 (a : Int)) <$> Rtype.kind t) #[.pointer (some ⟨9, 54, none⟩)]).run Tryz.prog w = .ok (.int .u8 25) w := by kernel_rfl

theorem partsP (a : Addr) (w : World) : (ReflectliteValue.parts (.agg #[.pointer (some ⟨9, 64, none⟩), .pointer (some a), .int .u64 150])).run Tryz.prog w = .ok (some (64, a, 150)) w := by kernel_rfl
theorem method_run (z : Sem Value) (f : TypeId → Addr → Nat → Nat → Sem Value) (v : Value) (t : TypeId) (a : Addr) (fl : Nat) (W : World) (hp : (ReflectliteValue.parts v).run Tryz.prog W = .ok (some (t, a, fl)) W) :
    (ReflectliteValue.method z f #[v]).run Tryz.prog W = (f t a fl (fl % 32)).run Tryz.prog W := by
  rw [show ReflectliteValue.method z f #[v] = (ReflectliteValue.parts v >>= _) from rfl, Sem.run_bind, hp]
  rfl
theorem isNilP (a p : Addr) (W : World) (ha : W.cell? a = some (.pointer (some p))) :
    (ReflectliteValue.method (ReflectliteValue.valueError "reflectlite.Value.IsNil" 0) ReflectliteValue.isNil #[.agg #[.pointer (some ⟨9, 64, none⟩), .pointer (some a), .int .u64 150]]).run Tryz.prog W = .ok (.bool false) W := by
  rw [method_run _ _ _ _ _ _ _ (partsP a W)]
  simp [ReflectliteValue.isNil, loadVar, isAgg, underlying, ha, Result.andThen]
theorem elemP (w : World) : (ReflectliteType.method ReflectliteType.elem #[.agg #[.pointer (some ⟨9, 64, none⟩)]]).run Tryz.prog w = .ok (.iface 115 (.agg #[.pointer (some ⟨9, 54, none⟩)])) w := by kernel_rfl
theorem implementsS (w : World) : (ReflectliteType.relation "Implements" ReflectliteType.implements_ #[.agg #[.pointer (some ⟨9, 54, none⟩)], .iface 115 (.agg #[.pointer (some ⟨9, 52, none⟩)])]).run Tryz.prog w = .ok (.bool true) w := by kernel_rfl
theorem typeOfS (v : Value) (w : World) : (ReflectliteType.typeOf #[.iface 54 v]).run Tryz.prog w = .ok (.iface 115 (.agg #[.pointer (some ⟨9, 54, none⟩)])) w := by kernel_rfl
theorem assignableS (w : World) : (ReflectliteType.relation "AssignableTo" ReflectliteType.assignableTo #[.agg #[.pointer (some ⟨9, 54, none⟩)], .iface 115 (.agg #[.pointer (some ⟨9, 54, none⟩)])]).run Tryz.prog w = .ok (.bool true) w := by kernel_rfl
theorem valueOfS (x y : Value) (w : World) : (ReflectliteValue.unpack (.iface 54 (.agg #[x, y]))).run Tryz.prog w
    = .ok (.agg #[.pointer (some ⟨9, 54, none⟩), .pointer (some ⟨w.heap.size, 0, none⟩), .int .u64 153]) (w.alloc (.cells #[x, y] 54)) := by kernel_rfl
theorem elemOfP (w : World) : (Rtype.elem? 64).run Tryz.prog w = .ok (some 54) w := by kernel_rfl
theorem mkS (p : Addr) (w : World) : (ReflectliteValue.mk 54 p ReflectliteValue.flagAddr).run Tryz.prog w = .ok (.agg #[.pointer (some ⟨9, 54, none⟩), .pointer (some p), .int .u64 409]) w := by kernel_rfl
theorem elemVP (a p : Addr) (W : World) (ha : W.cell? a = some (.pointer (some p))) :
    (ReflectliteValue.method (ReflectliteValue.valueError "reflectlite.Value.Elem" 0) ReflectliteValue.elem #[.agg #[.pointer (some ⟨9, 64, none⟩), .pointer (some a), .int .u64 150]]).run Tryz.prog W
      = .ok (.agg #[.pointer (some ⟨9, 54, none⟩), .pointer (some p), .int .u64 409]) W := by
  rw [method_run _ _ _ _ _ _ _ (partsP a W)]
  simp [ReflectliteValue.elem, loadVar, isAgg, underlying, ha, Result.andThen, elemOfP, mkS]
theorem partsSa (a : Addr) (w : World) : (ReflectliteValue.parts (.agg #[.pointer (some ⟨9, 54, none⟩), .pointer (some a), .int .u64 409])).run Tryz.prog w = .ok (some (54, a, 409)) w := by kernel_rfl
theorem partsS (a : Addr) (w : World) : (ReflectliteValue.parts (.agg #[.pointer (some ⟨9, 54, none⟩), .pointer (some a), .int .u64 153])).run Tryz.prog w = .ok (some (54, a, 153)) w := by kernel_rfl
theorem directS (w : World) : (Rtype.directlyAssignable 54 54).run Tryz.prog w = .ok true w := by kernel_rfl
theorem setS (ta b : Nat) (x y o1 o2 : Value) (W : World) (hx : x.oneCell' = true) (hy : y.oneCell' = true) (hb0 : W.cell? ⟨b, 0, none⟩ = some x) (hb1 : W.cell? ⟨b, 1, none⟩ = some y)
    (ht0 : W.cell? ⟨ta, 0, none⟩ = some o1) (hf0 : W.frozen? ⟨ta, 0, none⟩ = false) (ht1 : W.cell? ⟨ta, 1, none⟩ = some o2) (hf1 : W.frozen? ⟨ta, 1, none⟩ = false) :
    (ReflectliteValue.set #[.agg #[.pointer (some ⟨9, 54, none⟩), .pointer (some ⟨ta, 0, none⟩), .int .u64 409], .agg #[.pointer (some ⟨9, 54, none⟩), .pointer (some ⟨b, 0, none⟩), .int .u64 153]]).run Tryz.prog W
      = .ok (.tuple #[]) ((W.setCell ⟨ta, 0, none⟩ x).setCell ⟨ta, 1, none⟩ y) := by
  rw [show ∀ (v x : Value), ReflectliteValue.set #[v, x] = (ReflectliteValue.parts v >>= fun p => ReflectliteValue.parts x >>= _) from fun _ _ => rfl]
  rw [Sem.run_bind, partsSa]
  simp only [Result.andThen_ok]
  rw [Sem.run_bind, partsS]
  simp only [Result.andThen_ok]
  have hL : (loadVar 54 ⟨b, 0, none⟩).run Tryz.prog W = .ok (.agg #[x, y]) W := by
    have h1 : (isAgg 54).run Tryz.prog W = .ok true W := by kernel_rfl
    have h3 := run_loadCells_list (P := Tryz.prog) (w := W) ⟨b, 0, none⟩ [x, y] (by
      intro j v hj
      match j, hj with
      | 0, hj => simp at hj; subst hj; simpa [Addr.add] using hb0
      | 1, hj => simp at hj; subst hj; simpa [Addr.add] using hb1)
    have h3' : (loadCells ⟨b, 0, none⟩ 2).run Tryz.prog W = .ok #[x, y] W := h3
    unfold loadVar
    simp [h1, h3']
  have hS : (storeVar 54 ⟨ta, 0, none⟩ (.agg #[x, y])).run Tryz.prog W = .ok () ((W.setCell ⟨ta, 0, none⟩ x).setCell ⟨ta, 1, none⟩ y) := by
    have h2 : (sizeOf 54).run Tryz.prog W = .ok 2 W := by kernel_rfl
    unfold storeVar
    simp [h2, Value.cells, storeCells, Addr.add]
    rw [run_store Tryz.prog W _ _ _ hx]
    simp only [ht0, hf0, Bool.false_eq_true, if_false]
    rw [Result.andThen_ok, run_store Tryz.prog _ _ _ _ hy]
    rw [World.cell?_setCell_other _ _ _ _ (by simp), World.frozen?_setCell, ht1, hf1]
    rfl
  simp [ReflectliteValue.flagAddr, directS, hL, hS]

end Wp
end Go.Proofs.YtolnkgghejhaeaaGreatDoor

namespace Go.Proofs.YtolnkgghejhaeaaGreatDoor
open Go
namespace Wp
theorem mKind (h : Value) (w : World) : (Go.method 311 115 (.agg #[h]) "Kind").run Tryz.prog w = .ok (169, h) w := by kernel_rfl
theorem mElem (h : Value) (w : World) : (Go.method 311 115 (.agg #[h]) "Elem").run Tryz.prog w = .ok (180, .agg #[h]) w := by kernel_rfl
theorem mImplements (h : Value) (w : World) : (Go.method 311 115 (.agg #[h]) "Implements").run Tryz.prog w = .ok (181, .agg #[h]) w := by kernel_rfl
theorem mAssignableTo (h : Value) (w : World) : (Go.method 311 115 (.agg #[h]) "AssignableTo").run Tryz.prog w = .ok (178, .agg #[h]) w := by kernel_rfl
theorem mComparable (h : Value) (w : World) : (Go.method 311 115 (.agg #[h]) "Comparable").run Tryz.prog w = .ok (179, .agg #[h]) w := by kernel_rfl
theorem mUnwrap (x y : Value) (w : World) : (Go.method 311 54 (.agg #[x, y]) "Unwrap").run Tryz.prog w = .ok (173, .agg #[x, y]) w := by kernel_rfl
end Wp
end Go.Proofs.YtolnkgghejhaeaaGreatDoor

namespace Go.Proofs.YtolnkgghejhaeaaGreatDoor
open Go.RowKit Go.Extern.Stop Go.Stop Go.Extern
namespace Wp

def asW (w : World) (t : Nat) (x y : Value) : World :=
  (((((w.alloc (.cells #[.pointer (some ⟨t, 0, none⟩)] 64)).alloc (.cells #[.pointer (some ⟨9, 64, none⟩), .pointer (some ⟨w.heap.size, 0, none⟩), .int .u64 150] 80)).alloc (.cells #[.pointer (some ⟨9, 64, none⟩), .pointer (some ⟨w.heap.size, 0, none⟩), .int .u64 150] 80)).alloc (.cells #[x, y] 54)).setCell ⟨t, 0, none⟩ x).setCell ⟨t, 1, none⟩ y

set_option maxHeartbeats 4000000 in
set_option maxRecDepth 100000 in
theorem as_hit (t : Nat) (x y o1 o2 : Value) (w : World) (hx : x.oneCell' = true) (hy : y.oneCell' = true) (hg : w.cell? ⟨1, 0, none⟩ = some (.iface 115 (.agg #[.pointer (some ⟨9, 52, none⟩)])))
    (ht : Blk w t 54 #[o1, o2]) :
    Calls Tryz.prog 53 #[.iface 54 (.agg #[x, y]), .iface 64 (.pointer (some ⟨t, 0, none⟩))] w fun ev w' => ev = .returned (.bool true) ∧ asW w t x y = w' := by
  have hVO := @run_callFunc_extern Tryz.prog 68 _ (fun args => ReflectliteValue.unpack (args.getD 0 (.tuple #[]))) Tryz.func68 (by kernel_rfl) (by kernel_rfl) (by kernel_rfl) (by kernel_rfl)
  have hVT := @run_callFunc_extern Tryz.prog 69 _ (ReflectliteValue.methodAny (ReflectliteValue.valueError "reflectlite.Value.Type" 0) (fun t _ _ _ => ReflectliteType.toType t)) Tryz.func69 (by kernel_rfl) (by kernel_rfl) (by kernel_rfl) (by kernel_rfl)
  have hVN := @run_callFunc_extern Tryz.prog 70 _ (ReflectliteValue.method (ReflectliteValue.valueError "reflectlite.Value.IsNil" 0) ReflectliteValue.isNil) Tryz.func70 (by kernel_rfl) (by kernel_rfl) (by kernel_rfl) (by kernel_rfl)
  have hTK := @run_callFunc_extern Tryz.prog 169 _ (ReflectliteType.abiMethod fun t => do pure (.int .u8 (← Rtype.kind t))) Tryz.func169 (by kernel_rfl) (by kernel_rfl) (by kernel_rfl) (by kernel_rfl)
  have hTE := @run_callFunc_extern Tryz.prog 180 _ (ReflectliteType.method ReflectliteType.elem) Tryz.func180 (by kernel_rfl) (by kernel_rfl) (by kernel_rfl) (by kernel_rfl)
  have hTI := @run_callFunc_extern Tryz.prog 181 _ (ReflectliteType.relation "Implements" ReflectliteType.implements_) Tryz.func181 (by kernel_rfl) (by kernel_rfl) (by kernel_rfl) (by kernel_rfl)
  have hTO := @run_callFunc_extern Tryz.prog 66 _ ReflectliteType.typeOf Tryz.func66 (by kernel_rfl) (by kernel_rfl) (by kernel_rfl) (by kernel_rfl)
  have hTA := @run_callFunc_extern Tryz.prog 178 _ (ReflectliteType.relation "AssignableTo" ReflectliteType.assignableTo) Tryz.func178 (by kernel_rfl) (by kernel_rfl) (by kernel_rfl) (by kernel_rfl)
  have hVE := @run_callFunc_extern Tryz.prog 96 _ (ReflectliteValue.method (ReflectliteValue.valueError "reflectlite.Value.Elem" 0) ReflectliteValue.elem) Tryz.func96 (by kernel_rfl) (by kernel_rfl) (by kernel_rfl) (by kernel_rfl)
  have hVS := @run_callFunc_extern Tryz.prog 97 _ ReflectliteValue.set Tryz.func97 (by kernel_rfl) (by kernel_rfl) (by kernel_rfl) (by kernel_rfl)
  have mK := mKind
  have mE := mElem
  have mI := mImplements
  have mA := mAssignableTo
  have tO := typeOfS
  have aS := assignableS
  have vS := valueOfS
  have vP := valueOfP
  have tP := typeP
  have kP := kindP
  have kS := kindS
  have eP := elemP
  have iS := implementsS
  have hlt : 1 < w.heap.size := by
    rcases Nat.lt_or_ge 1 w.heap.size with h | h
    · exact h
    · simp [World.cell?, Array.getElem?_eq_none h] at hg
  have htl := ht.lt
  have n8 := isNilP ⟨w.heap.size, 0, none⟩ ⟨t, 0, none⟩ ((w.alloc (.cells #[.pointer (some ⟨t, 0, none⟩)] 64)).alloc (.cells #[.pointer (some ⟨9, 64, none⟩), .pointer (some ⟨w.heap.size, 0, none⟩), .int .u64 150] 80)) (by simp)
  have hg2 : ((w.alloc (.cells #[.pointer (some ⟨t, 0, none⟩)] 64)).alloc (.cells #[.pointer (some ⟨9, 64, none⟩), .pointer (some ⟨w.heap.size, 0, none⟩), .int .u64 150] 80)).cell? ⟨1, 0, none⟩ = some (.iface 115 (.agg #[.pointer (some ⟨9, 52, none⟩)])) := by
    rw [World.cell?_alloc_lt _ _ ⟨1, 0, none⟩ (by simp; omega), World.cell?_alloc_lt _ _ ⟨1, 0, none⟩ hlt]; exact hg
  have el := elemVP ⟨w.heap.size, 0, none⟩ ⟨t, 0, none⟩ (((w.alloc (.cells #[.pointer (some ⟨t, 0, none⟩)] 64)).alloc (.cells #[.pointer (some ⟨9, 64, none⟩), .pointer (some ⟨w.heap.size, 0, none⟩), .int .u64 150] 80)).alloc (.cells #[.pointer (some ⟨9, 64, none⟩), .pointer (some ⟨w.heap.size, 0, none⟩), .int .u64 150] 80)) (by rw [World.cell?_alloc_lt _ _ ⟨w.heap.size, 0, none⟩ (by simp; omega)]; simp)
  have ht3 := ((ht.alloc (.cells #[.pointer (some ⟨t, 0, none⟩)] 64)).alloc (.cells #[.pointer (some ⟨9, 64, none⟩), .pointer (some ⟨w.heap.size, 0, none⟩), .int .u64 150] 80)).alloc (.cells #[.pointer (some ⟨9, 64, none⟩), .pointer (some ⟨w.heap.size, 0, none⟩), .int .u64 150] 80)
  have ht4 := ht3.alloc (.cells #[x, y] 54)
  have st := setS t (w.heap.size + 1 + 1 + 1) x y o1 o2 ((((w.alloc (.cells #[.pointer (some ⟨t, 0, none⟩)] 64)).alloc (.cells #[.pointer (some ⟨9, 64, none⟩), .pointer (some ⟨w.heap.size, 0, none⟩), .int .u64 150] 80)).alloc (.cells #[.pointer (some ⟨9, 64, none⟩), .pointer (some ⟨w.heap.size, 0, none⟩), .int .u64 150] 80)).alloc (.cells #[x, y] 54)) hx hy
    (by rw [World.cell?_alloc_at _ _ _ _ (by simp)]; rfl) (by rw [World.cell?_alloc_at _ _ _ _ (by simp)]; rfl)
    (ht4.cell 0) (ht4.frozen 0) (ht4.cell 1) (ht4.frozen 1)
  have HT := Lib.hid ht
  clear ht ht3 ht4
  go_enter Tryz.func53, Tryz.ntmps53
  go_wp2
  refine wp_loop_rounds 1 ?_
  rw [rounds_succ]
  go_wp2
  go_ret
  exact ⟨rfl, rfl⟩

end Wp
end Go.Proofs.YtolnkgghejhaeaaGreatDoor

namespace Go.Proofs.YtolnkgghejhaeaaGreatDoor
open Go.RowKit Go.Extern.Stop Go.Stop Go.Extern
namespace Wp

theorem isTypeOf (v : Value) (w : World) : (Extern.ReflectliteType.typeOf #[.iface 178 v]).run Tryz.prog w = .ok (.iface 115 (.agg #[.pointer (some ⟨9, 178, none⟩)])) w := by kernel_rfl
theorem isComparable : ∃ fn, Extern.find Tryz.f179 = some fn ∧ ∀ w : World, (fn #[.agg #[.pointer (some ⟨9, 178, none⟩)]]).run Tryz.prog w = .ok (.bool true) w :=
  ⟨Extern.ReflectliteType.method fun t => do Extern.Rtype.noPackHeld "Comparable" t; pure (.bool (← typeInfo t).comparable), by kernel_rfl, fun w => by kernel_rfl⟩
theorem isComp : (Tryz.prog.info? 178).map (·.comparable) = some true := by kernel_rfl
theorem isSize : (Tryz.prog.info? 199).map (·.size) = some 1 := by kernel_rfl
theorem underE : Tryz.prog.underlying 52 = some (.interface #[("Error", 179)]) := by kernel_rfl
theorem underX : Tryz.prog.underlying 178 = some (.pointer 199) := by kernel_rfl
theorem noIsE (v : Value) (xT : TypeId) (w : World) : (Instr.typeAssert (.iface 178 v) xT 117 true).run Tryz.prog w = .ok (.tuple #[.nilIface, .bool false]) w := run_typeAssert_lacksB Tryz.underlying117 (by kernel_rfl) (by kernel_rfl) v xT w
theorem noUnwrapE (v : Value) (xT : TypeId) (w : World) : (Instr.typeAssert (.iface 178 v) xT 120 true).run Tryz.prog w = .ok (.tuple #[.nilIface, .bool false]) w := run_typeAssert_lacksB Tryz.underlying120 (by kernel_rfl) (by kernel_rfl) v xT w
theorem noUnwrapsE (v : Value) (xT : TypeId) (w : World) : (Instr.typeAssert (.iface 178 v) xT 122 true).run Tryz.prog w = .ok (.tuple #[.nilIface, .bool false]) w := run_typeAssert_lacksB Tryz.underlying122 (by kernel_rfl) (by kernel_rfl) v xT w
theorem noIsW (v : Value) (xT : TypeId) (w : World) : (Instr.typeAssert (.iface 54 v) xT 117 true).run Tryz.prog w = .ok (.tuple #[.nilIface, .bool false]) w := run_typeAssert_lacksB Tryz.underlying117 (by kernel_rfl) (by kernel_rfl) v xT w
theorem hasUnwrapW (v : Value) (xT : TypeId) (w : World) : (Instr.typeAssert (.iface 54 v) xT 120 true).run Tryz.prog w = .ok (.tuple #[.iface 54 v, .bool true]) w := run_typeAssert_hasB Tryz.underlying120 (by kernel_rfl) v xT w

theorem unwrap_any (x y : Value) (w : World) : Calls Tryz.prog 173 #[.agg #[x, y]] w fun e w' => e = .returned x ∧ w.alloc (.cells #[x, y] 54) = w' := by
  go_enter Tryz.func173, Tryz.ntmps173
  go_wp2
  go_ret
  exact ⟨rfl, rfl⟩


/-- An error that wraps so many, each with a kind. -/
def chain : List Int → Value → Value
  | [], v => v
  | t :: r, v => .iface 54 (.agg #[chain r v, .int .i64 t])
theorem chain_iface (ts : List Int) (a : Addr) : ∃ T v, chain ts (eS a) = .iface T v := by
  cases ts with
  | nil => exact ⟨_, _, rfl⟩
  | cons t r => exact ⟨_, _, rfl⟩
theorem size_in (x y : Value) (T : TypeId) : SizeOf.sizeOf x < SizeOf.sizeOf (Value.iface T (.agg #[x, y])) := by
  simp only [Value.iface.sizeOf_spec, Value.agg.sizeOf_spec, Array.mk.sizeOf_spec, List.cons.sizeOf_spec]
  omega

set_option maxHeartbeats 1000000 in
set_option maxRecDepth 100000 in
theorem is_chain (ts : List Int) (a b : Addr) (ca cb : Array Value) (ta tb : TypeId) (w : World) (hne : a ≠ b) (ha : w.heap[a.block]? = some (.cells ca ta (0, 0))) (hb : w.heap[b.block]? = some (.cells cb tb (0, 0))) :
    Calls Tryz.prog 52 #[chain ts (eS a), eS b] w (Says w false) := by
  obtain ⟨i, hi, hcmp⟩ := Option.map_eq_some_iff.1 isComp
  obtain ⟨j, hj, hjs⟩ := Option.map_eq_some_iff.1 isSize
  have h8 := @run_callFunc_extern Tryz.prog 66 _ Extern.ReflectliteType.typeOf Tryz.func66 (by kernel_rfl) (by kernel_rfl) (by kernel_rfl) (by kernel_rfl)
  obtain ⟨fn, hfn, cT⟩ := isComparable
  have h32 := @run_callFunc_extern Tryz.prog 179 _ fn Tryz.func179 (by kernel_rfl) (by kernel_rfl) (by kernel_rfl) hfn
  clear hfn
  have tT := isTypeOf
  have mR := mComparable
  have nE := noIsE
  have uE := noUnwrapE
  have vE := noUnwrapsE
  have nW := noIsW
  have uW := hasUnwrapW
  have mU := mUnwrap
  have hla := lt_of_block ha
  have hlb := lt_of_block hb
  have heq := fun (W : World) (hW : Below w.heap.size w W) => run_eql_iface_ptr_other (P := Tryz.prog) W underE underX hi hcmp hj (by rw [hjs]; decide) hne ((hW.block _ hla).trans ha) ((hW.block _ hlb).trans hb)
  have hty := fun (x : Value) (W : World) => run_eql_iface_types (P := Tryz.prog) 54 178 x (.pointer (some b)) underE (by decide) W
  obtain ⟨T0, v0, e0⟩ := chain_iface ts a
  have E0 := Lib.hid e0
  rw [e0]
  unfold eS at *
  clear e0
  go_enter Tryz.func52, Tryz.ntmps52
  go_wp2
  go_loopw [0] (fun ve wr => ∃ r, ve = chain r (.iface 178 (.pointer (some a))) ∧ Below w.heap.size w wr) (fun ve _ => SizeOf.sizeOf ve)
  case atStart => exact ⟨ts, E0.out.symm, Below.refl _ _⟩
  case round =>
    obtain ⟨r, rfl, hbr⟩ := hrel
    have heqr := heq _ hbr
    clear heq
    cases r with
    | nil =>
      rw [show chain [] (.iface 178 (.pointer (some a))) = .iface 178 (.pointer (some a)) from rfl]
      go_wp2
      go_ret
      exact ⟨rfl, hbr⟩
    | cons t r =>
      obtain ⟨T1, v1, e1⟩ := chain_iface r a
      unfold eS at e1
      rw [show chain (t :: r) (.iface 178 (.pointer (some a))) = .iface 54 (.agg #[chain r (.iface 178 (.pointer (some a))), .int .i64 t]) from rfl, e1]
      have E1 := Lib.hid e1
      clear e1
      go_wp2
      go_roundw
      case rel => exact ⟨r, E1.out.symm, hbr.alloc hbr.size _⟩
      case measure => exact size_in _ _ _

set_option maxHeartbeats 1000000 in
set_option maxRecDepth 100000 in
theorem is_hit (y : Value) (b : Addr) (w : World) :
    Calls Tryz.prog 52 #[.iface 54 (.agg #[.iface 178 (.pointer (some b)), y]), .iface 178 (.pointer (some b))] w (Says w true) := by
  obtain ⟨i, hi, hcmp⟩ := Option.map_eq_some_iff.1 isComp
  obtain ⟨j, hj, hjs⟩ := Option.map_eq_some_iff.1 isSize
  have h8 := @run_callFunc_extern Tryz.prog 66 _ Extern.ReflectliteType.typeOf Tryz.func66 (by kernel_rfl) (by kernel_rfl) (by kernel_rfl) (by kernel_rfl)
  obtain ⟨fn, hfn, cT⟩ := isComparable
  have h32 := @run_callFunc_extern Tryz.prog 179 _ fn Tryz.func179 (by kernel_rfl) (by kernel_rfl) (by kernel_rfl) hfn
  clear hfn
  have tT := isTypeOf
  have mR := mComparable
  have nW := noIsW
  have uW := hasUnwrapW
  have mU := mUnwrap
  have heq := run_eql_iface_ptr_same (P := Tryz.prog) (w.alloc (.cells #[.iface 178 (.pointer (some b)), y] 54)) b underE underX hi hcmp hj
  have hty := run_eql_iface_types (P := Tryz.prog) 54 178 (.agg #[.iface 178 (.pointer (some b)), y]) (.pointer (some b)) underE (by decide) w
  go_enter Tryz.func52, Tryz.ntmps52
  go_wp2
  refine wp_loop_rounds 2 ?_
  rw [rounds_succ]
  go_wp2
  rw [rounds_succ]
  go_wp2
  go_ret
  exact ⟨rfl, (Below.refl _ _).alloc (Nat.le_refl _) _⟩

set_option maxRecDepth 100000 in
theorem is_nil (v : Value) (w : World) : Calls Tryz.prog 52 #[.nilIface, .iface 178 v] w (Says w false) := by
  have heq := run_eql_iface_nil_left (P := Tryz.prog) (w := w) 178 v underE
  go_enter Tryz.func52, Tryz.ntmps52
  go_wp2
  go_ret
  exact ⟨rfl, Below.refl _ _⟩

end Wp
end Go.Proofs.YtolnkgghejhaeaaGreatDoor

namespace Go.Proofs.YtolnkgghejhaeaaGreatDoor
open Go.RowKit
namespace Wp

theorem asW_below (w : World) (t : Nat) (x y : Value) (B : Nat) (hB : B ≤ t) (h : B ≤ w.heap.size) : Below B w (asW w t x y) := by
  unfold asW
  refine Below.setCell ?_ (by exact hB) _
  refine Below.setCell ?_ (by exact hB) _
  exact ((((Below.refl _ w).alloc h _).alloc (by simp; omega) _).alloc (by simp; omega) _).alloc (by simp; omega) _

set_option maxRecDepth 100000 in
theorem as_nil (v : Value) (w : World) : Calls Tryz.prog 53 #[.nilIface, v] w (Says w false) := by
  go_enter Tryz.func53, Tryz.ntmps53
  go_wp2
  go_ret
  exact ⟨rfl, Below.refl _ _⟩

/-- What is told is that number, and nothing of before is changed. -/
def Tells (w : World) (k : Int) (e : Ending) (w' : World) : Prop := e = .returned (.int .i64 k) ∧ Below w.heap.size w w'

def toldW (w : World) : World := w.alloc (.cells #[.nilIface, .int .i64 0] 54)
theorem toldW_below (w : World) : Below w.heap.size w (toldW w) := (Below.refl _ w).alloc (Nat.le_refl _) _
theorem toldW_size (w : World) : (toldW w).heap.size = w.heap.size + 1 := by simp [toldW]

set_option maxHeartbeats 1000000 in
set_option maxRecDepth 100000 in
theorem told_nil (E : Nat → Addr) (w : World) (hE : Env E w) : Calls Tryz.prog 39 #[.nilIface] w (Tells w 0) := by
  have Hb0 := Lib.hid (toldW_below w)
  have g0 := (hE.up (toldW_below w)).g0
  unfold toldW eS at *
  clear hE
  go_enter Tryz.func39, Tryz.ntmps39
  go_wp2_with fail
  refine (is_nil _ _).mono ?_
  rintro e w1 ⟨rfl, hb1⟩
  have Hb1 := Lib.hid (below_next Hb0.out (Nat.le_refl _) hb1)
  clear hb1
  go_wp2_with fail
  refine (as_nil _ _).mono ?_
  rintro e w2 ⟨rfl, hb2⟩
  have Hb2 := Lib.hid (below_next Hb1.out (Nat.le_refl _) hb2)
  clear hb2
  go_wp2
  go_ret
  exact ⟨rfl, Hb2.out⟩

set_option maxHeartbeats 1000000 in
set_option maxRecDepth 100000 in
theorem told_deep (E : Nat → Addr) (t : Int) (w : World) (hE : Env E w) : Calls Tryz.prog 39 #[.iface 54 (.agg #[eS (E 0), .int .i64 t])] w (Tells w 91) := by
  have Hb0 := Lib.hid (toldW_below w)
  have g0 := (hE.up (toldW_below w)).g0
  unfold toldW eS at *
  clear hE
  go_enter Tryz.func39, Tryz.ntmps39
  go_wp2_with fail
  refine (is_hit _ _ _).mono ?_
  rintro e w1 ⟨rfl, hb1⟩
  have Hb1 := Lib.hid (below_next Hb0.out (Nat.le_refl _) hb1)
  clear hb1
  go_wp2
  go_ret
  exact ⟨rfl, Hb1.out⟩

theorem chain_one (ts : List Int) (a : Addr) : (chain ts (eS a)).oneCell' = true := by
  cases ts <;> rfl

set_option maxHeartbeats 1000000 in
set_option maxRecDepth 100000 in
theorem told_fit (E : Nat → Addr) (t : Int) (ts : List Int) (k : Nat) (hk : 1 ≤ k ∧ k ≤ 4) (w : World) (hE : Env E w) : Calls Tryz.prog 39 #[chain (t :: ts) (eS (E k))] w (Tells w 90) := by
  have Hb0 := Lib.hid (toldW_below w)
  have hE0 := hE.up (toldW_below w)
  have g0 := hE0.g0
  have HE := Lib.hid hE0
  obtain ⟨ca, ta, ha⟩ := hE0.blk k hk.2
  obtain ⟨cb, tb, hb⟩ := hE0.blk 0 (by decide)
  have Hc := Lib.hid (is_chain (t :: ts) (E k) (E 0) ca cb ta tb (toldW w) (hE0.ne k hk.1 hk.2) ha hb)
  have h1 := chain_one ts (E k)
  have ht : Blk (toldW w) w.heap.size 54 #[.nilIface, .int .i64 0] := Blk.new w _ _
  have Ht := Lib.hid ht
  rw [show chain (t :: ts) (eS (E k)) = .iface 54 (.agg #[chain ts (eS (E k)), .int .i64 t]) from rfl] at *
  have H1 := Lib.hid h1
  clear hE0 hE ha hb ht h1
  generalize chain ts (eS (E k)) = x at *
  unfold toldW at Hb0 HE Hc Ht g0
  unfold eS at *
  go_enter Tryz.func39, Tryz.ntmps39
  go_wp2_with fail
  refine (Hc.out).mono ?_
  rintro e w1 ⟨rfl, hb1⟩
  have Ht1 := Lib.hid (Ht.out.below hb1 (by simp))
  have HE1 := Lib.hid (HE.out.up hb1)
  have Hb1 := Lib.hid (below_next Hb0.out (Nat.le_refl _) hb1)
  clear hb1
  go_wp2_with fail
  refine (as_hit w.heap.size x (.int .i64 t) .nilIface (.int .i64 0) w1 H1.out rfl HE1.out.gt Ht1.out).mono ?_
  rintro e w2 ⟨rfl, rfl⟩
  have Hb2 : Hid (Below w.heap.size w (asW w1 w.heap.size x (.int .i64 t))) := Hb1.out.trans (asW_below w1 w.heap.size x _ w.heap.size (Nat.le_refl _) Hb1.out.size)
  go_wp2
  go_ret
  exact ⟨rfl, Hb2.out⟩

end Wp
end Go.Proofs.YtolnkgghejhaeaaGreatDoor

