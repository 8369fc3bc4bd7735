/- Go's own errors.As, walked, at an error that is a fault and a target that is a variable of that type. -/
import Derived.Test.YtcabbhiabhblfaaDoorWMem
import Derived.LaidEql
import Derived.Stop.Asserts
import Derived.RowKitTokens
namespace Go.Proofs.YtcabbhiabhblfaaDoor
open Go.RowKit Go.Extern.Stop Go.Stop Go.Extern
namespace Wp

theorem valueOfP (t : Addr) (w : World) : (ReflectliteValue.unpack (.iface 67 (.pointer (some t)))).run Tryd.prog w
    = .ok (.agg #[.pointer (some ⟨5, 67, none⟩), .pointer (some ⟨w.heap.size, 0, none⟩), .int .u64 150]) (w.alloc (.cells #[.pointer (some t)] 67)) := by kernel_rfl
theorem typeP (a : Addr) (w : World) : (ReflectliteValue.methodAny (ReflectliteValue.valueError "reflectlite.Value.Type" 0) (fun t _ _ _ => ReflectliteType.toType t) #[.agg #[.pointer (some ⟨5, 67, none⟩), .pointer (some a), .int .u64 150]]).run Tryd.prog w
    = .ok (.iface 86 (.agg #[.pointer (some ⟨5, 67, none⟩)])) w := by kernel_rfl
theorem kindP (w : World) : ((ReflectliteType.abiMethod fun t => (fun a : Nat => Value.int IntKind.u8 (a : Int)) <$> Rtype.kind t) #[.pointer (some ⟨5, 67, none⟩)]).run Tryd.prog w = .ok (.int .u8 22) w := by kernel_rfl
theorem kindS (w : World) : ((ReflectliteType.abiMethod fun t => (fun a : Nat => Value.int IntKind.u8 (a : Int)) <$> Rtype.kind t) #[.pointer (some ⟨5, 53, none⟩)]).run Tryd.prog w = .ok (.int .u8 25) w := by kernel_rfl

theorem partsP (a : Addr) (w : World) : (ReflectliteValue.parts (.agg #[.pointer (some ⟨5, 67, none⟩), .pointer (some a), .int .u64 150])).run Tryd.prog w = .ok (some (67, a, 150)) w := by kernel_rfl
theorem method_run (z : Sem Value) (f : TypeId → Addr → Nat → Nat → Sem Value) (v : Value) (t : TypeId) (a : Addr) (fl : Nat) (W : World) (hp : (ReflectliteValue.parts v).run Tryd.prog W = .ok (some (t, a, fl)) W) :
    (ReflectliteValue.method z f #[v]).run Tryd.prog W = (f t a fl (fl % 32)).run Tryd.prog W := by
  rw [show ReflectliteValue.method z f #[v] = (ReflectliteValue.parts v >>= _) from rfl, Sem.run_bind, hp]
  rfl
theorem isNilP (a p : Addr) (W : World) (ha : W.cell? a = some (.pointer (some p))) :
    (ReflectliteValue.method (ReflectliteValue.valueError "reflectlite.Value.IsNil" 0) ReflectliteValue.isNil #[.agg #[.pointer (some ⟨5, 67, none⟩), .pointer (some a), .int .u64 150]]).run Tryd.prog W = .ok (.bool false) W := by
  rw [method_run _ _ _ _ _ _ _ (partsP a W)]
  simp [ReflectliteValue.isNil, loadVar, isAgg, underlying, ha, Result.andThen]
theorem elemP (w : World) : (ReflectliteType.method ReflectliteType.elem #[.agg #[.pointer (some ⟨5, 67, none⟩)]]).run Tryd.prog w = .ok (.iface 86 (.agg #[.pointer (some ⟨5, 53, none⟩)])) w := by kernel_rfl
theorem implementsS (w : World) : (ReflectliteType.relation "Implements" ReflectliteType.implements_ #[.agg #[.pointer (some ⟨5, 53, none⟩)], .iface 86 (.agg #[.pointer (some ⟨5, 47, none⟩)])]).run Tryd.prog w = .ok (.bool true) w := by kernel_rfl
theorem typeOfS (v : Value) (w : World) : (ReflectliteType.typeOf #[.iface 53 v]).run Tryd.prog w = .ok (.iface 86 (.agg #[.pointer (some ⟨5, 53, none⟩)])) w := by kernel_rfl
theorem assignableS (w : World) : (ReflectliteType.relation "AssignableTo" ReflectliteType.assignableTo #[.agg #[.pointer (some ⟨5, 53, none⟩)], .iface 86 (.agg #[.pointer (some ⟨5, 53, none⟩)])]).run Tryd.prog w = .ok (.bool true) w := by kernel_rfl
theorem valueOfS (x y : Value) (w : World) : (ReflectliteValue.unpack (.iface 53 (.agg #[x, y]))).run Tryd.prog w
    = .ok (.agg #[.pointer (some ⟨5, 53, none⟩), .pointer (some ⟨w.heap.size, 0, none⟩), .int .u64 153]) (w.alloc (.cells #[x, y] 53)) := by kernel_rfl
theorem elemOfP (w : World) : (Rtype.elem? 67).run Tryd.prog w = .ok (some 53) w := by kernel_rfl
theorem mkS (p : Addr) (w : World) : (ReflectliteValue.mk 53 p ReflectliteValue.flagAddr).run Tryd.prog w = .ok (.agg #[.pointer (some ⟨5, 53, none⟩), .pointer (some p), .int .u64 409]) w := by kernel_rfl
theorem elemVP (a p : Addr) (W : World) (ha : W.cell? a = some (.pointer (some p))) :
    (ReflectliteValue.method (ReflectliteValue.valueError "reflectlite.Value.Elem" 0) ReflectliteValue.elem #[.agg #[.pointer (some ⟨5, 67, none⟩), .pointer (some a), .int .u64 150]]).run Tryd.prog W
      = .ok (.agg #[.pointer (some ⟨5, 53, none⟩), .pointer (some p), .int .u64 409]) W := by
  rw [method_run _ _ _ _ _ _ _ (partsP a W)]
  simp [ReflectliteValue.elem, loadVar, isAgg, underlying, ha, Result.andThen, elemOfP, mkS]
theorem partsSa (a : Addr) (w : World) : (ReflectliteValue.parts (.agg #[.pointer (some ⟨5, 53, none⟩), .pointer (some a), .int .u64 409])).run Tryd.prog w = .ok (some (53, a, 409)) w := by kernel_rfl
theorem partsS (a : Addr) (w : World) : (ReflectliteValue.parts (.agg #[.pointer (some ⟨5, 53, none⟩), .pointer (some a), .int .u64 153])).run Tryd.prog w = .ok (some (53, a, 153)) w := by kernel_rfl
theorem directS (w : World) : (Rtype.directlyAssignable 53 53).run Tryd.prog w = .ok true w := by kernel_rfl
theorem setS (ta b : Nat) (x y o1 o2 : Value) (W : World) (hx : x.oneCell' = true) (hy : y.oneCell' = true) (hb0 : W.cell? ⟨b, 0, none⟩ = some x) (hb1 : W.cell? ⟨b, 1, none⟩ = some y)
    (ht0 : W.cell? ⟨ta, 0, none⟩ = some o1) (hf0 : W.frozen? ⟨ta, 0, none⟩ = false) (ht1 : W.cell? ⟨ta, 1, none⟩ = some o2) (hf1 : W.frozen? ⟨ta, 1, none⟩ = false) :
    (ReflectliteValue.set #[.agg #[.pointer (some ⟨5, 53, none⟩), .pointer (some ⟨ta, 0, none⟩), .int .u64 409], .agg #[.pointer (some ⟨5, 53, none⟩), .pointer (some ⟨b, 0, none⟩), .int .u64 153]]).run Tryd.prog W
      = .ok (.tuple #[]) ((W.setCell ⟨ta, 0, none⟩ x).setCell ⟨ta, 1, none⟩ y) := by
  rw [show ∀ (v x : Value), ReflectliteValue.set #[v, x] = (ReflectliteValue.parts v >>= fun p => ReflectliteValue.parts x >>= _) from fun _ _ => rfl]
  rw [Sem.run_bind, partsSa]
  simp only [Result.andThen_ok]
  rw [Sem.run_bind, partsS]
  simp only [Result.andThen_ok]
  have hL : (loadVar 53 ⟨b, 0, none⟩).run Tryd.prog W = .ok (.agg #[x, y]) W := by
    have h1 : (isAgg 53).run Tryd.prog W = .ok true W := by kernel_rfl
    have h3 := run_loadCells_list (P := Tryd.prog) (w := W) ⟨b, 0, none⟩ [x, y] (by
      intro j v hj
      match j, hj with
      | 0, hj => simp at hj; subst hj; simpa [Addr.add] using hb0
      | 1, hj => simp at hj; subst hj; simpa [Addr.add] using hb1)
    have h3' : (loadCells ⟨b, 0, none⟩ 2).run Tryd.prog W = .ok #[x, y] W := h3
    unfold loadVar
    simp [h1, h3']
  have hS : (storeVar 53 ⟨ta, 0, none⟩ (.agg #[x, y])).run Tryd.prog W = .ok () ((W.setCell ⟨ta, 0, none⟩ x).setCell ⟨ta, 1, none⟩ y) := by
    have h2 : (sizeOf 53).run Tryd.prog W = .ok 2 W := by kernel_rfl
    unfold storeVar
    simp [h2, Value.cells, storeCells, Addr.add]
    rw [run_store Tryd.prog W _ _ _ hx]
    simp only [ht0, hf0, Bool.false_eq_true, if_false]
    rw [Result.andThen_ok, run_store Tryd.prog _ _ _ _ hy]
    rw [World.cell?_setCell_other _ _ _ _ (by simp), World.frozen?_setCell, ht1, hf1]
    rfl
  simp [ReflectliteValue.flagAddr, directS, hL, hS]

end Wp
end Go.Proofs.YtcabbhiabhblfaaDoor
