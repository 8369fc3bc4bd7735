/- Go's own errors.As and errors.Is, walked at this package's errors; and the program's told. The program's matroid.deep, walked: how deep matroids lie within one another. -/
import Derived.Test.YtgadbnbhgpehjaaGreatDoorZQ
import Derived.LaidEql
import Derived.Stop.Asserts
import Derived.RowKitTokens
import Derived.Test.YtgadbnbhgpehjaaGreatDoorProg
import Derived.WalkKit
set_option maxHeartbeats 4000000
set_option maxRecDepth 100000
open Go.Lib (hid)
namespace Go.Proofs.YtgadbnbhgpehjaaGreatDoor
open Go.RowKit Go.Extern.Stop Go.Stop Go.Extern
namespace Wp
theorem Xa2 (t : Addr) (w : World) : (ReflectliteValue.unpack (.iface 123 (.pointer (some t)))).run Tryz.prog w
  = .ok (.agg #[.pointer (some ⟨9, 123, none⟩), .pointer (some ⟨w.heap.size, 0, none⟩), .int .u64 150]) (w.alloc (.cells #[.pointer (some t)] 123)) := by kernel_rfl
theorem typeP (a : Addr) (w : World) : (ReflectliteValue.methodAny (ReflectliteValue.valueError "reflectlite.Value.Type" 0) (fun t _ _ _ => ReflectliteType.toType t) #[.agg #[.pointer (some ⟨9, 123, none⟩), .pointer (some a), .int .u64 150]]).run Tryz.prog w
  = .ok (.iface 163 (.agg #[.pointer (some ⟨9, 123, none⟩)])) w := by kernel_rfl
theorem kindP (w : World) : ((ReflectliteType.abiMethod fun t => (fun a : Nat => Value.int IntKind.u8 (a : Int)) <$> Rtype.kind t) #[.pointer (some ⟨9, 123, none⟩)]).run Tryz.prog w = .ok (.int .u8 22) w := by kernel_rfl
theorem kindS (w : World) : ((ReflectliteType.abiMethod fun t => (fun a : Nat => Value.int IntKind.u8 (a : Int)) <$> Rtype.kind t) #[.pointer (some ⟨9, 103, none⟩)]).run Tryz.prog w = .ok (.int .u8 25) w := by kernel_rfl
theorem Xi6 (a : Addr) (w : World) : (ReflectliteValue.parts (.agg #[.pointer (some ⟨9, 123, none⟩), .pointer (some a), .int .u64 150])).run Tryz.prog w = .ok (some (123, a, 150)) w := by kernel_rfl
theorem Zb1 (z : Sem Value) (f : TypeId → Addr → Nat → Nat → Sem Value) (v : Value) (t : TypeId) (a : Addr) (fl : Nat) (W : World) (hp : (ReflectliteValue.parts v).run Tryz.prog W = .ok (some (t, a, fl)) W) :
  (ReflectliteValue.method z f #[v]).run Tryz.prog W = (f t a fl (fl % 32)).run Tryz.prog W := by
 rw [show ReflectliteValue.method z f #[v] = (ReflectliteValue.parts v >>= _) from rfl, Sem.run_bind, hp]
 rfl
theorem Vx1 (a p : Addr) (W : World) (ha : W.cell? a = some (.pointer (some p))) :
  (ReflectliteValue.method (ReflectliteValue.valueError "reflectlite.Value.IsNil" 0) ReflectliteValue.isNil #[.agg #[.pointer (some ⟨9, 123, none⟩), .pointer (some a), .int .u64 150]]).run Tryz.prog W = .ok (.bool false) W := by
 rw [Zb1 _ _ _ _ _ _ _ (Xi6 a W)]
 simp [ReflectliteValue.isNil, loadVar, isAgg, underlying, ha, Result.andThen]
theorem elemP (w : World) : (ReflectliteType.method ReflectliteType.elem #[.agg #[.pointer (some ⟨9, 123, none⟩)]]).run Tryz.prog w = .ok (.iface 163 (.agg #[.pointer (some ⟨9, 103, none⟩)])) w := by kernel_rfl
theorem Zt8 (w : World) : (ReflectliteType.relation "Implements" ReflectliteType.implements_ #[.agg #[.pointer (some ⟨9, 103, none⟩)], .iface 163 (.agg #[.pointer (some ⟨9, 101, none⟩)])]).run Tryz.prog w = .ok (.bool true) w := by kernel_rfl
theorem Xr0 (v : Value) (w : World) : (ReflectliteType.typeOf #[.iface 103 v]).run Tryz.prog w = .ok (.iface 163 (.agg #[.pointer (some ⟨9, 103, none⟩)])) w := by kernel_rfl
theorem Zt9 (w : World) : (ReflectliteType.relation "AssignableTo" ReflectliteType.assignableTo #[.agg #[.pointer (some ⟨9, 103, none⟩)], .iface 163 (.agg #[.pointer (some ⟨9, 103, none⟩)])]).run Tryz.prog w = .ok (.bool true) w := by kernel_rfl
theorem Xa3 (x y : Value) (w : World) : (ReflectliteValue.unpack (.iface 103 (.agg #[x, y]))).run Tryz.prog w
  = .ok (.agg #[.pointer (some ⟨9, 103, none⟩), .pointer (some ⟨w.heap.size, 0, none⟩), .int .u64 153]) (w.alloc (.cells #[x, y] 103)) := by kernel_rfl
theorem Xr1 (w : World) : (Rtype.elem? 123).run Tryz.prog w = .ok (some 103) w := by kernel_rfl
theorem mkS (p : Addr) (w : World) : (ReflectliteValue.mk 103 p ReflectliteValue.flagAddr).run Tryz.prog w = .ok (.agg #[.pointer (some ⟨9, 103, none⟩), .pointer (some p), .int .u64 409]) w := by kernel_rfl
theorem Vx2 (a p : Addr) (W : World) (ha : W.cell? a = some (.pointer (some p))) :
  (ReflectliteValue.method (ReflectliteValue.valueError "reflectlite.Value.Elem" 0) ReflectliteValue.elem #[.agg #[.pointer (some ⟨9, 123, none⟩), .pointer (some a), .int .u64 150]]).run Tryz.prog W
   = .ok (.agg #[.pointer (some ⟨9, 103, none⟩), .pointer (some p), .int .u64 409]) W := by
 rw [Zb1 _ _ _ _ _ _ _ (Xi6 a W)]
 simp [ReflectliteValue.elem, loadVar, isAgg, underlying, ha, Result.andThen, Xr1, mkS]
theorem Xr2 (a : Addr) (w : World) : (ReflectliteValue.parts (.agg #[.pointer (some ⟨9, 103, none⟩), .pointer (some a), .int .u64 409])).run Tryz.prog w = .ok (some (103, a, 409)) w := by kernel_rfl
theorem Vx3 (a : Addr) (w : World) : (ReflectliteValue.parts (.agg #[.pointer (some ⟨9, 103, none⟩), .pointer (some a), .int .u64 153])).run Tryz.prog w = .ok (some (103, a, 153)) w := by kernel_rfl
theorem Xr3 (w : World) : (Rtype.directlyAssignable 103 103).run Tryz.prog w = .ok true w := by kernel_rfl
theorem setS (ta b : Nat) (x y o1 o2 : Value) (W : World) (hx : x.oneCell' = true) (hy : y.oneCell' = true) (hb0 : W.cell? ⟨b, 0, none⟩ = some x) (hb1 : W.cell? ⟨b, 1, none⟩ = some y)
  (ht0 : W.cell? ⟨ta, 0, none⟩ = some o1) (hf0 : W.frozen? ⟨ta, 0, none⟩ = false) (ht1 : W.cell? ⟨ta, 1, none⟩ = some o2) (hf1 : W.frozen? ⟨ta, 1, none⟩ = false) :
  (ReflectliteValue.set #[.agg #[.pointer (some ⟨9, 103, none⟩), .pointer (some ⟨ta, 0, none⟩), .int .u64 409], .agg #[.pointer (some ⟨9, 103, none⟩), .pointer (some ⟨b, 0, none⟩), .int .u64 153]]).run Tryz.prog W
   = .ok (.tuple #[]) ((W.setCell ⟨ta, 0, none⟩ x).setCell ⟨ta, 1, none⟩ y) := by
 rw [show ∀ (v x : Value), ReflectliteValue.set #[v, x] = (ReflectliteValue.parts v >>= fun p => ReflectliteValue.parts x >>= _) from fun _ _ => rfl]
 rw [Sem.run_bind, Xr2]
 simp only [Result.andThen_ok]
 rw [Sem.run_bind, Vx3]
 simp only [Result.andThen_ok]
 have hL : (loadVar 103 ⟨b, 0, none⟩).run Tryz.prog W = .ok (.agg #[x, y]) W := by
  have h1 : (isAgg 103).run Tryz.prog W = .ok true W := by kernel_rfl
  have h3 := run_loadCells_list (P := Tryz.prog) (w := W) ⟨b, 0, none⟩ [x, y] (by
   intro j v hj
   match j, hj with
   | 0, hj => simp at hj; subst hj; simpa [Addr.add] using hb0
   | 1, hj => simp at hj; subst hj; simpa [Addr.add] using hb1)
  have h3' : (loadCells ⟨b, 0, none⟩ 2).run Tryz.prog W = .ok #[x, y] W := h3
  unfold loadVar
  simp [h1, h3']
 have hS : (storeVar 103 ⟨ta, 0, none⟩ (.agg #[x, y])).run Tryz.prog W = .ok () ((W.setCell ⟨ta, 0, none⟩ x).setCell ⟨ta, 1, none⟩ y) := by
  have h2 : (sizeOf 103).run Tryz.prog W = .ok 2 W := by kernel_rfl
  unfold storeVar
  simp [h2, Value.cells, storeCells, Addr.add]
  rw [run_store Tryz.prog W _ _ _ hx]
  simp only [ht0, hf0, Bool.false_eq_true, if_false]
  rw [Result.andThen_ok, run_store Tryz.prog _ _ _ _ hy]
  rw [World.cell?_setCell_other _ _ _ _ (by simp), World.frozen?_setCell, ht1, hf1]
  rfl
 simp [ReflectliteValue.flagAddr, Xr3, hL, hS]
open Go
theorem mKind (h : Value) (w : World) : (Go.method 314 163 (.agg #[h]) "Kind").run Tryz.prog w = .ok (191, h) w := by kernel_rfl
theorem mElem (h : Value) (w : World) : (Go.method 314 163 (.agg #[h]) "Elem").run Tryz.prog w = .ok (202, .agg #[h]) w := by kernel_rfl
theorem Zu0 (h : Value) (w : World) : (Go.method 314 163 (.agg #[h]) "Implements").run Tryz.prog w = .ok (203, .agg #[h]) w := by kernel_rfl
theorem Zf7 (h : Value) (w : World) : (Go.method 314 163 (.agg #[h]) "AssignableTo").run Tryz.prog w = .ok (200, .agg #[h]) w := by kernel_rfl
theorem Zv0 (h : Value) (w : World) : (Go.method 314 163 (.agg #[h]) "Comparable").run Tryz.prog w = .ok (201, .agg #[h]) w := by kernel_rfl
theorem Yo6 (x y : Value) (w : World) : (Go.method 314 103 (.agg #[x, y]) "Unwrap").run Tryz.prog w = .ok (195, .agg #[x, y]) w := by kernel_rfl
open Go.RowKit Go.Extern.Stop Go.Stop Go.Extern
def asW (w : World) (t : Nat) (x y : Value) : World :=
 (((((w.alloc (.cells #[.pointer (some ⟨t, 0, none⟩)] 123)).alloc (.cells #[.pointer (some ⟨9, 123, none⟩), .pointer (some ⟨w.heap.size, 0, none⟩), .int .u64 150] 147)).alloc (.cells #[.pointer (some ⟨9, 123, none⟩), .pointer (some ⟨w.heap.size, 0, none⟩), .int .u64 150] 147)).alloc (.cells #[x, y] 103)).setCell ⟨t, 0, none⟩ x).setCell ⟨t, 1, none⟩ y
theorem Vx4 (t : Nat) (x y o1 o2 : Value) (w : World) (hx : x.oneCell' = true) (hy : y.oneCell' = true) (hg : w.cell? ⟨1, 0, none⟩ = some (.iface 163 (.agg #[.pointer (some ⟨9, 101, none⟩)])))
  (ht : Blk w t 103 #[o1, o2]) :
  Calls Tryz.prog 131 #[.iface 103 (.agg #[x, y]), .iface 123 (.pointer (some ⟨t, 0, none⟩))] w fun ev w' => ev = .returned (.bool true) ∧ asW w t x y = w' := by
 have hVO := @run_callFunc_extern Tryz.prog 150 _ (fun args => ReflectliteValue.unpack (args.getD 0 (.tuple #[]))) Tryz.func150 (by kernel_rfl) (by kernel_rfl) (by kernel_rfl) (by kernel_rfl)
 have hVT := @run_callFunc_extern Tryz.prog 151 _ (ReflectliteValue.methodAny (ReflectliteValue.valueError "reflectlite.Value.Type" 0) (fun t _ _ _ => ReflectliteType.toType t)) Tryz.func151 (by kernel_rfl) (by kernel_rfl) (by kernel_rfl) (by kernel_rfl)
 have hVN := @run_callFunc_extern Tryz.prog 152 _ (ReflectliteValue.method (ReflectliteValue.valueError "reflectlite.Value.IsNil" 0) ReflectliteValue.isNil) Tryz.func152 (by kernel_rfl) (by kernel_rfl) (by kernel_rfl) (by kernel_rfl)
 have hTK := @run_callFunc_extern Tryz.prog 191 _ (ReflectliteType.abiMethod fun t => do pure (.int .u8 (← Rtype.kind t))) Tryz.func191 (by kernel_rfl) (by kernel_rfl) (by kernel_rfl) (by kernel_rfl)
 have hTE := @run_callFunc_extern Tryz.prog 202 _ (ReflectliteType.method ReflectliteType.elem) Tryz.func202 (by kernel_rfl) (by kernel_rfl) (by kernel_rfl) (by kernel_rfl)
 have hTI := @run_callFunc_extern Tryz.prog 203 _ (ReflectliteType.relation "Implements" ReflectliteType.implements_) Tryz.func203 (by kernel_rfl) (by kernel_rfl) (by kernel_rfl) (by kernel_rfl)
 have hTO := @run_callFunc_extern Tryz.prog 148 _ ReflectliteType.typeOf Tryz.func148 (by kernel_rfl) (by kernel_rfl) (by kernel_rfl) (by kernel_rfl)
 have hTA := @run_callFunc_extern Tryz.prog 200 _ (ReflectliteType.relation "AssignableTo" ReflectliteType.assignableTo) Tryz.func200 (by kernel_rfl) (by kernel_rfl) (by kernel_rfl) (by kernel_rfl)
 have hVE := @run_callFunc_extern Tryz.prog 167 _ (ReflectliteValue.method (ReflectliteValue.valueError "reflectlite.Value.Elem" 0) ReflectliteValue.elem) Tryz.func167 (by kernel_rfl) (by kernel_rfl) (by kernel_rfl) (by kernel_rfl)
 have hVS := @run_callFunc_extern Tryz.prog 168 _ ReflectliteValue.set Tryz.func168 (by kernel_rfl) (by kernel_rfl) (by kernel_rfl) (by kernel_rfl)
 have mK := mKind
 have mE := mElem
 have mI := Zu0
 have mA := Zf7
 have tO := Xr0
 have aS := Zt9
 have vS := Xa3
 have vP := Xa2
 have tP := typeP
 have kP := kindP
 have kS := kindS
 have eP := elemP
 have iS := Zt8
 have hlt : 1 < w.heap.size := by
  rcases Nat.lt_or_ge 1 w.heap.size with h | h
  ·exact h
  ·simp [World.cell?, Array.getElem?_eq_none h] at hg
 have htl := ht.lt
 have n8 := Vx1 ⟨w.heap.size, 0, none⟩ ⟨t, 0, none⟩ ((w.alloc (.cells #[.pointer (some ⟨t, 0, none⟩)] 123)).alloc (.cells #[.pointer (some ⟨9, 123, none⟩), .pointer (some ⟨w.heap.size, 0, none⟩), .int .u64 150] 147)) (by simp)
 have hg2 : ((w.alloc (.cells #[.pointer (some ⟨t, 0, none⟩)] 123)).alloc (.cells #[.pointer (some ⟨9, 123, none⟩), .pointer (some ⟨w.heap.size, 0, none⟩), .int .u64 150] 147)).cell? ⟨1, 0, none⟩ = some (.iface 163 (.agg #[.pointer (some ⟨9, 101, none⟩)])) := by
  rw [World.cell?_alloc_lt _ _ ⟨1, 0, none⟩ (by simp; omega), World.cell?_alloc_lt _ _ ⟨1, 0, none⟩ hlt]; exact hg
 have el := Vx2 ⟨w.heap.size, 0, none⟩ ⟨t, 0, none⟩ (((w.alloc (.cells #[.pointer (some ⟨t, 0, none⟩)] 123)).alloc (.cells #[.pointer (some ⟨9, 123, none⟩), .pointer (some ⟨w.heap.size, 0, none⟩), .int .u64 150] 147)).alloc (.cells #[.pointer (some ⟨9, 123, none⟩), .pointer (some ⟨w.heap.size, 0, none⟩), .int .u64 150] 147)) (by rw [World.cell?_alloc_lt _ _ ⟨w.heap.size, 0, none⟩ (by simp; omega)]; simp)
 have ht3 := ((ht.alloc (.cells #[.pointer (some ⟨t, 0, none⟩)] 123)).alloc (.cells #[.pointer (some ⟨9, 123, none⟩), .pointer (some ⟨w.heap.size, 0, none⟩), .int .u64 150] 147)).alloc (.cells #[.pointer (some ⟨9, 123, none⟩), .pointer (some ⟨w.heap.size, 0, none⟩), .int .u64 150] 147)
 have ht4 := ht3.alloc (.cells #[x, y] 103)
 have st := setS t (w.heap.size + 1 + 1 + 1) x y o1 o2 ((((w.alloc (.cells #[.pointer (some ⟨t, 0, none⟩)] 123)).alloc (.cells #[.pointer (some ⟨9, 123, none⟩), .pointer (some ⟨w.heap.size, 0, none⟩), .int .u64 150] 147)).alloc (.cells #[.pointer (some ⟨9, 123, none⟩), .pointer (some ⟨w.heap.size, 0, none⟩), .int .u64 150] 147)).alloc (.cells #[x, y] 103)) hx hy
  (by rw [World.cell?_alloc_at _ _ _ _ (by simp)]; rfl) (by rw [World.cell?_alloc_at _ _ _ _ (by simp)]; rfl)
  (ht4.cell 0) (ht4.frozen 0) (ht4.cell 1) (ht4.frozen 1)
 have HT := hid ht
 clear ht ht3 ht4
 go_enter Tryz.func131, Tryz.ntmps131
 go_wp2
 refine wp_loop_rounds 1 ?_
 rw [rounds_succ]
 go_wp2
 go_ret
 exact ⟨rfl, rfl⟩
open Go.RowKit Go.Extern.Stop Go.Stop Go.Extern
theorem Yj9 (v : Value) (w : World) : (Extern.ReflectliteType.typeOf #[.iface 181 v]).run Tryz.prog w = .ok (.iface 163 (.agg #[.pointer (some ⟨9, 181, none⟩)])) w := by kernel_rfl
theorem U0_ : ∃ fn, Extern.find Tryz.f201 = some fn ∧ ∀ w : World, (fn #[.agg #[.pointer (some ⟨9, 181, none⟩)]]).run Tryz.prog w = .ok (.bool true) w :=
 ⟨Extern.ReflectliteType.method fun t => do Extern.Rtype.noPackHeld "Comparable" t; pure (.bool (← typeInfo t).comparable), by kernel_rfl, fun w => by kernel_rfl⟩
theorem Xi7 : (Tryz.prog.info? 181).map (·.comparable) = some true := by kernel_rfl
theorem Xi8 : (Tryz.prog.info? 202).map (·.size) = some 1 := by kernel_rfl
theorem Zm2 : Tryz.prog.underlying 101 = some (.interface #[("Error", 182)]) := by kernel_rfl
theorem Xi9 : Tryz.prog.underlying 181 = some (.pointer 202) := by kernel_rfl
theorem noIsE (v : Value) (xT : TypeId) (w : World) : (Instr.typeAssert (.iface 181 v) xT 165 true).run Tryz.prog w = .ok (.tuple #[.nilIface, .bool false]) w := run_typeAssert_lacksB Tryz.underlying165 (by kernel_rfl) (by kernel_rfl) v xT w
theorem Yo7 (v : Value) (xT : TypeId) (w : World) : (Instr.typeAssert (.iface 181 v) xT 168 true).run Tryz.prog w = .ok (.tuple #[.nilIface, .bool false]) w := run_typeAssert_lacksB Tryz.underlying168 (by kernel_rfl) (by kernel_rfl) v xT w
theorem Ye2 (v : Value) (xT : TypeId) (w : World) : (Instr.typeAssert (.iface 181 v) xT 170 true).run Tryz.prog w = .ok (.tuple #[.nilIface, .bool false]) w := run_typeAssert_lacksB Tryz.underlying170 (by kernel_rfl) (by kernel_rfl) v xT w
theorem noIsW (v : Value) (xT : TypeId) (w : World) : (Instr.typeAssert (.iface 103 v) xT 165 true).run Tryz.prog w = .ok (.tuple #[.nilIface, .bool false]) w := run_typeAssert_lacksB Tryz.underlying165 (by kernel_rfl) (by kernel_rfl) v xT w
theorem Zb2 (v : Value) (xT : TypeId) (w : World) : (Instr.typeAssert (.iface 103 v) xT 168 true).run Tryz.prog w = .ok (.tuple #[.iface 103 v, .bool true]) w := run_typeAssert_hasB Tryz.underlying168 (by kernel_rfl) v xT w
def chain : List Int → Value → Value
 | [], v => v
 | t :: r, v => .iface 103 (.agg #[chain r v, .int .i64 t])
theorem Zv1 (ts : List Int) (a : Addr) : ∃ T v, chain ts (eS a) = .iface T v := by
 cases ts with
 | nil => exact ⟨_, _, rfl⟩
 | cons t r => exact ⟨_, _, rfl⟩
theorem Xr4 (x y : Value) (T : TypeId) : SizeOf.sizeOf x < SizeOf.sizeOf (Value.iface T (.agg #[x, y])) := by
 simp only [Value.iface.sizeOf_spec, Value.agg.sizeOf_spec, Array.mk.sizeOf_spec, List.cons.sizeOf_spec]
 omega
theorem Xa4 (ts : List Int) (a b : Addr) (ca cb : Array Value) (ta tb : TypeId) (w : World) (hne : a ≠ b) (ha : w.heap[a.block]? = some (.cells ca ta (0, 0))) (hb : w.heap[b.block]? = some (.cells cb tb (0, 0))) :
  Calls Tryz.prog 130 #[chain ts (eS a), eS b] w (Says w false) := by
 obtain ⟨i, hi, hcmp⟩ := Option.map_eq_some_iff.1 Xi7
 obtain ⟨j, hj, hjs⟩ := Option.map_eq_some_iff.1 Xi8
 have h8 := @run_callFunc_extern Tryz.prog 148 _ Extern.ReflectliteType.typeOf Tryz.func148 (by kernel_rfl) (by kernel_rfl) (by kernel_rfl) (by kernel_rfl)
 obtain ⟨fn, hfn, cT⟩ := U0_
 have h32 := @run_callFunc_extern Tryz.prog 201 _ fn Tryz.func201 (by kernel_rfl) (by kernel_rfl) (by kernel_rfl) hfn
 clear hfn
 have tT := Yj9
 have mR := Zv0
 have nE := noIsE
 have uE := Yo7
 have vE := Ye2
 have nW := noIsW
 have uW := Zb2
 have mU := Yo6
 have hla := M3_ ha
 have hlb := M3_ hb
 have heq := fun (W : World) (hW : Below w.heap.size w W) => run_eql_iface_ptr_other (P := Tryz.prog) W Zm2 Xi9 hi hcmp hj (by rw [hjs]; decide) hne ((hW.block _ hla).trans ha) ((hW.block _ hlb).trans hb)
 have hty := fun (x : Value) (W : World) => run_eql_iface_types (P := Tryz.prog) 103 181 x (.pointer (some b)) Zm2 (by decide) W
 obtain ⟨T0, v0, e0⟩ := Zv1 ts a
 have E0 := hid e0
 rw [e0]
 unfold eS at *
 clear e0
 go_enter Tryz.func130, Tryz.ntmps130
 go_wp2
 go_loopw [0] (fun ve wr => ∃ r, ve = chain r (.iface 181 (.pointer (some a))) ∧ Below w.heap.size w wr) (fun ve _ => SizeOf.sizeOf ve)
 case atStart => exact ⟨ts, E0.out.symm, Below.refl _ _⟩
 case round =>
  obtain ⟨r, rfl, hbr⟩ := hrel
  have heqr := heq _ hbr
  clear heq
  cases r with
  | nil =>
   rw [show chain [] (.iface 181 (.pointer (some a))) = .iface 181 (.pointer (some a)) from rfl]
   go_wp2
   go_ret
   exact ⟨rfl, hbr⟩
  | cons t r =>
   obtain ⟨T1, v1, e1⟩ := Zv1 r a
   unfold eS at e1
   rw [show chain (t :: r) (.iface 181 (.pointer (some a))) = .iface 103 (.agg #[chain r (.iface 181 (.pointer (some a))), .int .i64 t]) from rfl, e1]
   have E1 := hid e1
   clear e1
   go_wp2
   go_roundw
   case rel => exact ⟨r, E1.out.symm, hbr.alloc hbr.size _⟩
   case measure => exact Xr4 _ _ _
theorem Vx5 (y : Value) (b : Addr) (w : World) :
  Calls Tryz.prog 130 #[.iface 103 (.agg #[.iface 181 (.pointer (some b)), y]), .iface 181 (.pointer (some b))] w (Says w true) := by
 obtain ⟨i, hi, hcmp⟩ := Option.map_eq_some_iff.1 Xi7
 obtain ⟨j, hj, hjs⟩ := Option.map_eq_some_iff.1 Xi8
 have h8 := @run_callFunc_extern Tryz.prog 148 _ Extern.ReflectliteType.typeOf Tryz.func148 (by kernel_rfl) (by kernel_rfl) (by kernel_rfl) (by kernel_rfl)
 obtain ⟨fn, hfn, cT⟩ := U0_
 have h32 := @run_callFunc_extern Tryz.prog 201 _ fn Tryz.func201 (by kernel_rfl) (by kernel_rfl) (by kernel_rfl) hfn
 clear hfn
 have tT := Yj9
 have mR := Zv0
 have nW := noIsW
 have uW := Zb2
 have mU := Yo6
 have heq := run_eql_iface_ptr_same (P := Tryz.prog) (w.alloc (.cells #[.iface 181 (.pointer (some b)), y] 103)) b Zm2 Xi9 hi hcmp hj
 have hty := run_eql_iface_types (P := Tryz.prog) 103 181 (.agg #[.iface 181 (.pointer (some b)), y]) (.pointer (some b)) Zm2 (by decide) w
 go_enter Tryz.func130, Tryz.ntmps130
 go_wp2
 refine wp_loop_rounds 2 ?_
 rw [rounds_succ]
 go_wp2
 rw [rounds_succ]
 go_wp2
 go_ret
 exact ⟨rfl, (Below.refl _ _).alloc (Nat.le_refl _) _⟩
theorem Vx6 (v : Value) (w : World) : Calls Tryz.prog 130 #[.nilIface, .iface 181 v] w (Says w false) := by
 have heq := run_eql_iface_nil_left (P := Tryz.prog) (w := w) 181 v Zm2
 go_enter Tryz.func130, Tryz.ntmps130
 go_wp2
 go_ret
 exact ⟨rfl, Below.refl _ _⟩
open Go.RowKit
theorem Yo8 (w : World) (t : Nat) (x y : Value) (B : Nat) (hB : B ≤ t) (h : B ≤ w.heap.size) : Below B w (asW w t x y) := by
 unfold asW
 refine Below.setCell ?_ (by exact hB) _
 refine Below.setCell ?_ (by exact hB) _
 exact ((((Below.refl _ w).alloc h _).alloc (by simp; omega) _).alloc (by simp; omega) _).alloc (by simp; omega) _
theorem Vx7 (v : Value) (w : World) : Calls Tryz.prog 131 #[.nilIface, v] w (Says w false) := by
 go_enter Tryz.func131, Tryz.ntmps131
 go_wp2
 go_ret
 exact ⟨rfl, Below.refl _ _⟩
def Tells (w : World) (k : Int) (e : Ending) (w' : World) : Prop := e = .returned (.int .i64 k) ∧ Below w.heap.size w w'
def toldW (w : World) : World := w.alloc (.cells #[.nilIface, .int .i64 0] 103)
theorem C1_ (w : World) : Below w.heap.size w (toldW w) := (Below.refl _ w).alloc (Nat.le_refl _) _
theorem Xa5 (E : Nat → Addr) (w : World) (hE : Env E w) : Calls Tryz.prog 107 #[.nilIface] w (Tells w 0) := by
 have Hb0 := hid (C1_ w)
 have g0 := (hE.up (C1_ w)).g0
 unfold toldW eS at *
 clear hE
 go_enter Tryz.func107, Tryz.ntmps107
 go_wp2_with fail
 refine (Vx6 _ _).mono ?_
 rintro e w1 ⟨rfl, hb1⟩
 have Hb1 := hid (Z0_ Hb0.out (Nat.le_refl _) hb1)
 clear hb1
 go_wp2_with fail
 refine (Vx7 _ _).mono ?_
 rintro e w2 ⟨rfl, hb2⟩
 have Hb2 := hid (Z0_ Hb1.out (Nat.le_refl _) hb2)
 clear hb2
 go_wp2
 go_ret
 exact ⟨rfl, Hb2.out⟩
theorem Yo9 (E : Nat → Addr) (t : Int) (w : World) (hE : Env E w) : Calls Tryz.prog 107 #[.iface 103 (.agg #[eS (E 0), .int .i64 t])] w (Tells w 91) := by
 have Hb0 := hid (C1_ w)
 have g0 := (hE.up (C1_ w)).g0
 unfold toldW eS at *
 clear hE
 go_enter Tryz.func107, Tryz.ntmps107
 go_wp2_with fail
 refine (Vx5 _ _ _).mono ?_
 rintro e w1 ⟨rfl, hb1⟩
 have Hb1 := hid (Z0_ Hb0.out (Nat.le_refl _) hb1)
 clear hb1
 go_wp2
 go_ret
 exact ⟨rfl, Hb1.out⟩
theorem Yp0 (ts : List Int) (a : Addr) : (chain ts (eS a)).oneCell' = true := by
 cases ts <;> rfl
theorem Xa6 (E : Nat → Addr) (t : Int) (ts : List Int) (k : Nat) (hk : 1 ≤ k ∧ k ≤ 4) (w : World) (hE : Env E w) : Calls Tryz.prog 107 #[chain (t :: ts) (eS (E k))] w (Tells w 90) := by
 have Hb0 := hid (C1_ w)
 have hE0 := hE.up (C1_ w)
 have g0 := hE0.g0
 have HE := hid hE0
 obtain ⟨ca, ta, ha⟩ := hE0.blk k hk.2
 obtain ⟨cb, tb, hb⟩ := hE0.blk 0 (by decide)
 have Hc := hid (Xa4 (t :: ts) (E k) (E 0) ca cb ta tb (toldW w) (hE0.ne k hk.1 hk.2) ha hb)
 have h1 := Yp0 ts (E k)
 have ht : Blk (toldW w) w.heap.size 103 #[.nilIface, .int .i64 0] := Blk.new w _ _
 have Ht := hid ht
 rw [show chain (t :: ts) (eS (E k)) = .iface 103 (.agg #[chain ts (eS (E k)), .int .i64 t]) from rfl] at *
 have H1 := hid h1
 clear hE0 hE ha hb ht h1
 generalize chain ts (eS (E k)) = x at *
 unfold toldW at Hb0 HE Hc Ht g0
 unfold eS at *
 go_enter Tryz.func107, Tryz.ntmps107
 go_wp2_with fail
 refine (Hc.out).mono ?_
 rintro e w1 ⟨rfl, hb1⟩
 have Ht1 := hid (Ht.out.below hb1 (by simp))
 have HE1 := hid (HE.out.up hb1)
 have Hb1 := hid (Z0_ Hb0.out (Nat.le_refl _) hb1)
 clear hb1
 go_wp2_with fail
 refine (Vx4 w.heap.size x (.int .i64 t) .nilIface (.int .i64 0) w1 H1.out rfl HE1.out.gt Ht1.out).mono ?_
 rintro e w2 ⟨rfl, rfl⟩
 have Hb2 : Hid (Below w.heap.size w (asW w1 w.heap.size x (.int .i64 t))) := Hb1.out.trans (Yo8 w1 w.heap.size x _ w.heap.size (Nat.le_refl _) Hb1.out.size)
 go_wp2
 go_ret
 exact ⟨rfl, Hb2.out⟩
open Go.RowKit
def boxed (w : World) (m : Mat) (lv iv : Value) : World := w.alloc (.cells #[.int .i64 m.t, .int .i64 m.n, .int .i64 m.a, .int .i64 m.b, lv, iv] 25)
theorem Z1_ (w : World) (m : Mat) (lv iv : Value) : Below w.heap.size w (boxed w m lv iv) := (Below.refl _ w).alloc (Nat.le_refl _) _
theorem Z3_ (w : World) (m : Mat) (lv iv : Value) : Blk (boxed w m lv iv) w.heap.size 25 #[.int .i64 m.t, .int .i64 m.n, .int .i64 m.a, .int .i64 m.b, lv, iv] := Blk.new w _ _
def most (k i : Nat) (l : List Mat) : Nat := maxN ((l.take i).map (dp k))
theorem Zv2 (k : Nat) (l : List Mat) : most k 0 l = 0 := rfl
theorem Zv3 {α : Type} (l : List α) (i : Nat) (d : α) (h : i < l.length) : l.take (i + 1) = l.take i ++ [l.getD i d] := by
 rw [List.take_succ_eq_append_getElem h]
 simp [List.getD, h]
theorem Zv4 (k i : Nat) (l : List Mat) (h : i < l.length) : most k (i + 1) l = max (most k i l) (dp k (l.getD i default)) := by
 unfold most
 rw [Zv3 l i default h, List.map_append, Zp9]
 simp [maxN]
theorem Zf8 (k : Nat) (l : List Mat) : most k l.length l = maxN (l.map (dp k)) := by
 unfold most
 rw [List.take_length]
theorem Zu1 (k i : Nat) (l : List Mat) : most k i l ≤ k + 1 := Zz7 fun x hx => by
 obtain ⟨y, _, rfl⟩ := List.mem_map.1 hx
 exact dp_le k y
theorem Xa7 (k i : Nat) (l : List Mat) (h : k + 1 ≤ most k i l) : most k i l = maxN (l.map (dp k)) := by
 have h1 : most k i l ≤ maxN (l.map (dp k)) := by
  refine Zz7 fun x hx => ?_
  obtain ⟨y, hy, rfl⟩ := List.mem_map.1 hx
  exact Zp8 (List.mem_map_of_mem (List.mem_of_mem_take hy))
 have h2 : maxN (l.map (dp k)) ≤ k + 1 := Zz7 fun x hx => by
  obtain ⟨y, _, rfl⟩ := List.mem_map.1 hx
  exact dp_le k y
 omega
theorem sml_i {m x : Mat} (h : Sml m) (hx : x ∈ m.i) : Sml x := by
 cases h with
 | mk _ _ _ h4 => exact h4 x hx
theorem U1_ {m : Mat} (h : Sml m) : m.i.length ≤ 1000 := by
 cases h with
 | mk _ _ h3 _ => exact h3
theorem sml_l {m : Mat} (h : Sml m) : m.l.length ≤ 1000 := by
 cases h with
 | mk h1 _ _ _ => exact h1
theorem sml_r {m : Mat} (h : Sml m) {r : List Int} (hr : r ∈ m.l) : r.length ≤ 1000 := by
 cases h with
 | mk _ h2 _ _ => exact h2 r hr
theorem Y1_ {α : Type} (l : List α) (i : Nat) (d : α) (h : i < l.length) : l.getD i d ∈ l := by
 rw [show l.getD i d = l[i] by simp [List.getD, h]]
 exact List.getElem_mem h
theorem Xa8 : ∀ (k : Nat) (m : Mat) (v : Value) (w : World) (most : Int), most = (k : Int) + 1 → k ≤ 10 → MatV w w.heap.size v m → Sml m → Calls Tryz.prog 129 #[v, .int .i64 most] w (Tells w (dp k m)) := by
 intro k
 induction k with
 | zero =>
  intro m v w most hmost _ hv hs
  obtain ⟨lv, iv, rfl, hl, hi⟩ := hv.open
  obtain ⟨A, c, rfl, hcap, hk⟩ := hi
  have hlen := U1_ hs
  have hlen' : (m.i.length : Int) ≤ 1000 := by omega
  have Hb0 := hid (Z1_ w m lv (.slice A m.i.length c))
  have hblk := Z3_ w m lv (.slice A m.i.length c)
  have g0 := hblk.cell 0
  have g5 := hblk.cell 5
  have hm1 : most = 1 := by omega
  subst hm1
  clear hblk hk hl hmost
  unfold boxed at *
  by_cases h1 : m.t < 5
  ·go_enter Tryz.func129, Tryz.ntmps129
   go_wp2
   go_ret
   exact ⟨rfl, Hb0.out⟩
  ·have h1' : 5 ≤ m.t := by omega
   clear h1
   by_cases h2 : 9 < m.t
   ·go_enter Tryz.func129, Tryz.ntmps129
    go_wp2
    go_ret
    exact ⟨rfl, Hb0.out⟩
   ·have h2' : m.t ≤ 9 := by omega
    clear h2
    by_cases h3 : (0 : Int) < (m.i.length : Int)
    ·go_enter Tryz.func129, Tryz.ntmps129
     go_wp2
     refine wp_loop_rounds 1 ?_
     rw [rounds_succ]
     go_wp2
     go_ret
     exact ⟨rfl, Hb0.out⟩
    ·go_enter Tryz.func129, Tryz.ntmps129
     go_wp2
     refine wp_loop_rounds 1 ?_
     rw [rounds_succ]
     go_wp2
     go_ret
     exact ⟨rfl, Hb0.out⟩
 | succ k ih =>
  intro m v w mo hmost hk10 hv hs
  obtain ⟨lv, iv, rfl, hl, hi⟩ := hv.open
  obtain ⟨A, c, rfl, hcap, hk⟩ := hi
  have Hk := hid hk
  have Hs := hid hs
  have Ih := hid ih
  have hlen := U1_ hs
  have hlen' : (m.i.length : Int) ≤ 1000 := by omega
  have Hb0 := hid (Z1_ w m lv (.slice A m.i.length c))
  have Hblk := hid (Z3_ w m lv (.slice A m.i.length c))
  have g0 := Hblk.out.cell 0
  have hm1 : (k : Int) + 2 = mo := by omega
  have hk10' : (k : Int) ≤ 10 := by omega
  have hw1 : IntKind.i64.wrap (mo - 1) = (k : Int) + 1 := by rw [IntKind.wrap_i64]; omega
  clear hk hl hmost ih hs
  unfold boxed at *
  by_cases h1 : m.t < 5
  ·have hd : Hid (dp (k + 1) m = 1) := by
    show dp (k + 1) m = 1
    rw [dp, if_neg (by unfold nest; omega)]
   go_enter Tryz.func129, Tryz.ntmps129
   go_wp2
   go_ret
   exact ⟨by rw [hd.out]; rfl, Hb0.out⟩
  ·have h1' : 5 ≤ m.t := by omega
   clear h1
   by_cases h2 : 9 < m.t
   ·have hd : Hid (dp (k + 1) m = 1) := by
     show dp (k + 1) m = 1
     rw [dp, if_neg (by unfold nest; omega)]
    go_enter Tryz.func129, Tryz.ntmps129
    go_wp2
    go_ret
    exact ⟨by rw [hd.out]; rfl, Hb0.out⟩
   ·have h2' : m.t ≤ 9 := by omega
    have hd : Hid (dp (k + 1) m = 1 + maxN (m.i.map (dp k))) := by
     show dp (k + 1) m = _
     rw [dp, if_pos (by unfold nest; omega)]
    clear h2
    go_enter Tryz.func129, Tryz.ntmps129
    go_wp2
    go_loopw [5, 6] (fun vd vi wr => ∃ (d i : Nat), vd = .int .i64 d ∧ vi = .int .i64 i ∧ i ≤ m.i.length ∧ d = 1 + Wp.most k i m.i ∧ Blk wr w.heap.size 25 #[.int .i64 m.t, .int .i64 m.n, .int .i64 m.a, .int .i64 m.b, lv, .slice A m.i.length c] ∧ Below w.heap.size w wr) (fun _ vi _ => m.i.length - (intOf vi).toNat)
    case atStart => exact ⟨1, 0, rfl, rfl, Nat.zero_le _, by rw [Zv2], Hblk.out, Hb0.out⟩
    case round =>
     obtain ⟨d, i, rfl, rfl, hi, hdm, hblk, hbr⟩ := hrel
     have Hbr := hid hbr
     have Hblkr := hid hblk
     have g5 := hblk.cell 5
     have hdle := Zu1 k i m.i
     have hdI : (d : Int) ≤ (k : Int) + 2 := by omega
     have Hdm := hid hdm
     clear hbr hblk hdm
     by_cases hlt : i < m.i.length
     ·have hltI : (i : Int) < (m.i.length : Int) := by omega
      by_cases hdl : (d : Int) < mo
      ·obtain ⟨ad, u, hA, hab, hsix, hmv⟩ := Hk.out i hlt
       subst hA
       have hsix1 := hsix.below Hbr.out (by rw [Z2_]; exact hab)
       have hmv1 := (hmv.bel Hbr.out).mono Hbr.out.size
       have Hcall := hid (Ih.out (m.i.getD i default) u wr ((k : Int) + 1) rfl (by omega) hmv1 (sml_i Hs.out (Y1_ _ _ _ hlt)))
       have hms := Zv4 k i m.i hlt
       have hdp := dp_le k (m.i.getD i default)
       obtain ⟨x0, x1, x2, x3, x4, x5, rfl, s0, s1, s2, s3, s4, s5⟩ := hsix1
       obtain ⟨D, hD⟩ : ∃ D, dp k (m.i.getD i default) = D := ⟨_, rfl⟩
       rw [hD] at Hcall hms hdp
       have hDI : (D : Int) ≤ (k : Int) + 1 := by omega
       have Hms := hid hms
       clear hsix hmv hmv1 Hk Ih hD hms hdle
       go_wp2_with fail
       refine (Hcall.out).mono ?_
       rintro e w1 ⟨rfl, hb1⟩
       have Hb1 := hid (Z0_ Hbr.out (Nat.le_refl _) hb1)
       have Hblk1 := hid (Hblkr.out.below hb1 (by have := Hblkr.out.lt; exact this))
       clear hb1
       go_wp2
       go_roundw
       case rel =>
        refine ⟨max d (1 + D), i + 1, ?_, by go_num, by omega, ?_, Hblk1.out, Hb1.out⟩
        ·exact congrArg (Value.int .i64) (by omega)
        ·rw [Hms.out, Hdm.out]; omega
       case measure => simp [intOf]; omega
      ·have hdl' : mo ≤ (d : Int) := by omega
       go_wp2
       go_ret
       refine ⟨?_, Hbr.out⟩
       have e : dp (k + 1) m = d := by rw [hd.out, ← Xa7 k i m.i (by have := Hdm.out; omega)]; exact Hdm.out.symm
       rw [e]
       rfl
     ·have hie : i = m.i.length := by omega
      subst hie
      go_wp2
      go_ret
      refine ⟨?_, Hbr.out⟩
      have e : dp (k + 1) m = d := by rw [hd.out, ← Zf8]; exact Hdm.out.symm
      rw [e]
      rfl
end Wp
end Go.Proofs.YtgadbnbhgpehjaaGreatDoor
