/- Go's own errors.As and errors.Is, walked at this package's errors; and the program's told. The program's matroid.deep, walked: how deep matroids lie within one another. -/
import Derived.Test.YtnaebbjodfnooaaGreatDoorZU
import Derived.LaidEql
import Derived.Stop.Asserts
import Derived.RowKitTokens
import Derived.Test.YtnaebbjodfnooaaGreatDoorProg
import Derived.WalkKit
import Derived.Test.YtnaebbjodfnooaaGreatDoorX0A
import Derived.Test.YtnaebbjodfnooaaGreatDoorX0C
set_option maxHeartbeats 4000000
set_option maxRecDepth 100000
open Go.Lib (hid)
namespace Go.Proofs.YtnaebbjodfnooaaGreatDoor.Wp
open Go.RowKit Go.Extern.Stop Go.Stop Go.Extern
theorem Xu5 (t:Addr) (w:World):(ReflectliteValue.unpack (.iface 92 (.pointer (some t)))).run Tryz.prog w
  = .ok (.agg #[.pointer (some ⟨9, 92,none⟩),.pointer (some ⟨w.heap.size,0,none⟩),.int .u64 150]) (w.alloc (.cells #[.pointer (some t)] 92)):=y37_
theorem typeP (a:Addr) (w:World):(ReflectliteValue.methodAny (ReflectliteValue.valueError "reflectlite.Value.Type" 0) (fun t _ _ _=>ReflectliteType.toType t) #[.agg #[.pointer (some ⟨9, 92,none⟩),.pointer (some a),.int .u64 150]]).run Tryz.prog w
  = .ok (.iface 133 (.agg #[.pointer (some ⟨9, 92,none⟩)])) w:=y37_
theorem kindP (w:World):((ReflectliteType.abiMethod fun t=>(fun a:Nat=>Value.int IntKind.u8 (a:Int)) <$> Rtype.kind t) #[.pointer (some ⟨9, 92,none⟩)]).run Tryz.prog w=.ok (.int .u8 22) w:=y37_
theorem kindS (w:World):((ReflectliteType.abiMethod fun t=>(fun a:Nat=>Value.int IntKind.u8 (a:Int)) <$> Rtype.kind t) #[.pointer (some ⟨9, 71,none⟩)]).run Tryz.prog w=.ok (.int .u8 25) w:=y37_
theorem Ve3 (a:Addr) (w:World):(ReflectliteValue.parts (.agg #[.pointer (some ⟨9, 92,none⟩),.pointer (some a),.int .u64 150])).run Tryz.prog w=.ok (some (92,a,150)) w:=y37_
theorem Zh8 (z:Sem Value) (f:TypeId→Addr→Nat→Nat→Sem Value) (v:Value) (t:TypeId) (a:Addr) (c:Nat) (W:World) (d:(ReflectliteValue.parts v).run Tryz.prog W=.ok (some (t,a,c)) W) :
  (ReflectliteValue.method z f #[v]).run Tryz.prog W=(f t a c (c % 32)).run Tryz.prog W:=by
 rw [show ReflectliteValue.method z f #[v]=(ReflectliteValue.parts v >>= _) from rfl,Sem.run_bind,d];rfl
theorem Vu8 (a p:Addr) (W:World) (ha:W.cell? a=some (.pointer (some p))) :
  (ReflectliteValue.method (ReflectliteValue.valueError "reflectlite.Value.IsNil" 0) ReflectliteValue.isNil #[.agg #[.pointer (some ⟨9, 92,none⟩),.pointer (some a),.int .u64 150]]).run Tryz.prog W=.ok (.bool false) W:=by
 rw [Zh8 _ _ _ _ _ _ _ (Ve3 a W)];simp [ReflectliteValue.isNil,loadVar,isAgg,underlying,ha,Result.andThen]
theorem elemP (w:World):(ReflectliteType.method ReflectliteType.elem #[.agg #[.pointer (some ⟨9, 92,none⟩)]]).run Tryz.prog w=.ok (.iface 133 (.agg #[.pointer (some ⟨9, 71,none⟩)])) w:=y37_
theorem Yd1 (w:World):(ReflectliteType.relation "Implements" ReflectliteType.implements_ #[.agg #[.pointer (some ⟨9, 71,none⟩)],.iface 133 (.agg #[.pointer (some ⟨9, 69,none⟩)])]).run Tryz.prog w=.ok (.bool true) w:=y37_
theorem Vk7 (v:Value) (w:World):(ReflectliteType.typeOf #[.iface 71 v]).run Tryz.prog w=.ok (.iface 133 (.agg #[.pointer (some ⟨9, 71,none⟩)])) w:=y37_
theorem Yd2 (w:World):(ReflectliteType.relation "AssignableTo" ReflectliteType.assignableTo #[.agg #[.pointer (some ⟨9, 71,none⟩)],.iface 133 (.agg #[.pointer (some ⟨9, 71,none⟩)])]).run Tryz.prog w=.ok (.bool true) w:=y37_
theorem Xu6 (x y:Value) (w:World):(ReflectliteValue.unpack (.iface 71 (.agg #[x,y]))).run Tryz.prog w
  = .ok (.agg #[.pointer (some ⟨9, 71,none⟩),.pointer (some ⟨w.heap.size,0,none⟩),.int .u64 153]) (w.alloc (.cells #[x,y] 71)):=y37_
theorem Vk8 (w:World):(Rtype.elem? 92).run Tryz.prog w=.ok (some 71) w:=y37_
theorem mkS (p:Addr) (w:World):(ReflectliteValue.mk 71 p ReflectliteValue.flagAddr).run Tryz.prog w=.ok (.agg #[.pointer (some ⟨9, 71,none⟩),.pointer (some p),.int .u64 409]) w:=y37_
theorem Vu9 (a p:Addr) (W:World) (ha:W.cell? a=some (.pointer (some p))) :
  (ReflectliteValue.method (ReflectliteValue.valueError "reflectlite.Value.Elem" 0) ReflectliteValue.elem #[.agg #[.pointer (some ⟨9, 92,none⟩),.pointer (some a),.int .u64 150]]).run Tryz.prog W
   = .ok (.agg #[.pointer (some ⟨9, 71,none⟩),.pointer (some p),.int .u64 409]) W:=by
 rw [Zh8 _ _ _ _ _ _ _ (Ve3 a W)];simp [ReflectliteValue.elem,loadVar,isAgg,underlying,ha,Result.andThen,Vk8,mkS]
theorem Vk9 (a:Addr) (w:World):(ReflectliteValue.parts (.agg #[.pointer (some ⟨9, 71,none⟩),.pointer (some a),.int .u64 409])).run Tryz.prog w=.ok (some (71,a,409)) w:=y37_
theorem Vw0 (a:Addr) (w:World):(ReflectliteValue.parts (.agg #[.pointer (some ⟨9, 71,none⟩),.pointer (some a),.int .u64 153])).run Tryz.prog w=.ok (some (71,a,153)) w:=y37_
theorem Vl0 (w:World):(Rtype.directlyAssignable 71 71).run Tryz.prog w=.ok true w:=y37_
theorem setS (c b:Nat) (x y C D:Value) (W:World) (z:x.oneCell'=true) (B:y.oneCell'=true) (m:W.cell? ⟨b,0,none⟩=some x) (o:W.cell? ⟨b,1,none⟩=some y)
  (s:W.cell? ⟨c,0,none⟩=some C) (q:W.frozen? ⟨c,0,none⟩=false) (u:W.cell? ⟨c,1,none⟩=some D) (r:W.frozen? ⟨c,1,none⟩=false) :
  (ReflectliteValue.set #[.agg #[.pointer (some ⟨9, 71,none⟩),.pointer (some ⟨c,0,none⟩),.int .u64 409],.agg #[.pointer (some ⟨9, 71,none⟩),.pointer (some ⟨b,0,none⟩),.int .u64 153]]).run Tryz.prog W
   = .ok (.tuple #[]) ((W.setCell ⟨c,0,none⟩ x).setCell ⟨c,1,none⟩ y):=by
 rw [show ∀ (v x:Value),ReflectliteValue.set #[v,x]=(ReflectliteValue.parts v >>= fun p=>ReflectliteValue.parts x >>= _) from fun _ _=>rfl];rw [Sem.run_bind,Vk9];simp only [Result.andThen_ok];rw [Sem.run_bind,Vw0];simp only [Result.andThen_ok];have h:(loadVar 71 ⟨b,0,none⟩).run Tryz.prog W=.ok (.agg #[x,y]) W:=by
  have e:(isAgg 71).run Tryz.prog W=.ok true W:=y37_;have h3:=run_loadCells_list (P:=Tryz.prog) (w:=W) ⟨b,0,none⟩ [x,y] (by
   intro j v d
   match j,d with
   | 0,d=>simp at d;subst d;simpa [Addr.add] using m
   | 1,d=>simp at d;subst d;simpa [Addr.add] using o)
  have g:(loadCells ⟨b,0,none⟩ 2).run Tryz.prog W=.ok #[x,y] W:=h3;unfold loadVar;simp [e,g]
 have k:(storeVar 71 ⟨c,0,none⟩ (.agg #[x,y])).run Tryz.prog W=.ok () ((W.setCell ⟨c,0,none⟩ x).setCell ⟨c,1,none⟩ y):=by
  have f:(sizeOf 71).run Tryz.prog W=.ok 2 W:=y37_;unfold storeVar;simp [f,Value.cells,storeCells,Addr.add];rw [run_store Tryz.prog W _ _ _ z];simp only [s,q,Bool.false_eq_true,if_false];rw [Result.andThen_ok,run_store Tryz.prog _ _ _ _ B];rw [World.cell?_setCell_other _ _ _ _ j37_,World.frozen?_setCell,u,r];rfl
 simp [ReflectliteValue.flagAddr,Vl0,h,k]
open Go
theorem mKind (h:Value) (w:World):(Go.method 336 133 (.agg #[h]) "Kind").run Tryz.prog w=.ok (205,h) w:=y37_
theorem mElem (h:Value) (w:World):(Go.method 336 133 (.agg #[h]) "Elem").run Tryz.prog w=.ok (216,.agg #[h]) w:=y37_
theorem Yd3 (h:Value) (w:World):(Go.method 336 133 (.agg #[h]) "Implements").run Tryz.prog w=.ok (217,.agg #[h]) w:=y37_
theorem Zn7 (h:Value) (w:World):(Go.method 336 133 (.agg #[h]) "AssignableTo").run Tryz.prog w=.ok (214,.agg #[h]) w:=y37_
theorem Zb8 (h:Value) (w:World):(Go.method 336 133 (.agg #[h]) "Comparable").run Tryz.prog w=.ok (215,.agg #[h]) w:=y37_
theorem Xd0 (x y:Value) (w:World):(Go.method 336 71 (.agg #[x,y]) "Unwrap").run Tryz.prog w=.ok (209,.agg #[x,y]) w:=y37_
open Go.RowKit Go.Extern.Stop Go.Stop Go.Extern
def asW (w:World) (t:Nat) (x y:Value):World :=
 (((((w.alloc (.cells #[.pointer (some ⟨t,0,none⟩)] 92)).alloc (.cells #[.pointer (some ⟨9, 92,none⟩),.pointer (some ⟨w.heap.size,0,none⟩),.int .u64 150] 111)).alloc (.cells #[.pointer (some ⟨9, 92,none⟩),.pointer (some ⟨w.heap.size,0,none⟩),.int .u64 150] 111)).alloc (.cells #[x,y] 71)).setCell ⟨t,0,none⟩ x).setCell ⟨t,1,none⟩ y
theorem Vw1 (t:Nat) (x y k m:Value) (w:World) (q:x.oneCell'=true) (r:y.oneCell'=true) (e:w.cell? ⟨1,0,none⟩=some (.iface 133 (.agg #[.pointer (some ⟨9, 69,none⟩)])))
  (d:Blk w t 71 #[k,m]) :
  Calls Tryz.prog 76 #[.iface 71 (.agg #[x,y]),.iface 92 (.pointer (some ⟨t,0,none⟩))] w fun o w'=>o=.returned (.bool true)∧asW w t x y=w':=by
 have I:=@run_callFunc_extern Tryz.prog 100 _ (fun args=>ReflectliteValue.unpack (args.getD 0 (.tuple #[]))) Tryz.func100 y37_ y37_ y37_ y37_;have K:=@run_callFunc_extern Tryz.prog 101 _ (ReflectliteValue.methodAny (ReflectliteValue.valueError "reflectlite.Value.Type" 0) (fun t _ _ _=>ReflectliteType.toType t)) Tryz.func101 y37_ y37_ y37_ y37_;have H:=@run_callFunc_extern Tryz.prog 102 _ (ReflectliteValue.method (ReflectliteValue.valueError "reflectlite.Value.IsNil" 0) ReflectliteValue.isNil) Tryz.func102 y37_ y37_ y37_ y37_;have E:=@run_callFunc_extern Tryz.prog 205 _ (ReflectliteType.abiMethod fun t=>do pure (.int .u8 (← Rtype.kind t))) Tryz.func205 y37_ y37_ y37_ y37_;have C:=@run_callFunc_extern Tryz.prog 216 _ (ReflectliteType.method ReflectliteType.elem) Tryz.func216 y37_ y37_ y37_ y37_;have D:=@run_callFunc_extern Tryz.prog 217 _ (ReflectliteType.relation "Implements" ReflectliteType.implements_) Tryz.func217 y37_ y37_ y37_ y37_;have F:=@run_callFunc_extern Tryz.prog 98 _ ReflectliteType.typeOf Tryz.func98 y37_ y37_ y37_ y37_;have B:=@run_callFunc_extern Tryz.prog 214 _ (ReflectliteType.relation "AssignableTo" ReflectliteType.assignableTo) Tryz.func214 y37_ y37_ y37_ y37_;have G:=@run_callFunc_extern Tryz.prog 118 _ (ReflectliteValue.method (ReflectliteValue.valueError "reflectlite.Value.Elem" 0) ReflectliteValue.elem) Tryz.func118 y37_ y37_ y37_ y37_;have J:=@run_callFunc_extern Tryz.prog 119 _ ReflectliteValue.set Tryz.func119 y37_ y37_ y37_ y37_;have T:=mKind;have R:=mElem;have S:=Yd3;have Q:=Zn7;have V:=Vk7;have u:=Yd2;have Y:=Xu6;have X:=Xu5;have W:=typeP;have O:=kindP;have P:=kindS;have v:=elemP;have N:=Yd1;have p : 1 < w.heap.size:=by
  rcases Nat.lt_or_ge 1 w.heap.size with h | h
  ·exact h
  ·simp [World.cell?,Array.getElem?_eq_none h] at e
 have M:=d.lt;have U:=Vu8 ⟨w.heap.size,0,none⟩ ⟨t,0,none⟩ ((w.alloc (.cells #[.pointer (some ⟨t,0,none⟩)] 92)).alloc (.cells #[.pointer (some ⟨9, 92,none⟩),.pointer (some ⟨w.heap.size,0,none⟩),.int .u64 150] 111)) j37_;have L:((w.alloc (.cells #[.pointer (some ⟨t,0,none⟩)] 92)).alloc (.cells #[.pointer (some ⟨9, 92,none⟩),.pointer (some ⟨w.heap.size,0,none⟩),.int .u64 150] 111)).cell? ⟨1,0,none⟩=some (.iface 133 (.agg #[.pointer (some ⟨9, 69,none⟩)])):=by
  rw [World.cell?_alloc_lt _ _ ⟨1,0,none⟩ k37_,World.cell?_alloc_lt _ _ ⟨1,0,none⟩ p];exact e
 have z:=Vu9 ⟨w.heap.size,0,none⟩ ⟨t,0,none⟩ (((w.alloc (.cells #[.pointer (some ⟨t,0,none⟩)] 92)).alloc (.cells #[.pointer (some ⟨9, 92,none⟩),.pointer (some ⟨w.heap.size,0,none⟩),.int .u64 150] 111)).alloc (.cells #[.pointer (some ⟨9, 92,none⟩),.pointer (some ⟨w.heap.size,0,none⟩),.int .u64 150] 111)) (by rw [World.cell?_alloc_lt _ _ ⟨w.heap.size,0,none⟩ k37_];simp);have j:=((d.alloc (.cells #[.pointer (some ⟨t,0,none⟩)] 92)).alloc (.cells #[.pointer (some ⟨9, 92,none⟩),.pointer (some ⟨w.heap.size,0,none⟩),.int .u64 150] 111)).alloc (.cells #[.pointer (some ⟨9, 92,none⟩),.pointer (some ⟨w.heap.size,0,none⟩),.int .u64 150] 111);have c:=j.alloc (.cells #[x,y] 71);have st:=setS t (w.heap.size+1+1+1) x y k m ((((w.alloc (.cells #[.pointer (some ⟨t,0,none⟩)] 92)).alloc (.cells #[.pointer (some ⟨9, 92,none⟩),.pointer (some ⟨w.heap.size,0,none⟩),.int .u64 150] 111)).alloc (.cells #[.pointer (some ⟨9, 92,none⟩),.pointer (some ⟨w.heap.size,0,none⟩),.int .u64 150] 111)).alloc (.cells #[x,y] 71)) q r
  (by rw [World.cell?_alloc_at _ _ _ _ j37_];rfl) (by rw [World.cell?_alloc_at _ _ _ _ j37_];rfl)
  (c.cell 0) (c.frozen 0) (c.cell 1) (c.frozen 1)
 have s:=hid d;clear d j c
 go_enter Tryz.func76,Tryz.ntmps76
 go_wp2;refine wp_loop_rounds 1 ?_;rw [rounds_succ];go_wp2;go_ret;exact ⟨rfl,rfl⟩
open Go.RowKit Go.Extern.Stop Go.Stop Go.Extern
theorem Ym2 (v:Value) (w:World):(Extern.ReflectliteType.typeOf #[.iface 203 v]).run Tryz.prog w=.ok (.iface 133 (.agg #[.pointer (some ⟨9, 203,none⟩)])) w:=y37_
theorem Zx9:∃ c,Extern.find Tryz.f215 = some c∧∀ w:World,(c #[.agg #[.pointer (some ⟨9, 203,none⟩)]]).run Tryz.prog w=.ok (.bool true) w :=
 ⟨Extern.ReflectliteType.method fun t=>do Extern.Rtype.noPackHeld "Comparable" t;pure (.bool (← typeInfo t).comparable),y37_,fun w=>by kernel_rfl⟩
theorem Ve4:(Tryz.prog.info? 203).map (·.comparable)=some true:=y37_
theorem Ve5:(Tryz.prog.info? 224).map (·.size)=some 1:=y37_
theorem Yz2:Tryz.prog.underlying 69 = some (.interface #[("Error", 204)]):=y37_
theorem Ve6:Tryz.prog.underlying 203 = some (.pointer 224):=y37_
theorem noIsE (v:Value) (c:TypeId) (w:World):(Instr.typeAssert (.iface 203 v) c 135 true).run Tryz.prog w=.ok (.tuple #[.nilIface,.bool false]) w:=run_typeAssert_lacksB Tryz.underlying135 y37_ y37_ v c w
theorem Xd1 (v:Value) (c:TypeId) (w:World):(Instr.typeAssert (.iface 203 v) c 138 true).run Tryz.prog w=.ok (.tuple #[.nilIface,.bool false]) w:=run_typeAssert_lacksB Tryz.underlying138 y37_ y37_ v c w
theorem Yt7 (v:Value) (c:TypeId) (w:World):(Instr.typeAssert (.iface 203 v) c 140 true).run Tryz.prog w=.ok (.tuple #[.nilIface,.bool false]) w:=run_typeAssert_lacksB Tryz.underlying140 y37_ y37_ v c w
theorem noIsW (v:Value) (c:TypeId) (w:World):(Instr.typeAssert (.iface 71 v) c 135 true).run Tryz.prog w=.ok (.tuple #[.nilIface,.bool false]) w:=run_typeAssert_lacksB Tryz.underlying135 y37_ y37_ v c w
theorem Zh9 (v:Value) (c:TypeId) (w:World):(Instr.typeAssert (.iface 71 v) c 138 true).run Tryz.prog w=.ok (.tuple #[.iface 71 v,.bool true]) w:=run_typeAssert_hasB Tryz.underlying138 y37_ v c w
def chain:List Int→Value→Value
 | [],v=>v
 | t :: r,v=>.iface 71 (.agg #[chain r v,.int .i64 t])
theorem Zb9 (ts:List Int) (a:Addr):∃ T v,chain ts (eS a)=.iface T v:=by
 cases ts with
 | nil=>exact ⟨_,_,rfl⟩
 | cons t r=>exact ⟨_,_,rfl⟩
theorem Vl1 (x y:Value) (T:TypeId):SizeOf.sizeOf x<SizeOf.sizeOf (Value.iface T (.agg #[x,y])):=by
 simp only [Value.iface.sizeOf_spec,Value.agg.sizeOf_spec,Array.mk.sizeOf_spec,List.cons.sizeOf_spec];omega
theorem Xu7 (ts:List Int) (a b:Addr) (q s:Array Value) (E F:TypeId) (w:World) (D:a≠b) (ha:w.heap[a.block]?=some (.cells q E (0,0))) (hb:w.heap[b.block]?=some (.cells s F (0,0))) :
  Calls Tryz.prog 75 #[chain ts (eS a),eS b] w (Says w false):=by
 obtain ⟨i,hi,v⟩:=Option.map_eq_some_iff.1 Ve4;obtain ⟨j,y,z⟩:=Option.map_eq_some_iff.1 Ve5;have K:=@run_callFunc_extern Tryz.prog 98 _ Extern.ReflectliteType.typeOf Tryz.func98 y37_ y37_ y37_ y37_;obtain ⟨u,m,I⟩:=Zx9;have J:=@run_callFunc_extern Tryz.prog 215 _ u Tryz.func215 y37_ y37_ y37_ m;clear m;have S:=Ym2;have N:=Zb8;have Q:=noIsE;have T:=Xd1;have Y:=Yt7;have R:=noIsW;have U:=Zh9;have O:=Xd0;have B:=L9_ ha;have C:=L9_ hb;have k:=fun (W:World) (h:Below w.heap.size w W)=>run_eql_iface_ptr_other (P:=Tryz.prog) W Yz2 Ve6 hi v y (by rw [z];decide) D ((h.block _ B).trans ha) ((h.block _ C).trans hb);have M:=fun (x:Value) (W:World)=>run_eql_iface_types (P:=Tryz.prog) 71 203 x (.pointer (some b)) Yz2 q38_ W;obtain ⟨G,V,e⟩:=Zb9 ts a;have o:=hid e;rw [e];unfold eS at *
 clear e
 go_enter Tryz.func75,Tryz.ntmps75
 go_wp2
 go_loopw [0] (fun g wr=>∃ r,g=chain r (.iface 203 (.pointer (some a)))∧Below w.heap.size w wr) (fun g _=>SizeOf.sizeOf g)
 case atStart=>exact ⟨ts,o.out.symm,Below.refl _ _⟩
 case round =>
  obtain ⟨r,rfl,d⟩:=hrel;have L:=k _ d;clear k;cases r with
  | nil =>
   rw [show chain [] (.iface 203 (.pointer (some a)))=.iface 203 (.pointer (some a)) from rfl];go_wp2;go_ret;exact ⟨rfl,d⟩
  | cons t r =>
   obtain ⟨H,X,c⟩:=Zb9 r a;unfold eS at c;rw [show chain (t :: r) (.iface 203 (.pointer (some a)))=.iface 71 (.agg #[chain r (.iface 203 (.pointer (some a))),.int .i64 t]) from rfl,c];have p:=hid c;clear c;go_wp2
   go_roundw
   case rel=>exact ⟨r,p.out.symm,d.alloc d.size _⟩
   case measure=>exact Vl1 _ _ _
theorem Vw2 (y:Value) (b:Addr) (w:World) :
  Calls Tryz.prog 75 #[.iface 71 (.agg #[.iface 203 (.pointer (some b)),y]),.iface 203 (.pointer (some b))] w (Says w true):=by
 obtain ⟨i,hi,e⟩:=Option.map_eq_some_iff.1 Ve4;obtain ⟨j,g,p⟩:=Option.map_eq_some_iff.1 Ve5;have m:=@run_callFunc_extern Tryz.prog 98 _ Extern.ReflectliteType.typeOf Tryz.func98 y37_ y37_ y37_ y37_;obtain ⟨d,c,h⟩:=Zx9;have k:=@run_callFunc_extern Tryz.prog 215 _ d Tryz.func215 y37_ y37_ y37_ c;clear c;have v:=Ym2;have r:=Zb8;have u:=noIsW;have x:=Zh9;have s:=Xd0;have o:=run_eql_iface_ptr_same (P:=Tryz.prog) (w.alloc (.cells #[.iface 203 (.pointer (some b)),y] 71)) b Yz2 Ve6 hi e g;have q:=run_eql_iface_types (P:=Tryz.prog) 71 203 (.agg #[.iface 203 (.pointer (some b)),y]) (.pointer (some b)) Yz2 q38_ w
 go_enter Tryz.func75,Tryz.ntmps75
 go_wp2;refine wp_loop_rounds 2 ?_;rw [rounds_succ];go_wp2;rw [rounds_succ];go_wp2;go_ret;exact ⟨rfl,(Below.refl _ _).alloc (Nat.le_refl _) _⟩
theorem Vw3 (v:Value) (w:World):Calls Tryz.prog 75 #[.nilIface,.iface 203 v] w (Says w false):=by
 have c:=run_eql_iface_nil_left (P:=Tryz.prog) (w:=w) 203 v Yz2
 go_enter Tryz.func75,Tryz.ntmps75
 exact y3_
open Go.RowKit
theorem Xd2 (w:World) (t:Nat) (x y:Value) (B:Nat) (hB:B≤t) (h:B≤w.heap.size):Below B w (asW w t x y):=by
 unfold asW;refine Below.setCell ?_ (by exact hB) _;refine Below.setCell ?_ (by exact hB) _;exact ((((Below.refl _ w).alloc h _).alloc k37_ _).alloc k37_ _).alloc k37_ _
theorem Vw4 (v:Value) (w:World):Calls Tryz.prog 76 #[.nilIface,v] w (Says w false):=by
 go_enter Tryz.func76,Tryz.ntmps76
 exact y3_
def Tells (w:World) (k:Int) (e:Ending) (w':World):Prop:=e=.returned (.int .i64 k)∧Below w.heap.size w w'
def toldW (w:World):World:=w.alloc (.cells #[.nilIface,.int .i64 0] 71)
theorem D8_ (w:World):Below w.heap.size w (toldW w):=(Below.refl _ w).alloc (Nat.le_refl _) _
theorem Xu8 (E:Nat→Addr) (w:World) (c:Env E w):Calls Tryz.prog 44 #[.nilIface] w (Tells w 0):=by
 have h:=hid (D8_ w);have k:=(c.up (D8_ w)).g0;unfold toldW eS at *
 clear c
 go_enter Tryz.func44,Tryz.ntmps44
 go_wp2_with fail
 refine (Vw3 _ _).mono ?_;rintro e m ⟨rfl,d⟩;have j:=hid (Z0_ h.out (Nat.le_refl _) d);clear d
 go_wp2_with fail
 refine (Vw4 _ _).mono ?_;rintro e o ⟨rfl,g⟩;have Hb2:=hid (Z0_ j.out (Nat.le_refl _) g);clear g;exact y2_
theorem Xd3 (E:Nat→Addr) (t:Int) (w:World) (c:Env E w):Calls Tryz.prog 44 #[.iface 71 (.agg #[eS (E 0),.int .i64 t])] w (Tells w 91):=by
 have Hb0:=hid (D8_ w);have d:=(c.up (D8_ w)).g0;unfold toldW eS at *
 clear c
 go_enter Tryz.func44,Tryz.ntmps44
 go_wp2_with fail
 refine (Vw2 _ _ _).mono ?_;exact j35_
theorem Xd4 (ts:List Int) (a:Addr):(chain ts (eS a)).oneCell'=true:=by
 cases ts<;>rfl
theorem Xu9 (E:Nat→Addr) (t:Int) (ts:List Int) (k:Nat) (g:1≤k∧k≤4) (w:World) (s:Env E w):Calls Tryz.prog 44 #[chain (t :: ts) (eS (E k))] w (Tells w 90):=by
 have m:=hid (D8_ w);have c:=s.up (D8_ w);have D:=c.g0;have j:=hid c;obtain ⟨B,F,ha⟩:=c.blk k g.2;obtain ⟨C,G,hb⟩:=c.blk 0 q38_;have p:=hid (Xu7 (t :: ts) (E k) (E 0) B C F G (toldW w) (c.ne k g.1 g.2) ha hb);have r:=Xd4 ts (E k);have u:Blk (toldW w) w.heap.size 71 #[.nilIface,.int .i64 0]:=Blk.new w _ _;have q:=hid u;rw [show chain (t :: ts) (eS (E k))=.iface 71 (.agg #[chain ts (eS (E k)),.int .i64 t]) from rfl] at *
 have v:=hid r;clear c s ha hb u r;generalize chain ts (eS (E k))=x at *
 unfold toldW at m j p q D;unfold eS at *
 go_enter Tryz.func44,Tryz.ntmps44
 go_wp2_with fail
 refine (p.out).mono ?_;rintro e h ⟨rfl,d⟩;have z:=hid (q.out.below d j37_);have y:=hid (j.out.up d);have o:=hid (Z0_ m.out (Nat.le_refl _) d);clear d
 go_wp2_with fail
 refine (Vw1 w.heap.size x (.int .i64 t) .nilIface (.int .i64 0) h v.out rfl y.out.gt z.out).mono ?_;rintro e H ⟨rfl,rfl⟩;have Hb2:Hid (Below w.heap.size w (asW h w.heap.size x (.int .i64 t))):=o.out.trans (Xd2 h w.heap.size x _ w.heap.size (Nat.le_refl _) o.out.size);exact y2_
open Go.RowKit
def boxed (w:World) (m:Mat) (lv iv:Value):World:=w.alloc (.cells #[.int .i64 m.t,.int .i64 m.n,.int .i64 m.a,.int .i64 m.b,lv,iv] 25)
theorem Z1_ (w:World) (m:Mat) (d c:Value):Below w.heap.size w (boxed w m d c):=(Below.refl _ w).alloc (Nat.le_refl _) _
theorem Z3_ (w:World) (m:Mat) (d c:Value):Blk (boxed w m d c) w.heap.size 25 #[.int .i64 m.t,.int .i64 m.n,.int .i64 m.a,.int .i64 m.b,d,c]:=Blk.new w _ _
def most (k i:Nat) (l:List Mat):Nat:=maxN ((l.take i).map (dp k))
theorem Zc0 (k:Nat) (l:List Mat):most k 0 l=0:=rfl
theorem Zc1 {α:Type} (l:List α) (i:Nat) (d:α) (h:i<l.length):l.take (i+1)=l.take i ++ [l.getD i d]:=by
 rw [List.take_succ_eq_append_getElem h];simp [List.getD,h]
theorem Zc2 (k i:Nat) (l:List Mat) (h:i<l.length):most k (i+1) l=max (most k i l) (dp k (l.getD i default)):=by
 unfold most;rw [Zc1 l i default h,List.map_append,Yc7];simp [maxN]
theorem Zn8 (k:Nat) (l:List Mat):most k l.length l=maxN (l.map (dp k)):=by
 unfold most;rw [List.take_length]
theorem Yd4 (k i:Nat) (l:List Mat):most k i l≤k+1:=Zb6 fun x hx=>x20_
theorem Xw0 (k i:Nat) (l:List Mat) (h:k+1≤most k i l):most k i l=maxN (l.map (dp k)):=by
 have d:most k i l≤maxN (l.map (dp k)):=by
  refine Zb6 fun x hx=>?_;obtain ⟨y,c,rfl⟩:=List.mem_map.1 hx;exact Yc6 (List.mem_map_of_mem (List.mem_of_mem_take c))
 have e:maxN (l.map (dp k))≤k+1:=Zb6 fun x hx=>x20_;omega
theorem sml_i {m x:Mat} (h:Sml m) (c:x∈m.i):Sml x:=by
 cases h with
 | mk _ _ _ h4=>exact h4 x c
theorem Zv0 {m:Mat} (h:Sml m):m.i.length≤1000:=by
 cases h with
 | mk _ _ h3 _=>exact h3
theorem sml_l {m:Mat} (h:Sml m):m.l.length≤1000:=by
 cases h with
 | mk h1 _ _ _=>exact h1
theorem sml_r {m:Mat} (h:Sml m) {r:List Int} (c:r∈m.l):r.length≤1000:=by
 cases h with
 | mk _ h2 _ _=>exact h2 r c
theorem Y6_ {α:Type} (l:List α) (i:Nat) (d:α) (h:i<l.length):l.getD i d∈l:=x28_
theorem Xw1:∀ (k:Nat) (m:Mat) (v:Value) (w:World) (most:Int),most=(k:Int)+1→k≤10→MatV w w.heap.size v m→Sml m→Calls Tryz.prog 74 #[v,.int .i64 most] w (Tells w (dp k m)):=by
 intro k
 induction k with
 | zero =>
  intro m v w most z _ C hs;obtain ⟨j,iv,rfl,hl,hi⟩:=C.open;obtain ⟨A,c,rfl,Z,p⟩:=hi;have x9:=Zv0 hs;have xa:(m.i.length:Int)≤1000:=x37_;have Hb0:=hid (Z1_ w m j (.slice A m.i.length c));have g:=Z3_ w m j (.slice A m.i.length c);have V:=g.cell 0;have W:=g.cell 5;have N:most=1:=x37_;subst N;clear g p hl z;unfold boxed at *
  by_cases r:m.t<5
  ·exact y34_
  ·have X:5≤m.t:=by omega
   clear r;by_cases s:9<m.t
   ·exact y34_
   ·have Y:m.t≤9:=by omega
    clear s;by_cases h3:(0:Int)<(m.i.length:Int)
    ·exact z36_
    ·exact z36_
 | succ k ih =>
  intro m v w q z xg C hs;obtain ⟨j,iv,rfl,hl,hi⟩:=C.open;obtain ⟨A,c,rfl,Z,p⟩:=hi;have I:=hid p;have U:=hid hs;have J:=hid ih;have x9:=Zv0 hs;have xa:(m.i.length:Int)≤1000:=x37_;have Hb0:=hid (Z1_ w m j (.slice A m.i.length c));have F:=hid (Z3_ w m j (.slice A m.i.length c));have V:=F.out.cell 0;have N:(k:Int)+2=q:=x37_;have xh:(k:Int)≤10:=x37_;have xj:IntKind.i64.wrap (q - 1)=(k:Int)+1:=x38_;clear p hl z ih hs;unfold boxed at *
  by_cases r:m.t<5
  ·exact k8_
  ·have X:5≤m.t:=by omega
   clear r;by_cases s:9<m.t
   ·exact k8_
   ·have Y:m.t≤9:=by omega
    have hd:Hid (dp (k+1) m=1+maxN (m.i.map (dp k))):=by
     show dp (k+1) m=_;rw [dp,if_pos (by unfold nest;omega)]
    clear s
    go_enter Tryz.func74,Tryz.ntmps74
    go_wp2
    go_loopw [5,6] (fun vd E wr=>∃ (d i:Nat),vd=.int .i64 d∧E=.int .i64 i∧i≤m.i.length∧d=1+Wp.most k i m.i∧Blk wr w.heap.size 25 #[.int .i64 m.t,.int .i64 m.n,.int .i64 m.a,.int .i64 m.b,j,.slice A m.i.length c]∧Below w.heap.size w wr) (fun _ E _=>m.i.length - (intOf E).toNat)
    case atStart=>exact ⟨1,0,rfl,rfl,Nat.zero_le _,by rw [Zc0],F.out,Hb0.out⟩
    case round =>
     obtain ⟨d,i,rfl,rfl,hi,M,g,L⟩:=hrel;have h:=hid L;have G:=hid g;have W:=g.cell 5;have x6:=Yd4 k i m.i;have xd:(d:Int)≤(k:Int)+2:=x37_;have o:=hid M;clear L g M;by_cases y:i<m.i.length
     ·have xi:(i:Int)<(m.i.length:Int):=by omega
      by_cases xe:(d:Int)<q
      ·obtain ⟨ad,u,hA,hab,Q,O⟩:=I.out i y
       subst hA;have xb:=Q.below h.out j38_;have P:=(O.bel h.out).mono h.out.size;have H:=hid (J.out (m.i.getD i default) u wr ((k:Int)+1) rfl x37_ P (sml_i U.out (Y6_ _ _ _ y)));have B:=Zc2 k i m.i y;have x7:=dp_le k (m.i.getD i default);obtain ⟨x0,x1,x2,x3,x4,x5,rfl,s0,s1,s2,s3,s4,s5⟩:=xb;obtain ⟨D,K⟩:∃ D,dp k (m.i.getD i default)=D:=⟨_,rfl⟩;rw [K] at H B x7;have xc:(D:Int)≤(k:Int)+1:=x37_;have T:=hid B;clear Q O P I J K B x6
       go_wp2_with fail
       refine (H.out).mono ?_;rintro e w1 ⟨rfl,x⟩;have R:=hid (Z0_ h.out (Nat.le_refl _) x);have S:=hid (G.out.below x (by have:=G.out.lt;exact this));clear x;go_wp2
       go_roundw
       case rel =>
        refine ⟨max d (1+D),i+1,?_,y38_,x37_,?_,S.out,R.out⟩
        ·exact congrArg (Value.int .i64) x37_
        ·rw [T.out,o.out];omega
       case measure=>simp [intOf];omega
      ·have xf:q≤(d:Int):=by omega
       go_wp2;go_ret;refine ⟨?_,h.out⟩;have e:dp (k+1) m=d:=by rw [hd.out,← Xw0 k i m.i (by have:=o.out;omega)];exact o.out.symm
       rw [e];rfl
     ·have x8:i=m.i.length:=by omega
      subst x8;go_wp2;go_ret;refine ⟨?_,h.out⟩;have e:dp (k+1) m=d:=by rw [hd.out,← Zn8];exact o.out.symm
      rw [e];rfl
end Go.Proofs.YtnaebbjodfnooaaGreatDoor.Wp
