/- Go's own errors.As and errors.Is, walked at this package's errors; and the program's told. The program's matroid.deep, walked: how deep matroids lie within one another. -/
import Derived.Test.YtgpljiijjnaofaaGreatDoorZU
import Derived.LaidEql
import Derived.Stop.Asserts
import Derived.RowKitTokens
import Derived.Test.YtgpljiijjnaofaaGreatDoorProg
import Derived.WalkKit
import Derived.Test.YtgpljiijjnaofaaGreatDoorX0A
import Derived.Test.YtgpljiijjnaofaaGreatDoorX0C
set_option maxHeartbeats 4000000
set_option maxRecDepth 100000
open Go.Lib (hid)
namespace Go.Proofs.YtgpljiijjnaofaaGreatDoor
open Go.RowKit Go.Extern.Stop Go.Stop Go.Extern
namespace Wp
theorem Xg3 (t:Addr) (w:World):(ReflectliteValue.unpack (.iface 96 (.pointer (some t)))).run Tryz.prog w
  = .ok (.agg #[.pointer (some ⟨9, 96,none⟩),.pointer (some ⟨w.heap.size,0,none⟩),.int .u64 150]) (w.alloc (.cells #[.pointer (some t)] 96)):=q31_
theorem typeP (a:Addr) (w:World):(ReflectliteValue.methodAny (ReflectliteValue.valueError "reflectlite.Value.Type" 0) (fun t _ _ _=>ReflectliteType.toType t) #[.agg #[.pointer (some ⟨9, 96,none⟩),.pointer (some a),.int .u64 150]]).run Tryz.prog w
  = .ok (.iface 137 (.agg #[.pointer (some ⟨9, 96,none⟩)])) w:=q31_
theorem kindP (w:World):((ReflectliteType.abiMethod fun t=>(fun a:Nat=>Value.int IntKind.u8 (a:Int)) <$> Rtype.kind t) #[.pointer (some ⟨9, 96,none⟩)]).run Tryz.prog w=.ok (.int .u8 22) w:=q31_
theorem kindS (w:World):((ReflectliteType.abiMethod fun t=>(fun a:Nat=>Value.int IntKind.u8 (a:Int)) <$> Rtype.kind t) #[.pointer (some ⟨9, 75,none⟩)]).run Tryz.prog w=.ok (.int .u8 25) w:=q31_
theorem Xs1 (a:Addr) (w:World):(ReflectliteValue.parts (.agg #[.pointer (some ⟨9, 96,none⟩),.pointer (some a),.int .u64 150])).run Tryz.prog w=.ok (some (96,a,150)) w:=q31_
theorem Za9 (z:Sem Value) (f:TypeId→Addr→Nat→Nat→Sem Value) (v:Value) (t:TypeId) (a:Addr) (c:Nat) (W:World) (d:(ReflectliteValue.parts v).run Tryz.prog W=.ok (some (t,a,c)) W) :
  (ReflectliteValue.method z f #[v]).run Tryz.prog W=(f t a c (c % 32)).run Tryz.prog W:=by
 rw [show ReflectliteValue.method z f #[v]=(ReflectliteValue.parts v >>= _) from rfl,Sem.run_bind,d];rfl
theorem Vd3 (a p:Addr) (W:World) (ha:W.cell? a=some (.pointer (some p))) :
  (ReflectliteValue.method (ReflectliteValue.valueError "reflectlite.Value.IsNil" 0) ReflectliteValue.isNil #[.agg #[.pointer (some ⟨9, 96,none⟩),.pointer (some a),.int .u64 150]]).run Tryz.prog W=.ok (.bool false) W:=by
 rw [Za9 _ _ _ _ _ _ _ (Xs1 a W)];simp [ReflectliteValue.isNil,loadVar,isAgg,underlying,ha,Result.andThen]
theorem elemP (w:World):(ReflectliteType.method ReflectliteType.elem #[.agg #[.pointer (some ⟨9, 96,none⟩)]]).run Tryz.prog w=.ok (.iface 137 (.agg #[.pointer (some ⟨9, 75,none⟩)])) w:=q31_
theorem Zw9 (w:World):(ReflectliteType.relation "Implements" ReflectliteType.implements_ #[.agg #[.pointer (some ⟨9, 75,none⟩)],.iface 137 (.agg #[.pointer (some ⟨9, 73,none⟩)])]).run Tryz.prog w=.ok (.bool true) w:=q31_
theorem Vy3 (v:Value) (w:World):(ReflectliteType.typeOf #[.iface 75 v]).run Tryz.prog w=.ok (.iface 137 (.agg #[.pointer (some ⟨9, 75,none⟩)])) w:=q31_
theorem Yz0 (w:World):(ReflectliteType.relation "AssignableTo" ReflectliteType.assignableTo #[.agg #[.pointer (some ⟨9, 75,none⟩)],.iface 137 (.agg #[.pointer (some ⟨9, 75,none⟩)])]).run Tryz.prog w=.ok (.bool true) w:=q31_
theorem Xg4 (x y:Value) (w:World):(ReflectliteValue.unpack (.iface 75 (.agg #[x,y]))).run Tryz.prog w
  = .ok (.agg #[.pointer (some ⟨9, 75,none⟩),.pointer (some ⟨w.heap.size,0,none⟩),.int .u64 153]) (w.alloc (.cells #[x,y] 75)):=q31_
theorem Vy4 (w:World):(Rtype.elem? 96).run Tryz.prog w=.ok (some 75) w:=q31_
theorem mkS (p:Addr) (w:World):(ReflectliteValue.mk 75 p ReflectliteValue.flagAddr).run Tryz.prog w=.ok (.agg #[.pointer (some ⟨9, 75,none⟩),.pointer (some p),.int .u64 409]) w:=q31_
theorem Vd4 (a p:Addr) (W:World) (ha:W.cell? a=some (.pointer (some p))) :
  (ReflectliteValue.method (ReflectliteValue.valueError "reflectlite.Value.Elem" 0) ReflectliteValue.elem #[.agg #[.pointer (some ⟨9, 96,none⟩),.pointer (some a),.int .u64 150]]).run Tryz.prog W
   = .ok (.agg #[.pointer (some ⟨9, 75,none⟩),.pointer (some p),.int .u64 409]) W:=by
 rw [Za9 _ _ _ _ _ _ _ (Xs1 a W)];simp [ReflectliteValue.elem,loadVar,isAgg,underlying,ha,Result.andThen,Vy4,mkS]
theorem Vy5 (a:Addr) (w:World):(ReflectliteValue.parts (.agg #[.pointer (some ⟨9, 75,none⟩),.pointer (some a),.int .u64 409])).run Tryz.prog w=.ok (some (75,a,409)) w:=q31_
theorem Vd5 (a:Addr) (w:World):(ReflectliteValue.parts (.agg #[.pointer (some ⟨9, 75,none⟩),.pointer (some a),.int .u64 153])).run Tryz.prog w=.ok (some (75,a,153)) w:=q31_
theorem Vy6 (w:World):(Rtype.directlyAssignable 75 75).run Tryz.prog w=.ok true w:=q31_
theorem setS (c b:Nat) (x y C D:Value) (W:World) (z:x.oneCell'=true) (B:y.oneCell'=true) (m:W.cell? ⟨b,0,none⟩=some x) (o:W.cell? ⟨b,1,none⟩=some y)
  (s:W.cell? ⟨c,0,none⟩=some C) (q:W.frozen? ⟨c,0,none⟩=false) (u:W.cell? ⟨c,1,none⟩=some D) (r:W.frozen? ⟨c,1,none⟩=false) :
  (ReflectliteValue.set #[.agg #[.pointer (some ⟨9, 75,none⟩),.pointer (some ⟨c,0,none⟩),.int .u64 409],.agg #[.pointer (some ⟨9, 75,none⟩),.pointer (some ⟨b,0,none⟩),.int .u64 153]]).run Tryz.prog W
   = .ok (.tuple #[]) ((W.setCell ⟨c,0,none⟩ x).setCell ⟨c,1,none⟩ y):=by
 rw [show ∀ (v x:Value),ReflectliteValue.set #[v,x]=(ReflectliteValue.parts v >>= fun p=>ReflectliteValue.parts x >>= _) from fun _ _=>rfl];rw [Sem.run_bind,Vy5];simp only [Result.andThen_ok];rw [Sem.run_bind,Vd5];simp only [Result.andThen_ok];have h:(loadVar 75 ⟨b,0,none⟩).run Tryz.prog W=.ok (.agg #[x,y]) W:=by
  have e:(isAgg 75).run Tryz.prog W=.ok true W:=q31_;have h3:=run_loadCells_list (P:=Tryz.prog) (w:=W) ⟨b,0,none⟩ [x,y] (by
   intro j v d
   match j,d with
   | 0,d=>simp at d;subst d;simpa [Addr.add] using m
   | 1,d=>simp at d;subst d;simpa [Addr.add] using o)
  have g:(loadCells ⟨b,0,none⟩ 2).run Tryz.prog W=.ok #[x,y] W:=h3;unfold loadVar;simp [e,g]
 have k:(storeVar 75 ⟨c,0,none⟩ (.agg #[x,y])).run Tryz.prog W=.ok () ((W.setCell ⟨c,0,none⟩ x).setCell ⟨c,1,none⟩ y):=by
  have f:(sizeOf 75).run Tryz.prog W=.ok 2 W:=q31_;unfold storeVar;simp [f,Value.cells,storeCells,Addr.add];rw [run_store Tryz.prog W _ _ _ z];simp only [s,q,Bool.false_eq_true,if_false];rw [Result.andThen_ok,run_store Tryz.prog _ _ _ _ B];rw [World.cell?_setCell_other _ _ _ _ y31_,World.frozen?_setCell,u,r];rfl
 simp [ReflectliteValue.flagAddr,Vy6,h,k]
open Go
theorem mKind (h:Value) (w:World):(Go.method 340 137 (.agg #[h]) "Kind").run Tryz.prog w=.ok (208,h) w:=q31_
theorem mElem (h:Value) (w:World):(Go.method 340 137 (.agg #[h]) "Elem").run Tryz.prog w=.ok (219,.agg #[h]) w:=q31_
theorem Yz1 (h:Value) (w:World):(Go.method 340 137 (.agg #[h]) "Implements").run Tryz.prog w=.ok (220,.agg #[h]) w:=q31_
theorem Zf7 (h:Value) (w:World):(Go.method 340 137 (.agg #[h]) "AssignableTo").run Tryz.prog w=.ok (217,.agg #[h]) w:=q31_
theorem Zx7 (h:Value) (w:World):(Go.method 340 137 (.agg #[h]) "Comparable").run Tryz.prog w=.ok (218,.agg #[h]) w:=q31_
theorem Yt8 (x y:Value) (w:World):(Go.method 340 75 (.agg #[x,y]) "Unwrap").run Tryz.prog w=.ok (212,.agg #[x,y]) w:=q31_
open Go.RowKit Go.Extern.Stop Go.Stop Go.Extern
def asW (w:World) (t:Nat) (x y:Value):World :=
 (((((w.alloc (.cells #[.pointer (some ⟨t,0,none⟩)] 96)).alloc (.cells #[.pointer (some ⟨9, 96,none⟩),.pointer (some ⟨w.heap.size,0,none⟩),.int .u64 150] 118)).alloc (.cells #[.pointer (some ⟨9, 96,none⟩),.pointer (some ⟨w.heap.size,0,none⟩),.int .u64 150] 118)).alloc (.cells #[x,y] 75)).setCell ⟨t,0,none⟩ x).setCell ⟨t,1,none⟩ y
theorem Vd6 (t:Nat) (x y k m:Value) (w:World) (q:x.oneCell'=true) (r:y.oneCell'=true) (e:w.cell? ⟨1,0,none⟩=some (.iface 137 (.agg #[.pointer (some ⟨9, 73,none⟩)])))
  (d:Blk w t 75 #[k,m]) :
  Calls Tryz.prog 81 #[.iface 75 (.agg #[x,y]),.iface 96 (.pointer (some ⟨t,0,none⟩))] w fun o w'=>o=.returned (.bool true)∧asW w t x y=w':=by
 have I:=@run_callFunc_extern Tryz.prog 106 _ (fun args=>ReflectliteValue.unpack (args.getD 0 (.tuple #[]))) Tryz.func106 q31_ q31_ q31_ q31_;have K:=@run_callFunc_extern Tryz.prog 107 _ (ReflectliteValue.methodAny (ReflectliteValue.valueError "reflectlite.Value.Type" 0) (fun t _ _ _=>ReflectliteType.toType t)) Tryz.func107 q31_ q31_ q31_ q31_;have H:=@run_callFunc_extern Tryz.prog 108 _ (ReflectliteValue.method (ReflectliteValue.valueError "reflectlite.Value.IsNil" 0) ReflectliteValue.isNil) Tryz.func108 q31_ q31_ q31_ q31_;have E:=@run_callFunc_extern Tryz.prog 208 _ (ReflectliteType.abiMethod fun t=>do pure (.int .u8 (← Rtype.kind t))) Tryz.func208 q31_ q31_ q31_ q31_;have C:=@run_callFunc_extern Tryz.prog 219 _ (ReflectliteType.method ReflectliteType.elem) Tryz.func219 q31_ q31_ q31_ q31_;have D:=@run_callFunc_extern Tryz.prog 220 _ (ReflectliteType.relation "Implements" ReflectliteType.implements_) Tryz.func220 q31_ q31_ q31_ q31_;have F:=@run_callFunc_extern Tryz.prog 104 _ ReflectliteType.typeOf Tryz.func104 q31_ q31_ q31_ q31_;have B:=@run_callFunc_extern Tryz.prog 217 _ (ReflectliteType.relation "AssignableTo" ReflectliteType.assignableTo) Tryz.func217 q31_ q31_ q31_ q31_;have G:=@run_callFunc_extern Tryz.prog 122 _ (ReflectliteValue.method (ReflectliteValue.valueError "reflectlite.Value.Elem" 0) ReflectliteValue.elem) Tryz.func122 q31_ q31_ q31_ q31_;have J:=@run_callFunc_extern Tryz.prog 123 _ ReflectliteValue.set Tryz.func123 q31_ q31_ q31_ q31_;have T:=mKind;have R:=mElem;have S:=Yz1;have Q:=Zf7;have V:=Vy3;have u:=Yz0;have Y:=Xg4;have X:=Xg3;have W:=typeP;have O:=kindP;have P:=kindS;have v:=elemP;have N:=Zw9;have p : 1 < w.heap.size:=by
  rcases Nat.lt_or_ge 1 w.heap.size with h | h
  ·exact h
  ·simp [World.cell?,Array.getElem?_eq_none h] at e
 have M:=d.lt;have U:=Vd3 ⟨w.heap.size,0,none⟩ ⟨t,0,none⟩ ((w.alloc (.cells #[.pointer (some ⟨t,0,none⟩)] 96)).alloc (.cells #[.pointer (some ⟨9, 96,none⟩),.pointer (some ⟨w.heap.size,0,none⟩),.int .u64 150] 118)) y31_;have L:((w.alloc (.cells #[.pointer (some ⟨t,0,none⟩)] 96)).alloc (.cells #[.pointer (some ⟨9, 96,none⟩),.pointer (some ⟨w.heap.size,0,none⟩),.int .u64 150] 118)).cell? ⟨1,0,none⟩=some (.iface 137 (.agg #[.pointer (some ⟨9, 73,none⟩)])):=by
  rw [World.cell?_alloc_lt _ _ ⟨1,0,none⟩ j31_,World.cell?_alloc_lt _ _ ⟨1,0,none⟩ p];exact e
 have z:=Vd4 ⟨w.heap.size,0,none⟩ ⟨t,0,none⟩ (((w.alloc (.cells #[.pointer (some ⟨t,0,none⟩)] 96)).alloc (.cells #[.pointer (some ⟨9, 96,none⟩),.pointer (some ⟨w.heap.size,0,none⟩),.int .u64 150] 118)).alloc (.cells #[.pointer (some ⟨9, 96,none⟩),.pointer (some ⟨w.heap.size,0,none⟩),.int .u64 150] 118)) (by rw [World.cell?_alloc_lt _ _ ⟨w.heap.size,0,none⟩ j31_];simp);have j:=((d.alloc (.cells #[.pointer (some ⟨t,0,none⟩)] 96)).alloc (.cells #[.pointer (some ⟨9, 96,none⟩),.pointer (some ⟨w.heap.size,0,none⟩),.int .u64 150] 118)).alloc (.cells #[.pointer (some ⟨9, 96,none⟩),.pointer (some ⟨w.heap.size,0,none⟩),.int .u64 150] 118);have c:=j.alloc (.cells #[x,y] 75);have st:=setS t (w.heap.size+1+1+1) x y k m ((((w.alloc (.cells #[.pointer (some ⟨t,0,none⟩)] 96)).alloc (.cells #[.pointer (some ⟨9, 96,none⟩),.pointer (some ⟨w.heap.size,0,none⟩),.int .u64 150] 118)).alloc (.cells #[.pointer (some ⟨9, 96,none⟩),.pointer (some ⟨w.heap.size,0,none⟩),.int .u64 150] 118)).alloc (.cells #[x,y] 75)) q r
  (by rw [World.cell?_alloc_at _ _ _ _ y31_];rfl) (by rw [World.cell?_alloc_at _ _ _ _ y31_];rfl)
  (c.cell 0) (c.frozen 0) (c.cell 1) (c.frozen 1)
 have s:=hid d;clear d j c
 go_enter Tryz.func81,Tryz.ntmps81
 go_wp2;refine wp_loop_rounds 1 ?_;rw [rounds_succ];go_wp2;go_ret;exact ⟨rfl,rfl⟩
open Go.RowKit Go.Extern.Stop Go.Stop Go.Extern
theorem Ya4 (v:Value) (w:World):(Extern.ReflectliteType.typeOf #[.iface 207 v]).run Tryz.prog w=.ok (.iface 137 (.agg #[.pointer (some ⟨9, 207,none⟩)])) w:=q31_
theorem U0_:∃ c,Extern.find Tryz.f218 = some c∧∀ w:World,(c #[.agg #[.pointer (some ⟨9, 207,none⟩)]]).run Tryz.prog w=.ok (.bool true) w :=
 ⟨Extern.ReflectliteType.method fun t=>do Extern.Rtype.noPackHeld "Comparable" t;pure (.bool (← typeInfo t).comparable),q31_,fun w=>by kernel_rfl⟩
theorem Xs2:(Tryz.prog.info? 207).map (·.comparable)=some true:=q31_
theorem Xs3:(Tryz.prog.info? 228).map (·.size)=some 1:=q31_
theorem Zn1:Tryz.prog.underlying 73 = some (.interface #[("Error", 208)]):=q31_
theorem Xs4:Tryz.prog.underlying 207 = some (.pointer 228):=q31_
theorem noIsE (v:Value) (c:TypeId) (w:World):(Instr.typeAssert (.iface 207 v) c 139 true).run Tryz.prog w=.ok (.tuple #[.nilIface,.bool false]) w:=run_typeAssert_lacksB Tryz.underlying139 q31_ q31_ v c w
theorem Yt9 (v:Value) (c:TypeId) (w:World):(Instr.typeAssert (.iface 207 v) c 142 true).run Tryz.prog w=.ok (.tuple #[.nilIface,.bool false]) w:=run_typeAssert_lacksB Tryz.underlying142 q31_ q31_ v c w
theorem Yg3 (v:Value) (c:TypeId) (w:World):(Instr.typeAssert (.iface 207 v) c 144 true).run Tryz.prog w=.ok (.tuple #[.nilIface,.bool false]) w:=run_typeAssert_lacksB Tryz.underlying144 q31_ q31_ v c w
theorem noIsW (v:Value) (c:TypeId) (w:World):(Instr.typeAssert (.iface 75 v) c 139 true).run Tryz.prog w=.ok (.tuple #[.nilIface,.bool false]) w:=run_typeAssert_lacksB Tryz.underlying139 q31_ q31_ v c w
theorem Zb0 (v:Value) (c:TypeId) (w:World):(Instr.typeAssert (.iface 75 v) c 142 true).run Tryz.prog w=.ok (.tuple #[.iface 75 v,.bool true]) w:=run_typeAssert_hasB Tryz.underlying142 q31_ v c w
def chain:List Int→Value→Value
 | [],v=>v
 | t :: r,v=>.iface 75 (.agg #[chain r v,.int .i64 t])
theorem Zx8 (ts:List Int) (a:Addr):∃ T v,chain ts (eS a)=.iface T v:=by
 cases ts with
 | nil=>exact ⟨_,_,rfl⟩
 | cons t r=>exact ⟨_,_,rfl⟩
theorem Vy7 (x y:Value) (T:TypeId):SizeOf.sizeOf x<SizeOf.sizeOf (Value.iface T (.agg #[x,y])):=by
 simp only [Value.iface.sizeOf_spec,Value.agg.sizeOf_spec,Array.mk.sizeOf_spec,List.cons.sizeOf_spec];omega
theorem Xg5 (ts:List Int) (a b:Addr) (q s:Array Value) (E F:TypeId) (w:World) (D:a≠b) (ha:w.heap[a.block]?=some (.cells q E (0,0))) (hb:w.heap[b.block]?=some (.cells s F (0,0))) :
  Calls Tryz.prog 80 #[chain ts (eS a),eS b] w (Says w false):=by
 obtain ⟨i,hi,v⟩:=Option.map_eq_some_iff.1 Xs2;obtain ⟨j,y,z⟩:=Option.map_eq_some_iff.1 Xs3;have K:=@run_callFunc_extern Tryz.prog 104 _ Extern.ReflectliteType.typeOf Tryz.func104 q31_ q31_ q31_ q31_;obtain ⟨u,m,I⟩:=U0_;have J:=@run_callFunc_extern Tryz.prog 218 _ u Tryz.func218 q31_ q31_ q31_ m;clear m;have S:=Ya4;have N:=Zx7;have Q:=noIsE;have T:=Yt9;have Y:=Yg3;have R:=noIsW;have U:=Zb0;have O:=Yt8;have B:=H9_ ha;have C:=H9_ hb;have k:=fun (W:World) (h:Below w.heap.size w W)=>run_eql_iface_ptr_other (P:=Tryz.prog) W Zn1 Xs4 hi v y (by rw [z];decide) D ((h.block _ B).trans ha) ((h.block _ C).trans hb);have M:=fun (x:Value) (W:World)=>run_eql_iface_types (P:=Tryz.prog) 75 207 x (.pointer (some b)) Zn1 z31_ W;obtain ⟨G,V,e⟩:=Zx8 ts a;have o:=hid e;rw [e];unfold eS at *
 clear e
 go_enter Tryz.func80,Tryz.ntmps80
 go_wp2
 go_loopw [0] (fun g wr=>∃ r,g=chain r (.iface 207 (.pointer (some a)))∧Below w.heap.size w wr) (fun g _=>SizeOf.sizeOf g)
 case atStart=>exact ⟨ts,o.out.symm,Below.refl _ _⟩
 case round =>
  obtain ⟨r,rfl,d⟩:=hrel;have L:=k _ d;clear k;cases r with
  | nil =>
   rw [show chain [] (.iface 207 (.pointer (some a)))=.iface 207 (.pointer (some a)) from rfl];go_wp2;go_ret;exact ⟨rfl,d⟩
  | cons t r =>
   obtain ⟨H,X,c⟩:=Zx8 r a;unfold eS at c;rw [show chain (t :: r) (.iface 207 (.pointer (some a)))=.iface 75 (.agg #[chain r (.iface 207 (.pointer (some a))),.int .i64 t]) from rfl,c];have p:=hid c;clear c;go_wp2
   go_roundw
   case rel=>exact ⟨r,p.out.symm,d.alloc d.size _⟩
   case measure=>exact Vy7 _ _ _
theorem Vd7 (y:Value) (b:Addr) (w:World) :
  Calls Tryz.prog 80 #[.iface 75 (.agg #[.iface 207 (.pointer (some b)),y]),.iface 207 (.pointer (some b))] w (Says w true):=by
 obtain ⟨i,hi,e⟩:=Option.map_eq_some_iff.1 Xs2;obtain ⟨j,g,p⟩:=Option.map_eq_some_iff.1 Xs3;have m:=@run_callFunc_extern Tryz.prog 104 _ Extern.ReflectliteType.typeOf Tryz.func104 q31_ q31_ q31_ q31_;obtain ⟨d,c,h⟩:=U0_;have k:=@run_callFunc_extern Tryz.prog 218 _ d Tryz.func218 q31_ q31_ q31_ c;clear c;have v:=Ya4;have r:=Zx7;have u:=noIsW;have x:=Zb0;have s:=Yt8;have o:=run_eql_iface_ptr_same (P:=Tryz.prog) (w.alloc (.cells #[.iface 207 (.pointer (some b)),y] 75)) b Zn1 Xs4 hi e g;have q:=run_eql_iface_types (P:=Tryz.prog) 75 207 (.agg #[.iface 207 (.pointer (some b)),y]) (.pointer (some b)) Zn1 z31_ w
 go_enter Tryz.func80,Tryz.ntmps80
 go_wp2;refine wp_loop_rounds 2 ?_;rw [rounds_succ];go_wp2;rw [rounds_succ];go_wp2;go_ret;exact ⟨rfl,(Below.refl _ _).alloc (Nat.le_refl _) _⟩
theorem Vd8 (v:Value) (w:World):Calls Tryz.prog 80 #[.nilIface,.iface 207 v] w (Says w false):=by
 have c:=run_eql_iface_nil_left (P:=Tryz.prog) (w:=w) 207 v Zn1
 go_enter Tryz.func80,Tryz.ntmps80
 exact q3_
open Go.RowKit
theorem Yu0 (w:World) (t:Nat) (x y:Value) (B:Nat) (hB:B≤t) (h:B≤w.heap.size):Below B w (asW w t x y):=by
 unfold asW;refine Below.setCell ?_ (by exact hB) _;refine Below.setCell ?_ (by exact hB) _;exact ((((Below.refl _ w).alloc h _).alloc j31_ _).alloc j31_ _).alloc j31_ _
theorem Vd9 (v:Value) (w:World):Calls Tryz.prog 81 #[.nilIface,v] w (Says w false):=by
 go_enter Tryz.func81,Tryz.ntmps81
 exact q3_
def Tells (w:World) (k:Int) (e:Ending) (w':World):Prop:=e=.returned (.int .i64 k)∧Below w.heap.size w w'
def toldW (w:World):World:=w.alloc (.cells #[.nilIface,.int .i64 0] 75)
theorem A9_ (w:World):Below w.heap.size w (toldW w):=(Below.refl _ w).alloc (Nat.le_refl _) _
theorem Xg6 (E:Nat→Addr) (w:World) (c:Env E w):Calls Tryz.prog 48 #[.nilIface] w (Tells w 0):=by
 have h:=hid (A9_ w);have k:=(c.up (A9_ w)).g0;unfold toldW eS at *
 clear c
 go_enter Tryz.func48,Tryz.ntmps48
 go_wp2_with fail
 refine (Vd8 _ _).mono ?_;rintro e m ⟨rfl,d⟩;have j:=hid (Z0_ h.out (Nat.le_refl _) d);clear d
 go_wp2_with fail
 refine (Vd9 _ _).mono ?_;rintro e o ⟨rfl,g⟩;have Hb2:=hid (Z0_ j.out (Nat.le_refl _) g);clear g;exact j2_
theorem Yu1 (E:Nat→Addr) (t:Int) (w:World) (c:Env E w):Calls Tryz.prog 48 #[.iface 75 (.agg #[eS (E 0),.int .i64 t])] w (Tells w 91):=by
 have Hb0:=hid (A9_ w);have d:=(c.up (A9_ w)).g0;unfold toldW eS at *
 clear c
 go_enter Tryz.func48,Tryz.ntmps48
 go_wp2_with fail
 refine (Vd7 _ _ _).mono ?_;exact z29_
theorem Yu2 (ts:List Int) (a:Addr):(chain ts (eS a)).oneCell'=true:=by
 cases ts<;>rfl
theorem Xg7 (E:Nat→Addr) (t:Int) (ts:List Int) (k:Nat) (g:1≤k∧k≤4) (w:World) (s:Env E w):Calls Tryz.prog 48 #[chain (t :: ts) (eS (E k))] w (Tells w 90):=by
 have m:=hid (A9_ w);have c:=s.up (A9_ w);have D:=c.g0;have j:=hid c;obtain ⟨B,F,ha⟩:=c.blk k g.2;obtain ⟨C,G,hb⟩:=c.blk 0 z31_;have p:=hid (Xg5 (t :: ts) (E k) (E 0) B C F G (toldW w) (c.ne k g.1 g.2) ha hb);have r:=Yu2 ts (E k);have u:Blk (toldW w) w.heap.size 75 #[.nilIface,.int .i64 0]:=Blk.new w _ _;have q:=hid u;rw [show chain (t :: ts) (eS (E k))=.iface 75 (.agg #[chain ts (eS (E k)),.int .i64 t]) from rfl] at *
 have v:=hid r;clear c s ha hb u r;generalize chain ts (eS (E k))=x at *
 unfold toldW at m j p q D;unfold eS at *
 go_enter Tryz.func48,Tryz.ntmps48
 go_wp2_with fail
 refine (p.out).mono ?_;rintro e h ⟨rfl,d⟩;have z:=hid (q.out.below d y31_);have y:=hid (j.out.up d);have o:=hid (Z0_ m.out (Nat.le_refl _) d);clear d
 go_wp2_with fail
 refine (Vd6 w.heap.size x (.int .i64 t) .nilIface (.int .i64 0) h v.out rfl y.out.gt z.out).mono ?_;rintro e H ⟨rfl,rfl⟩;have Hb2:Hid (Below w.heap.size w (asW h w.heap.size x (.int .i64 t))):=o.out.trans (Yu0 h w.heap.size x _ w.heap.size (Nat.le_refl _) o.out.size);exact j2_
open Go.RowKit
def boxed (w:World) (m:Mat) (lv iv:Value):World:=w.alloc (.cells #[.int .i64 m.t,.int .i64 m.n,.int .i64 m.a,.int .i64 m.b,lv,iv] 25)
theorem Z1_ (w:World) (m:Mat) (d c:Value):Below w.heap.size w (boxed w m d c):=(Below.refl _ w).alloc (Nat.le_refl _) _
theorem Z3_ (w:World) (m:Mat) (d c:Value):Blk (boxed w m d c) w.heap.size 25 #[.int .i64 m.t,.int .i64 m.n,.int .i64 m.a,.int .i64 m.b,d,c]:=Blk.new w _ _
def most (k i:Nat) (l:List Mat):Nat:=maxN ((l.take i).map (dp k))
theorem Zx9 (k:Nat) (l:List Mat):most k 0 l=0:=rfl
theorem Zv0 {α:Type} (l:List α) (i:Nat) (d:α) (h:i<l.length):l.take (i+1)=l.take i ++ [l.getD i d]:=by
 rw [List.take_succ_eq_append_getElem h];exact z22_
theorem Zv1 (k i:Nat) (l:List Mat) (h:i<l.length):most k (i+1) l=max (most k i l) (dp k (l.getD i default)):=by
 unfold most;rw [Zv0 l i default h,List.map_append,Zu8];simp [maxN]
theorem Zf8 (k:Nat) (l:List Mat):most k l.length l=maxN (l.map (dp k)):=by
 unfold most;rw [List.take_length]
theorem Yz2 (k i:Nat) (l:List Mat):most k i l≤k+1:=Zx3 fun x hx=>k16_
theorem Xg8 (k i:Nat) (l:List Mat) (h:k+1≤most k i l):most k i l=maxN (l.map (dp k)):=by
 have d:most k i l≤maxN (l.map (dp k)):=by
  refine Zx3 fun x hx=>?_;obtain ⟨y,c,rfl⟩:=List.mem_map.1 hx;exact Zu7 (List.mem_map_of_mem (List.mem_of_mem_take c))
 have e:maxN (l.map (dp k))≤k+1:=Zx3 fun x hx=>k16_;omega
theorem sml_i {m x:Mat} (h:Sml m) (c:x∈m.i):Sml x:=by
 cases h with
 | mk _ _ _ h4=>exact h4 x c
theorem U1_ {m:Mat} (h:Sml m):m.i.length≤1000:=by
 cases h with
 | mk _ _ h3 _=>exact h3
theorem sml_l {m:Mat} (h:Sml m):m.l.length≤1000:=by
 cases h with
 | mk h1 _ _ _=>exact h1
theorem sml_r {m:Mat} (h:Sml m) {r:List Int} (c:r∈m.l):r.length≤1000:=by
 cases h with
 | mk _ h2 _ _=>exact h2 r c
theorem X0_ {α:Type} (l:List α) (i:Nat) (d:α) (h:i<l.length):l.getD i d∈l:=x23_
theorem Xg9:∀ (k:Nat) (m:Mat) (v:Value) (w:World) (most:Int),most=(k:Int)+1→k≤10→MatV w w.heap.size v m→Sml m→Calls Tryz.prog 79 #[v,.int .i64 most] w (Tells w (dp k m)):=by
 intro k
 induction k with
 | zero =>
  intro m v w most z _ C hs;obtain ⟨j,iv,rfl,hl,hi⟩:=C.open;obtain ⟨A,c,rfl,Z,p⟩:=hi;have x9:=U1_ hs;have xa:(m.i.length:Int)≤1000:=k30_;have Hb0:=hid (Z1_ w m j (.slice A m.i.length c));have g:=Z3_ w m j (.slice A m.i.length c);have V:=g.cell 0;have W:=g.cell 5;have N:most=1:=k30_;subst N;clear g p hl z;unfold boxed at *
  by_cases r:m.t<5
  ·exact z28_
  ·have X:5≤m.t:=by omega
   clear r;by_cases s:9<m.t
   ·exact z28_
   ·have Y:m.t≤9:=by omega
    clear s;by_cases h3:(0:Int)<(m.i.length:Int)
    ·exact y30_
    ·exact y30_
 | succ k ih =>
  intro m v w q z xg C hs;obtain ⟨j,iv,rfl,hl,hi⟩:=C.open;obtain ⟨A,c,rfl,Z,p⟩:=hi;have I:=hid p;have U:=hid hs;have J:=hid ih;have x9:=U1_ hs;have xa:(m.i.length:Int)≤1000:=k30_;have Hb0:=hid (Z1_ w m j (.slice A m.i.length c));have F:=hid (Z3_ w m j (.slice A m.i.length c));have V:=F.out.cell 0;have N:(k:Int)+2=q:=k30_;have xh:(k:Int)≤10:=k30_;have xj:IntKind.i64.wrap (q - 1)=(k:Int)+1:=k31_;clear p hl z ih hs;unfold boxed at *
  by_cases r:m.t<5
  ·exact k6_
  ·have X:5≤m.t:=by omega
   clear r;by_cases s:9<m.t
   ·exact k6_
   ·have Y:m.t≤9:=by omega
    have hd:Hid (dp (k+1) m=1+maxN (m.i.map (dp k))):=by
     show dp (k+1) m=_;rw [dp,if_pos (by unfold nest;omega)]
    clear s
    go_enter Tryz.func79,Tryz.ntmps79
    go_wp2
    go_loopw [5,6] (fun vd E wr=>∃ (d i:Nat),vd=.int .i64 d∧E=.int .i64 i∧i≤m.i.length∧d=1+Wp.most k i m.i∧Blk wr w.heap.size 25 #[.int .i64 m.t,.int .i64 m.n,.int .i64 m.a,.int .i64 m.b,j,.slice A m.i.length c]∧Below w.heap.size w wr) (fun _ E _=>m.i.length - (intOf E).toNat)
    case atStart=>exact ⟨1,0,rfl,rfl,Nat.zero_le _,by rw [Zx9],F.out,Hb0.out⟩
    case round =>
     obtain ⟨d,i,rfl,rfl,hi,M,g,L⟩:=hrel;have h:=hid L;have G:=hid g;have W:=g.cell 5;have x6:=Yz2 k i m.i;have xd:(d:Int)≤(k:Int)+2:=k30_;have o:=hid M;clear L g M;by_cases y:i<m.i.length
     ·have xi:(i:Int)<(m.i.length:Int):=by omega
      by_cases xe:(d:Int)<q
      ·obtain ⟨ad,u,hA,hab,Q,O⟩:=I.out i y
       subst hA;have xb:=Q.below h.out y32_;have P:=(O.bel h.out).mono h.out.size;have H:=hid (J.out (m.i.getD i default) u wr ((k:Int)+1) rfl k30_ P (sml_i U.out (X0_ _ _ _ y)));have B:=Zv1 k i m.i y;have x7:=dp_le k (m.i.getD i default);obtain ⟨x0,x1,x2,x3,x4,x5,rfl,s0,s1,s2,s3,s4,s5⟩:=xb;obtain ⟨D,K⟩:∃ D,dp k (m.i.getD i default)=D:=⟨_,rfl⟩;rw [K] at H B x7;have xc:(D:Int)≤(k:Int)+1:=k30_;have T:=hid B;clear Q O P I J K B x6
       go_wp2_with fail
       refine (H.out).mono ?_;rintro e w1 ⟨rfl,x⟩;have R:=hid (Z0_ h.out (Nat.le_refl _) x);have S:=hid (G.out.below x (by have:=G.out.lt;exact this));clear x;go_wp2
       go_roundw
       case rel =>
        refine ⟨max d (1+D),i+1,?_,z32_,k30_,?_,S.out,R.out⟩
        ·exact congrArg (Value.int .i64) k30_
        ·rw [T.out,o.out];omega
       case measure=>simp [intOf];omega
      ·have xf:q≤(d:Int):=by omega
       go_wp2;go_ret;refine ⟨?_,h.out⟩;have e:dp (k+1) m=d:=by rw [hd.out,← Xg8 k i m.i (by have:=o.out;omega)];exact o.out.symm
       rw [e];rfl
     ·have x8:i=m.i.length:=by omega
      subst x8;go_wp2;go_ret;refine ⟨?_,h.out⟩;have e:dp (k+1) m=d:=by rw [hd.out,← Zf8];exact o.out.symm
      rw [e];rfl
end Wp
end Go.Proofs.YtgpljiijjnaofaaGreatDoor
