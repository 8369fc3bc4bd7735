/- Go's own errors.As and errors.Is, walked at this package's errors; and the program's told. The program's matroid.deep, walked: how deep matroids lie within one another. -/
import Derived.Test.YtheeajnkiniopaaGreatDoorZU
import Derived.LaidEql
import Derived.Stop.Asserts
import Derived.RowKitTokens
import Derived.Test.YtheeajnkiniopaaGreatDoorProg
import Derived.WalkKit
import Derived.Test.YtheeajnkiniopaaGreatDoorX0A
import Derived.Test.YtheeajnkiniopaaGreatDoorX0B
set_option maxHeartbeats 4000000
set_option maxRecDepth 100000
open Go.Lib (hid)
namespace Go.Proofs.YtheeajnkiniopaaGreatDoor.Wp
open Go.RowKit Go.Extern.Stop Go.Stop Go.Extern
theorem Xt5 (t:Addr) (w:World):(ReflectliteValue.unpack (.iface 112 (.pointer (some t)))).run Tryz.prog w
  = .ok (.agg #[.pointer (some ⟨9, 112,none⟩),.pointer (some ⟨w.heap.size,0,none⟩),.int .u64 150]) (w.alloc (.cells #[.pointer (some t)] 112)):=x40_
theorem typeP (a:Addr) (w:World):(ReflectliteValue.methodAny (ReflectliteValue.valueError "reflectlite.Value.Type" 0) (fun t _ _ _=>ReflectliteType.toType t) #[.agg #[.pointer (some ⟨9, 112,none⟩),.pointer (some a),.int .u64 150]]).run Tryz.prog w
  = .ok (.iface 162 (.agg #[.pointer (some ⟨9, 112,none⟩)])) w:=x40_
theorem kindP (w:World):((ReflectliteType.abiMethod fun t=>(fun a:Nat=>Value.int IntKind.u8 (a:Int)) <$> Rtype.kind t) #[.pointer (some ⟨9, 112,none⟩)]).run Tryz.prog w=.ok (.int .u8 22) w:=x40_
theorem kindS (w:World):((ReflectliteType.abiMethod fun t=>(fun a:Nat=>Value.int IntKind.u8 (a:Int)) <$> Rtype.kind t) #[.pointer (some ⟨9, 83,none⟩)]).run Tryz.prog w=.ok (.int .u8 25) w:=x40_
theorem Vb9 (a:Addr) (w:World):(ReflectliteValue.parts (.agg #[.pointer (some ⟨9, 112,none⟩),.pointer (some a),.int .u64 150])).run Tryz.prog w=.ok (some (112,a,150)) w:=x40_
theorem Zh8 (z:Sem Value) (f:TypeId→Addr→Nat→Nat→Sem Value) (v:Value) (t:TypeId) (a:Addr) (c:Nat) (W:World) (d:(ReflectliteValue.parts v).run Tryz.prog W=.ok (some (t,a,c)) W) :
  (ReflectliteValue.method z f #[v]).run Tryz.prog W=(f t a c (c % 32)).run Tryz.prog W:=by
 rw [show ReflectliteValue.method z f #[v]=(ReflectliteValue.parts v >>= _) from rfl,Sem.run_bind,d];rfl
theorem Vs8 (a p:Addr) (W:World) (ha:W.cell? a=some (.pointer (some p))) :
  (ReflectliteValue.method (ReflectliteValue.valueError "reflectlite.Value.IsNil" 0) ReflectliteValue.isNil #[.agg #[.pointer (some ⟨9, 112,none⟩),.pointer (some a),.int .u64 150]]).run Tryz.prog W=.ok (.bool false) W:=by
 rw [Zh8 _ _ _ _ _ _ _ (Vb9 a W)];simp [ReflectliteValue.isNil,loadVar,isAgg,underlying,ha,Result.andThen]
theorem elemP (w:World):(ReflectliteType.method ReflectliteType.elem #[.agg #[.pointer (some ⟨9, 112,none⟩)]]).run Tryz.prog w=.ok (.iface 162 (.agg #[.pointer (some ⟨9, 83,none⟩)])) w:=x40_
theorem Ye3 (w:World):(ReflectliteType.relation "Implements" ReflectliteType.implements_ #[.agg #[.pointer (some ⟨9, 83,none⟩)],.iface 162 (.agg #[.pointer (some ⟨9, 81,none⟩)])]).run Tryz.prog w=.ok (.bool true) w:=x40_
theorem Vi0 (v:Value) (w:World):(ReflectliteType.typeOf #[.iface 83 v]).run Tryz.prog w=.ok (.iface 162 (.agg #[.pointer (some ⟨9, 83,none⟩)])) w:=x40_
theorem Ye4 (w:World):(ReflectliteType.relation "AssignableTo" ReflectliteType.assignableTo #[.agg #[.pointer (some ⟨9, 83,none⟩)],.iface 162 (.agg #[.pointer (some ⟨9, 83,none⟩)])]).run Tryz.prog w=.ok (.bool true) w:=x40_
theorem Xt6 (x y:Value) (w:World):(ReflectliteValue.unpack (.iface 83 (.agg #[x,y]))).run Tryz.prog w
  = .ok (.agg #[.pointer (some ⟨9, 83,none⟩),.pointer (some ⟨w.heap.size,0,none⟩),.int .u64 153]) (w.alloc (.cells #[x,y] 83)):=x40_
theorem Vi1 (w:World):(Rtype.elem? 112).run Tryz.prog w=.ok (some 83) w:=x40_
theorem mkS (p:Addr) (w:World):(ReflectliteValue.mk 83 p ReflectliteValue.flagAddr).run Tryz.prog w=.ok (.agg #[.pointer (some ⟨9, 83,none⟩),.pointer (some p),.int .u64 409]) w:=x40_
theorem Vs9 (a p:Addr) (W:World) (ha:W.cell? a=some (.pointer (some p))) :
  (ReflectliteValue.method (ReflectliteValue.valueError "reflectlite.Value.Elem" 0) ReflectliteValue.elem #[.agg #[.pointer (some ⟨9, 112,none⟩),.pointer (some a),.int .u64 150]]).run Tryz.prog W
   = .ok (.agg #[.pointer (some ⟨9, 83,none⟩),.pointer (some p),.int .u64 409]) W:=by
 rw [Zh8 _ _ _ _ _ _ _ (Vb9 a W)];simp [ReflectliteValue.elem,loadVar,isAgg,underlying,ha,Result.andThen,Vi1,mkS]
theorem Vi2 (a:Addr) (w:World):(ReflectliteValue.parts (.agg #[.pointer (some ⟨9, 83,none⟩),.pointer (some a),.int .u64 409])).run Tryz.prog w=.ok (some (83,a,409)) w:=x40_
theorem Vt0 (a:Addr) (w:World):(ReflectliteValue.parts (.agg #[.pointer (some ⟨9, 83,none⟩),.pointer (some a),.int .u64 153])).run Tryz.prog w=.ok (some (83,a,153)) w:=x40_
theorem Vi3 (w:World):(Rtype.directlyAssignable 83 83).run Tryz.prog w=.ok true w:=x40_
theorem setS (c b:Nat) (x y C D:Value) (W:World) (z:x.oneCell'=true) (B:y.oneCell'=true) (m:W.cell? ⟨b,0,none⟩=some x) (o:W.cell? ⟨b,1,none⟩=some y)
  (s:W.cell? ⟨c,0,none⟩=some C) (q:W.frozen? ⟨c,0,none⟩=false) (u:W.cell? ⟨c,1,none⟩=some D) (r:W.frozen? ⟨c,1,none⟩=false) :
  (ReflectliteValue.set #[.agg #[.pointer (some ⟨9, 83,none⟩),.pointer (some ⟨c,0,none⟩),.int .u64 409],.agg #[.pointer (some ⟨9, 83,none⟩),.pointer (some ⟨b,0,none⟩),.int .u64 153]]).run Tryz.prog W
   = .ok (.tuple #[]) ((W.setCell ⟨c,0,none⟩ x).setCell ⟨c,1,none⟩ y):=by
 rw [show ∀ (v x:Value),ReflectliteValue.set #[v,x]=(ReflectliteValue.parts v >>= fun p=>ReflectliteValue.parts x >>= _) from fun _ _=>rfl];rw [Sem.run_bind,Vi2];simp only [Result.andThen_ok];rw [Sem.run_bind,Vt0];simp only [Result.andThen_ok];have h:(loadVar 83 ⟨b,0,none⟩).run Tryz.prog W=.ok (.agg #[x,y]) W:=by
  have e:(isAgg 83).run Tryz.prog W=.ok true W:=x40_;have h3:=run_loadCells_list (P:=Tryz.prog) (w:=W) ⟨b,0,none⟩ [x,y] (by
   intro j v d
   match j,d with
   | 0,d=>simp at d;subst d;simpa [Addr.add] using m
   | 1,d=>simp at d;subst d;simpa [Addr.add] using o)
  have g:(loadCells ⟨b,0,none⟩ 2).run Tryz.prog W=.ok #[x,y] W:=h3;unfold loadVar;simp [e,g]
 have k:(storeVar 83 ⟨c,0,none⟩ (.agg #[x,y])).run Tryz.prog W=.ok () ((W.setCell ⟨c,0,none⟩ x).setCell ⟨c,1,none⟩ y):=by
  have f:(sizeOf 83).run Tryz.prog W=.ok 2 W:=x40_;unfold storeVar;simp [f,Value.cells,storeCells,Addr.add];rw [run_store Tryz.prog W _ _ _ z];simp only [s,q,Bool.false_eq_true,if_false];rw [Result.andThen_ok,run_store Tryz.prog _ _ _ _ B];rw [World.cell?_setCell_other _ _ _ _ z40_,World.frozen?_setCell,u,r];rfl
 simp [ReflectliteValue.flagAddr,Vi3,h,k]
open Go
theorem mKind (h:Value) (w:World):(Go.method 336 162 (.agg #[h]) "Kind").run Tryz.prog w=.ok (226,h) w:=x40_
theorem mElem (h:Value) (w:World):(Go.method 336 162 (.agg #[h]) "Elem").run Tryz.prog w=.ok (237,.agg #[h]) w:=x40_
theorem Ye5 (h:Value) (w:World):(Go.method 336 162 (.agg #[h]) "Implements").run Tryz.prog w=.ok (238,.agg #[h]) w:=x40_
theorem Zo6 (h:Value) (w:World):(Go.method 336 162 (.agg #[h]) "AssignableTo").run Tryz.prog w=.ok (235,.agg #[h]) w:=x40_
theorem Zc7 (h:Value) (w:World):(Go.method 336 162 (.agg #[h]) "Comparable").run Tryz.prog w=.ok (236,.agg #[h]) w:=x40_
theorem Xd4 (x y:Value) (w:World):(Go.method 336 83 (.agg #[x,y]) "Unwrap").run Tryz.prog w=.ok (230,.agg #[x,y]) w:=x40_
open Go.RowKit Go.Extern.Stop Go.Stop Go.Extern
def asW (w:World) (t:Nat) (x y:Value):World :=
 (((((w.alloc (.cells #[.pointer (some ⟨t,0,none⟩)] 112)).alloc (.cells #[.pointer (some ⟨9, 112,none⟩),.pointer (some ⟨w.heap.size,0,none⟩),.int .u64 150] 135)).alloc (.cells #[.pointer (some ⟨9, 112,none⟩),.pointer (some ⟨w.heap.size,0,none⟩),.int .u64 150] 135)).alloc (.cells #[x,y] 83)).setCell ⟨t,0,none⟩ x).setCell ⟨t,1,none⟩ y
theorem Vt1 (t:Nat) (x y k m:Value) (w:World) (q:x.oneCell'=true) (r:y.oneCell'=true) (e:w.cell? ⟨1,0,none⟩=some (.iface 162 (.agg #[.pointer (some ⟨9, 81,none⟩)])))
  (d:Blk w t 83 #[k,m]) :
  Calls Tryz.prog 116 #[.iface 83 (.agg #[x,y]),.iface 112 (.pointer (some ⟨t,0,none⟩))] w fun o w'=>o=.returned (.bool true)∧asW w t x y=w':=by
 have I:=@run_callFunc_extern Tryz.prog 144 _ (fun args=>ReflectliteValue.unpack (args.getD 0 (.tuple #[]))) Tryz.func144 x40_ x40_ x40_ x40_;have K:=@run_callFunc_extern Tryz.prog 145 _ (ReflectliteValue.methodAny (ReflectliteValue.valueError "reflectlite.Value.Type" 0) (fun t _ _ _=>ReflectliteType.toType t)) Tryz.func145 x40_ x40_ x40_ x40_;have H:=@run_callFunc_extern Tryz.prog 146 _ (ReflectliteValue.method (ReflectliteValue.valueError "reflectlite.Value.IsNil" 0) ReflectliteValue.isNil) Tryz.func146 x40_ x40_ x40_ x40_;have E:=@run_callFunc_extern Tryz.prog 226 _ (ReflectliteType.abiMethod fun t=>do pure (.int .u8 (← Rtype.kind t))) Tryz.func226 x40_ x40_ x40_ x40_;have C:=@run_callFunc_extern Tryz.prog 237 _ (ReflectliteType.method ReflectliteType.elem) Tryz.func237 x40_ x40_ x40_ x40_;have D:=@run_callFunc_extern Tryz.prog 238 _ (ReflectliteType.relation "Implements" ReflectliteType.implements_) Tryz.func238 x40_ x40_ x40_ x40_;have F:=@run_callFunc_extern Tryz.prog 142 _ ReflectliteType.typeOf Tryz.func142 x40_ x40_ x40_ x40_;have B:=@run_callFunc_extern Tryz.prog 235 _ (ReflectliteType.relation "AssignableTo" ReflectliteType.assignableTo) Tryz.func235 x40_ x40_ x40_ x40_;have G:=@run_callFunc_extern Tryz.prog 169 _ (ReflectliteValue.method (ReflectliteValue.valueError "reflectlite.Value.Elem" 0) ReflectliteValue.elem) Tryz.func169 x40_ x40_ x40_ x40_;have J:=@run_callFunc_extern Tryz.prog 170 _ ReflectliteValue.set Tryz.func170 x40_ x40_ x40_ x40_;have T:=mKind;have R:=mElem;have S:=Ye5;have Q:=Zo6;have V:=Vi0;have u:=Ye4;have Y:=Xt6;have X:=Xt5;have W:=typeP;have O:=kindP;have P:=kindS;have v:=elemP;have N:=Ye3;have p : 1 < w.heap.size:=by
  rcases Nat.lt_or_ge 1 w.heap.size with h | h
  ·exact h
  ·simp [World.cell?,Array.getElem?_eq_none h] at e
 have M:=d.lt;have U:=Vs8 ⟨w.heap.size,0,none⟩ ⟨t,0,none⟩ ((w.alloc (.cells #[.pointer (some ⟨t,0,none⟩)] 112)).alloc (.cells #[.pointer (some ⟨9, 112,none⟩),.pointer (some ⟨w.heap.size,0,none⟩),.int .u64 150] 135)) z40_;have L:((w.alloc (.cells #[.pointer (some ⟨t,0,none⟩)] 112)).alloc (.cells #[.pointer (some ⟨9, 112,none⟩),.pointer (some ⟨w.heap.size,0,none⟩),.int .u64 150] 135)).cell? ⟨1,0,none⟩=some (.iface 162 (.agg #[.pointer (some ⟨9, 81,none⟩)])):=by
  rw [World.cell?_alloc_lt _ _ ⟨1,0,none⟩ j40_,World.cell?_alloc_lt _ _ ⟨1,0,none⟩ p];exact e
 have z:=Vs9 ⟨w.heap.size,0,none⟩ ⟨t,0,none⟩ (((w.alloc (.cells #[.pointer (some ⟨t,0,none⟩)] 112)).alloc (.cells #[.pointer (some ⟨9, 112,none⟩),.pointer (some ⟨w.heap.size,0,none⟩),.int .u64 150] 135)).alloc (.cells #[.pointer (some ⟨9, 112,none⟩),.pointer (some ⟨w.heap.size,0,none⟩),.int .u64 150] 135)) (by rw [World.cell?_alloc_lt _ _ ⟨w.heap.size,0,none⟩ j40_];simp);have j:=((d.alloc (.cells #[.pointer (some ⟨t,0,none⟩)] 112)).alloc (.cells #[.pointer (some ⟨9, 112,none⟩),.pointer (some ⟨w.heap.size,0,none⟩),.int .u64 150] 135)).alloc (.cells #[.pointer (some ⟨9, 112,none⟩),.pointer (some ⟨w.heap.size,0,none⟩),.int .u64 150] 135);have c:=j.alloc (.cells #[x,y] 83);have st:=setS t (w.heap.size+1+1+1) x y k m ((((w.alloc (.cells #[.pointer (some ⟨t,0,none⟩)] 112)).alloc (.cells #[.pointer (some ⟨9, 112,none⟩),.pointer (some ⟨w.heap.size,0,none⟩),.int .u64 150] 135)).alloc (.cells #[.pointer (some ⟨9, 112,none⟩),.pointer (some ⟨w.heap.size,0,none⟩),.int .u64 150] 135)).alloc (.cells #[x,y] 83)) q r
  (by rw [World.cell?_alloc_at _ _ _ _ z40_];rfl) (by rw [World.cell?_alloc_at _ _ _ _ z40_];rfl)
  (c.cell 0) (c.frozen 0) (c.cell 1) (c.frozen 1)
 have s:=hid d;clear d j c
 go_enter Tryz.func116,Tryz.ntmps116
 go_wp2;refine wp_loop_rounds 1 ?_;rw [rounds_succ];go_wp2;go_ret;exact ⟨rfl,rfl⟩
open Go.RowKit Go.Extern.Stop Go.Stop Go.Extern
theorem Ym9 (v:Value) (w:World):(Extern.ReflectliteType.typeOf #[.iface 203 v]).run Tryz.prog w=.ok (.iface 162 (.agg #[.pointer (some ⟨9, 203,none⟩)])) w:=x40_
theorem Zv2:∃ c,Extern.find Tryz.f236 = some c∧∀ w:World,(c #[.agg #[.pointer (some ⟨9, 203,none⟩)]]).run Tryz.prog w=.ok (.bool true) w :=
 ⟨Extern.ReflectliteType.method fun t=>do Extern.Rtype.noPackHeld "Comparable" t;pure (.bool (← typeInfo t).comparable),x40_,fun w=>by kernel_rfl⟩
theorem Vc0:(Tryz.prog.info? 203).map (·.comparable)=some true:=x40_
theorem Vc1:(Tryz.prog.info? 224).map (·.size)=some 1:=x40_
theorem Yz9:Tryz.prog.underlying 81 = some (.interface #[("Error", 204)]):=x40_
theorem Vc2:Tryz.prog.underlying 203 = some (.pointer 224):=x40_
theorem noIsE (v:Value) (c:TypeId) (w:World):(Instr.typeAssert (.iface 203 v) c 164 true).run Tryz.prog w=.ok (.tuple #[.nilIface,.bool false]) w:=run_typeAssert_lacksB Tryz.underlying164 x40_ x40_ v c w
theorem Xd5 (v:Value) (c:TypeId) (w:World):(Instr.typeAssert (.iface 203 v) c 167 true).run Tryz.prog w=.ok (.tuple #[.nilIface,.bool false]) w:=run_typeAssert_lacksB Tryz.underlying167 x40_ x40_ v c w
theorem Yu8 (v:Value) (c:TypeId) (w:World):(Instr.typeAssert (.iface 203 v) c 169 true).run Tryz.prog w=.ok (.tuple #[.nilIface,.bool false]) w:=run_typeAssert_lacksB Tryz.underlying169 x40_ x40_ v c w
theorem noIsW (v:Value) (c:TypeId) (w:World):(Instr.typeAssert (.iface 83 v) c 164 true).run Tryz.prog w=.ok (.tuple #[.nilIface,.bool false]) w:=run_typeAssert_lacksB Tryz.underlying164 x40_ x40_ v c w
theorem Zh9 (v:Value) (c:TypeId) (w:World):(Instr.typeAssert (.iface 83 v) c 167 true).run Tryz.prog w=.ok (.tuple #[.iface 83 v,.bool true]) w:=run_typeAssert_hasB Tryz.underlying167 x40_ v c w
def chain:List Int→Value→Value
 | [],v=>v
 | t :: r,v=>.iface 83 (.agg #[chain r v,.int .i64 t])
theorem Zc8 (ts:List Int) (a:Addr):∃ T v,chain ts (eS a)=.iface T v:=by
 cases ts with
 | nil=>exact ⟨_,_,rfl⟩
 | cons t r=>exact ⟨_,_,rfl⟩
theorem Vi4 (x y:Value) (T:TypeId):SizeOf.sizeOf x<SizeOf.sizeOf (Value.iface T (.agg #[x,y])):=by
 simp only [Value.iface.sizeOf_spec,Value.agg.sizeOf_spec,Array.mk.sizeOf_spec,List.cons.sizeOf_spec];omega
theorem Xt7 (ts:List Int) (a b:Addr) (q s:Array Value) (F G:TypeId) (w:World) (E:a≠b) (ha:w.heap[a.block]?=some (.cells q F (0,0))) (hb:w.heap[b.block]?=some (.cells s G (0,0))) :
  Calls Tryz.prog 115 #[chain ts (eS a),eS b] w (Says w false):=by
 obtain ⟨i,y,v⟩:=Option.map_eq_some_iff.1 Vc0;obtain ⟨j,z,B⟩:=Option.map_eq_some_iff.1 Vc1;have L:=@run_callFunc_extern Tryz.prog 142 _ Extern.ReflectliteType.typeOf Tryz.func142 x40_ x40_ x40_ x40_;obtain ⟨u,m,J⟩:=Zv2;have K:=@run_callFunc_extern Tryz.prog 236 _ u Tryz.func236 x40_ x40_ x40_ m;clear m;have T:=Ym9;have O:=Zc7;have R:=noIsE;have U:=Xd5;have Z:=Yu8;have S:=noIsW;have V:=Zh9;have Q:=Xd4;have C:=S1_ ha;have D:=S1_ hb;have k:=fun (W:World) (h:Below w.heap.size w W)=>run_eql_iface_ptr_other (P:=Tryz.prog) W Yz9 Vc2 y v z (by rw [B];decide) E ((h.block _ C).trans ha) ((h.block _ D).trans hb);have N:=fun (x:Value) (W:World)=>run_eql_iface_types (P:=Tryz.prog) 83 203 x (.pointer (some b)) Yz9 q41_ W;obtain ⟨H,X,e⟩:=Zc8 ts a;have o:=hid e;rw [e];unfold eS at *
 clear e
 go_enter Tryz.func115,Tryz.ntmps115
 go_wp2
 go_loopw [0] (fun g wr=>∃ r,g=chain r (.iface 203 (.pointer (some a)))∧Below w.heap.size w wr) (fun g _=>SizeOf.sizeOf g)
 case atStart=>exact ⟨ts,o.out.symm,Below.refl _ _⟩
 case round =>
  obtain ⟨r,rfl,d⟩:=hrel;have M:=k _ d;clear k;cases r with
  | nil =>
   rw [show chain [] (.iface 203 (.pointer (some a)))=.iface 203 (.pointer (some a)) from rfl];go_wp2;go_ret;exact ⟨rfl,d⟩
  | cons t r =>
   obtain ⟨I,Y,c⟩:=Zc8 r a;unfold eS at c;rw [show chain (t :: r) (.iface 203 (.pointer (some a)))=.iface 83 (.agg #[chain r (.iface 203 (.pointer (some a))),.int .i64 t]) from rfl,c];have p:=hid c;clear c;go_wp2
   go_roundw
   case rel=>exact ⟨r,p.out.symm,d.alloc d.size _⟩
   case measure=>exact Vi4 _ _ _
theorem Vt2 (y:Value) (b:Addr) (w:World) :
  Calls Tryz.prog 115 #[.iface 83 (.agg #[.iface 203 (.pointer (some b)),y]),.iface 203 (.pointer (some b))] w (Says w true):=by
 obtain ⟨i,g,e⟩:=Option.map_eq_some_iff.1 Vc0;obtain ⟨j,h,q⟩:=Option.map_eq_some_iff.1 Vc1;have o:=@run_callFunc_extern Tryz.prog 142 _ Extern.ReflectliteType.typeOf Tryz.func142 x40_ x40_ x40_ x40_;obtain ⟨d,c,k⟩:=Zv2;have m:=@run_callFunc_extern Tryz.prog 236 _ d Tryz.func236 x40_ x40_ x40_ c;clear c;have x:=Ym9;have s:=Zc7;have v:=noIsW;have z:=Zh9;have u:=Xd4;have p:=run_eql_iface_ptr_same (P:=Tryz.prog) (w.alloc (.cells #[.iface 203 (.pointer (some b)),y] 83)) b Yz9 Vc2 g e h;have r:=run_eql_iface_types (P:=Tryz.prog) 83 203 (.agg #[.iface 203 (.pointer (some b)),y]) (.pointer (some b)) Yz9 q41_ w
 go_enter Tryz.func115,Tryz.ntmps115
 go_wp2;refine wp_loop_rounds 2 ?_;rw [rounds_succ];go_wp2;rw [rounds_succ];go_wp2;go_ret;exact ⟨rfl,(Below.refl _ _).alloc (Nat.le_refl _) _⟩
theorem Vt3 (v:Value) (w:World):Calls Tryz.prog 115 #[.nilIface,.iface 203 v] w (Says w false):=by
 have c:=run_eql_iface_nil_left (P:=Tryz.prog) (w:=w) 203 v Yz9
 go_enter Tryz.func115,Tryz.ntmps115
 exact y4_
open Go.RowKit
theorem Xd6 (w:World) (t:Nat) (x y:Value) (B:Nat) (c:B≤t) (h:B≤w.heap.size):Below B w (asW w t x y):=by
 unfold asW;refine Below.setCell ?_ (by exact c) _;refine Below.setCell ?_ (by exact c) _;exact ((((Below.refl _ w).alloc h _).alloc j40_ _).alloc j40_ _).alloc j40_ _
theorem Vt4 (v:Value) (w:World):Calls Tryz.prog 116 #[.nilIface,v] w (Says w false):=by
 go_enter Tryz.func116,Tryz.ntmps116
 exact y4_
def Tells (w:World) (k:Int) (e:Ending) (w':World):Prop:=e=.returned (.int .i64 k)∧Below w.heap.size w w'
def toldW (w:World):World:=w.alloc (.cells #[.nilIface,.int .i64 0] 83)
theorem D3_ (w:World):Below w.heap.size w (toldW w):=(Below.refl _ w).alloc (Nat.le_refl _) _
theorem Xt8 (E:Nat→Addr) (w:World) (c:Env E w):Calls Tryz.prog 86 #[.nilIface] w (Tells w 0):=by
 have h:=hid (D3_ w);have k:=(c.up (D3_ w)).g0;unfold toldW eS at *
 clear c
 go_enter Tryz.func86,Tryz.ntmps86
 go_wp2_with fail
 refine (Vt3 _ _).mono ?_;rintro e m ⟨rfl,d⟩;have j:=hid (Z0_ h.out (Nat.le_refl _) d);clear d
 go_wp2_with fail
 refine (Vt4 _ _).mono ?_;rintro e o ⟨rfl,g⟩;have Hb2:=hid (Z0_ j.out (Nat.le_refl _) g);clear g;exact z2_
theorem Xd7 (E:Nat→Addr) (t:Int) (w:World) (c:Env E w):Calls Tryz.prog 86 #[.iface 83 (.agg #[eS (E 0),.int .i64 t])] w (Tells w 91):=by
 have Hb0:=hid (D3_ w);have d:=(c.up (D3_ w)).g0;unfold toldW eS at *
 clear c
 go_enter Tryz.func86,Tryz.ntmps86
 go_wp2_with fail
 refine (Vt2 _ _ _).mono ?_;exact q38_
theorem Xd8 (ts:List Int) (a:Addr):(chain ts (eS a)).oneCell'=true:=by
 cases ts<;>rfl
theorem Xt9 (E:Nat→Addr) (t:Int) (ts:List Int) (k:Nat) (g:1≤k∧k≤4) (w:World) (s:Env E w):Calls Tryz.prog 86 #[chain (t :: ts) (eS (E k))] w (Tells w 90):=by
 have m:=hid (D3_ w);have c:=s.up (D3_ w);have D:=c.g0;have j:=hid c;obtain ⟨B,F,ha⟩:=c.blk k g.2;obtain ⟨C,G,hb⟩:=c.blk 0 q41_;have p:=hid (Xt7 (t :: ts) (E k) (E 0) B C F G (toldW w) (c.ne k g.1 g.2) ha hb);have r:=Xd8 ts (E k);have u:Blk (toldW w) w.heap.size 83 #[.nilIface,.int .i64 0]:=Blk.new w _ _;have q:=hid u;rw [show chain (t :: ts) (eS (E k))=.iface 83 (.agg #[chain ts (eS (E k)),.int .i64 t]) from rfl] at *
 have v:=hid r;clear c s ha hb u r;generalize chain ts (eS (E k))=x at *
 unfold toldW at m j p q D;unfold eS at *
 go_enter Tryz.func86,Tryz.ntmps86
 go_wp2_with fail
 refine (p.out).mono ?_;rintro e h ⟨rfl,d⟩;have z:=hid (q.out.below d z40_);have y:=hid (j.out.up d);have o:=hid (Z0_ m.out (Nat.le_refl _) d);clear d
 go_wp2_with fail
 refine (Vt1 w.heap.size x (.int .i64 t) .nilIface (.int .i64 0) h v.out rfl y.out.gt z.out).mono ?_;rintro e H ⟨rfl,rfl⟩;have Hb2:Hid (Below w.heap.size w (asW h w.heap.size x (.int .i64 t))):=o.out.trans (Xd6 h w.heap.size x _ w.heap.size (Nat.le_refl _) o.out.size);exact z2_
open Go.RowKit
def boxed (w:World) (m:Mat) (lv iv:Value):World:=w.alloc (.cells #[.int .i64 m.t,.int .i64 m.n,.int .i64 m.a,.int .i64 m.b,lv,iv] 37)
theorem Z1_ (w:World) (m:Mat) (d c:Value):Below w.heap.size w (boxed w m d c):=(Below.refl _ w).alloc (Nat.le_refl _) _
theorem Z5_ (w:World) (m:Mat) (d c:Value):Blk (boxed w m d c) w.heap.size 37 #[.int .i64 m.t,.int .i64 m.n,.int .i64 m.a,.int .i64 m.b,d,c]:=Blk.new w _ _
def most (k i:Nat) (l:List Mat):Nat:=maxN ((l.take i).map (dp k))
theorem Zc9 (k:Nat) (l:List Mat):most k 0 l=0:=rfl
theorem Zd0 {α:Type} (l:List α) (i:Nat) (d:α) (h:i<l.length):l.take (i+1)=l.take i ++ [l.getD i d]:=by
 rw [List.take_succ_eq_append_getElem h];simp [List.getD,h]
theorem Zd1 (k i:Nat) (l:List Mat) (h:i<l.length):most k (i+1) l=max (most k i l) (dp k (l.getD i default)):=by
 unfold most;rw [Zd0 l i default h,List.map_append,Yd6];simp [maxN]
theorem Zo7 (k:Nat) (l:List Mat):most k l.length l=maxN (l.map (dp k)):=by
 unfold most;rw [List.take_length]
theorem Ye6 (k i:Nat) (l:List Mat):most k i l≤k+1:=Zc1 fun x hx=>y23_
theorem Xu0 (k i:Nat) (l:List Mat) (h:k+1≤most k i l):most k i l=maxN (l.map (dp k)):=by
 have d:most k i l≤maxN (l.map (dp k)):=by
  refine Zc1 fun x hx=>?_;obtain ⟨y,c,rfl⟩:=List.mem_map.1 hx;exact Yd5 (List.mem_map_of_mem (List.mem_of_mem_take c))
 have e:maxN (l.map (dp k))≤k+1:=Zc1 fun x hx=>y23_;omega
theorem sml_i {m x:Mat} (h:Sml m) (c:x∈m.i):Sml x:=by
 cases h with
 | mk _ _ _ h4=>exact h4 x c
theorem Zv3 {m:Mat} (h:Sml m):m.i.length≤1000:=by
 cases h with
 | mk _ _ h3 _=>exact h3
theorem sml_l {m:Mat} (h:Sml m):m.l.length≤1000:=by
 cases h with
 | mk h1 _ _ _=>exact h1
theorem sml_r {m:Mat} (h:Sml m) {r:List Int} (c:r∈m.l):r.length≤1000:=by
 cases h with
 | mk _ h2 _ _=>exact h2 r c
theorem Y4_ {α:Type} (l:List α) (i:Nat) (d:α) (h:i<l.length):l.getD i d∈l:=x30_
theorem Xu1:∀ (k:Nat) (m:Mat) (v:Value) (w:World) (most:Int),most=(k:Int)+1→k≤10→MatV w w.heap.size v m→Sml m→Calls Tryz.prog 114 #[v,.int .i64 most] w (Tells w (dp k m)):=by
 intro k
 induction k with
 | zero =>
  intro m v w most B _ E hs;obtain ⟨j,iv,rfl,hl,p⟩:=E.open;obtain ⟨A,c,rfl,x6,q⟩:=p;have xa:=Zv3 hs;have xb:(m.i.length:Int)≤1000:=q40_;have Hb0:=hid (Z1_ w m j (.slice A m.i.length c));have g:=Z5_ w m j (.slice A m.i.length c);have W:=g.cell 0;have X:=g.cell 5;have O:most=1:=q40_;subst O;clear g q hl B;unfold boxed at *
  by_cases s:m.t<5
  ·exact j36_
  ·have Y:5≤m.t:=by omega
   clear s;by_cases x:9<m.t
   ·exact j36_
   ·have Z:m.t≤9:=by omega
    clear x;by_cases h3:(0:Int)<(m.i.length:Int)
    ·exact y39_
    ·exact y39_
 | succ k ih =>
  intro m v w r B xh E hs;obtain ⟨j,iv,rfl,hl,p⟩:=E.open;obtain ⟨A,c,rfl,x6,q⟩:=p;have J:=hid q;have V:=hid hs;have K:=hid ih;have xa:=Zv3 hs;have xb:(m.i.length:Int)≤1000:=q40_;have Hb0:=hid (Z1_ w m j (.slice A m.i.length c));have G:=hid (Z5_ w m j (.slice A m.i.length c));have W:=G.out.cell 0;have O:(k:Int)+2=r:=q40_;have xi:(k:Int)≤10:=q40_;have xk:IntKind.i64.wrap (r - 1)=(k:Int)+1:=k40_;clear q hl B ih hs;unfold boxed at *
  by_cases s:m.t<5
  ·exact y10_
  ·have Y:5≤m.t:=by omega
   clear s;by_cases x:9<m.t
   ·exact y10_
   ·have Z:m.t≤9:=by omega
    have hd:Hid (dp (k+1) m=1+maxN (m.i.map (dp k))):=by
     show dp (k+1) m=_;rw [dp,if_pos (by unfold nest;omega)]
    clear x
    go_enter Tryz.func114,Tryz.ntmps114
    go_wp2
    go_loopw [5,6] (fun vd F wr=>∃ (d i:Nat),vd=.int .i64 d∧F=.int .i64 i∧i≤m.i.length∧d=1+Wp.most k i m.i∧Blk wr w.heap.size 37 #[.int .i64 m.t,.int .i64 m.n,.int .i64 m.a,.int .i64 m.b,j,.slice A m.i.length c]∧Below w.heap.size w wr) (fun _ F _=>m.i.length - (intOf F).toNat)
    case atStart=>exact ⟨1,0,rfl,rfl,Nat.zero_le _,by rw [Zc9],G.out,Hb0.out⟩
    case round =>
     obtain ⟨d,i,rfl,rfl,p,N,g,M⟩:=hrel;have h:=hid M;have H:=hid g;have X:=g.cell 5;have x7:=Ye6 k i m.i;have xe:(d:Int)≤(k:Int)+2:=q40_;have o:=hid N;clear M g N;by_cases z:i<m.i.length
     ·have xj:(i:Int)<(m.i.length:Int):=by omega
      by_cases xf:(d:Int)<r
      ·obtain ⟨ad,u,hA,hab,R,P⟩:=J.out i z
       subst hA;have xc:=R.below h.out k41_;have Q:=(P.bel h.out).mono h.out.size;have I:=hid (K.out (m.i.getD i default) u wr ((k:Int)+1) rfl q40_ Q (sml_i V.out (Y4_ _ _ _ z)));have C:=Zd1 k i m.i z;have x8:=dp_le k (m.i.getD i default);obtain ⟨x0,x1,x2,x3,x4,x5,rfl,s0,s1,s2,s3,s4,s5⟩:=xc;obtain ⟨D,L⟩:∃ D,dp k (m.i.getD i default)=D:=⟨_,rfl⟩;rw [L] at I C x8;have xd:(D:Int)≤(k:Int)+1:=q40_;have U:=hid C;clear R P Q J K L C x7
       go_wp2_with fail
       refine (I.out).mono ?_;rintro e w1 ⟨rfl,y⟩;have S:=hid (Z0_ h.out (Nat.le_refl _) y);have T:=hid (H.out.below y (by have:=H.out.lt;exact this));clear y;go_wp2
       go_roundw
       case rel =>
        refine ⟨max d (1+D),i+1,?_,x41_,q40_,?_,T.out,S.out⟩
        ·exact congrArg (Value.int .i64) q40_
        ·rw [U.out,o.out];omega
       case measure=>simp [intOf];omega
      ·have xg:r≤(d:Int):=by omega
       go_wp2;go_ret;refine ⟨?_,h.out⟩;have e:dp (k+1) m=d:=by rw [hd.out,← Xu0 k i m.i (by have:=o.out;omega)];exact o.out.symm
       rw [e];rfl
     ·have x9:i=m.i.length:=by omega
      subst x9;go_wp2;go_ret;refine ⟨?_,h.out⟩;have e:dp (k+1) m=d:=by rw [hd.out,← Zo7];exact o.out.symm
      rw [e];rfl
end Go.Proofs.YtheeajnkiniopaaGreatDoor.Wp
