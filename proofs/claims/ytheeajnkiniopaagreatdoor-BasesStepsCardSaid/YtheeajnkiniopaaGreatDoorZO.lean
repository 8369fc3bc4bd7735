/- Go's own errors.As and errors.Is, walked at this package's errors; and the program's told. The program's matroid.deep, walked: how deep matroids lie within one another. -/
import Derived.Test.YtheeajnkiniopaaGreatDoorZU
import Derived.LaidEql
import Derived.Stop.Asserts
import Derived.RowKitTokens
import Derived.Test.YtheeajnkiniopaaGreatDoorProg
import Derived.WalkKit
import Derived.Test.YtheeajnkiniopaaGreatDoorX0A
import Derived.Test.YtheeajnkiniopaaGreatDoorX0B
set_option maxHeartbeats 4000000
set_option maxRecDepth 100000
open Go.Lib (hid)
namespace Go.Proofs.YtheeajnkiniopaaGreatDoor.Wp
open Go.RowKit Go.Extern.Stop Go.Stop Go.Extern
theorem Xh0 (t:Addr) (w:World):(ReflectliteValue.unpack (.iface 112 (.pointer (some t)))).run Tryz.prog w
  = .ok (.agg #[.pointer (some ⟨9, 112,none⟩),.pointer (some ⟨w.heap.size,0,none⟩),.int .u64 150]) (w.alloc (.cells #[.pointer (some t)] 112)):=q30_
theorem typeP (a:Addr) (w:World):(ReflectliteValue.methodAny (ReflectliteValue.valueError "reflectlite.Value.Type" 0) (fun t _ _ _=>ReflectliteType.toType t) #[.agg #[.pointer (some ⟨9, 112,none⟩),.pointer (some a),.int .u64 150]]).run Tryz.prog w
  = .ok (.iface 162 (.agg #[.pointer (some ⟨9, 112,none⟩)])) w:=q30_
theorem kindP (w:World):((ReflectliteType.abiMethod fun t=>(fun a:Nat=>Value.int IntKind.u8 (a:Int)) <$> Rtype.kind t) #[.pointer (some ⟨9, 112,none⟩)]).run Tryz.prog w=.ok (.int .u8 22) w:=q30_
theorem kindS (w:World):((ReflectliteType.abiMethod fun t=>(fun a:Nat=>Value.int IntKind.u8 (a:Int)) <$> Rtype.kind t) #[.pointer (some ⟨9, 83,none⟩)]).run Tryz.prog w=.ok (.int .u8 25) w:=q30_
theorem Xs1 (a:Addr) (w:World):(ReflectliteValue.parts (.agg #[.pointer (some ⟨9, 112,none⟩),.pointer (some a),.int .u64 150])).run Tryz.prog w=.ok (some (112,a,150)) w:=q30_
theorem Za6 (z:Sem Value) (f:TypeId→Addr→Nat→Nat→Sem Value) (v:Value) (t:TypeId) (a:Addr) (c:Nat) (W:World) (d:(ReflectliteValue.parts v).run Tryz.prog W=.ok (some (t,a,c)) W) :
  (ReflectliteValue.method z f #[v]).run Tryz.prog W=(f t a c (c % 32)).run Tryz.prog W:=by
 rw [show ReflectliteValue.method z f #[v]=(ReflectliteValue.parts v >>= _) from rfl,Sem.run_bind,d];rfl
theorem Ve8 (a p:Addr) (W:World) (ha:W.cell? a=some (.pointer (some p))) :
  (ReflectliteValue.method (ReflectliteValue.valueError "reflectlite.Value.IsNil" 0) ReflectliteValue.isNil #[.agg #[.pointer (some ⟨9, 112,none⟩),.pointer (some a),.int .u64 150]]).run Tryz.prog W=.ok (.bool false) W:=by
 rw [Za6 _ _ _ _ _ _ _ (Xs1 a W)];simp [ReflectliteValue.isNil,loadVar,isAgg,underlying,ha,Result.andThen]
theorem elemP (w:World):(ReflectliteType.method ReflectliteType.elem #[.agg #[.pointer (some ⟨9, 112,none⟩)]]).run Tryz.prog w=.ok (.iface 162 (.agg #[.pointer (some ⟨9, 83,none⟩)])) w:=q30_
theorem Yz1 (w:World):(ReflectliteType.relation "Implements" ReflectliteType.implements_ #[.agg #[.pointer (some ⟨9, 83,none⟩)],.iface 162 (.agg #[.pointer (some ⟨9, 81,none⟩)])]).run Tryz.prog w=.ok (.bool true) w:=q30_
theorem Vx2 (v:Value) (w:World):(ReflectliteType.typeOf #[.iface 83 v]).run Tryz.prog w=.ok (.iface 162 (.agg #[.pointer (some ⟨9, 83,none⟩)])) w:=q30_
theorem Yz2 (w:World):(ReflectliteType.relation "AssignableTo" ReflectliteType.assignableTo #[.agg #[.pointer (some ⟨9, 83,none⟩)],.iface 162 (.agg #[.pointer (some ⟨9, 83,none⟩)])]).run Tryz.prog w=.ok (.bool true) w:=q30_
theorem Xh1 (x y:Value) (w:World):(ReflectliteValue.unpack (.iface 83 (.agg #[x,y]))).run Tryz.prog w
  = .ok (.agg #[.pointer (some ⟨9, 83,none⟩),.pointer (some ⟨w.heap.size,0,none⟩),.int .u64 153]) (w.alloc (.cells #[x,y] 83)):=q30_
theorem Vx3 (w:World):(Rtype.elem? 112).run Tryz.prog w=.ok (some 83) w:=q30_
theorem mkS (p:Addr) (w:World):(ReflectliteValue.mk 83 p ReflectliteValue.flagAddr).run Tryz.prog w=.ok (.agg #[.pointer (some ⟨9, 83,none⟩),.pointer (some p),.int .u64 409]) w:=q30_
theorem Ve9 (a p:Addr) (W:World) (ha:W.cell? a=some (.pointer (some p))) :
  (ReflectliteValue.method (ReflectliteValue.valueError "reflectlite.Value.Elem" 0) ReflectliteValue.elem #[.agg #[.pointer (some ⟨9, 112,none⟩),.pointer (some a),.int .u64 150]]).run Tryz.prog W
   = .ok (.agg #[.pointer (some ⟨9, 83,none⟩),.pointer (some p),.int .u64 409]) W:=by
 rw [Za6 _ _ _ _ _ _ _ (Xs1 a W)];simp [ReflectliteValue.elem,loadVar,isAgg,underlying,ha,Result.andThen,Vx3,mkS]
theorem Vx4 (a:Addr) (w:World):(ReflectliteValue.parts (.agg #[.pointer (some ⟨9, 83,none⟩),.pointer (some a),.int .u64 409])).run Tryz.prog w=.ok (some (83,a,409)) w:=q30_
theorem Vf0 (a:Addr) (w:World):(ReflectliteValue.parts (.agg #[.pointer (some ⟨9, 83,none⟩),.pointer (some a),.int .u64 153])).run Tryz.prog w=.ok (some (83,a,153)) w:=q30_
theorem Vx5 (w:World):(Rtype.directlyAssignable 83 83).run Tryz.prog w=.ok true w:=q30_
theorem setS (c b:Nat) (x y B C:Value) (W:World) (u:x.oneCell'=true) (z:y.oneCell'=true) (k:W.cell? ⟨b,0,none⟩=some x) (m:W.cell? ⟨b,1,none⟩=some y)
  (r:W.cell? ⟨c,0,none⟩=some B) (o:W.frozen? ⟨c,0,none⟩=false) (s:W.cell? ⟨c,1,none⟩=some C) (q:W.frozen? ⟨c,1,none⟩=false) :
  (ReflectliteValue.set #[.agg #[.pointer (some ⟨9, 83,none⟩),.pointer (some ⟨c,0,none⟩),.int .u64 409],.agg #[.pointer (some ⟨9, 83,none⟩),.pointer (some ⟨b,0,none⟩),.int .u64 153]]).run Tryz.prog W
   = .ok (.tuple #[]) ((W.setCell ⟨c,0,none⟩ x).setCell ⟨c,1,none⟩ y):=by
 rw [show ∀ (v x:Value),ReflectliteValue.set #[v,x]=(ReflectliteValue.parts v >>= fun p=>ReflectliteValue.parts x >>= _) from fun _ _=>rfl];rw [Sem.run_bind,Vx4];simp only [Result.andThen_ok];rw [Sem.run_bind,Vf0];simp only [Result.andThen_ok];have g:(loadVar 83 ⟨b,0,none⟩).run Tryz.prog W=.ok (.agg #[x,y]) W:=by
  have e:(isAgg 83).run Tryz.prog W=.ok true W:=q30_;have h3:=run_loadCells_list (P:=Tryz.prog) (w:=W) ⟨b,0,none⟩ [x,y] (by
   intro j v d
   match j,d with
   | 0,d=>simp at d;subst d;simpa [Addr.add] using k
   | 1,d=>simp at d;subst d;simpa [Addr.add] using m)
  have f:(loadCells ⟨b,0,none⟩ 2).run Tryz.prog W=.ok #[x,y] W:=h3;unfold loadVar;simp [e,f]
 have h:(storeVar 83 ⟨c,0,none⟩ (.agg #[x,y])).run Tryz.prog W=.ok () ((W.setCell ⟨c,0,none⟩ x).setCell ⟨c,1,none⟩ y):=by
  have h2:(sizeOf 83).run Tryz.prog W=.ok 2 W:=q30_;unfold storeVar;simp [h2,Value.cells,storeCells,Addr.add];rw [run_store Tryz.prog W _ _ _ u];simp only [r,o,Bool.false_eq_true,if_false];rw [Result.andThen_ok,run_store Tryz.prog _ _ _ _ z];rw [World.cell?_setCell_other _ _ _ _ y30_,World.frozen?_setCell,s,q];rfl
 simp [ReflectliteValue.flagAddr,Vx5,g,h]
open Go
theorem mKind (h:Value) (w:World):(Go.method 336 162 (.agg #[h]) "Kind").run Tryz.prog w=.ok (226,h) w:=q30_
theorem mElem (h:Value) (w:World):(Go.method 336 162 (.agg #[h]) "Elem").run Tryz.prog w=.ok (237,.agg #[h]) w:=q30_
theorem Yz3 (h:Value) (w:World):(Go.method 336 162 (.agg #[h]) "Implements").run Tryz.prog w=.ok (238,.agg #[h]) w:=q30_
theorem Zf2 (h:Value) (w:World):(Go.method 336 162 (.agg #[h]) "AssignableTo").run Tryz.prog w=.ok (235,.agg #[h]) w:=q30_
theorem Zx8 (h:Value) (w:World):(Go.method 336 162 (.agg #[h]) "Comparable").run Tryz.prog w=.ok (236,.agg #[h]) w:=q30_
theorem Yw6 (x y:Value) (w:World):(Go.method 336 83 (.agg #[x,y]) "Unwrap").run Tryz.prog w=.ok (230,.agg #[x,y]) w:=q30_
open Go.RowKit Go.Extern.Stop Go.Stop Go.Extern
def asW (w:World) (t:Nat) (x y:Value):World :=
 (((((w.alloc (.cells #[.pointer (some ⟨t,0,none⟩)] 112)).alloc (.cells #[.pointer (some ⟨9, 112,none⟩),.pointer (some ⟨w.heap.size,0,none⟩),.int .u64 150] 135)).alloc (.cells #[.pointer (some ⟨9, 112,none⟩),.pointer (some ⟨w.heap.size,0,none⟩),.int .u64 150] 135)).alloc (.cells #[x,y] 83)).setCell ⟨t,0,none⟩ x).setCell ⟨t,1,none⟩ y
theorem Vf1 (t:Nat) (x y k m:Value) (w:World) (q:x.oneCell'=true) (r:y.oneCell'=true) (e:w.cell? ⟨1,0,none⟩=some (.iface 162 (.agg #[.pointer (some ⟨9, 81,none⟩)])))
  (d:Blk w t 83 #[k,m]) :
  Calls Tryz.prog 116 #[.iface 83 (.agg #[x,y]),.iface 112 (.pointer (some ⟨t,0,none⟩))] w fun o w'=>o=.returned (.bool true)∧asW w t x y=w':=by
 have I:=@run_callFunc_extern Tryz.prog 144 _ (fun args=>ReflectliteValue.unpack (args.getD 0 (.tuple #[]))) Tryz.func144 q30_ q30_ q30_ q30_;have K:=@run_callFunc_extern Tryz.prog 145 _ (ReflectliteValue.methodAny (ReflectliteValue.valueError "reflectlite.Value.Type" 0) (fun t _ _ _=>ReflectliteType.toType t)) Tryz.func145 q30_ q30_ q30_ q30_;have H:=@run_callFunc_extern Tryz.prog 146 _ (ReflectliteValue.method (ReflectliteValue.valueError "reflectlite.Value.IsNil" 0) ReflectliteValue.isNil) Tryz.func146 q30_ q30_ q30_ q30_;have E:=@run_callFunc_extern Tryz.prog 226 _ (ReflectliteType.abiMethod fun t=>do pure (.int .u8 (← Rtype.kind t))) Tryz.func226 q30_ q30_ q30_ q30_;have C:=@run_callFunc_extern Tryz.prog 237 _ (ReflectliteType.method ReflectliteType.elem) Tryz.func237 q30_ q30_ q30_ q30_;have D:=@run_callFunc_extern Tryz.prog 238 _ (ReflectliteType.relation "Implements" ReflectliteType.implements_) Tryz.func238 q30_ q30_ q30_ q30_;have F:=@run_callFunc_extern Tryz.prog 142 _ ReflectliteType.typeOf Tryz.func142 q30_ q30_ q30_ q30_;have B:=@run_callFunc_extern Tryz.prog 235 _ (ReflectliteType.relation "AssignableTo" ReflectliteType.assignableTo) Tryz.func235 q30_ q30_ q30_ q30_;have G:=@run_callFunc_extern Tryz.prog 169 _ (ReflectliteValue.method (ReflectliteValue.valueError "reflectlite.Value.Elem" 0) ReflectliteValue.elem) Tryz.func169 q30_ q30_ q30_ q30_;have J:=@run_callFunc_extern Tryz.prog 170 _ ReflectliteValue.set Tryz.func170 q30_ q30_ q30_ q30_;have T:=mKind;have R:=mElem;have S:=Yz3;have Q:=Zf2;have V:=Vx2;have u:=Yz2;have Y:=Xh1;have X:=Xh0;have W:=typeP;have O:=kindP;have P:=kindS;have v:=elemP;have N:=Yz1;have p : 1 < w.heap.size:=by
  rcases Nat.lt_or_ge 1 w.heap.size with h | h
  ·exact h
  ·simp [World.cell?,Array.getElem?_eq_none h] at e
 have M:=d.lt;have U:=Ve8 ⟨w.heap.size,0,none⟩ ⟨t,0,none⟩ ((w.alloc (.cells #[.pointer (some ⟨t,0,none⟩)] 112)).alloc (.cells #[.pointer (some ⟨9, 112,none⟩),.pointer (some ⟨w.heap.size,0,none⟩),.int .u64 150] 135)) y30_;have L:((w.alloc (.cells #[.pointer (some ⟨t,0,none⟩)] 112)).alloc (.cells #[.pointer (some ⟨9, 112,none⟩),.pointer (some ⟨w.heap.size,0,none⟩),.int .u64 150] 135)).cell? ⟨1,0,none⟩=some (.iface 162 (.agg #[.pointer (some ⟨9, 81,none⟩)])):=by
  rw [World.cell?_alloc_lt _ _ ⟨1,0,none⟩ k30_,World.cell?_alloc_lt _ _ ⟨1,0,none⟩ p];exact e
 have z:=Ve9 ⟨w.heap.size,0,none⟩ ⟨t,0,none⟩ (((w.alloc (.cells #[.pointer (some ⟨t,0,none⟩)] 112)).alloc (.cells #[.pointer (some ⟨9, 112,none⟩),.pointer (some ⟨w.heap.size,0,none⟩),.int .u64 150] 135)).alloc (.cells #[.pointer (some ⟨9, 112,none⟩),.pointer (some ⟨w.heap.size,0,none⟩),.int .u64 150] 135)) (by rw [World.cell?_alloc_lt _ _ ⟨w.heap.size,0,none⟩ k30_];simp);have j:=((d.alloc (.cells #[.pointer (some ⟨t,0,none⟩)] 112)).alloc (.cells #[.pointer (some ⟨9, 112,none⟩),.pointer (some ⟨w.heap.size,0,none⟩),.int .u64 150] 135)).alloc (.cells #[.pointer (some ⟨9, 112,none⟩),.pointer (some ⟨w.heap.size,0,none⟩),.int .u64 150] 135);have c:=j.alloc (.cells #[x,y] 83);have st:=setS t (w.heap.size+1+1+1) x y k m ((((w.alloc (.cells #[.pointer (some ⟨t,0,none⟩)] 112)).alloc (.cells #[.pointer (some ⟨9, 112,none⟩),.pointer (some ⟨w.heap.size,0,none⟩),.int .u64 150] 135)).alloc (.cells #[.pointer (some ⟨9, 112,none⟩),.pointer (some ⟨w.heap.size,0,none⟩),.int .u64 150] 135)).alloc (.cells #[x,y] 83)) q r
  (by rw [World.cell?_alloc_at _ _ _ _ y30_];rfl) (by rw [World.cell?_alloc_at _ _ _ _ y30_];rfl)
  (c.cell 0) (c.frozen 0) (c.cell 1) (c.frozen 1)
 have s:=hid d;clear d j c
 go_enter Tryz.func116,Tryz.ntmps116
 go_wp2;refine wp_loop_rounds 1 ?_;rw [rounds_succ];go_wp2;go_ret;exact ⟨rfl,rfl⟩
open Go.RowKit Go.Extern.Stop Go.Stop Go.Extern
theorem Yb2 (v:Value) (w:World):(Extern.ReflectliteType.typeOf #[.iface 203 v]).run Tryz.prog w=.ok (.iface 162 (.agg #[.pointer (some ⟨9, 203,none⟩)])) w:=q30_
theorem U4_:∃ c,Extern.find Tryz.f236 = some c∧∀ w:World,(c #[.agg #[.pointer (some ⟨9, 203,none⟩)]]).run Tryz.prog w=.ok (.bool true) w :=
 ⟨Extern.ReflectliteType.method fun t=>do Extern.Rtype.noPackHeld "Comparable" t;pure (.bool (← typeInfo t).comparable),q30_,fun w=>by kernel_rfl⟩
theorem Xs2:(Tryz.prog.info? 203).map (·.comparable)=some true:=q30_
theorem Xs3:(Tryz.prog.info? 224).map (·.size)=some 1:=q30_
theorem Zn3:Tryz.prog.underlying 81 = some (.interface #[("Error", 204)]):=q30_
theorem Xs4:Tryz.prog.underlying 203 = some (.pointer 224):=q30_
theorem noIsE (v:Value) (c:TypeId) (w:World):(Instr.typeAssert (.iface 203 v) c 164 true).run Tryz.prog w=.ok (.tuple #[.nilIface,.bool false]) w:=run_typeAssert_lacksB Tryz.underlying164 q30_ q30_ v c w
theorem Yw7 (v:Value) (c:TypeId) (w:World):(Instr.typeAssert (.iface 203 v) c 167 true).run Tryz.prog w=.ok (.tuple #[.nilIface,.bool false]) w:=run_typeAssert_lacksB Tryz.underlying167 q30_ q30_ v c w
theorem Yi2 (v:Value) (c:TypeId) (w:World):(Instr.typeAssert (.iface 203 v) c 169 true).run Tryz.prog w=.ok (.tuple #[.nilIface,.bool false]) w:=run_typeAssert_lacksB Tryz.underlying169 q30_ q30_ v c w
theorem noIsW (v:Value) (c:TypeId) (w:World):(Instr.typeAssert (.iface 83 v) c 164 true).run Tryz.prog w=.ok (.tuple #[.nilIface,.bool false]) w:=run_typeAssert_lacksB Tryz.underlying164 q30_ q30_ v c w
theorem Za7 (v:Value) (c:TypeId) (w:World):(Instr.typeAssert (.iface 83 v) c 167 true).run Tryz.prog w=.ok (.tuple #[.iface 83 v,.bool true]) w:=run_typeAssert_hasB Tryz.underlying167 q30_ v c w
def chain:List Int→Value→Value
 | [],v=>v
 | t :: r,v=>.iface 83 (.agg #[chain r v,.int .i64 t])
theorem Zx9 (ts:List Int) (a:Addr):∃ T v,chain ts (eS a)=.iface T v:=by
 cases ts with
 | nil=>exact ⟨_,_,rfl⟩
 | cons t r=>exact ⟨_,_,rfl⟩
theorem Vx6 (x y:Value) (T:TypeId):SizeOf.sizeOf x<SizeOf.sizeOf (Value.iface T (.agg #[x,y])):=by
 simp only [Value.iface.sizeOf_spec,Value.agg.sizeOf_spec,Array.mk.sizeOf_spec,List.cons.sizeOf_spec];omega
theorem Xh2 (ts:List Int) (a b:Addr) (q s:Array Value) (F G:TypeId) (w:World) (E:a≠b) (ha:w.heap[a.block]?=some (.cells q F (0,0))) (hb:w.heap[b.block]?=some (.cells s G (0,0))) :
  Calls Tryz.prog 115 #[chain ts (eS a),eS b] w (Says w false):=by
 obtain ⟨i,y,v⟩:=Option.map_eq_some_iff.1 Xs2;obtain ⟨j,z,B⟩:=Option.map_eq_some_iff.1 Xs3;have L:=@run_callFunc_extern Tryz.prog 142 _ Extern.ReflectliteType.typeOf Tryz.func142 q30_ q30_ q30_ q30_;obtain ⟨u,m,J⟩:=U4_;have K:=@run_callFunc_extern Tryz.prog 236 _ u Tryz.func236 q30_ q30_ q30_ m;clear m;have T:=Yb2;have O:=Zx8;have R:=noIsE;have U:=Yw7;have Z:=Yi2;have S:=noIsW;have V:=Za7;have Q:=Yw6;have C:=N2_ ha;have D:=N2_ hb;have k:=fun (W:World) (h:Below w.heap.size w W)=>run_eql_iface_ptr_other (P:=Tryz.prog) W Zn3 Xs4 y v z (by rw [B];decide) E ((h.block _ C).trans ha) ((h.block _ D).trans hb);have N:=fun (x:Value) (W:World)=>run_eql_iface_types (P:=Tryz.prog) 83 203 x (.pointer (some b)) Zn3 x30_ W;obtain ⟨H,X,e⟩:=Zx9 ts a;have o:=hid e;rw [e];unfold eS at *
 clear e
 go_enter Tryz.func115,Tryz.ntmps115
 go_wp2
 go_loopw [0] (fun g wr=>∃ r,g=chain r (.iface 203 (.pointer (some a)))∧Below w.heap.size w wr) (fun g _=>SizeOf.sizeOf g)
 case atStart=>exact ⟨ts,o.out.symm,Below.refl _ _⟩
 case round =>
  obtain ⟨r,rfl,d⟩:=hrel;have M:=k _ d;clear k;cases r with
  | nil =>
   rw [show chain [] (.iface 203 (.pointer (some a)))=.iface 203 (.pointer (some a)) from rfl];go_wp2;go_ret;exact ⟨rfl,d⟩
  | cons t r =>
   obtain ⟨I,Y,c⟩:=Zx9 r a;unfold eS at c;rw [show chain (t :: r) (.iface 203 (.pointer (some a)))=.iface 83 (.agg #[chain r (.iface 203 (.pointer (some a))),.int .i64 t]) from rfl,c];have p:=hid c;clear c;go_wp2
   go_roundw
   case rel=>exact ⟨r,p.out.symm,d.alloc d.size _⟩
   case measure=>exact Vx6 _ _ _
theorem Vf2 (y:Value) (b:Addr) (w:World) :
  Calls Tryz.prog 115 #[.iface 83 (.agg #[.iface 203 (.pointer (some b)),y]),.iface 203 (.pointer (some b))] w (Says w true):=by
 obtain ⟨i,g,e⟩:=Option.map_eq_some_iff.1 Xs2;obtain ⟨j,h,q⟩:=Option.map_eq_some_iff.1 Xs3;have o:=@run_callFunc_extern Tryz.prog 142 _ Extern.ReflectliteType.typeOf Tryz.func142 q30_ q30_ q30_ q30_;obtain ⟨d,c,k⟩:=U4_;have m:=@run_callFunc_extern Tryz.prog 236 _ d Tryz.func236 q30_ q30_ q30_ c;clear c;have x:=Yb2;have s:=Zx8;have v:=noIsW;have z:=Za7;have u:=Yw6;have p:=run_eql_iface_ptr_same (P:=Tryz.prog) (w.alloc (.cells #[.iface 203 (.pointer (some b)),y] 83)) b Zn3 Xs4 g e h;have r:=run_eql_iface_types (P:=Tryz.prog) 83 203 (.agg #[.iface 203 (.pointer (some b)),y]) (.pointer (some b)) Zn3 x30_ w
 go_enter Tryz.func115,Tryz.ntmps115
 go_wp2;refine wp_loop_rounds 2 ?_;rw [rounds_succ];go_wp2;rw [rounds_succ];go_wp2;go_ret;exact ⟨rfl,(Below.refl _ _).alloc (Nat.le_refl _) _⟩
theorem Vf3 (v:Value) (w:World):Calls Tryz.prog 115 #[.nilIface,.iface 203 v] w (Says w false):=by
 have c:=run_eql_iface_nil_left (P:=Tryz.prog) (w:=w) 203 v Zn3
 go_enter Tryz.func115,Tryz.ntmps115
 exact j3_
open Go.RowKit
theorem Yw8 (w:World) (t:Nat) (x y:Value) (B:Nat) (c:B≤t) (h:B≤w.heap.size):Below B w (asW w t x y):=by
 unfold asW;refine Below.setCell ?_ (by exact c) _;refine Below.setCell ?_ (by exact c) _;exact ((((Below.refl _ w).alloc h _).alloc k30_ _).alloc k30_ _).alloc k30_ _
theorem Vf4 (v:Value) (w:World):Calls Tryz.prog 116 #[.nilIface,v] w (Says w false):=by
 go_enter Tryz.func116,Tryz.ntmps116
 exact j3_
def Tells (w:World) (k:Int) (e:Ending) (w':World):Prop:=e=.returned (.int .i64 k)∧Below w.heap.size w w'
def toldW (w:World):World:=w.alloc (.cells #[.nilIface,.int .i64 0] 83)
theorem A7_ (w:World):Below w.heap.size w (toldW w):=(Below.refl _ w).alloc (Nat.le_refl _) _
theorem Xh3 (E:Nat→Addr) (w:World) (c:Env E w):Calls Tryz.prog 86 #[.nilIface] w (Tells w 0):=by
 have h:=hid (A7_ w);have k:=(c.up (A7_ w)).g0;unfold toldW eS at *
 clear c
 go_enter Tryz.func86,Tryz.ntmps86
 go_wp2_with fail
 refine (Vf3 _ _).mono ?_;rintro e m ⟨rfl,d⟩;have j:=hid (Z0_ h.out (Nat.le_refl _) d);clear d
 go_wp2_with fail
 refine (Vf4 _ _).mono ?_;rintro e o ⟨rfl,g⟩;have Hb2:=hid (Z0_ j.out (Nat.le_refl _) g);clear g;exact j2_
theorem Yw9 (E:Nat→Addr) (t:Int) (w:World) (c:Env E w):Calls Tryz.prog 86 #[.iface 83 (.agg #[eS (E 0),.int .i64 t])] w (Tells w 91):=by
 have Hb0:=hid (A7_ w);have d:=(c.up (A7_ w)).g0;unfold toldW eS at *
 clear c
 go_enter Tryz.func86,Tryz.ntmps86
 go_wp2_with fail
 refine (Vf2 _ _ _).mono ?_;exact z28_
theorem Xz0 (ts:List Int) (a:Addr):(chain ts (eS a)).oneCell'=true:=by
 cases ts<;>rfl
theorem Xh4 (E:Nat→Addr) (t:Int) (ts:List Int) (k:Nat) (g:1≤k∧k≤4) (w:World) (s:Env E w):Calls Tryz.prog 86 #[chain (t :: ts) (eS (E k))] w (Tells w 90):=by
 have m:=hid (A7_ w);have c:=s.up (A7_ w);have D:=c.g0;have j:=hid c;obtain ⟨B,F,ha⟩:=c.blk k g.2;obtain ⟨C,G,hb⟩:=c.blk 0 x30_;have p:=hid (Xh2 (t :: ts) (E k) (E 0) B C F G (toldW w) (c.ne k g.1 g.2) ha hb);have r:=Xz0 ts (E k);have u:Blk (toldW w) w.heap.size 83 #[.nilIface,.int .i64 0]:=Blk.new w _ _;have q:=hid u;rw [show chain (t :: ts) (eS (E k))=.iface 83 (.agg #[chain ts (eS (E k)),.int .i64 t]) from rfl] at *
 have v:=hid r;clear c s ha hb u r;generalize chain ts (eS (E k))=x at *
 unfold toldW at m j p q D;unfold eS at *
 go_enter Tryz.func86,Tryz.ntmps86
 go_wp2_with fail
 refine (p.out).mono ?_;rintro e h ⟨rfl,d⟩;have z:=hid (q.out.below d y30_);have y:=hid (j.out.up d);have o:=hid (Z0_ m.out (Nat.le_refl _) d);clear d
 go_wp2_with fail
 refine (Vf1 w.heap.size x (.int .i64 t) .nilIface (.int .i64 0) h v.out rfl y.out.gt z.out).mono ?_;rintro e H ⟨rfl,rfl⟩;have Hb2:Hid (Below w.heap.size w (asW h w.heap.size x (.int .i64 t))):=o.out.trans (Yw8 h w.heap.size x _ w.heap.size (Nat.le_refl _) o.out.size);exact j2_
open Go.RowKit
def boxed (w:World) (m:Mat) (lv iv:Value):World:=w.alloc (.cells #[.int .i64 m.t,.int .i64 m.n,.int .i64 m.a,.int .i64 m.b,lv,iv] 37)
theorem Z1_ (w:World) (m:Mat) (d c:Value):Below w.heap.size w (boxed w m d c):=(Below.refl _ w).alloc (Nat.le_refl _) _
theorem Z3_ (w:World) (m:Mat) (d c:Value):Blk (boxed w m d c) w.heap.size 37 #[.int .i64 m.t,.int .i64 m.n,.int .i64 m.a,.int .i64 m.b,d,c]:=Blk.new w _ _
def most (k i:Nat) (l:List Mat):Nat:=maxN ((l.take i).map (dp k))
theorem Zv0 (k:Nat) (l:List Mat):most k 0 l=0:=rfl
theorem Zv1 {α:Type} (l:List α) (i:Nat) (d:α) (h:i<l.length):l.take (i+1)=l.take i ++ [l.getD i d]:=by
 rw [List.take_succ_eq_append_getElem h];simp [List.getD,h]
theorem Zv2 (k i:Nat) (l:List Mat) (h:i<l.length):most k (i+1) l=max (most k i l) (dp k (l.getD i default)):=by
 unfold most;rw [Zv1 l i default h,List.map_append,Zw4];simp [maxN]
theorem Zf3 (k:Nat) (l:List Mat):most k l.length l=maxN (l.map (dp k)):=by
 unfold most;rw [List.take_length]
theorem Yz4 (k i:Nat) (l:List Mat):most k i l≤k+1:=Zx4 fun x hx=>z17_
theorem Xh5 (k i:Nat) (l:List Mat) (h:k+1≤most k i l):most k i l=maxN (l.map (dp k)):=by
 have d:most k i l≤maxN (l.map (dp k)):=by
  refine Zx4 fun x hx=>?_;obtain ⟨y,c,rfl⟩:=List.mem_map.1 hx;exact Zw3 (List.mem_map_of_mem (List.mem_of_mem_take c))
 have h2:maxN (l.map (dp k))≤k+1:=Zx4 fun x hx=>z17_;omega
theorem sml_i {m x:Mat} (h:Sml m) (c:x∈m.i):Sml x:=by
 cases h with
 | mk _ _ _ h4=>exact h4 x c
theorem U5_ {m:Mat} (h:Sml m):m.i.length≤1000:=by
 cases h with
 | mk _ _ h3 _=>exact h3
theorem sml_l {m:Mat} (h:Sml m):m.l.length≤1000:=by
 cases h with
 | mk h1 _ _ _=>exact h1
theorem sml_r {m:Mat} (h:Sml m) {r:List Int} (c:r∈m.l):r.length≤1000:=by
 cases h with
 | mk _ h2 _ _=>exact h2 r c
theorem Y6_ {α:Type} (l:List α) (i:Nat) (d:α) (h:i<l.length):l.getD i d∈l:=z22_
theorem Xh6:∀ (k:Nat) (m:Mat) (v:Value) (w:World) (most:Int),most=(k:Int)+1→k≤10→MatV w w.heap.size v m→Sml m→Calls Tryz.prog 114 #[v,.int .i64 most] w (Tells w (dp k m)):=by
 intro k
 induction k with
 | zero =>
  intro m v w most z _ C hs;obtain ⟨j,iv,rfl,hl,p⟩:=C.open;obtain ⟨A,c,rfl,x6,q⟩:=p;have xa:=U5_ hs;have xb:(m.i.length:Int)≤1000:=k29_;have Hb0:=hid (Z1_ w m j (.slice A m.i.length c));have g:=Z3_ w m j (.slice A m.i.length c);have V:=g.cell 0;have W:=g.cell 5;have N:most=1:=k29_;subst N;clear g q hl z;unfold boxed at *
  by_cases s:m.t<5
  ·exact z27_
  ·have X:5≤m.t:=by omega
   clear s;by_cases h2:9<m.t
   ·exact z27_
   ·have Y:m.t≤9:=by omega
    clear h2;by_cases h3:(0:Int)<(m.i.length:Int)
    ·exact z29_
    ·exact z29_
 | succ k ih =>
  intro m v w r z xh C hs;obtain ⟨j,iv,rfl,hl,p⟩:=C.open;obtain ⟨A,c,rfl,x6,q⟩:=p;have I:=hid q;have U:=hid hs;have J:=hid ih;have xa:=U5_ hs;have xb:(m.i.length:Int)≤1000:=k29_;have Hb0:=hid (Z1_ w m j (.slice A m.i.length c));have F:=hid (Z3_ w m j (.slice A m.i.length c));have V:=F.out.cell 0;have N:(k:Int)+2=r:=k29_;have xi:(k:Int)≤10:=k29_;have xk:IntKind.i64.wrap (r - 1)=(k:Int)+1:=z30_;clear q hl z ih hs;unfold boxed at *
  by_cases s:m.t<5
  ·exact y7_
  ·have X:5≤m.t:=by omega
   clear s;by_cases h2:9<m.t
   ·exact y7_
   ·have Y:m.t≤9:=by omega
    have hd:Hid (dp (k+1) m=1+maxN (m.i.map (dp k))):=by
     show dp (k+1) m=_;rw [dp,if_pos (by unfold nest;omega)]
    clear h2
    go_enter Tryz.func114,Tryz.ntmps114
    go_wp2
    go_loopw [5,6] (fun vd E wr=>∃ (d i:Nat),vd=.int .i64 d∧E=.int .i64 i∧i≤m.i.length∧d=1+Wp.most k i m.i∧Blk wr w.heap.size 37 #[.int .i64 m.t,.int .i64 m.n,.int .i64 m.a,.int .i64 m.b,j,.slice A m.i.length c]∧Below w.heap.size w wr) (fun _ E _=>m.i.length - (intOf E).toNat)
    case atStart=>exact ⟨1,0,rfl,rfl,Nat.zero_le _,by rw [Zv0],F.out,Hb0.out⟩
    case round =>
     obtain ⟨d,i,rfl,rfl,p,M,g,L⟩:=hrel;have h:=hid L;have G:=hid g;have W:=g.cell 5;have x7:=Yz4 k i m.i;have xe:(d:Int)≤(k:Int)+2:=k29_;have o:=hid M;clear L g M;by_cases y:i<m.i.length
     ·have xj:(i:Int)<(m.i.length:Int):=by omega
      by_cases xf:(d:Int)<r
      ·obtain ⟨ad,u,Z,hab,Q,O⟩:=I.out i y
       subst Z;have xc:=Q.below h.out x31_;have P:=(O.bel h.out).mono h.out.size;have H:=hid (J.out (m.i.getD i default) u wr ((k:Int)+1) rfl k29_ P (sml_i U.out (Y6_ _ _ _ y)));have B:=Zv2 k i m.i y;have x8:=dp_le k (m.i.getD i default);obtain ⟨x0,x1,x2,x3,x4,x5,rfl,s0,s1,s2,s3,s4,s5⟩:=xc;obtain ⟨D,K⟩:∃ D,dp k (m.i.getD i default)=D:=⟨_,rfl⟩;rw [K] at H B x8;have xd:(D:Int)≤(k:Int)+1:=k29_;have T:=hid B;clear Q O P I J K B x7
       go_wp2_with fail
       refine (H.out).mono ?_;rintro e w1 ⟨rfl,x⟩;have R:=hid (Z0_ h.out (Nat.le_refl _) x);have S:=hid (G.out.below x (by have:=G.out.lt;exact this));clear x;go_wp2
       go_roundw
       case rel =>
        refine ⟨max d (1+D),i+1,?_,y31_,k29_,?_,S.out,R.out⟩
        ·exact congrArg (Value.int .i64) k29_
        ·rw [T.out,o.out];omega
       case measure=>simp [intOf];omega
      ·have xg:r≤(d:Int):=by omega
       go_wp2;go_ret;refine ⟨?_,h.out⟩;have e:dp (k+1) m=d:=by rw [hd.out,← Xh5 k i m.i (by have:=o.out;omega)];exact o.out.symm
       rw [e];rfl
     ·have x9:i=m.i.length:=by omega
      subst x9;go_wp2;go_ret;refine ⟨?_,h.out⟩;have e:dp (k+1) m=d:=by rw [hd.out,← Zf3];exact o.out.symm
      rw [e];rfl
end Go.Proofs.YtheeajnkiniopaaGreatDoor.Wp
