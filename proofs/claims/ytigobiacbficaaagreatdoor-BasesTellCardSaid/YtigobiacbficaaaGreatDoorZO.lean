/- Go's own errors.As and errors.Is, walked at this package's errors; and the program's told. The program's matroid.deep, walked: how deep matroids lie within one another. -/
import Derived.Test.YtigobiacbficaaaGreatDoorZU
import Derived.LaidEql
import Derived.Stop.Asserts
import Derived.RowKitTokens
import Derived.Test.YtigobiacbficaaaGreatDoorProg
import Derived.WalkKit
import Derived.Test.YtigobiacbficaaaGreatDoorX0A
import Derived.Test.YtigobiacbficaaaGreatDoorX0B
set_option maxHeartbeats 4000000
set_option maxRecDepth 100000
open Go.Lib (hid)
namespace Go.Proofs.YtigobiacbficaaaGreatDoor.Wp
open Go.RowKit Go.Extern.Stop Go.Stop Go.Extern
theorem Vv4 (t:Addr) (w:World):(ReflectliteValue.unpack (.iface 122 (.pointer (some t)))).run Tryz.prog w
  = .ok (.agg #[.pointer (some ⟨9, 122,none⟩),.pointer (some ⟨w.heap.size,0,none⟩),.int .u64 150]) (w.alloc (.cells #[.pointer (some t)] 122)):=z40_
theorem typeP (a:Addr) (w:World):(ReflectliteValue.methodAny (ReflectliteValue.valueError "reflectlite.Value.Type" 0) (fun t _ _ _=>ReflectliteType.toType t) #[.agg #[.pointer (some ⟨9, 122,none⟩),.pointer (some a),.int .u64 150]]).run Tryz.prog w
  = .ok (.iface 165 (.agg #[.pointer (some ⟨9, 122,none⟩)])) w:=z40_
theorem kindP (w:World):((ReflectliteType.abiMethod fun t=>(fun a:Nat=>Value.int IntKind.u8 (a:Int)) <$> Rtype.kind t) #[.pointer (some ⟨9, 122,none⟩)]).run Tryz.prog w=.ok (.int .u8 22) w:=z40_
theorem kindS (w:World):((ReflectliteType.abiMethod fun t=>(fun a:Nat=>Value.int IntKind.u8 (a:Int)) <$> Rtype.kind t) #[.pointer (some ⟨9, 96,none⟩)]).run Tryz.prog w=.ok (.int .u8 25) w:=z40_
theorem Vh7 (a:Addr) (w:World):(ReflectliteValue.parts (.agg #[.pointer (some ⟨9, 122,none⟩),.pointer (some a),.int .u64 150])).run Tryz.prog w=.ok (some (122,a,150)) w:=z40_
theorem Zl1 (z:Sem Value) (f:TypeId→Addr→Nat→Nat→Sem Value) (v:Value) (t:TypeId) (a:Addr) (c:Nat) (W:World) (d:(ReflectliteValue.parts v).run Tryz.prog W=.ok (some (t,a,c)) W) :
  (ReflectliteValue.method z f #[v]).run Tryz.prog W=(f t a c (c % 32)).run Tryz.prog W:=by
 rw [show ReflectliteValue.method z f #[v]=(ReflectliteValue.parts v >>= _) from rfl,Sem.run_bind,d];rfl
theorem Jy9 (a p:Addr) (W:World) (ha:W.cell? a=some (.pointer (some p))) :
  (ReflectliteValue.method (ReflectliteValue.valueError "reflectlite.Value.IsNil" 0) ReflectliteValue.isNil #[.agg #[.pointer (some ⟨9, 122,none⟩),.pointer (some a),.int .u64 150]]).run Tryz.prog W=.ok (.bool false) W:=by
 rw [Zl1 _ _ _ _ _ _ _ (Vh7 a W)];simp [ReflectliteValue.isNil,loadVar,isAgg,underlying,ha,Result.andThen]
theorem elemP (w:World):(ReflectliteType.method ReflectliteType.elem #[.agg #[.pointer (some ⟨9, 122,none⟩)]]).run Tryz.prog w=.ok (.iface 165 (.agg #[.pointer (some ⟨9, 96,none⟩)])) w:=z40_
theorem Yi1 (w:World):(ReflectliteType.relation "Implements" ReflectliteType.implements_ #[.agg #[.pointer (some ⟨9, 96,none⟩)],.iface 165 (.agg #[.pointer (some ⟨9, 94,none⟩)])]).run Tryz.prog w=.ok (.bool true) w:=z40_
theorem Vp2 (v:Value) (w:World):(ReflectliteType.typeOf #[.iface 96 v]).run Tryz.prog w=.ok (.iface 165 (.agg #[.pointer (some ⟨9, 96,none⟩)])) w:=z40_
theorem Yi2 (w:World):(ReflectliteType.relation "AssignableTo" ReflectliteType.assignableTo #[.agg #[.pointer (some ⟨9, 96,none⟩)],.iface 165 (.agg #[.pointer (some ⟨9, 96,none⟩)])]).run Tryz.prog w=.ok (.bool true) w:=z40_
theorem Vv5 (x y:Value) (w:World):(ReflectliteValue.unpack (.iface 96 (.agg #[x,y]))).run Tryz.prog w
  = .ok (.agg #[.pointer (some ⟨9, 96,none⟩),.pointer (some ⟨w.heap.size,0,none⟩),.int .u64 153]) (w.alloc (.cells #[x,y] 96)):=z40_
theorem Vp3 (w:World):(Rtype.elem? 122).run Tryz.prog w=.ok (some 96) w:=z40_
theorem mkS (p:Addr) (w:World):(ReflectliteValue.mk 96 p ReflectliteValue.flagAddr).run Tryz.prog w=.ok (.agg #[.pointer (some ⟨9, 96,none⟩),.pointer (some p),.int .u64 409]) w:=z40_
theorem Jx0 (a p:Addr) (W:World) (ha:W.cell? a=some (.pointer (some p))) :
  (ReflectliteValue.method (ReflectliteValue.valueError "reflectlite.Value.Elem" 0) ReflectliteValue.elem #[.agg #[.pointer (some ⟨9, 122,none⟩),.pointer (some a),.int .u64 150]]).run Tryz.prog W
   = .ok (.agg #[.pointer (some ⟨9, 96,none⟩),.pointer (some p),.int .u64 409]) W:=by
 rw [Zl1 _ _ _ _ _ _ _ (Vh7 a W)];simp [ReflectliteValue.elem,loadVar,isAgg,underlying,ha,Result.andThen,Vp3,mkS]
theorem Vp4 (a:Addr) (w:World):(ReflectliteValue.parts (.agg #[.pointer (some ⟨9, 96,none⟩),.pointer (some a),.int .u64 409])).run Tryz.prog w=.ok (some (96,a,409)) w:=z40_
theorem Jx1 (a:Addr) (w:World):(ReflectliteValue.parts (.agg #[.pointer (some ⟨9, 96,none⟩),.pointer (some a),.int .u64 153])).run Tryz.prog w=.ok (some (96,a,153)) w:=z40_
theorem Vp5 (w:World):(Rtype.directlyAssignable 96 96).run Tryz.prog w=.ok true w:=z40_
theorem setS (c b:Nat) (x y B C:Value) (W:World) (u:x.oneCell'=true) (z:y.oneCell'=true) (k:W.cell? ⟨b,0,none⟩=some x) (m:W.cell? ⟨b,1,none⟩=some y)
  (r:W.cell? ⟨c,0,none⟩=some B) (o:W.frozen? ⟨c,0,none⟩=false) (s:W.cell? ⟨c,1,none⟩=some C) (q:W.frozen? ⟨c,1,none⟩=false) :
  (ReflectliteValue.set #[.agg #[.pointer (some ⟨9, 96,none⟩),.pointer (some ⟨c,0,none⟩),.int .u64 409],.agg #[.pointer (some ⟨9, 96,none⟩),.pointer (some ⟨b,0,none⟩),.int .u64 153]]).run Tryz.prog W
   = .ok (.tuple #[]) ((W.setCell ⟨c,0,none⟩ x).setCell ⟨c,1,none⟩ y):=by
 rw [show ∀ (v x:Value),ReflectliteValue.set #[v,x]=(ReflectliteValue.parts v >>= fun p=>ReflectliteValue.parts x >>= _) from fun _ _=>rfl];rw [Sem.run_bind,Vp4];simp only [Result.andThen_ok];rw [Sem.run_bind,Jx1];simp only [Result.andThen_ok];have g:(loadVar 96 ⟨b,0,none⟩).run Tryz.prog W=.ok (.agg #[x,y]) W:=by
  have e:(isAgg 96).run Tryz.prog W=.ok true W:=z40_;have h3:=run_loadCells_list (P:=Tryz.prog) (w:=W) ⟨b,0,none⟩ [x,y] (by
   intro j v d
   match j,d with
   | 0,d=>simp at d;subst d;simpa [Addr.add] using k
   | 1,d=>simp at d;subst d;simpa [Addr.add] using m)
  have f:(loadCells ⟨b,0,none⟩ 2).run Tryz.prog W=.ok #[x,y] W:=h3;unfold loadVar;simp [e,f]
 have h:(storeVar 96 ⟨c,0,none⟩ (.agg #[x,y])).run Tryz.prog W=.ok () ((W.setCell ⟨c,0,none⟩ x).setCell ⟨c,1,none⟩ y):=by
  have h2:(sizeOf 96).run Tryz.prog W=.ok 2 W:=z40_;unfold storeVar;simp [h2,Value.cells,storeCells,Addr.add];rw [run_store Tryz.prog W _ _ _ u];simp only [r,o,Bool.false_eq_true,if_false];rw [Result.andThen_ok,run_store Tryz.prog _ _ _ _ z];rw [World.cell?_setCell_other _ _ _ _ k40_,World.frozen?_setCell,s,q];rfl
 simp [ReflectliteValue.flagAddr,Vp5,g,h]
open Go
theorem mKind (h:Value) (w:World):(Go.method 332 165 (.agg #[h]) "Kind").run Tryz.prog w=.ok (213,h) w:=z40_
theorem mElem (h:Value) (w:World):(Go.method 332 165 (.agg #[h]) "Elem").run Tryz.prog w=.ok (224,.agg #[h]) w:=z40_
theorem Yi3 (h:Value) (w:World):(Go.method 332 165 (.agg #[h]) "Implements").run Tryz.prog w=.ok (225,.agg #[h]) w:=z40_
theorem Zs0 (h:Value) (w:World):(Go.method 332 165 (.agg #[h]) "AssignableTo").run Tryz.prog w=.ok (222,.agg #[h]) w:=z40_
theorem Ze2 (h:Value) (w:World):(Go.method 332 165 (.agg #[h]) "Comparable").run Tryz.prog w=.ok (223,.agg #[h]) w:=z40_
theorem Xi5 (x y:Value) (w:World):(Go.method 332 96 (.agg #[x,y]) "Unwrap").run Tryz.prog w=.ok (217,.agg #[x,y]) w:=z40_
open Go.RowKit Go.Extern.Stop Go.Stop Go.Extern
def asW (w:World) (t:Nat) (x y:Value):World :=
 (((((w.alloc (.cells #[.pointer (some ⟨t,0,none⟩)] 122)).alloc (.cells #[.pointer (some ⟨9, 122,none⟩),.pointer (some ⟨w.heap.size,0,none⟩),.int .u64 150] 144)).alloc (.cells #[.pointer (some ⟨9, 122,none⟩),.pointer (some ⟨w.heap.size,0,none⟩),.int .u64 150] 144)).alloc (.cells #[x,y] 96)).setCell ⟨t,0,none⟩ x).setCell ⟨t,1,none⟩ y
theorem Jx2 (t:Nat) (x y k m:Value) (w:World) (q:x.oneCell'=true) (r:y.oneCell'=true) (e:w.cell? ⟨1,0,none⟩=some (.iface 165 (.agg #[.pointer (some ⟨9, 94,none⟩)])))
  (d:Blk w t 96 #[k,m]) :
  Calls Tryz.prog 120 #[.iface 96 (.agg #[x,y]),.iface 122 (.pointer (some ⟨t,0,none⟩))] w fun o w'=>o=.returned (.bool true)∧asW w t x y=w':=by
 have I:=@run_callFunc_extern Tryz.prog 147 _ (fun args=>ReflectliteValue.unpack (args.getD 0 (.tuple #[]))) Tryz.func147 z40_ z40_ z40_ z40_;have K:=@run_callFunc_extern Tryz.prog 148 _ (ReflectliteValue.methodAny (ReflectliteValue.valueError "reflectlite.Value.Type" 0) (fun t _ _ _=>ReflectliteType.toType t)) Tryz.func148 z40_ z40_ z40_ z40_;have H:=@run_callFunc_extern Tryz.prog 149 _ (ReflectliteValue.method (ReflectliteValue.valueError "reflectlite.Value.IsNil" 0) ReflectliteValue.isNil) Tryz.func149 z40_ z40_ z40_ z40_;have E:=@run_callFunc_extern Tryz.prog 213 _ (ReflectliteType.abiMethod fun t=>do pure (.int .u8 (← Rtype.kind t))) Tryz.func213 z40_ z40_ z40_ z40_;have C:=@run_callFunc_extern Tryz.prog 224 _ (ReflectliteType.method ReflectliteType.elem) Tryz.func224 z40_ z40_ z40_ z40_;have D:=@run_callFunc_extern Tryz.prog 225 _ (ReflectliteType.relation "Implements" ReflectliteType.implements_) Tryz.func225 z40_ z40_ z40_ z40_;have F:=@run_callFunc_extern Tryz.prog 145 _ ReflectliteType.typeOf Tryz.func145 z40_ z40_ z40_ z40_;have B:=@run_callFunc_extern Tryz.prog 222 _ (ReflectliteType.relation "AssignableTo" ReflectliteType.assignableTo) Tryz.func222 z40_ z40_ z40_ z40_;have G:=@run_callFunc_extern Tryz.prog 170 _ (ReflectliteValue.method (ReflectliteValue.valueError "reflectlite.Value.Elem" 0) ReflectliteValue.elem) Tryz.func170 z40_ z40_ z40_ z40_;have J:=@run_callFunc_extern Tryz.prog 171 _ ReflectliteValue.set Tryz.func171 z40_ z40_ z40_ z40_;have T:=mKind;have R:=mElem;have S:=Yi3;have Q:=Zs0;have V:=Vp2;have u:=Yi2;have Y:=Vv5;have X:=Vv4;have W:=typeP;have O:=kindP;have P:=kindS;have v:=elemP;have N:=Yi1;have p : 1 < w.heap.size:=by
  rcases Nat.lt_or_ge 1 w.heap.size with h | h
  ·exact h
  ·simp [World.cell?,Array.getElem?_eq_none h] at e
 have M:=d.lt;have U:=Jy9 ⟨w.heap.size,0,none⟩ ⟨t,0,none⟩ ((w.alloc (.cells #[.pointer (some ⟨t,0,none⟩)] 122)).alloc (.cells #[.pointer (some ⟨9, 122,none⟩),.pointer (some ⟨w.heap.size,0,none⟩),.int .u64 150] 144)) k40_;have L:((w.alloc (.cells #[.pointer (some ⟨t,0,none⟩)] 122)).alloc (.cells #[.pointer (some ⟨9, 122,none⟩),.pointer (some ⟨w.heap.size,0,none⟩),.int .u64 150] 144)).cell? ⟨1,0,none⟩=some (.iface 165 (.agg #[.pointer (some ⟨9, 94,none⟩)])):=by
  rw [World.cell?_alloc_lt _ _ ⟨1,0,none⟩ x41_,World.cell?_alloc_lt _ _ ⟨1,0,none⟩ p];exact e
 have z:=Jx0 ⟨w.heap.size,0,none⟩ ⟨t,0,none⟩ (((w.alloc (.cells #[.pointer (some ⟨t,0,none⟩)] 122)).alloc (.cells #[.pointer (some ⟨9, 122,none⟩),.pointer (some ⟨w.heap.size,0,none⟩),.int .u64 150] 144)).alloc (.cells #[.pointer (some ⟨9, 122,none⟩),.pointer (some ⟨w.heap.size,0,none⟩),.int .u64 150] 144)) (by rw [World.cell?_alloc_lt _ _ ⟨w.heap.size,0,none⟩ x41_];simp);have j:=((d.alloc (.cells #[.pointer (some ⟨t,0,none⟩)] 122)).alloc (.cells #[.pointer (some ⟨9, 122,none⟩),.pointer (some ⟨w.heap.size,0,none⟩),.int .u64 150] 144)).alloc (.cells #[.pointer (some ⟨9, 122,none⟩),.pointer (some ⟨w.heap.size,0,none⟩),.int .u64 150] 144);have c:=j.alloc (.cells #[x,y] 96);have st:=setS t (w.heap.size+1+1+1) x y k m ((((w.alloc (.cells #[.pointer (some ⟨t,0,none⟩)] 122)).alloc (.cells #[.pointer (some ⟨9, 122,none⟩),.pointer (some ⟨w.heap.size,0,none⟩),.int .u64 150] 144)).alloc (.cells #[.pointer (some ⟨9, 122,none⟩),.pointer (some ⟨w.heap.size,0,none⟩),.int .u64 150] 144)).alloc (.cells #[x,y] 96)) q r
  (by rw [World.cell?_alloc_at _ _ _ _ k40_];rfl) (by rw [World.cell?_alloc_at _ _ _ _ k40_];rfl)
  (c.cell 0) (c.frozen 0) (c.cell 1) (c.frozen 1)
 have s:=hid d;clear d j c
 go_enter Tryz.func120,Tryz.ntmps120
 go_wp2;refine wp_loop_rounds 1 ?_;rw [rounds_succ];go_wp2;go_ret;exact ⟨rfl,rfl⟩
open Go.RowKit Go.Extern.Stop Go.Stop Go.Extern
theorem Ys0 (v:Value) (w:World):(Extern.ReflectliteType.typeOf #[.iface 199 v]).run Tryz.prog w=.ok (.iface 165 (.agg #[.pointer (some ⟨9, 199,none⟩)])) w:=z40_
theorem Zj6:∃ c,Extern.find Tryz.f223 = some c∧∀ w:World,(c #[.agg #[.pointer (some ⟨9, 199,none⟩)]]).run Tryz.prog w=.ok (.bool true) w :=
 ⟨Extern.ReflectliteType.method fun t=>do Extern.Rtype.noPackHeld "Comparable" t;pure (.bool (← typeInfo t).comparable),z40_,fun w=>by kernel_rfl⟩
theorem Vh8:(Tryz.prog.info? 199).map (·.comparable)=some true:=z40_
theorem Vh9:(Tryz.prog.info? 220).map (·.size)=some 1:=z40_
theorem Yj6:Tryz.prog.underlying 94 = some (.interface #[("Error", 200)]):=z40_
theorem Vi0:Tryz.prog.underlying 199 = some (.pointer 220):=z40_
theorem noIsE (v:Value) (c:TypeId) (w:World):(Instr.typeAssert (.iface 199 v) c 167 true).run Tryz.prog w=.ok (.tuple #[.nilIface,.bool false]) w:=run_typeAssert_lacksB Tryz.underlying167 z40_ z40_ v c w
theorem Xi6 (v:Value) (c:TypeId) (w:World):(Instr.typeAssert (.iface 199 v) c 170 true).run Tryz.prog w=.ok (.tuple #[.nilIface,.bool false]) w:=run_typeAssert_lacksB Tryz.underlying170 z40_ z40_ v c w
theorem Xv3 (v:Value) (c:TypeId) (w:World):(Instr.typeAssert (.iface 199 v) c 172 true).run Tryz.prog w=.ok (.tuple #[.nilIface,.bool false]) w:=run_typeAssert_lacksB Tryz.underlying172 z40_ z40_ v c w
theorem noIsW (v:Value) (c:TypeId) (w:World):(Instr.typeAssert (.iface 96 v) c 167 true).run Tryz.prog w=.ok (.tuple #[.nilIface,.bool false]) w:=run_typeAssert_lacksB Tryz.underlying167 z40_ z40_ v c w
theorem Zl2 (v:Value) (c:TypeId) (w:World):(Instr.typeAssert (.iface 96 v) c 170 true).run Tryz.prog w=.ok (.tuple #[.iface 96 v,.bool true]) w:=run_typeAssert_hasB Tryz.underlying170 z40_ v c w
def chain:List Int→Value→Value
 | [],v=>v
 | t :: r,v=>.iface 96 (.agg #[chain r v,.int .i64 t])
theorem Ze3 (ts:List Int) (a:Addr):∃ T v,chain ts (eS a)=.iface T v:=by
 cases ts with
 | nil=>exact ⟨_,_,rfl⟩
 | cons t r=>exact ⟨_,_,rfl⟩
theorem Vp6 (x y:Value) (T:TypeId):SizeOf.sizeOf x<SizeOf.sizeOf (Value.iface T (.agg #[x,y])):=by
 simp only [Value.iface.sizeOf_spec,Value.agg.sizeOf_spec,Array.mk.sizeOf_spec,List.cons.sizeOf_spec];omega
theorem Vv6 (ts:List Int) (a b:Addr) (q s:Array Value) (F G:TypeId) (w:World) (E:a≠b) (ha:w.heap[a.block]?=some (.cells q F (0,0))) (hb:w.heap[b.block]?=some (.cells s G (0,0))) :
  Calls Tryz.prog 119 #[chain ts (eS a),eS b] w (Says w false):=by
 obtain ⟨i,y,v⟩:=Option.map_eq_some_iff.1 Vh8;obtain ⟨j,z,B⟩:=Option.map_eq_some_iff.1 Vh9;have L:=@run_callFunc_extern Tryz.prog 145 _ Extern.ReflectliteType.typeOf Tryz.func145 z40_ z40_ z40_ z40_;obtain ⟨u,m,J⟩:=Zj6;have K:=@run_callFunc_extern Tryz.prog 223 _ u Tryz.func223 z40_ z40_ z40_ m;clear m;have T:=Ys0;have O:=Ze2;have R:=noIsE;have U:=Xi6;have Z:=Xv3;have S:=noIsW;have V:=Zl2;have Q:=Xi5;have C:=S8_ ha;have D:=S8_ hb;have k:=fun (W:World) (h:Below w.heap.size w W)=>run_eql_iface_ptr_other (P:=Tryz.prog) W Yj6 Vi0 y v z (by rw [B];decide) E ((h.block _ C).trans ha) ((h.block _ D).trans hb);have N:=fun (x:Value) (W:World)=>run_eql_iface_types (P:=Tryz.prog) 96 199 x (.pointer (some b)) Yj6 q41_ W;obtain ⟨H,X,e⟩:=Ze3 ts a;have o:=hid e;rw [e];unfold eS at *
 clear e
 go_enter Tryz.func119,Tryz.ntmps119
 go_wp2
 go_loopw [0] (fun g wr=>∃ r,g=chain r (.iface 199 (.pointer (some a)))∧Below w.heap.size w wr) (fun g _=>SizeOf.sizeOf g)
 case atStart=>exact ⟨ts,o.out.symm,Below.refl _ _⟩
 case round =>
  obtain ⟨r,rfl,d⟩:=hrel;have M:=k _ d;clear k;cases r with
  | nil =>
   rw [show chain [] (.iface 199 (.pointer (some a)))=.iface 199 (.pointer (some a)) from rfl];go_wp2;go_ret;exact ⟨rfl,d⟩
  | cons t r =>
   obtain ⟨I,Y,c⟩:=Ze3 r a;unfold eS at c;rw [show chain (t :: r) (.iface 199 (.pointer (some a)))=.iface 96 (.agg #[chain r (.iface 199 (.pointer (some a))),.int .i64 t]) from rfl,c];have p:=hid c;clear c;go_wp2
   go_roundw
   case rel=>exact ⟨r,p.out.symm,d.alloc d.size _⟩
   case measure=>exact Vp6 _ _ _
theorem Jx3 (y:Value) (b:Addr) (w:World) :
  Calls Tryz.prog 119 #[.iface 96 (.agg #[.iface 199 (.pointer (some b)),y]),.iface 199 (.pointer (some b))] w (Says w true):=by
 obtain ⟨i,g,e⟩:=Option.map_eq_some_iff.1 Vh8;obtain ⟨j,h,q⟩:=Option.map_eq_some_iff.1 Vh9;have o:=@run_callFunc_extern Tryz.prog 145 _ Extern.ReflectliteType.typeOf Tryz.func145 z40_ z40_ z40_ z40_;obtain ⟨d,c,k⟩:=Zj6;have m:=@run_callFunc_extern Tryz.prog 223 _ d Tryz.func223 z40_ z40_ z40_ c;clear c;have x:=Ys0;have s:=Ze2;have v:=noIsW;have z:=Zl2;have u:=Xi5;have p:=run_eql_iface_ptr_same (P:=Tryz.prog) (w.alloc (.cells #[.iface 199 (.pointer (some b)),y] 96)) b Yj6 Vi0 g e h;have r:=run_eql_iface_types (P:=Tryz.prog) 96 199 (.agg #[.iface 199 (.pointer (some b)),y]) (.pointer (some b)) Yj6 q41_ w
 go_enter Tryz.func119,Tryz.ntmps119
 go_wp2;refine wp_loop_rounds 2 ?_;rw [rounds_succ];go_wp2;rw [rounds_succ];go_wp2;go_ret;exact ⟨rfl,(Below.refl _ _).alloc (Nat.le_refl _) _⟩
theorem Jx4 (v:Value) (w:World):Calls Tryz.prog 119 #[.nilIface,.iface 199 v] w (Says w false):=by
 have c:=run_eql_iface_nil_left (P:=Tryz.prog) (w:=w) 199 v Yj6
 go_enter Tryz.func119,Tryz.ntmps119
 exact y4_
open Go.RowKit
theorem Xi7 (w:World) (t:Nat) (x y:Value) (B:Nat) (c:B≤t) (h:B≤w.heap.size):Below B w (asW w t x y):=by
 unfold asW;refine Below.setCell ?_ (by exact c) _;refine Below.setCell ?_ (by exact c) _;exact ((((Below.refl _ w).alloc h _).alloc x41_ _).alloc x41_ _).alloc x41_ _
theorem Jx5 (v:Value) (w:World):Calls Tryz.prog 120 #[.nilIface,v] w (Says w false):=by
 go_enter Tryz.func120,Tryz.ntmps120
 exact y4_
def Tells (w:World) (k:Int) (e:Ending) (w':World):Prop:=e=.returned (.int .i64 k)∧Below w.heap.size w w'
def toldW (w:World):World:=w.alloc (.cells #[.nilIface,.int .i64 0] 96)
theorem D3_ (w:World):Below w.heap.size w (toldW w):=(Below.refl _ w).alloc (Nat.le_refl _) _
theorem Vv7 (E:Nat→Addr) (w:World) (c:Env E w):Calls Tryz.prog 90 #[.nilIface] w (Tells w 0):=by
 have h:=hid (D3_ w);have k:=(c.up (D3_ w)).g0;unfold toldW eS at *
 clear c
 go_enter Tryz.func90,Tryz.ntmps90
 go_wp2_with fail
 refine (Jx4 _ _).mono ?_;rintro e m ⟨rfl,d⟩;have j:=hid (Z0_ h.out (Nat.le_refl _) d);clear d
 go_wp2_with fail
 refine (Jx5 _ _).mono ?_;rintro e o ⟨rfl,g⟩;have Hb2:=hid (Z0_ j.out (Nat.le_refl _) g);clear g;exact j2_
theorem Xi8 (E:Nat→Addr) (t:Int) (w:World) (c:Env E w):Calls Tryz.prog 90 #[.iface 96 (.agg #[eS (E 0),.int .i64 t])] w (Tells w 91):=by
 have Hb0:=hid (D3_ w);have d:=(c.up (D3_ w)).g0;unfold toldW eS at *
 clear c
 go_enter Tryz.func90,Tryz.ntmps90
 go_wp2_with fail
 refine (Jx3 _ _ _).mono ?_;exact y38_
theorem Xi9 (ts:List Int) (a:Addr):(chain ts (eS a)).oneCell'=true:=by
 cases ts<;>rfl
theorem Vv8 (E:Nat→Addr) (t:Int) (ts:List Int) (k:Nat) (g:1≤k∧k≤4) (w:World) (s:Env E w):Calls Tryz.prog 90 #[chain (t :: ts) (eS (E k))] w (Tells w 90):=by
 have m:=hid (D3_ w);have c:=s.up (D3_ w);have D:=c.g0;have j:=hid c;obtain ⟨B,F,ha⟩:=c.blk k g.2;obtain ⟨C,G,hb⟩:=c.blk 0 q41_;have p:=hid (Vv6 (t :: ts) (E k) (E 0) B C F G (toldW w) (c.ne k g.1 g.2) ha hb);have r:=Xi9 ts (E k);have u:Blk (toldW w) w.heap.size 96 #[.nilIface,.int .i64 0]:=Blk.new w _ _;have q:=hid u;rw [show chain (t :: ts) (eS (E k))=.iface 96 (.agg #[chain ts (eS (E k)),.int .i64 t]) from rfl] at *
 have v:=hid r;clear c s ha hb u r;generalize chain ts (eS (E k))=x at *
 unfold toldW at m j p q D;unfold eS at *
 go_enter Tryz.func90,Tryz.ntmps90
 go_wp2_with fail
 refine (p.out).mono ?_;rintro e h ⟨rfl,d⟩;have z:=hid (q.out.below d k40_);have y:=hid (j.out.up d);have o:=hid (Z0_ m.out (Nat.le_refl _) d);clear d
 go_wp2_with fail
 refine (Jx2 w.heap.size x (.int .i64 t) .nilIface (.int .i64 0) h v.out rfl y.out.gt z.out).mono ?_;rintro e H ⟨rfl,rfl⟩;have Hb2:Hid (Below w.heap.size w (asW h w.heap.size x (.int .i64 t))):=o.out.trans (Xi7 h w.heap.size x _ w.heap.size (Nat.le_refl _) o.out.size);exact j2_
open Go.RowKit
def boxed (w:World) (m:Mat) (lv iv:Value):World:=w.alloc (.cells #[.int .i64 m.t,.int .i64 m.n,.int .i64 m.a,.int .i64 m.b,lv,iv] 25)
theorem Z1_ (w:World) (m:Mat) (d c:Value):Below w.heap.size w (boxed w m d c):=(Below.refl _ w).alloc (Nat.le_refl _) _
theorem Z4_ (w:World) (m:Mat) (d c:Value):Blk (boxed w m d c) w.heap.size 25 #[.int .i64 m.t,.int .i64 m.n,.int .i64 m.a,.int .i64 m.b,d,c]:=Blk.new w _ _
def most (k i:Nat) (l:List Mat):Nat:=maxN ((l.take i).map (dp k))
theorem Ze4 (k:Nat) (l:List Mat):most k 0 l=0:=rfl
theorem Ze5 {α:Type} (l:List α) (i:Nat) (d:α) (h:i<l.length):l.take (i+1)=l.take i ++ [l.getD i d]:=by
 rw [List.take_succ_eq_append_getElem h];simp [List.getD,h]
theorem Ze6 (k i:Nat) (l:List Mat) (h:i<l.length):most k (i+1) l=max (most k i l) (dp k (l.getD i default)):=by
 unfold most;rw [Ze5 l i default h,List.map_append,Yh4];simp [maxN]
theorem Zs1 (k:Nat) (l:List Mat):most k l.length l=maxN (l.map (dp k)):=by
 unfold most;rw [List.take_length]
theorem Yi4 (k i:Nat) (l:List Mat):most k i l≤k+1:=Zd6 fun x hx=>x24_
theorem Vv9 (k i:Nat) (l:List Mat) (h:k+1≤most k i l):most k i l=maxN (l.map (dp k)):=by
 have d:most k i l≤maxN (l.map (dp k)):=by
  refine Zd6 fun x hx=>?_;obtain ⟨y,c,rfl⟩:=List.mem_map.1 hx;exact Yh3 (List.mem_map_of_mem (List.mem_of_mem_take c))
 have h2:maxN (l.map (dp k))≤k+1:=Zd6 fun x hx=>x24_;omega
theorem sml_i {m x:Mat} (h:Sml m) (c:x∈m.i):Sml x:=by
 cases h with
 | mk _ _ _ h4=>exact h4 x c
theorem Zj7 {m:Mat} (h:Sml m):m.i.length≤1000:=by
 cases h with
 | mk _ _ h3 _=>exact h3
theorem sml_l {m:Mat} (h:Sml m):m.l.length≤1000:=by
 cases h with
 | mk h1 _ _ _=>exact h1
theorem sml_r {m:Mat} (h:Sml m) {r:List Int} (c:r∈m.l):r.length≤1000:=by
 cases h with
 | mk _ h2 _ _=>exact h2 r c
theorem Y4_ {α:Type} (l:List α) (i:Nat) (d:α) (h:i<l.length):l.getD i d∈l:=z30_
theorem Vj0:∀ (k:Nat) (m:Mat) (v:Value) (w:World) (most:Int),most=(k:Int)+1→k≤10→MatV w w.heap.size v m→Sml m→Calls Tryz.prog 118 #[v,.int .i64 most] w (Tells w (dp k m)):=by
 intro k
 induction k with
 | zero =>
  intro m v w most z _ C hs;obtain ⟨j,iv,rfl,hl,p⟩:=C.open;obtain ⟨A,c,rfl,x6,q⟩:=p;have xa:=Zj7 hs;have xb:(m.i.length:Int)≤1000:=y40_;have Hb0:=hid (Z1_ w m j (.slice A m.i.length c));have g:=Z4_ w m j (.slice A m.i.length c);have V:=g.cell 0;have W:=g.cell 5;have N:most=1:=y40_;subst N;clear g q hl z;unfold boxed at *
  by_cases s:m.t<5
  ·exact q37_
  ·have X:5≤m.t:=by omega
   clear s;by_cases h2:9<m.t
   ·exact q37_
   ·have Y:m.t≤9:=by omega
    clear h2;by_cases h3:(0:Int)<(m.i.length:Int)
    ·exact j39_
    ·exact j39_
 | succ k ih =>
  intro m v w r z xh C hs;obtain ⟨j,iv,rfl,hl,p⟩:=C.open;obtain ⟨A,c,rfl,x6,q⟩:=p;have I:=hid q;have U:=hid hs;have J:=hid ih;have xa:=Zj7 hs;have xb:(m.i.length:Int)≤1000:=y40_;have Hb0:=hid (Z1_ w m j (.slice A m.i.length c));have F:=hid (Z4_ w m j (.slice A m.i.length c));have V:=F.out.cell 0;have N:(k:Int)+2=r:=y40_;have xi:(k:Int)≤10:=y40_;have xk:IntKind.i64.wrap (r - 1)=(k:Int)+1:=y41_;clear q hl z ih hs;unfold boxed at *
  by_cases s:m.t<5
  ·exact z10_
  ·have X:5≤m.t:=by omega
   clear s;by_cases h2:9<m.t
   ·exact z10_
   ·have Y:m.t≤9:=by omega
    have hd:Hid (dp (k+1) m=1+maxN (m.i.map (dp k))):=by
     show dp (k+1) m=_;rw [dp,if_pos (by unfold nest;omega)]
    clear h2
    go_enter Tryz.func118,Tryz.ntmps118
    go_wp2
    go_loopw [5,6] (fun vd E wr=>∃ (d i:Nat),vd=.int .i64 d∧E=.int .i64 i∧i≤m.i.length∧d=1+Wp.most k i m.i∧Blk wr w.heap.size 25 #[.int .i64 m.t,.int .i64 m.n,.int .i64 m.a,.int .i64 m.b,j,.slice A m.i.length c]∧Below w.heap.size w wr) (fun _ E _=>m.i.length - (intOf E).toNat)
    case atStart=>exact ⟨1,0,rfl,rfl,Nat.zero_le _,by rw [Ze4],F.out,Hb0.out⟩
    case round =>
     obtain ⟨d,i,rfl,rfl,p,M,g,L⟩:=hrel;have h:=hid L;have G:=hid g;have W:=g.cell 5;have x7:=Yi4 k i m.i;have xe:(d:Int)≤(k:Int)+2:=y40_;have o:=hid M;clear L g M;by_cases y:i<m.i.length
     ·have xj:(i:Int)<(m.i.length:Int):=by omega
      by_cases xf:(d:Int)<r
      ·obtain ⟨ad,u,Z,hab,Q,O⟩:=I.out i y
       subst Z;have xc:=Q.below h.out x42_;have P:=(O.bel h.out).mono h.out.size;have H:=hid (J.out (m.i.getD i default) u wr ((k:Int)+1) rfl y40_ P (sml_i U.out (Y4_ _ _ _ y)));have B:=Ze6 k i m.i y;have x8:=dp_le k (m.i.getD i default);obtain ⟨x0,x1,x2,x3,x4,x5,rfl,s0,s1,s2,s3,s4,s5⟩:=xc;obtain ⟨D,K⟩:∃ D,dp k (m.i.getD i default)=D:=⟨_,rfl⟩;rw [K] at H B x8;have xd:(D:Int)≤(k:Int)+1:=y40_;have T:=hid B;clear Q O P I J K B x7
       go_wp2_with fail
       refine (H.out).mono ?_;rintro e w1 ⟨rfl,x⟩;have R:=hid (Z0_ h.out (Nat.le_refl _) x);have S:=hid (G.out.below x (by have:=G.out.lt;exact this));clear x;go_wp2
       go_roundw
       case rel =>
        refine ⟨max d (1+D),i+1,?_,j41_,y40_,?_,S.out,R.out⟩
        ·exact congrArg (Value.int .i64) y40_
        ·rw [T.out,o.out];omega
       case measure=>simp [intOf];omega
      ·have xg:r≤(d:Int):=by omega
       go_wp2;go_ret;refine ⟨?_,h.out⟩;have e:dp (k+1) m=d:=by rw [hd.out,← Vv9 k i m.i (by have:=o.out;omega)];exact o.out.symm
       rw [e];rfl
     ·have x9:i=m.i.length:=by omega
      subst x9;go_wp2;go_ret;refine ⟨?_,h.out⟩;have e:dp (k+1) m=d:=by rw [hd.out,← Zs1];exact o.out.symm
      rw [e];rfl
end Go.Proofs.YtigobiacbficaaaGreatDoor.Wp
