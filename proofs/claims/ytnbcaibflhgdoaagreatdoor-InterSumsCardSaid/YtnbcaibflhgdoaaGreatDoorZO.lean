/- Go's own errors.As and errors.Is, walked at this package's errors; and the program's told. The program's matroid.deep, walked: how deep matroids lie within one another. -/
import Derived.Test.YtnbcaibflhgdoaaGreatDoorZU
import Derived.LaidEql
import Derived.Stop.Asserts
import Derived.RowKitTokens
import Derived.Test.YtnbcaibflhgdoaaGreatDoorProg
import Derived.WalkKit
import Derived.Test.YtnbcaibflhgdoaaGreatDoorX0A
import Derived.Test.YtnbcaibflhgdoaaGreatDoorX0B
set_option maxHeartbeats 4000000
set_option maxRecDepth 100000
open Go.Lib (hid)
namespace Go.Proofs.YtnbcaibflhgdoaaGreatDoor
open Go.RowKit Go.Extern.Stop Go.Stop Go.Extern
namespace Wp
theorem Xj1 (t:Addr) (w:World):(ReflectliteValue.unpack (.iface 98 (.pointer (some t)))).run Tryz.prog w
  = .ok (.agg #[.pointer (some ⟨9, 98,none⟩),.pointer (some ⟨w.heap.size,0,none⟩),.int .u64 150]) (w.alloc (.cells #[.pointer (some t)] 98)):=k29_
theorem typeP (a:Addr) (w:World):(ReflectliteValue.methodAny (ReflectliteValue.valueError "reflectlite.Value.Type" 0) (fun t _ _ _=>ReflectliteType.toType t) #[.agg #[.pointer (some ⟨9, 98,none⟩),.pointer (some a),.int .u64 150]]).run Tryz.prog w
  = .ok (.iface 162 (.agg #[.pointer (some ⟨9, 98,none⟩)])) w:=k29_
theorem kindP (w:World):((ReflectliteType.abiMethod fun t=>(fun a:Nat=>Value.int IntKind.u8 (a:Int)) <$> Rtype.kind t) #[.pointer (some ⟨9, 98,none⟩)]).run Tryz.prog w=.ok (.int .u8 22) w:=k29_
theorem kindS (w:World):((ReflectliteType.abiMethod fun t=>(fun a:Nat=>Value.int IntKind.u8 (a:Int)) <$> Rtype.kind t) #[.pointer (some ⟨9, 77,none⟩)]).run Tryz.prog w=.ok (.int .u8 25) w:=k29_
theorem Xg0 (a:Addr) (w:World):(ReflectliteValue.parts (.agg #[.pointer (some ⟨9, 98,none⟩),.pointer (some a),.int .u64 150])).run Tryz.prog w=.ok (some (98,a,150)) w:=k29_
theorem Zj0 (z:Sem Value) (f:TypeId→Addr→Nat→Nat→Sem Value) (v:Value) (t:TypeId) (a:Addr) (c:Nat) (W:World) (d:(ReflectliteValue.parts v).run Tryz.prog W=.ok (some (t,a,c)) W) :
  (ReflectliteValue.method z f #[v]).run Tryz.prog W=(f t a c (c % 32)).run Tryz.prog W:=by
 rw [show ReflectliteValue.method z f #[v]=(ReflectliteValue.parts v >>= _) from rfl,Sem.run_bind,d];rfl
theorem Xw9 (a p:Addr) (W:World) (ha:W.cell? a=some (.pointer (some p))) :
  (ReflectliteValue.method (ReflectliteValue.valueError "reflectlite.Value.IsNil" 0) ReflectliteValue.isNil #[.agg #[.pointer (some ⟨9, 98,none⟩),.pointer (some a),.int .u64 150]]).run Tryz.prog W=.ok (.bool false) W:=by
 rw [Zj0 _ _ _ _ _ _ _ (Xg0 a W)];simp [ReflectliteValue.isNil,loadVar,isAgg,underlying,ha,Result.andThen]
theorem elemP (w:World):(ReflectliteType.method ReflectliteType.elem #[.agg #[.pointer (some ⟨9, 98,none⟩)]]).run Tryz.prog w=.ok (.iface 162 (.agg #[.pointer (some ⟨9, 77,none⟩)])) w:=k29_
theorem Zp4 (w:World):(ReflectliteType.relation "Implements" ReflectliteType.implements_ #[.agg #[.pointer (some ⟨9, 77,none⟩)],.iface 162 (.agg #[.pointer (some ⟨9, 75,none⟩)])]).run Tryz.prog w=.ok (.bool true) w:=k29_
theorem Xn0 (v:Value) (w:World):(ReflectliteType.typeOf #[.iface 77 v]).run Tryz.prog w=.ok (.iface 162 (.agg #[.pointer (some ⟨9, 77,none⟩)])) w:=k29_
theorem Zp5 (w:World):(ReflectliteType.relation "AssignableTo" ReflectliteType.assignableTo #[.agg #[.pointer (some ⟨9, 77,none⟩)],.iface 162 (.agg #[.pointer (some ⟨9, 77,none⟩)])]).run Tryz.prog w=.ok (.bool true) w:=k29_
theorem Xj2 (x y:Value) (w:World):(ReflectliteValue.unpack (.iface 77 (.agg #[x,y]))).run Tryz.prog w
  = .ok (.agg #[.pointer (some ⟨9, 77,none⟩),.pointer (some ⟨w.heap.size,0,none⟩),.int .u64 153]) (w.alloc (.cells #[x,y] 77)):=k29_
theorem Xn1 (w:World):(Rtype.elem? 98).run Tryz.prog w=.ok (some 77) w:=k29_
theorem mkS (p:Addr) (w:World):(ReflectliteValue.mk 77 p ReflectliteValue.flagAddr).run Tryz.prog w=.ok (.agg #[.pointer (some ⟨9, 77,none⟩),.pointer (some p),.int .u64 409]) w:=k29_
theorem Vz0 (a p:Addr) (W:World) (ha:W.cell? a=some (.pointer (some p))) :
  (ReflectliteValue.method (ReflectliteValue.valueError "reflectlite.Value.Elem" 0) ReflectliteValue.elem #[.agg #[.pointer (some ⟨9, 98,none⟩),.pointer (some a),.int .u64 150]]).run Tryz.prog W
   = .ok (.agg #[.pointer (some ⟨9, 77,none⟩),.pointer (some p),.int .u64 409]) W:=by
 rw [Zj0 _ _ _ _ _ _ _ (Xg0 a W)];simp [ReflectliteValue.elem,loadVar,isAgg,underlying,ha,Result.andThen,Xn1,mkS]
theorem Xn2 (a:Addr) (w:World):(ReflectliteValue.parts (.agg #[.pointer (some ⟨9, 77,none⟩),.pointer (some a),.int .u64 409])).run Tryz.prog w=.ok (some (77,a,409)) w:=k29_
theorem Vz1 (a:Addr) (w:World):(ReflectliteValue.parts (.agg #[.pointer (some ⟨9, 77,none⟩),.pointer (some a),.int .u64 153])).run Tryz.prog w=.ok (some (77,a,153)) w:=k29_
theorem Xn3 (w:World):(Rtype.directlyAssignable 77 77).run Tryz.prog w=.ok true w:=k29_
theorem setS (c b:Nat) (x y C D:Value) (W:World) (z:x.oneCell'=true) (B:y.oneCell'=true) (m:W.cell? ⟨b,0,none⟩=some x) (o:W.cell? ⟨b,1,none⟩=some y)
  (s:W.cell? ⟨c,0,none⟩=some C) (q:W.frozen? ⟨c,0,none⟩=false) (u:W.cell? ⟨c,1,none⟩=some D) (r:W.frozen? ⟨c,1,none⟩=false) :
  (ReflectliteValue.set #[.agg #[.pointer (some ⟨9, 77,none⟩),.pointer (some ⟨c,0,none⟩),.int .u64 409],.agg #[.pointer (some ⟨9, 77,none⟩),.pointer (some ⟨b,0,none⟩),.int .u64 153]]).run Tryz.prog W
   = .ok (.tuple #[]) ((W.setCell ⟨c,0,none⟩ x).setCell ⟨c,1,none⟩ y):=by
 rw [show ∀ (v x:Value),ReflectliteValue.set #[v,x]=(ReflectliteValue.parts v >>= fun p=>ReflectliteValue.parts x >>= _) from fun _ _=>rfl];rw [Sem.run_bind,Xn2];simp only [Result.andThen_ok];rw [Sem.run_bind,Vz1];simp only [Result.andThen_ok];have h:(loadVar 77 ⟨b,0,none⟩).run Tryz.prog W=.ok (.agg #[x,y]) W:=by
  have e:(isAgg 77).run Tryz.prog W=.ok true W:=k29_;have h3:=run_loadCells_list (P:=Tryz.prog) (w:=W) ⟨b,0,none⟩ [x,y] (by
   intro j v d
   match j,d with
   | 0,d=>simp at d;subst d;simpa [Addr.add] using m
   | 1,d=>simp at d;subst d;simpa [Addr.add] using o)
  have g:(loadCells ⟨b,0,none⟩ 2).run Tryz.prog W=.ok #[x,y] W:=h3;unfold loadVar;simp [e,g]
 have k:(storeVar 77 ⟨c,0,none⟩ (.agg #[x,y])).run Tryz.prog W=.ok () ((W.setCell ⟨c,0,none⟩ x).setCell ⟨c,1,none⟩ y):=by
  have f:(sizeOf 77).run Tryz.prog W=.ok 2 W:=k29_;unfold storeVar;simp [f,Value.cells,storeCells,Addr.add];rw [run_store Tryz.prog W _ _ _ z];simp only [s,q,Bool.false_eq_true,if_false];rw [Result.andThen_ok,run_store Tryz.prog _ _ _ _ B];rw [World.cell?_setCell_other _ _ _ _ x30_,World.frozen?_setCell,u,r];rfl
 simp [ReflectliteValue.flagAddr,Xn3,h,k]
open Go
theorem mKind (h:Value) (w:World):(Go.method 328 162 (.agg #[h]) "Kind").run Tryz.prog w=.ok (208,h) w:=k29_
theorem mElem (h:Value) (w:World):(Go.method 328 162 (.agg #[h]) "Elem").run Tryz.prog w=.ok (219,.agg #[h]) w:=k29_
theorem Zp6 (h:Value) (w:World):(Go.method 328 162 (.agg #[h]) "Implements").run Tryz.prog w=.ok (220,.agg #[h]) w:=k29_
theorem Zc7 (h:Value) (w:World):(Go.method 328 162 (.agg #[h]) "AssignableTo").run Tryz.prog w=.ok (217,.agg #[h]) w:=k29_
theorem Zz1 (h:Value) (w:World):(Go.method 328 162 (.agg #[h]) "Comparable").run Tryz.prog w=.ok (218,.agg #[h]) w:=k29_
theorem Yn0 (x y:Value) (w:World):(Go.method 328 77 (.agg #[x,y]) "Unwrap").run Tryz.prog w=.ok (212,.agg #[x,y]) w:=k29_
open Go.RowKit Go.Extern.Stop Go.Stop Go.Extern
def asW (w:World) (t:Nat) (x y:Value):World :=
 (((((w.alloc (.cells #[.pointer (some ⟨t,0,none⟩)] 98)).alloc (.cells #[.pointer (some ⟨9, 98,none⟩),.pointer (some ⟨w.heap.size,0,none⟩),.int .u64 150] 119)).alloc (.cells #[.pointer (some ⟨9, 98,none⟩),.pointer (some ⟨w.heap.size,0,none⟩),.int .u64 150] 119)).alloc (.cells #[x,y] 77)).setCell ⟨t,0,none⟩ x).setCell ⟨t,1,none⟩ y
theorem Vz2 (t:Nat) (x y k m:Value) (w:World) (q:x.oneCell'=true) (r:y.oneCell'=true) (e:w.cell? ⟨1,0,none⟩=some (.iface 162 (.agg #[.pointer (some ⟨9, 75,none⟩)])))
  (d:Blk w t 77 #[k,m]) :
  Calls Tryz.prog 103 #[.iface 77 (.agg #[x,y]),.iface 98 (.pointer (some ⟨t,0,none⟩))] w fun o w'=>o=.returned (.bool true)∧asW w t x y=w':=by
 have I:=@run_callFunc_extern Tryz.prog 125 _ (fun args=>ReflectliteValue.unpack (args.getD 0 (.tuple #[]))) Tryz.func125 k29_ k29_ k29_ k29_;have K:=@run_callFunc_extern Tryz.prog 126 _ (ReflectliteValue.methodAny (ReflectliteValue.valueError "reflectlite.Value.Type" 0) (fun t _ _ _=>ReflectliteType.toType t)) Tryz.func126 k29_ k29_ k29_ k29_;have H:=@run_callFunc_extern Tryz.prog 127 _ (ReflectliteValue.method (ReflectliteValue.valueError "reflectlite.Value.IsNil" 0) ReflectliteValue.isNil) Tryz.func127 k29_ k29_ k29_ k29_;have E:=@run_callFunc_extern Tryz.prog 208 _ (ReflectliteType.abiMethod fun t=>do pure (.int .u8 (← Rtype.kind t))) Tryz.func208 k29_ k29_ k29_ k29_;have C:=@run_callFunc_extern Tryz.prog 219 _ (ReflectliteType.method ReflectliteType.elem) Tryz.func219 k29_ k29_ k29_ k29_;have D:=@run_callFunc_extern Tryz.prog 220 _ (ReflectliteType.relation "Implements" ReflectliteType.implements_) Tryz.func220 k29_ k29_ k29_ k29_;have F:=@run_callFunc_extern Tryz.prog 123 _ ReflectliteType.typeOf Tryz.func123 k29_ k29_ k29_ k29_;have B:=@run_callFunc_extern Tryz.prog 217 _ (ReflectliteType.relation "AssignableTo" ReflectliteType.assignableTo) Tryz.func217 k29_ k29_ k29_ k29_;have G:=@run_callFunc_extern Tryz.prog 160 _ (ReflectliteValue.method (ReflectliteValue.valueError "reflectlite.Value.Elem" 0) ReflectliteValue.elem) Tryz.func160 k29_ k29_ k29_ k29_;have J:=@run_callFunc_extern Tryz.prog 161 _ ReflectliteValue.set Tryz.func161 k29_ k29_ k29_ k29_;have T:=mKind;have R:=mElem;have S:=Zp6;have Q:=Zc7;have V:=Xn0;have u:=Zp5;have Y:=Xj2;have X:=Xj1;have W:=typeP;have O:=kindP;have P:=kindS;have v:=elemP;have N:=Zp4;have p : 1 < w.heap.size:=by
  rcases Nat.lt_or_ge 1 w.heap.size with h | h
  ·exact h
  ·simp [World.cell?,Array.getElem?_eq_none h] at e
 have M:=d.lt;have U:=Xw9 ⟨w.heap.size,0,none⟩ ⟨t,0,none⟩ ((w.alloc (.cells #[.pointer (some ⟨t,0,none⟩)] 98)).alloc (.cells #[.pointer (some ⟨9, 98,none⟩),.pointer (some ⟨w.heap.size,0,none⟩),.int .u64 150] 119)) x30_;have L:((w.alloc (.cells #[.pointer (some ⟨t,0,none⟩)] 98)).alloc (.cells #[.pointer (some ⟨9, 98,none⟩),.pointer (some ⟨w.heap.size,0,none⟩),.int .u64 150] 119)).cell? ⟨1,0,none⟩=some (.iface 162 (.agg #[.pointer (some ⟨9, 75,none⟩)])):=by
  rw [World.cell?_alloc_lt _ _ ⟨1,0,none⟩ j30_,World.cell?_alloc_lt _ _ ⟨1,0,none⟩ p];exact e
 have z:=Vz0 ⟨w.heap.size,0,none⟩ ⟨t,0,none⟩ (((w.alloc (.cells #[.pointer (some ⟨t,0,none⟩)] 98)).alloc (.cells #[.pointer (some ⟨9, 98,none⟩),.pointer (some ⟨w.heap.size,0,none⟩),.int .u64 150] 119)).alloc (.cells #[.pointer (some ⟨9, 98,none⟩),.pointer (some ⟨w.heap.size,0,none⟩),.int .u64 150] 119)) (by rw [World.cell?_alloc_lt _ _ ⟨w.heap.size,0,none⟩ j30_];simp);have j:=((d.alloc (.cells #[.pointer (some ⟨t,0,none⟩)] 98)).alloc (.cells #[.pointer (some ⟨9, 98,none⟩),.pointer (some ⟨w.heap.size,0,none⟩),.int .u64 150] 119)).alloc (.cells #[.pointer (some ⟨9, 98,none⟩),.pointer (some ⟨w.heap.size,0,none⟩),.int .u64 150] 119);have c:=j.alloc (.cells #[x,y] 77);have st:=setS t (w.heap.size+1+1+1) x y k m ((((w.alloc (.cells #[.pointer (some ⟨t,0,none⟩)] 98)).alloc (.cells #[.pointer (some ⟨9, 98,none⟩),.pointer (some ⟨w.heap.size,0,none⟩),.int .u64 150] 119)).alloc (.cells #[.pointer (some ⟨9, 98,none⟩),.pointer (some ⟨w.heap.size,0,none⟩),.int .u64 150] 119)).alloc (.cells #[x,y] 77)) q r
  (by rw [World.cell?_alloc_at _ _ _ _ x30_];rfl) (by rw [World.cell?_alloc_at _ _ _ _ x30_];rfl)
  (c.cell 0) (c.frozen 0) (c.cell 1) (c.frozen 1)
 have s:=hid d;clear d j c
 go_enter Tryz.func103,Tryz.ntmps103
 go_wp2;refine wp_loop_rounds 1 ?_;rw [rounds_succ];go_wp2;go_ret;exact ⟨rfl,rfl⟩
open Go.RowKit Go.Extern.Stop Go.Stop Go.Extern
theorem Yy0 (v:Value) (w:World):(Extern.ReflectliteType.typeOf #[.iface 195 v]).run Tryz.prog w=.ok (.iface 162 (.agg #[.pointer (some ⟨9, 195,none⟩)])) w:=k29_
theorem R8_:∃ c,Extern.find Tryz.f218 = some c∧∀ w:World,(c #[.agg #[.pointer (some ⟨9, 195,none⟩)]]).run Tryz.prog w=.ok (.bool true) w :=
 ⟨Extern.ReflectliteType.method fun t=>do Extern.Rtype.noPackHeld "Comparable" t;pure (.bool (← typeInfo t).comparable),k29_,fun w=>by kernel_rfl⟩
theorem Xg1:(Tryz.prog.info? 195).map (·.comparable)=some true:=k29_
theorem Xg2:(Tryz.prog.info? 216).map (·.size)=some 1:=k29_
theorem Zh6:Tryz.prog.underlying 75 = some (.interface #[("Error", 196)]):=k29_
theorem Xg3:Tryz.prog.underlying 195 = some (.pointer 216):=k29_
theorem noIsE (v:Value) (c:TypeId) (w:World):(Instr.typeAssert (.iface 195 v) c 164 true).run Tryz.prog w=.ok (.tuple #[.nilIface,.bool false]) w:=run_typeAssert_lacksB Tryz.underlying164 k29_ k29_ v c w
theorem Yn1 (v:Value) (c:TypeId) (w:World):(Instr.typeAssert (.iface 195 v) c 167 true).run Tryz.prog w=.ok (.tuple #[.nilIface,.bool false]) w:=run_typeAssert_lacksB Tryz.underlying167 k29_ k29_ v c w
theorem Ya6 (v:Value) (c:TypeId) (w:World):(Instr.typeAssert (.iface 195 v) c 169 true).run Tryz.prog w=.ok (.tuple #[.nilIface,.bool false]) w:=run_typeAssert_lacksB Tryz.underlying169 k29_ k29_ v c w
theorem noIsW (v:Value) (c:TypeId) (w:World):(Instr.typeAssert (.iface 77 v) c 164 true).run Tryz.prog w=.ok (.tuple #[.nilIface,.bool false]) w:=run_typeAssert_lacksB Tryz.underlying164 k29_ k29_ v c w
theorem Zj1 (v:Value) (c:TypeId) (w:World):(Instr.typeAssert (.iface 77 v) c 167 true).run Tryz.prog w=.ok (.tuple #[.iface 77 v,.bool true]) w:=run_typeAssert_hasB Tryz.underlying167 k29_ v c w
def chain:List Int→Value→Value
 | [],v=>v
 | t :: r,v=>.iface 77 (.agg #[chain r v,.int .i64 t])
theorem Zz2 (ts:List Int) (a:Addr):∃ T v,chain ts (eS a)=.iface T v:=by
 cases ts with
 | nil=>exact ⟨_,_,rfl⟩
 | cons t r=>exact ⟨_,_,rfl⟩
theorem Xn4 (x y:Value) (T:TypeId):SizeOf.sizeOf x<SizeOf.sizeOf (Value.iface T (.agg #[x,y])):=by
 simp only [Value.iface.sizeOf_spec,Value.agg.sizeOf_spec,Array.mk.sizeOf_spec,List.cons.sizeOf_spec];omega
theorem Xj3 (ts:List Int) (a b:Addr) (q s:Array Value) (F G:TypeId) (w:World) (E:a≠b) (ha:w.heap[a.block]?=some (.cells q F (0,0))) (hb:w.heap[b.block]?=some (.cells s G (0,0))) :
  Calls Tryz.prog 102 #[chain ts (eS a),eS b] w (Says w false):=by
 obtain ⟨i,y,v⟩:=Option.map_eq_some_iff.1 Xg1;obtain ⟨j,z,B⟩:=Option.map_eq_some_iff.1 Xg2;have L:=@run_callFunc_extern Tryz.prog 123 _ Extern.ReflectliteType.typeOf Tryz.func123 k29_ k29_ k29_ k29_;obtain ⟨u,m,J⟩:=R8_;have K:=@run_callFunc_extern Tryz.prog 218 _ u Tryz.func218 k29_ k29_ k29_ m;clear m;have T:=Yy0;have O:=Zz1;have R:=noIsE;have U:=Yn1;have Z:=Ya6;have S:=noIsW;have V:=Zj1;have Q:=Yn0;have C:=L5_ ha;have D:=L5_ hb;have k:=fun (W:World) (h:Below w.heap.size w W)=>run_eql_iface_ptr_other (P:=Tryz.prog) W Zh6 Xg3 y v z (by rw [B];decide) E ((h.block _ C).trans ha) ((h.block _ D).trans hb);have N:=fun (x:Value) (W:World)=>run_eql_iface_types (P:=Tryz.prog) 77 195 x (.pointer (some b)) Zh6 y30_ W;obtain ⟨H,X,e⟩:=Zz2 ts a;have o:=hid e;rw [e];unfold eS at *
 clear e
 go_enter Tryz.func102,Tryz.ntmps102
 go_wp2
 go_loopw [0] (fun g wr=>∃ r,g=chain r (.iface 195 (.pointer (some a)))∧Below w.heap.size w wr) (fun g _=>SizeOf.sizeOf g)
 case atStart=>exact ⟨ts,o.out.symm,Below.refl _ _⟩
 case round =>
  obtain ⟨r,rfl,d⟩:=hrel;have M:=k _ d;clear k;cases r with
  | nil =>
   rw [show chain [] (.iface 195 (.pointer (some a)))=.iface 195 (.pointer (some a)) from rfl];go_wp2;go_ret;exact ⟨rfl,d⟩
  | cons t r =>
   obtain ⟨I,Y,c⟩:=Zz2 r a;unfold eS at c;rw [show chain (t :: r) (.iface 195 (.pointer (some a)))=.iface 77 (.agg #[chain r (.iface 195 (.pointer (some a))),.int .i64 t]) from rfl,c];have p:=hid c;clear c;go_wp2
   go_roundw
   case rel=>exact ⟨r,p.out.symm,d.alloc d.size _⟩
   case measure=>exact Xn4 _ _ _
theorem Vz3 (y:Value) (b:Addr) (w:World) :
  Calls Tryz.prog 102 #[.iface 77 (.agg #[.iface 195 (.pointer (some b)),y]),.iface 195 (.pointer (some b))] w (Says w true):=by
 obtain ⟨i,g,e⟩:=Option.map_eq_some_iff.1 Xg1;obtain ⟨j,h,q⟩:=Option.map_eq_some_iff.1 Xg2;have o:=@run_callFunc_extern Tryz.prog 123 _ Extern.ReflectliteType.typeOf Tryz.func123 k29_ k29_ k29_ k29_;obtain ⟨d,c,k⟩:=R8_;have m:=@run_callFunc_extern Tryz.prog 218 _ d Tryz.func218 k29_ k29_ k29_ c;clear c;have x:=Yy0;have s:=Zz1;have v:=noIsW;have z:=Zj1;have u:=Yn0;have p:=run_eql_iface_ptr_same (P:=Tryz.prog) (w.alloc (.cells #[.iface 195 (.pointer (some b)),y] 77)) b Zh6 Xg3 g e h;have r:=run_eql_iface_types (P:=Tryz.prog) 77 195 (.agg #[.iface 195 (.pointer (some b)),y]) (.pointer (some b)) Zh6 y30_ w
 go_enter Tryz.func102,Tryz.ntmps102
 go_wp2;refine wp_loop_rounds 2 ?_;rw [rounds_succ];go_wp2;rw [rounds_succ];go_wp2;go_ret;exact ⟨rfl,(Below.refl _ _).alloc (Nat.le_refl _) _⟩
theorem Vz4 (v:Value) (w:World):Calls Tryz.prog 102 #[.nilIface,.iface 195 v] w (Says w false):=by
 have c:=run_eql_iface_nil_left (P:=Tryz.prog) (w:=w) 195 v Zh6
 go_enter Tryz.func102,Tryz.ntmps102
 exact j3_
open Go.RowKit
theorem Yn2 (w:World) (t:Nat) (x y:Value) (B:Nat) (hB:B≤t) (h:B≤w.heap.size):Below B w (asW w t x y):=by
 unfold asW;refine Below.setCell ?_ (by exact hB) _;refine Below.setCell ?_ (by exact hB) _;exact ((((Below.refl _ w).alloc h _).alloc j30_ _).alloc j30_ _).alloc j30_ _
theorem Vz5 (v:Value) (w:World):Calls Tryz.prog 103 #[.nilIface,v] w (Says w false):=by
 go_enter Tryz.func103,Tryz.ntmps103
 exact j3_
def Tells (w:World) (k:Int) (e:Ending) (w':World):Prop:=e=.returned (.int .i64 k)∧Below w.heap.size w w'
def toldW (w:World):World:=w.alloc (.cells #[.nilIface,.int .i64 0] 77)
theorem B2_ (w:World):Below w.heap.size w (toldW w):=(Below.refl _ w).alloc (Nat.le_refl _) _
theorem Xj4 (E:Nat→Addr) (w:World) (c:Env E w):Calls Tryz.prog 72 #[.nilIface] w (Tells w 0):=by
 have h:=hid (B2_ w);have k:=(c.up (B2_ w)).g0;unfold toldW eS at *
 clear c
 go_enter Tryz.func72,Tryz.ntmps72
 go_wp2_with fail
 refine (Vz4 _ _).mono ?_;rintro e m ⟨rfl,d⟩;have j:=hid (Z0_ h.out (Nat.le_refl _) d);clear d
 go_wp2_with fail
 refine (Vz5 _ _).mono ?_;rintro e o ⟨rfl,g⟩;have Hb2:=hid (Z0_ j.out (Nat.le_refl _) g);clear g;exact z2_
theorem Yn3 (E:Nat→Addr) (t:Int) (w:World) (c:Env E w):Calls Tryz.prog 72 #[.iface 77 (.agg #[eS (E 0),.int .i64 t])] w (Tells w 91):=by
 have Hb0:=hid (B2_ w);have d:=(c.up (B2_ w)).g0;unfold toldW eS at *
 clear c
 go_enter Tryz.func72,Tryz.ntmps72
 go_wp2_with fail
 refine (Vz3 _ _ _).mono ?_;exact y28_
theorem Yn4 (ts:List Int) (a:Addr):(chain ts (eS a)).oneCell'=true:=by
 cases ts<;>rfl
theorem Xj5 (E:Nat→Addr) (t:Int) (ts:List Int) (k:Nat) (g:1≤k∧k≤4) (w:World) (s:Env E w):Calls Tryz.prog 72 #[chain (t :: ts) (eS (E k))] w (Tells w 90):=by
 have m:=hid (B2_ w);have c:=s.up (B2_ w);have D:=c.g0;have j:=hid c;obtain ⟨B,F,ha⟩:=c.blk k g.2;obtain ⟨C,G,hb⟩:=c.blk 0 y30_;have p:=hid (Xj3 (t :: ts) (E k) (E 0) B C F G (toldW w) (c.ne k g.1 g.2) ha hb);have r:=Yn4 ts (E k);have u:Blk (toldW w) w.heap.size 77 #[.nilIface,.int .i64 0]:=Blk.new w _ _;have q:=hid u;rw [show chain (t :: ts) (eS (E k))=.iface 77 (.agg #[chain ts (eS (E k)),.int .i64 t]) from rfl] at *
 have v:=hid r;clear c s ha hb u r;generalize chain ts (eS (E k))=x at *
 unfold toldW at m j p q D;unfold eS at *
 go_enter Tryz.func72,Tryz.ntmps72
 go_wp2_with fail
 refine (p.out).mono ?_;rintro e h ⟨rfl,d⟩;have z:=hid (q.out.below d x30_);have y:=hid (j.out.up d);have o:=hid (Z0_ m.out (Nat.le_refl _) d);clear d
 go_wp2_with fail
 refine (Vz2 w.heap.size x (.int .i64 t) .nilIface (.int .i64 0) h v.out rfl y.out.gt z.out).mono ?_;rintro e H ⟨rfl,rfl⟩;have Hb2:Hid (Below w.heap.size w (asW h w.heap.size x (.int .i64 t))):=o.out.trans (Yn2 h w.heap.size x _ w.heap.size (Nat.le_refl _) o.out.size);exact z2_
open Go.RowKit
def boxed (w:World) (m:Mat) (lv iv:Value):World:=w.alloc (.cells #[.int .i64 m.t,.int .i64 m.n,.int .i64 m.a,.int .i64 m.b,lv,iv] 25)
theorem Z1_ (w:World) (m:Mat) (d c:Value):Below w.heap.size w (boxed w m d c):=(Below.refl _ w).alloc (Nat.le_refl _) _
theorem Z3_ (w:World) (m:Mat) (d c:Value):Blk (boxed w m d c) w.heap.size 25 #[.int .i64 m.t,.int .i64 m.n,.int .i64 m.a,.int .i64 m.b,d,c]:=Blk.new w _ _
def most (k i:Nat) (l:List Mat):Nat:=maxN ((l.take i).map (dp k))
theorem Zz3 (k:Nat) (l:List Mat):most k 0 l=0:=rfl
theorem Zz4 {α:Type} (l:List α) (i:Nat) (d:α) (h:i<l.length):l.take (i+1)=l.take i ++ [l.getD i d]:=by
 rw [List.take_succ_eq_append_getElem h];simp [List.getD,h]
theorem Zz5 (k i:Nat) (l:List Mat) (h:i<l.length):most k (i+1) l=max (most k i l) (dp k (l.getD i default)):=by
 unfold most;rw [Zz4 l i default h,List.map_append,Zo3];simp [maxN]
theorem Zc8 (k:Nat) (l:List Mat):most k l.length l=maxN (l.map (dp k)):=by
 unfold most;rw [List.take_length]
theorem Zp7 (k i:Nat) (l:List Mat):most k i l≤k+1:=P6_ fun x hx=>q16_
theorem Xj6 (k i:Nat) (l:List Mat) (h:k+1≤most k i l):most k i l=maxN (l.map (dp k)):=by
 have d:most k i l≤maxN (l.map (dp k)):=by
  refine P6_ fun x hx=>?_;obtain ⟨y,c,rfl⟩:=List.mem_map.1 hx;exact Zb9 (List.mem_map_of_mem (List.mem_of_mem_take c))
 have e:maxN (l.map (dp k))≤k+1:=P6_ fun x hx=>q16_;omega
theorem sml_i {m x:Mat} (h:Sml m) (c:x∈m.i):Sml x:=by
 cases h with
 | mk _ _ _ h4=>exact h4 x c
theorem R9_ {m:Mat} (h:Sml m):m.i.length≤1000:=by
 cases h with
 | mk _ _ h3 _=>exact h3
theorem sml_l {m:Mat} (h:Sml m):m.l.length≤1000:=by
 cases h with
 | mk h1 _ _ _=>exact h1
theorem sml_r {m:Mat} (h:Sml m) {r:List Int} (c:r∈m.l):r.length≤1000:=by
 cases h with
 | mk _ h2 _ _=>exact h2 r c
theorem Y2_ {α:Type} (l:List α) (i:Nat) (d:α) (h:i<l.length):l.getD i d∈l:=z21_
theorem Xj7:∀ (k:Nat) (m:Mat) (v:Value) (w:World) (most:Int),most=(k:Int)+1→k≤10→MatV w w.heap.size v m→Sml m→Calls Tryz.prog 101 #[v,.int .i64 most] w (Tells w (dp k m)):=by
 intro k
 induction k with
 | zero =>
  intro m v w most B _ E hs;obtain ⟨j,iv,rfl,hl,p⟩:=E.open;obtain ⟨A,c,rfl,x6,q⟩:=p;have xa:=R9_ hs;have xb:(m.i.length:Int)≤1000:=j29_;have Hb0:=hid (Z1_ w m j (.slice A m.i.length c));have g:=Z3_ w m j (.slice A m.i.length c);have W:=g.cell 0;have X:=g.cell 5;have O:most=1:=j29_;subst O;clear g q hl B;unfold boxed at *
  by_cases s:m.t<5
  ·exact x27_
  ·have Y:5≤m.t:=by omega
   clear s;by_cases x:9<m.t
   ·exact x27_
   ·have Z:m.t≤9:=by omega
    clear x;by_cases h3:(0:Int)<(m.i.length:Int)
    ·exact x29_
    ·exact x29_
 | succ k ih =>
  intro m v w r B xh E hs;obtain ⟨j,iv,rfl,hl,p⟩:=E.open;obtain ⟨A,c,rfl,x6,q⟩:=p;have J:=hid q;have V:=hid hs;have K:=hid ih;have xa:=R9_ hs;have xb:(m.i.length:Int)≤1000:=j29_;have Hb0:=hid (Z1_ w m j (.slice A m.i.length c));have G:=hid (Z3_ w m j (.slice A m.i.length c));have W:=G.out.cell 0;have O:(k:Int)+2=r:=j29_;have xi:(k:Int)≤10:=j29_;have xk:IntKind.i64.wrap (r - 1)=(k:Int)+1:=k30_;clear q hl B ih hs;unfold boxed at *
  by_cases s:m.t<5
  ·exact q7_
  ·have Y:5≤m.t:=by omega
   clear s;by_cases x:9<m.t
   ·exact q7_
   ·have Z:m.t≤9:=by omega
    have hd:Hid (dp (k+1) m=1+maxN (m.i.map (dp k))):=by
     show dp (k+1) m=_;rw [dp,if_pos (by unfold nest;omega)]
    clear x
    go_enter Tryz.func101,Tryz.ntmps101
    go_wp2
    go_loopw [5,6] (fun vd F wr=>∃ (d i:Nat),vd=.int .i64 d∧F=.int .i64 i∧i≤m.i.length∧d=1+Wp.most k i m.i∧Blk wr w.heap.size 25 #[.int .i64 m.t,.int .i64 m.n,.int .i64 m.a,.int .i64 m.b,j,.slice A m.i.length c]∧Below w.heap.size w wr) (fun _ F _=>m.i.length - (intOf F).toNat)
    case atStart=>exact ⟨1,0,rfl,rfl,Nat.zero_le _,by rw [Zz3],G.out,Hb0.out⟩
    case round =>
     obtain ⟨d,i,rfl,rfl,p,N,g,M⟩:=hrel;have h:=hid M;have H:=hid g;have X:=g.cell 5;have x7:=Zp7 k i m.i;have xe:(d:Int)≤(k:Int)+2:=j29_;have o:=hid N;clear M g N;by_cases z:i<m.i.length
     ·have xj:(i:Int)<(m.i.length:Int):=by omega
      by_cases xf:(d:Int)<r
      ·obtain ⟨ad,u,hA,hab,R,P⟩:=J.out i z
       subst hA;have xc:=R.below h.out x31_;have Q:=(P.bel h.out).mono h.out.size;have I:=hid (K.out (m.i.getD i default) u wr ((k:Int)+1) rfl j29_ Q (sml_i V.out (Y2_ _ _ _ z)));have C:=Zz5 k i m.i z;have x8:=dp_le k (m.i.getD i default);obtain ⟨x0,x1,x2,x3,x4,x5,rfl,s0,s1,s2,s3,s4,s5⟩:=xc;obtain ⟨D,L⟩:∃ D,dp k (m.i.getD i default)=D:=⟨_,rfl⟩;rw [L] at I C x8;have xd:(D:Int)≤(k:Int)+1:=j29_;have U:=hid C;clear R P Q J K L C x7
       go_wp2_with fail
       refine (I.out).mono ?_;rintro e w1 ⟨rfl,y⟩;have S:=hid (Z0_ h.out (Nat.le_refl _) y);have T:=hid (H.out.below y (by have:=H.out.lt;exact this));clear y;go_wp2
       go_roundw
       case rel =>
        refine ⟨max d (1+D),i+1,?_,y31_,j29_,?_,T.out,S.out⟩
        ·exact congrArg (Value.int .i64) j29_
        ·rw [U.out,o.out];omega
       case measure=>simp [intOf];omega
      ·have xg:r≤(d:Int):=by omega
       go_wp2;go_ret;refine ⟨?_,h.out⟩;have e:dp (k+1) m=d:=by rw [hd.out,← Xj6 k i m.i (by have:=o.out;omega)];exact o.out.symm
       rw [e];rfl
     ·have x9:i=m.i.length:=by omega
      subst x9;go_wp2;go_ret;refine ⟨?_,h.out⟩;have e:dp (k+1) m=d:=by rw [hd.out,← Zc8];exact o.out.symm
      rw [e];rfl
end Wp
end Go.Proofs.YtnbcaibflhgdoaaGreatDoor
