/- Dues of the drawn regions of the document's leads and graph of layer 16 (written by gen_urlead.py). -/
import Derived.Test.YtigobiacbficaaaGreatDoorVTail
import Derived.Test.YtigobiacbficaaaGreatDoorVIndep
import Derived.Test.YtigobiacbficaaaGreatDoorX0B
set_option maxRecDepth 100000
namespace Go.Proofs.YtigobiacbficaaaGreatDoor.Wp
private theorem z2_ {P:Prop} (h:P:=by
 simp only [execOp,Act.eval,e1]
 go_simp
 exact ⟨Below.refl _ _,rfl⟩):P:=h
private theorem q4_ {P:Prop} (h:P:=by
 go_simp
 exact ⟨Below.refl _ _,rfl⟩):P:=h
private theorem j22_ {P:Prop} (h:P:=by
 simp only [execOp]
 go_simp
 exact ⟨Below.refl _ _,(c.hC W hb).mono fun e w1 ⟨_,he,hr1,hb1⟩=>⟨_,he,hb1,hr1⟩⟩):P:=h
private theorem x33_ {P:Prop} (h:P:=by
 refine ⟨Op.move (Operand.tmp 9), 3,by kernel_rfl,fun a W _ _ hout _=>?_⟩
 have e1:=(hout 9 (by kernel_rfl)).trans c.h9
 exact z2_):P:=h
private theorem q35_ {P:Prop} (h:P:=by
 refine ⟨Op.move (Operand.tmp 1), 28,by kernel_rfl,fun a W _ _ hout _=>?_⟩
 have e1:=(hout 1 (by kernel_rfl)).trans c.h1
 exact z2_):P:=h
private theorem y36_ {P:Prop} (h:P:=by
 simp only [execOp,Act.eval,e1,e2]
 exact q4_):P:=h
open Go Go.RowKit
structure ulP where
 (B:Addr)
 (k L d:Nat)
 (c0 c1 c2 c3 c4 c5 ov:Value)
 (x y:Int)
 (C M U:List Int)
 (I:Bool)
noncomputable def ulO:Array Oper:=regOf 4 (Tryz.f51.body.getD .skip)
structure ulC (a0:Act) (w0:World) (x:ulP):Prop where
 h0:a0.tmps.getD 0 undef=.slice (some x.B) x.L x.d
 h1:a0.tmps.getD 1 undef=x.ov
 h2:a0.tmps.getD 2 undef=.int .i64 x.x
 h3:a0.tmps.getD 3 undef=.int .i64 x.y
 h9:a0.tmps.getD 9 undef=.int .i64 (x.k:Int)
 hK1:∀ W,Below w0.heap.size w0 W→W.cell? (x.B.add (x.k * 6))=some x.c0∧W.cell? ⟨(x.B.add (x.k * 6)).block,(x.B.add (x.k * 6)).off+1,none⟩=some x.c1∧W.cell? ⟨(x.B.add (x.k * 6)).block,(x.B.add (x.k * 6)).off+2,none⟩=some x.c2∧W.cell? ⟨(x.B.add (x.k * 6)).block,(x.B.add (x.k * 6)).off+3,none⟩=some x.c3∧W.cell? ⟨(x.B.add (x.k * 6)).block,(x.B.add (x.k * 6)).off+4,none⟩=some x.c4∧W.cell? ⟨(x.B.add (x.k * 6)).block,(x.B.add (x.k * 6)).off+5,none⟩=some x.c5
 hk:(x.k:Int)<(x.L:Int)
 hC:∀ W,Below w0.heap.size w0 W→Calls Tryz.prog 22 #[x.ov,.int .i64 (x.k:Int)] W (Gives W x.C)
 hM:∀ W,Below w0.heap.size w0 W→∀ u,Row W W.heap.size u x.C→∀ v,Row W W.heap.size v [x.y]→Calls Tryz.prog 36 #[u,v] W (Gives W x.M)
 hU:∀ W,Below w0.heap.size w0 W→∀ u,Row W W.heap.size u x.M→∀ v,Row W W.heap.size v [x.x]→Calls Tryz.prog 53 #[u,v] W (Gives W x.U)
 hI:∀ W,Below w0.heap.size w0 W→∀ u,Row W W.heap.size u x.U→Calls Tryz.prog 52 #[.agg #[x.c0,x.c1,x.c2,x.c3,x.c4,x.c5],u] W (Says W x.I)
def ulK (x:ulP):List Kind:=[.eq (.slice (some x.B) x.L x.d),.eq (.int .i64 (x.k:Int)),.eq (.pointer (some (x.B.add (x.k * 6)))),.eq (.agg #[x.c0,x.c1,x.c2,x.c3,x.c4,x.c5]),.eq (x.ov),.eq (.int .i64 (x.k:Int)),.row (x.C),.eq (.int .i64 x.y),.row ([x.y]),.row (x.M),.eq (.int .i64 x.x),.row ([x.x]),.row (x.U),.eq (.bool x.I),.eq (.bool x.I)]
theorem ul_0 {d:Act} {w0:World} {x:ulP} (c:ulC d w0 x):ObW Tryz.prog ulO (ulK x) d w0 0:=by
 refine ⟨Op.move (Operand.tmp 0), 23,z40_,fun a W _ _ e _=>?_⟩;have e1:=(e 0 z40_).trans c.h0;exact z2_
theorem ul_1 {d:Act} {w0:World} {x:ulP} (c:ulC d w0 x):ObW Tryz.prog ulO (ulK x) d w0 1:=x33_
theorem ul_2 {e:Act} {w0:World} {x:ulP} (c:ulC e w0 x):ObW Tryz.prog ulO (ulK x) e w0 2:=by
 refine ⟨Op.indexAddr 23 (Operand.tmp 29) (Operand.tmp 30), 0,z40_,fun a W _ _ _ f=>?_⟩;have e1:=depE f 0 29 (.slice (some x.B) x.L x.d);have e2:=depE f 1 30 (.int .i64 (x.k:Int));have g:=c.hk;exact y36_
theorem ul_3 {d:Act} {w0:World} {x:ulP} (c:ulC d w0 x):ObW Tryz.prog ulO (ulK x) d w0 3:=by
 refine ⟨Op.load 25 (Operand.tmp 31), 25,z40_,fun a W _ hb _ e=>?_⟩;have e1:=depE e 2 31 (.pointer (some (x.B.add (x.k * 6))));obtain ⟨f,g,h,j,m,o⟩:=c.hK1 W hb;exact z2_
theorem ul_4 {d:Act} {w0:World} {x:ulP} (c:ulC d w0 x):ObW Tryz.prog ulO (ulK x) d w0 4:=q35_
theorem ul_5 {d:Act} {w0:World} {x:ulP} (c:ulC d w0 x):ObW Tryz.prog ulO (ulK x) d w0 5:=x33_
theorem ul_6 {d:Act} {w0:World} {x:ulP} (c:ulC d w0 x):ObW Tryz.prog ulO (ulK x) d w0 6:=by
 refine ⟨Op.call { callee:=Callee.value (Operand.func 22),args:=#[Operand.tmp 33,Operand.tmp 34],argTypes:=#[28, 3] }, 28,z40_,fun a W _ hb _ g=>?_⟩;have h:=depE g 4 33 (x.ov);have j:=depE g 5 34 (.int .i64 (x.k:Int));exact j22_
theorem ul_7 {d:Act} {w0:World} {x:ulP} (c:ulC d w0 x):ObW Tryz.prog ulO (ulK x) d w0 7:=by
 refine ⟨Op.move (Operand.tmp 3), 3,z40_,fun a W _ _ e _=>?_⟩;have e1:=(e 3 z40_).trans c.h3;exact z2_
theorem ul_8 {c:Act} {w0:World} {x:ulP} (_c:ulC c w0 x):ObW Tryz.prog ulO (ulK x) c w0 8:=by
 refine ⟨Op.buildSlice 28 1 #[(0,Operand.tmp 36)], 28,z40_,fun a W _ _ _ e=>?_⟩;have d:=depE e 7 36 (.int .i64 x.y);have f:a.tmps[36]?.getD undef=.int .i64 x.y:=by simpa using d
 simp only [execOp,Act.eval];go_simp;exact ⟨(Below.refl _ W).alloc (Nat.le_refl _) _,Row.here (Row.lit1 W (x.y))⟩
theorem ul_9 {d:Act} {w0:World} {x:ulP} (c:ulC d w0 x):ObW Tryz.prog ulO (ulK x) d w0 9:=by
 refine ⟨Op.call { callee:=Callee.value (Operand.func 36),args:=#[Operand.tmp 35,Operand.tmp 37],argTypes:=#[28, 28] }, 28,z40_,fun a W _ hb _ j=>?_⟩;have g:=depR j 6 35 (x.C);have h:=depR j 8 37 ([x.y]);obtain ⟨r,p⟩:∃ v,a.tmps.getD 35 undef=v:=⟨_,rfl⟩;rw [p] at g;obtain ⟨s,q⟩:∃ v,a.tmps.getD 37 undef=v:=⟨_,rfl⟩;rw [q] at h;simp only [execOp];go_simp;exact ⟨Below.refl _ _,(c.hM W hb r g s h).mono fun e u ⟨_,m,o,k⟩=>⟨_,m,k,o⟩⟩
theorem ul_10 {d:Act} {w0:World} {x:ulP} (c:ulC d w0 x):ObW Tryz.prog ulO (ulK x) d w0 10:=by
 refine ⟨Op.move (Operand.tmp 2), 3,z40_,fun a W _ _ e _=>?_⟩;have e1:=(e 2 z40_).trans c.h2;exact z2_
theorem ul_11 {c:Act} {w0:World} {x:ulP} (_c:ulC c w0 x):ObW Tryz.prog ulO (ulK x) c w0 11:=by
 refine ⟨Op.buildSlice 28 1 #[(0,Operand.tmp 39)], 28,z40_,fun a W _ _ _ e=>?_⟩;have d:=depE e 10 39 (.int .i64 x.x);have f:a.tmps[39]?.getD undef=.int .i64 x.x:=by simpa using d
 simp only [execOp,Act.eval];go_simp;exact ⟨(Below.refl _ W).alloc (Nat.le_refl _) _,Row.here (Row.lit1 W (x.x))⟩
theorem ul_12 {d:Act} {w0:World} {x:ulP} (c:ulC d w0 x):ObW Tryz.prog ulO (ulK x) d w0 12:=by
 refine ⟨Op.call { callee:=Callee.value (Operand.func 53),args:=#[Operand.tmp 38,Operand.tmp 40],argTypes:=#[28, 28] }, 28,z40_,fun a W _ hb _ j=>?_⟩;have g:=depR j 9 38 (x.M);have h:=depR j 11 40 ([x.x]);obtain ⟨r,p⟩:∃ v,a.tmps.getD 38 undef=v:=⟨_,rfl⟩;rw [p] at g;obtain ⟨s,q⟩:∃ v,a.tmps.getD 40 undef=v:=⟨_,rfl⟩;rw [q] at h;simp only [execOp];go_simp;exact ⟨Below.refl _ _,(c.hU W hb r g s h).mono fun e u ⟨_,m,o,k⟩=>⟨_,m,k,o⟩⟩
theorem ul_13 {d:Act} {w0:World} {x:ulP} (c:ulC d w0 x):ObW Tryz.prog ulO (ulK x) d w0 13:=by
 refine ⟨Op.call { callee:=Callee.value (Operand.func 52),args:=#[Operand.tmp 32,Operand.tmp 41],argTypes:=#[25, 28] }, 4,z40_,fun a W _ hb _ h=>?_⟩;have p:=depE h 3 32 (.agg #[x.c0,x.c1,x.c2,x.c3,x.c4,x.c5]);have g:=depR h 12 41 (x.U);obtain ⟨o,m⟩:∃ v,a.tmps.getD 41 undef=v:=⟨_,rfl⟩;rw [m] at g;simp only [execOp];go_simp;exact ⟨Below.refl _ _,(c.hI W hb o g).mono fun e q ⟨k,j⟩=>⟨_,k,j,rfl⟩⟩
theorem ul_14 {c:Act} {w0:World} {x:ulP} (_c:ulC c w0 x):ObW Tryz.prog ulO (ulK x) c w0 14:=by
 refine ⟨Op.assign (Operand.tmp 42), 4,z40_,fun a W _ _ _ d=>?_⟩;have e1:=depE d 13 42 (.bool x.I);exact z2_
theorem Jq9 {d:Act} {w0:World} {x:ulP} (c:ulC d w0 x):∀ j,j<ulO.size→ObW Tryz.prog ulO (ulK x) d w0 j:=by
 rw [show ulO.size=15 by kernel_rfl];have e:∀ j,j<0→ObW Tryz.prog ulO (ulK x) d w0 j:=fun j z=>absurd z (Nat.not_lt_zero j);have f:=Y3_ e (ul_0 c);clear e;have p:=Y3_ f (ul_1 c);clear f;have q:=Y3_ p (ul_2 c);clear p;have r:=Y3_ q (ul_3 c);clear q;have s:=Y3_ r (ul_4 c);clear r;have u:=Y3_ s (ul_5 c);clear s;have v:=Y3_ u (ul_6 c);clear u;have w:=Y3_ v (ul_7 c);clear v;have y:=Y3_ w (ul_8 c);clear w;have g:=Y3_ y (ul_9 c);clear y;have h:=Y3_ g (ul_10 c);clear g;have k:=Y3_ h (ul_11 c);clear h;have m:=Y3_ k (ul_12 c);clear k;have o:=Y3_ m (ul_13 c);clear m;have B:=Y3_ o (ul_14 c);clear o;exact B
structure urP where
 (B:Addr)
 (k L d:Nat)
 (c0 c1 c2 c3 c4 c5:Value)
 (O:Addr)
 (n e z:Nat)
 (t:Int)
 (C U:List Int)
 (I:Bool)
noncomputable def urO:Array Oper:=regOf 14 (Tryz.f35.body.getD .skip)
structure urC (a0:Act) (w0:World) (x:urP):Prop where
 h0:a0.tmps.getD 0 undef=.slice (some x.B) x.L x.d
 h1:a0.tmps.getD 1 undef=.slice (some x.O) x.n x.e
 h6:a0.tmps.getD 6 undef=.int .i64 (x.z:Int)
 h9:a0.tmps.getD 9 undef=.int .i64 (x.k:Int)
 hK1:∀ W,Below w0.heap.size w0 W→W.cell? (x.B.add (x.k * 6))=some x.c0∧W.cell? ⟨(x.B.add (x.k * 6)).block,(x.B.add (x.k * 6)).off+1,none⟩=some x.c1∧W.cell? ⟨(x.B.add (x.k * 6)).block,(x.B.add (x.k * 6)).off+2,none⟩=some x.c2∧W.cell? ⟨(x.B.add (x.k * 6)).block,(x.B.add (x.k * 6)).off+3,none⟩=some x.c3∧W.cell? ⟨(x.B.add (x.k * 6)).block,(x.B.add (x.k * 6)).off+4,none⟩=some x.c4∧W.cell? ⟨(x.B.add (x.k * 6)).block,(x.B.add (x.k * 6)).off+5,none⟩=some x.c5
 hK2:∀ W,Below w0.heap.size w0 W→W.cell? (x.O.add x.z)=some (.int .i64 x.t)
 hk:(x.k:Int)<(x.L:Int)
 hz:(x.z:Int)<(x.n:Int)
 hC:∀ W,Below w0.heap.size w0 W→Calls Tryz.prog 22 #[.slice (some x.O) x.n x.e,.int .i64 (x.k:Int)] W (Gives W x.C)
 hU:∀ W,Below w0.heap.size w0 W→∀ u,Row W W.heap.size u x.C→∀ v,Row W W.heap.size v [(x.z:Int)]→Calls Tryz.prog 53 #[u,v] W (Gives W x.U)
 hI:∀ W,Below w0.heap.size w0 W→∀ u,Row W W.heap.size u x.U→Calls Tryz.prog 52 #[.agg #[x.c0,x.c1,x.c2,x.c3,x.c4,x.c5],u] W (Says W x.I)
def urK (x:urP):List Kind:=[.eq (.slice (some x.O) x.n x.e),.eq (.int .i64 (x.z:Int)),.eq (.pointer (some (x.O.add x.z))),.eq (.int .i64 x.t),.eq (.int .i64 (x.k:Int)),.eq (.bool (x.t != (x.k:Int))),.eq (.bool (x.t != (x.k:Int))),.eq (.slice (some x.B) x.L x.d),.eq (.int .i64 (x.k:Int)),.eq (.pointer (some (x.B.add (x.k * 6)))),.eq (.agg #[x.c0,x.c1,x.c2,x.c3,x.c4,x.c5]),.eq (.slice (some x.O) x.n x.e),.eq (.int .i64 (x.k:Int)),.row (x.C),.eq (.int .i64 (x.z:Int)),.row ([(x.z:Int)]),.row (x.U),.eq (.bool x.I),.eq (.bool ((x.t != (x.k:Int)) && x.I))]
theorem ur_0 {d:Act} {w0:World} {x:urP} (c:urC d w0 x):ObW Tryz.prog urO (urK x) d w0 0:=q35_
theorem ur_1 {d:Act} {w0:World} {x:urP} (c:urC d w0 x):ObW Tryz.prog urO (urK x) d w0 1:=by
 refine ⟨Op.move (Operand.tmp 6), 3,z40_,fun a W _ _ e _=>?_⟩;have e1:=(e 6 z40_).trans c.h6;exact z2_
theorem ur_2 {d:Act} {w0:World} {x:urP} (c:urC d w0 x):ObW Tryz.prog urO (urK x) d w0 2:=by
 refine ⟨Op.indexAddr 28 (Operand.tmp 40) (Operand.tmp 41), 0,z40_,fun a W _ _ _ f=>?_⟩;have e1:=depE f 0 40 (.slice (some x.O) x.n x.e);have e2:=depE f 1 41 (.int .i64 (x.z:Int));have g:=c.hz;exact y36_
theorem ur_3 {d:Act} {w0:World} {x:urP} (c:urC d w0 x):ObW Tryz.prog urO (urK x) d w0 3:=by
 refine ⟨Op.load 3 (Operand.tmp 42), 3,z40_,fun a W _ hb _ e=>?_⟩;have e1:=depE e 2 42 (.pointer (some (x.O.add x.z)));have f:=c.hK2 W hb;exact z2_
theorem ur_4 {d:Act} {w0:World} {x:urP} (c:urC d w0 x):ObW Tryz.prog urO (urK x) d w0 4:=x33_
theorem ur_5 {c:Act} {w0:World} {x:urP} (_c:urC c w0 x):ObW Tryz.prog urO (urK x) c w0 5:=by
 refine ⟨Op.binOp BinOp.neq 3 (Operand.tmp 43) (Operand.tmp 44) 3, 4,z40_,fun a W _ _ _ d=>?_⟩;have e1:=depE d 3 43 (.int .i64 x.t);have e2:=depE d 4 44 (.int .i64 (x.k:Int));exact y36_
theorem ur_6 {c:Act} {w0:World} {x:urP} (_c:urC c w0 x):ObW Tryz.prog urO (urK x) c w0 6:=by
 refine ⟨Op.move (Operand.tmp 45), 4,z40_,fun a W _ _ _ d=>?_⟩;have e1:=depE d 5 45 (.bool (x.t != (x.k:Int)));exact z2_
theorem ur_7 {d:Act} {w0:World} {x:urP} (c:urC d w0 x):ObW Tryz.prog urO (urK x) d w0 7:=by
 refine ⟨Op.move (Operand.tmp 0), 23,z40_,fun a W f _ e _=>?_⟩;rw [show wantK urO (urK x) 7=((x.t != (x.k:Int))==true) from by kernel_rfl] at f;have e1:=(e 0 z40_).trans c.h0;exact z2_
theorem ur_8 {d:Act} {w0:World} {x:urP} (c:urC d w0 x):ObW Tryz.prog urO (urK x) d w0 8:=by
 refine ⟨Op.move (Operand.tmp 9), 3,z40_,fun a W f _ e _=>?_⟩;rw [show wantK urO (urK x) 8=((x.t != (x.k:Int))==true) from by kernel_rfl] at f;have e1:=(e 9 z40_).trans c.h9;exact z2_
theorem ur_9 {f:Act} {w0:World} {x:urP} (c:urC f w0 x):ObW Tryz.prog urO (urK x) f w0 9:=by
 refine ⟨Op.indexAddr 23 (Operand.tmp 47) (Operand.tmp 48), 0,z40_,fun a W e _ _ g=>?_⟩;rw [show wantK urO (urK x) 9=((x.t != (x.k:Int))==true) from by kernel_rfl] at e;have e1:=depC e g 7 47 (.slice (some x.B) x.L x.d);have e2:=depC e g 8 48 (.int .i64 (x.k:Int));have h:=c.hk;exact y36_
theorem ur_10 {d:Act} {w0:World} {x:urP} (c:urC d w0 x):ObW Tryz.prog urO (urK x) d w0 10:=by
 refine ⟨Op.load 25 (Operand.tmp 49), 25,z40_,fun a W e hb _ f=>?_⟩;rw [show wantK urO (urK x) 10=((x.t != (x.k:Int))==true) from by kernel_rfl] at e;have e1:=depC e f 9 49 (.pointer (some (x.B.add (x.k * 6))));obtain ⟨g,h,j,m,o,p⟩:=c.hK1 W hb;exact z2_
theorem ur_11 {d:Act} {w0:World} {x:urP} (c:urC d w0 x):ObW Tryz.prog urO (urK x) d w0 11:=by
 refine ⟨Op.move (Operand.tmp 1), 28,z40_,fun a W f _ e _=>?_⟩;rw [show wantK urO (urK x) 11=((x.t != (x.k:Int))==true) from by kernel_rfl] at f;have e1:=(e 1 z40_).trans c.h1;exact z2_
theorem ur_12 {d:Act} {w0:World} {x:urP} (c:urC d w0 x):ObW Tryz.prog urO (urK x) d w0 12:=by
 refine ⟨Op.move (Operand.tmp 9), 3,z40_,fun a W f _ e _=>?_⟩;rw [show wantK urO (urK x) 12=((x.t != (x.k:Int))==true) from by kernel_rfl] at f;have e1:=(e 9 z40_).trans c.h9;exact z2_
theorem ur_13 {g:Act} {w0:World} {x:urP} (c:urC g w0 x):ObW Tryz.prog urO (urK x) g w0 13:=by
 refine ⟨Op.call { callee:=Callee.value (Operand.func 22),args:=#[Operand.tmp 51,Operand.tmp 52],argTypes:=#[28, 3] }, 28,z40_,fun a W d hb _ h=>?_⟩;rw [show wantK urO (urK x) 13=((x.t != (x.k:Int))==true) from by kernel_rfl] at d;have j:=depC d h 11 51 (.slice (some x.O) x.n x.e);have m:=depC d h 12 52 (.int .i64 (x.k:Int));exact j22_
theorem ur_14 {d:Act} {w0:World} {x:urP} (c:urC d w0 x):ObW Tryz.prog urO (urK x) d w0 14:=by
 refine ⟨Op.move (Operand.tmp 6), 3,z40_,fun a W f _ e _=>?_⟩;rw [show wantK urO (urK x) 14=((x.t != (x.k:Int))==true) from by kernel_rfl] at f;have e1:=(e 6 z40_).trans c.h6;exact z2_
theorem ur_15 {c:Act} {w0:World} {x:urP} (_c:urC c w0 x):ObW Tryz.prog urO (urK x) c w0 15:=by
 refine ⟨Op.buildSlice 28 1 #[(0,Operand.tmp 54)], 28,z40_,fun a W d _ _ f=>?_⟩;rw [show wantK urO (urK x) 15=((x.t != (x.k:Int))==true) from by kernel_rfl] at d;have e:=depC d f 14 54 (.int .i64 (x.z:Int));have g:a.tmps[54]?.getD undef=.int .i64 (x.z:Int):=by simpa using e
 simp only [execOp,Act.eval];go_simp;exact ⟨(Below.refl _ W).alloc (Nat.le_refl _) _,Row.here (Row.lit1 W ((x.z:Int)))⟩
theorem ur_16 {g:Act} {w0:World} {x:urP} (c:urC g w0 x):ObW Tryz.prog urO (urK x) g w0 16:=by
 refine ⟨Op.call { callee:=Callee.value (Operand.func 53),args:=#[Operand.tmp 53,Operand.tmp 55],argTypes:=#[28, 28] }, 28,z40_,fun a W d hb _ m=>?_⟩;rw [show wantK urO (urK x) 16=((x.t != (x.k:Int))==true) from by kernel_rfl] at d;have h:=depD d m 13 53 (x.C);have j:=depD d m 15 55 ([(x.z:Int)]);obtain ⟨u,r⟩:∃ v,a.tmps.getD 53 undef=v:=⟨_,rfl⟩;rw [r] at h;obtain ⟨w,s⟩:∃ v,a.tmps.getD 55 undef=v:=⟨_,rfl⟩;rw [s] at j;simp only [execOp];go_simp;exact ⟨Below.refl _ _,(c.hU W hb u h w j).mono fun e y ⟨_,p,q,o⟩=>⟨_,p,o,q⟩⟩
theorem ur_17 {g:Act} {w0:World} {x:urP} (c:urC g w0 x):ObW Tryz.prog urO (urK x) g w0 17:=by
 refine ⟨Op.call { callee:=Callee.value (Operand.func 52),args:=#[Operand.tmp 50,Operand.tmp 56],argTypes:=#[25, 28] }, 4,z40_,fun a W d hb _ j=>?_⟩;rw [show wantK urO (urK x) 17=((x.t != (x.k:Int))==true) from by kernel_rfl] at d;have r:=depC d j 10 50 (.agg #[x.c0,x.c1,x.c2,x.c3,x.c4,x.c5]);have h:=depD d j 16 56 (x.U);obtain ⟨q,p⟩:∃ v,a.tmps.getD 56 undef=v:=⟨_,rfl⟩;rw [p] at h;simp only [execOp];go_simp;exact ⟨Below.refl _ _,(c.hI W hb q h).mono fun e s ⟨o,m⟩=>⟨_,o,m,rfl⟩⟩
theorem ur_18 {d:Act} {w0:World} {x:urP} (_c:urC d w0 x):ObW Tryz.prog urO (urK x) d w0 18:=by
 refine ⟨Op.pick (Operand.tmp 46) (Operand.tmp 57) (Operand.const (Value.bool false)), 4,z40_,fun a W _ _ _ e=>?_⟩;have g:=depE e 6 46 (.bool (x.t != (x.k:Int)));have c:=e 17 57 z40_ z40_;rw [show ek urO (urK x) 17=if ((x.t != (x.k:Int))==true)=true then .eq (.bool x.I) else .eq undef from by kernel_rfl] at c;show Yb6 _ _ _ (Kind.holds (.eq (.bool ((x.t != (x.k:Int)) && x.I))));generalize (x.t != (x.k:Int))=p at *
 generalize x.I=q at *
 obtain ⟨v,f⟩:∃ v,a.tmps.getD 57 undef=v:=⟨_,rfl⟩;rw [f] at c;cases p
 all_goals
  simp at c;have c:v=_:=c;subst c;simp only [execOp,Act.eval,g,f];go_simp;exact ⟨Below.refl _ _,rfl⟩
theorem Ja0 {d:Act} {w0:World} {x:urP} (c:urC d w0 x):∀ j,j<urO.size→ObW Tryz.prog urO (urK x) d w0 j:=by
 rw [show urO.size=19 by kernel_rfl];have e:∀ j,j<0→ObW Tryz.prog urO (urK x) d w0 j:=fun j E=>absurd E (Nat.not_lt_zero j);have f:=Y3_ e (ur_0 c);clear e;have u:=Y3_ f (ur_1 c);clear f;have v:=Y3_ u (ur_2 c);clear u;have w:=Y3_ v (ur_3 c);clear v;have y:=Y3_ w (ur_4 c);clear w;have z:=Y3_ y (ur_5 c);clear y;have B:=Y3_ z (ur_6 c);clear z;have C:=Y3_ B (ur_7 c);clear B;have D:=Y3_ C (ur_8 c);clear C;have g:=Y3_ D (ur_9 c);clear D;have h:=Y3_ g (ur_10 c);clear g;have k:=Y3_ h (ur_11 c);clear h;have m:=Y3_ k (ur_12 c);clear k;have o:=Y3_ m (ur_13 c);clear m;have p:=Y3_ o (ur_14 c);clear o;have q:=Y3_ p (ur_15 c);clear p;have r:=Y3_ q (ur_16 c);clear q;have s:=Y3_ r (ur_17 c);clear r;have F:=Y3_ s (ur_18 c);clear s;exact F
end Go.Proofs.YtigobiacbficaaaGreatDoor.Wp
