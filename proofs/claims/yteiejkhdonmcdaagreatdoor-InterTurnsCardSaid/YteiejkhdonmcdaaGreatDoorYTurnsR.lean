/- InterTurns' drawn region, operation by operation (written by gen_yturns.py). -/
import Derived.Test.YteiejkhdonmcdaaGreatDoorVTail
import Derived.Test.YteiejkhdonmcdaaGreatDoorZA
import Derived.Test.YteiejkhdonmcdaaGreatDoorZO
import Derived.Test.YteiejkhdonmcdaaGreatDoorYC
import Derived.Test.YteiejkhdonmcdaaGreatDoorX0B
set_option maxRecDepth 100000
namespace Go.Proofs.YteiejkhdonmcdaaGreatDoor.Wp
private theorem x4_ {P:Prop} (h:P:=by
 go_simp
 exact ⟨Below.refl _ _,rfl⟩):P:=h
private theorem x19_ {P:Prop} (h:P:=by
 simp only [execOp]
 go_simp
 exact ⟨Below.refl _ _,(c.hL W hb).mono fun e w1 ⟨_,he,hr1,hb1⟩=>⟨_,he,hb1,hr1⟩⟩):P:=h
private theorem y29_ {P:Prop} (h:P:=by
 refine ⟨Op.load 25 (Operand.tmp 2), 25,by kernel_rfl,fun a W _ hb hout _=>?_⟩
 have e2:a.tmps.getD 2 undef=.pointer (some ⟨x.B1,0,none⟩):=(hout 2 (by kernel_rfl)).trans c.h2
 obtain ⟨k0,k1,k2,k3,k4,k5⟩:=c.hK1 W hb
 simp only [execOp,Act.eval,e2]
 exact x4_):P:=h
end Go.Proofs.YteiejkhdonmcdaaGreatDoor.Wp
namespace Go.Proofs.YteiejkhdonmcdaaGreatDoor
open Go Go.RowKit
namespace Wp
structure ytP where
 (B1:Nat)
 (c0 c1 c2 c3 c4 c5:Value)
 (L:List Int)
 (n r:Int)
noncomputable def ytO:Array Oper:=regOf 7 (Tryz.f11.body.getD .skip)
structure ytC (a0:Act) (w0:World) (x:ytP):Prop where
 h2:a0.tmps.getD 2 undef=.pointer (some ⟨x.B1,0,none⟩)
 hK1:∀ W,Below w0.heap.size w0 W→W.cell? ⟨x.B1,0,none⟩=some x.c0∧W.cell? ⟨x.B1,1,none⟩=some x.c1∧W.cell? ⟨x.B1,2,none⟩=some x.c2∧W.cell? ⟨x.B1,3,none⟩=some x.c3∧W.cell? ⟨x.B1,4,none⟩=some x.c4∧W.cell? ⟨x.B1,5,none⟩=some x.c5
 hN:∀ W,Below w0.heap.size w0 W→W.cell? ⟨x.B1,1,none⟩=some (.int .i64 x.n)
 hL:∀ W,Below w0.heap.size w0 W→Calls Tryz.prog 30 #[.int .i64 x.n] W (Gives W x.L)
 hR:∀ W,Below w0.heap.size w0 W→∀ u,Row W W.heap.size u x.L→Calls Tryz.prog 31 #[.agg #[x.c0,x.c1,x.c2,x.c3,x.c4,x.c5],u] W (Tells W x.r)
def ytK (x:ytP):List Kind:=[.eq (.agg #[x.c0,x.c1,x.c2,x.c3,x.c4,x.c5]),.eq (.pointer (some ⟨x.B1,1,none⟩)),.eq (.int .i64 x.n),.row (x.L),.eq (.int .i64 x.r),.eq (.int .i64 x.r)]
theorem yt_0 {d:Act} {w0:World} {x:ytP} (c:ytC d w0 x):ObW Tryz.prog ytO (ytK x) d w0 0:=y29_
theorem yt_1 {d:Act} {w0:World} {x:ytP} (c:ytC d w0 x):ObW Tryz.prog ytO (ytK x) d w0 1:=by
 refine ⟨Op.fieldAddr 25 (Operand.tmp 2) 1, 0,q36_,fun a W _ _ f _=>?_⟩;have e:a.tmps.getD 2 undef=.pointer (some ⟨x.B1,0,none⟩):=(f 2 q36_).trans c.h2;simp only [execOp,Act.eval,e];exact x4_
theorem yt_2 {e:Act} {w0:World} {x:ytP} (c:ytC e w0 x):ObW Tryz.prog ytO (ytK x) e w0 2:=by
 refine ⟨Op.load 3 (Operand.tmp 70), 3,q36_,fun a W _ hb _ f=>?_⟩;have d:=f 1 70 q36_ q36_;rw [show ek ytO (ytK x) 1=.eq (.pointer (some ⟨x.B1,1,none⟩)) from by kernel_rfl] at d;have d:a.tmps.getD 70 undef=.pointer (some ⟨x.B1,1,none⟩):=d;have g:=c.hN W hb;simp only [execOp,Act.eval,d];exact x4_
theorem yt_3 {g:Act} {w0:World} {x:ytP} (c:ytC g w0 x):ObW Tryz.prog ytO (ytK x) g w0 3:=by
 refine ⟨Op.call { callee:=Callee.value (Operand.func 30),args:=#[Operand.tmp 71],argTypes:=#[3] }, 26,q36_,fun a W _ hb _ h=>?_⟩;have d:=h 2 71 q36_ q36_;rw [show ek ytO (ytK x) 2=.eq (.int .i64 x.n) from by kernel_rfl] at d;have d:a.tmps.getD 71 undef=.int .i64 x.n:=d;exact x19_
theorem yt_4 {h:Act} {w0:World} {x:ytP} (c:ytC h w0 x):ObW Tryz.prog ytO (ytK x) h w0 4:=by
 refine ⟨Op.call { callee:=Callee.value (Operand.func 31),args:=#[Operand.tmp 69,Operand.tmp 72],argTypes:=#[25, 26] }, 3,q36_,fun a W _ hb _ j=>?_⟩;have g:=j 0 69 q36_ q36_;rw [show ek ytO (ytK x) 0=.eq (.agg #[x.c0,x.c1,x.c2,x.c3,x.c4,x.c5]) from by kernel_rfl] at g;have g:a.tmps.getD 69 undef=.agg #[x.c0,x.c1,x.c2,x.c3,x.c4,x.c5]:=g;have d:=j 3 72 q36_ q36_;rw [show ek ytO (ytK x) 3=.row (x.L) from by kernel_rfl] at d;have d:Row W W.heap.size (a.tmps.getD 72 undef) (x.L):=d;obtain ⟨p,o⟩:∃ v,a.tmps.getD 72 undef=v:=⟨_,rfl⟩;rw [o] at d;simp only [execOp];go_simp;exact ⟨Below.refl _ _,(c.hR W hb p d).mono fun e q ⟨m,k⟩=>⟨_,m,k,rfl⟩⟩
theorem yt_5 {d:Act} {w0:World} {x:ytP} (_c:ytC d w0 x):ObW Tryz.prog ytO (ytK x) d w0 5:=by
 refine ⟨Op.assign (Operand.tmp 73), 3,q36_,fun a W _ _ _ e=>?_⟩;have c:=e 4 73 q36_ q36_;rw [show ek ytO (ytK x) 4=.eq (.int .i64 x.r) from by kernel_rfl] at c;have c:a.tmps.getD 73 undef=.int .i64 x.r:=c;simp only [execOp,Act.eval,c];exact x4_
theorem Vk8 {d:Act} {w0:World} {x:ytP} (c:ytC d w0 x):∀ j,j<ytO.size→ObW Tryz.prog ytO (ytK x) d w0 j:=by
 rw [show ytO.size=6 by kernel_rfl];have e:∀ j,j<0→ObW Tryz.prog ytO (ytK x) d w0 j:=fun j o=>absurd o (Nat.not_lt_zero j);have f:=Y1_ e (yt_0 c);clear e;have g:=Y1_ f (yt_1 c);clear f;have h:=Y1_ g (yt_2 c);clear g;have k:=Y1_ h (yt_3 c);clear h;have m:=Y1_ k (yt_4 c);clear k;have p:=Y1_ m (yt_5 c);clear m;exact p
end Wp
end Go.Proofs.YteiejkhdonmcdaaGreatDoor
