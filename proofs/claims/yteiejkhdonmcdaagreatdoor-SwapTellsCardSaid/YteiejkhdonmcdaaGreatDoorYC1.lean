/- The drawn regions of the document's Stands, adds, Graph, and of SwapTells, operation by operation. -/
import Derived.Test.YteiejkhdonmcdaaGreatDoorYReg
import Derived.Test.YteiejkhdonmcdaaGreatDoorVTail
import Derived.Test.YteiejkhdonmcdaaGreatDoorZA
import Derived.Test.YteiejkhdonmcdaaGreatDoorX1B
import Derived.Test.YteiejkhdonmcdaaGreatDoorX1C
set_option maxHeartbeats 16000000
set_option maxRecDepth 100000
open Go.Lib (hid)
namespace Go.Proofs.YteiejkhdonmcdaaGreatDoor.Wp
open Go Go.RowKit
section
variable {ops:Array Oper} {ks:List Kind} {i:Nat} {a:Act} {W:World}
theorem depE (hd:∀ j d,Region.waitsFor .any ops i j=true→dstOf ops j=some d→(ek ops ks j).holds (a.tmps.getD d undef) W) (j t:Nat) (v:Value)
  (c:Region.waitsFor .any ops i j=true:=by kernel_rfl) (e:dstOf ops j=some t:=by kernel_rfl) (h3:ek ops ks j=.eq v:=by kernel_rfl):a.tmps.getD t undef=v:=by
 have h:=hd j t c e;rw [h3] at h;exact h
theorem depR (hd:∀ j d,Region.waitsFor .any ops i j=true→dstOf ops j=some d→(ek ops ks j).holds (a.tmps.getD d undef) W) (j t:Nat) (l:List Int)
  (c:Region.waitsFor .any ops i j=true:=by kernel_rfl) (e:dstOf ops j=some t:=by kernel_rfl) (h3:ek ops ks j=.row l:=by kernel_rfl):Row W W.heap.size (a.tmps.getD t undef) l:=by
 have h:=hd j t c e;rw [h3] at h;exact h
theorem depC {c:Bool} (g:c=true) (hd:∀ j d,Region.waitsFor .any ops i j=true→dstOf ops j=some d→(ek ops ks j).holds (a.tmps.getD d undef) W) (j t:Nat) (v:Value)
  (e:Region.waitsFor .any ops i j=true:=by kernel_rfl) (f:dstOf ops j=some t:=by kernel_rfl) (h3:ek ops ks j=if c=true then .eq v else .eq undef:=by kernel_rfl):a.tmps.getD t undef=v:=by
 have h:=hd j t e f;rw [h3,if_pos g] at h;exact h
theorem depD {c:Bool} (g:c=true) (hd:∀ j d,Region.waitsFor .any ops i j=true→dstOf ops j=some d→(ek ops ks j).holds (a.tmps.getD d undef) W) (j t:Nat) (l:List Int)
  (e:Region.waitsFor .any ops i j=true:=by kernel_rfl) (f:dstOf ops j=some t:=by kernel_rfl) (h3:ek ops ks j=if c=true then .row l else .eq undef:=by kernel_rfl):Row W W.heap.size (a.tmps.getD t undef) l:=by
 have h:=hd j t e f;rw [h3,if_pos g] at h;exact h
end
end Go.Proofs.YteiejkhdonmcdaaGreatDoor.Wp
namespace Go.Proofs.YteiejkhdonmcdaaGreatDoor
open Go Go.RowKit
namespace Wp
structure ysP where
 (B1:Nat)
 (c0 c1 c2 c3 c4 c5 sv:Value)
 (s:List Int)
 (x y:Int)
 (P Q I:Bool)
noncomputable def ysO:Array Oper:=regOf 1 (Tryz.f51.body.getD .skip)
structure ysC (a0:Act) (w0:World) (x:ysP):Prop where
 h1:a0.tmps.getD 1 undef=x.sv
 h2:a0.tmps.getD 2 undef=.int .i64 x.x
 h3:a0.tmps.getD 3 undef=.int .i64 x.y
 h4:a0.tmps.getD 4 undef=.pointer (some ⟨x.B1,0,none⟩)
 hK1:∀ W,Below w0.heap.size w0 W→W.cell? ⟨x.B1,0,none⟩=some x.c0∧W.cell? ⟨x.B1,1,none⟩=some x.c1∧W.cell? ⟨x.B1,2,none⟩=some x.c2∧W.cell? ⟨x.B1,3,none⟩=some x.c3∧W.cell? ⟨x.B1,4,none⟩=some x.c4∧W.cell? ⟨x.B1,5,none⟩=some x.c5
 hP:∀ W,Below w0.heap.size w0 W→Calls Tryz.prog 33 #[x.sv,.int .i64 x.y] W (Says W x.P)
 hQ:∀ W,Below w0.heap.size w0 W→Calls Tryz.prog 33 #[x.sv,.int .i64 x.x] W (Says W x.Q)
 hMi:∀ W,Below w0.heap.size w0 W→∀ u,Row W W.heap.size u [x.y]→Calls Tryz.prog 29 #[x.sv,u] W (Gives W (Z5_ x.s [x.y]))
 hU:∀ W,Below w0.heap.size w0 W→∀ u,Row W W.heap.size u (Z5_ x.s [x.y])→∀ v,Row W W.heap.size v [x.x]→Calls Tryz.prog 43 #[u,v] W (Gives W (Y1_ (Z5_ x.s [x.y]) [x.x]))
 hI:∀ W,Below w0.heap.size w0 W→∀ u,Row W W.heap.size u (Y1_ (Z5_ x.s [x.y]) [x.x])→Calls Tryz.prog 26 #[.agg #[x.c0,x.c1,x.c2,x.c3,x.c4,x.c5],u] W (Says W x.I)
def ysK (x:ysP):List Kind:=[.eq (x.sv),.eq (.int .i64 x.y),.eq (.bool x.P),.eq (.bool x.P),.eq (x.sv),.eq (.int .i64 x.x),.eq (.bool x.Q),.eq (.bool (!x.Q)),.eq (.bool (x.P && (!x.Q))),.eq (.bool (x.P && (!x.Q))),.eq (.agg #[x.c0,x.c1,x.c2,x.c3,x.c4,x.c5]),.eq (x.sv),.eq (.int .i64 x.y),.row ([x.y]),.row (Z5_ x.s [x.y]),.eq (.int .i64 x.x),.row ([x.x]),.row (Y1_ (Z5_ x.s [x.y]) [x.x]),.eq (.bool x.I),.eq (.bool ((x.P && (!x.Q)) && x.I)),.eq (.bool ((x.P && (!x.Q)) && x.I))]
theorem ys_0 {d:Act} {w0:World} {x:ysP} (c:ysC d w0 x):ObW Tryz.prog ysO (ysK x) d w0 0:=x52_
theorem ys_1 {d:Act} {w0:World} {x:ysP} (c:ysC d w0 x):ObW Tryz.prog ysO (ysK x) d w0 1:=by
 refine ⟨Op.move (Operand.tmp 3), 3,z52_,fun a W _ _ e _=>?_⟩;have e1:=(e 3 z52_).trans c.h3;exact q3_
theorem ys_2 {d:Act} {w0:World} {x:ysP} (c:ysC d w0 x):ObW Tryz.prog ysO (ysK x) d w0 2:=by
 refine ⟨Op.call { callee:=Callee.value (Operand.func 33),args:=#[Operand.tmp 9,Operand.tmp 10],argTypes:=#[26, 3] }, 4,z52_,fun a W _ hb _ g=>?_⟩;have h:=depE g 0 9 (x.sv);have j:=depE g 1 10 (.int .i64 x.y);exact z50_
theorem ys_3 {c:Act} {w0:World} {x:ysP} (_c:ysC c w0 x):ObW Tryz.prog ysO (ysK x) c w0 3:=by
 refine ⟨Op.move (Operand.tmp 11), 4,z52_,fun a W _ _ _ d=>?_⟩;have e1:=depE d 2 11 (.bool x.P);exact q3_
theorem ys_4 {d:Act} {w0:World} {x:ysP} (c:ysC d w0 x):ObW Tryz.prog ysO (ysK x) d w0 4:=by
 refine ⟨Op.move (Operand.tmp 1), 26,z52_,fun a W e _ hout _=>?_⟩;rw [show wantK ysO (ysK x) 4=(x.P==true) from by kernel_rfl] at e;exact z51_
theorem ys_5 {d:Act} {w0:World} {x:ysP} (c:ysC d w0 x):ObW Tryz.prog ysO (ysK x) d w0 5:=by
 refine ⟨Op.move (Operand.tmp 2), 3,z52_,fun a W e _ hout _=>?_⟩;rw [show wantK ysO (ysK x) 5=(x.P==true) from by kernel_rfl] at e;exact k51_
theorem ys_6 {g:Act} {w0:World} {x:ysP} (c:ysC g w0 x):ObW Tryz.prog ysO (ysK x) g w0 6:=by
 refine ⟨Op.call { callee:=Callee.value (Operand.func 33),args:=#[Operand.tmp 13,Operand.tmp 14],argTypes:=#[26, 3] }, 4,z52_,fun a W d hb _ h=>?_⟩;rw [show wantK ysO (ysK x) 6=(x.P==true) from by kernel_rfl] at d;have m:=depC d h 4 13 (x.sv);have o:=depC d h 5 14 (.int .i64 x.x);simp only [execOp];go_simp;exact ⟨Below.refl _ _,(c.hQ W hb).mono fun e p ⟨k,j⟩=>⟨_,k,j,rfl⟩⟩
theorem ys_7 {c:Act} {w0:World} {x:ysP} (_c:ysC c w0 x):ObW Tryz.prog ysO (ysK x) c w0 7:=by
 refine ⟨Op.unOp UnOp.not 4 (Operand.tmp 15), 4,z52_,fun a W d _ _ e=>?_⟩;rw [show wantK ysO (ysK x) 7=(x.P==true) from by kernel_rfl] at d;have e1:=depC d e 6 15 (.bool x.Q);exact q3_
theorem ys_8 {c:Act} {w0:World} {x:ysP} (_c:ysC c w0 x):ObW Tryz.prog ysO (ysK x) c w0 8:=by
 refine ⟨Op.pick (Operand.tmp 12) (Operand.tmp 16) (Operand.const (Value.bool false)), 4,z52_,fun a W _ _ _ d=>?_⟩;have e1:=depE d 3 12 (.bool x.P);have e2:=d 7 16 z52_ z52_;rw [show ek ysO (ysK x) 7=if (x.P==true)=true then .eq (.bool (!x.Q)) else .eq undef from by kernel_rfl] at e2;show Yv6 _ _ _ (Kind.holds (.eq (.bool (x.P && (!x.Q)))));generalize x.P=p at *
 generalize (!x.Q)=q at *
 obtain ⟨v,hv⟩:∃ v,a.tmps.getD 16 undef=v:=⟨_,rfl⟩;exact j13_
theorem ys_9 {c:Act} {w0:World} {x:ysP} (_c:ysC c w0 x):ObW Tryz.prog ysO (ysK x) c w0 9:=by
 refine ⟨Op.move (Operand.tmp 17), 4,z52_,fun a W _ _ _ d=>?_⟩;have e1:=depE d 8 17 (.bool (x.P && (!x.Q)));exact q3_
theorem ys_10 {d:Act} {w0:World} {x:ysP} (c:ysC d w0 x):ObW Tryz.prog ysO (ysK x) d w0 10:=by
 refine ⟨Op.load 25 (Operand.tmp 4), 25,z52_,fun a W f hb e _=>?_⟩;rw [show wantK ysO (ysK x) 10=((x.P && (!x.Q))==true) from by kernel_rfl] at f;have e1:=(e 4 z52_).trans c.h4;obtain ⟨g,h,j,k,m,o⟩:=c.hK1 W hb;exact q3_
theorem ys_11 {d:Act} {w0:World} {x:ysP} (c:ysC d w0 x):ObW Tryz.prog ysO (ysK x) d w0 11:=by
 refine ⟨Op.move (Operand.tmp 1), 26,z52_,fun a W e _ hout _=>?_⟩;rw [show wantK ysO (ysK x) 11=((x.P && (!x.Q))==true) from by kernel_rfl] at e;exact z51_
theorem ys_12 {d:Act} {w0:World} {x:ysP} (c:ysC d w0 x):ObW Tryz.prog ysO (ysK x) d w0 12:=by
 refine ⟨Op.move (Operand.tmp 3), 3,z52_,fun a W f _ e _=>?_⟩;rw [show wantK ysO (ysK x) 12=((x.P && (!x.Q))==true) from by kernel_rfl] at f;have e1:=(e 3 z52_).trans c.h3;exact q3_
theorem ys_13 {c:Act} {w0:World} {x:ysP} (_c:ysC c w0 x):ObW Tryz.prog ysO (ysK x) c w0 13:=by
 refine ⟨Op.buildSlice 26 1 #[(0,Operand.tmp 21)], 26,z52_,fun a W d _ _ f=>?_⟩;rw [show wantK ysO (ysK x) 13=((x.P && (!x.Q))==true) from by kernel_rfl] at d;have e:=depC d f 12 21 (.int .i64 x.y);have g:a.tmps[21]?.getD undef=.int .i64 x.y:=by simpa using e
 simp only [execOp,Act.eval];go_simp;exact ⟨(Below.refl _ W).alloc (Nat.le_refl _) _,Row.here (Row.lit1 W (x.y))⟩
theorem ys_14 {g:Act} {w0:World} {x:ysP} (c:ysC g w0 x):ObW Tryz.prog ysO (ysK x) g w0 14:=by
 refine ⟨Op.call { callee:=Callee.value (Operand.func 29),args:=#[Operand.tmp 20,Operand.tmp 22],argTypes:=#[26, 26] }, 26,z52_,fun a W d hb _ j=>?_⟩;rw [show wantK ysO (ysK x) 14=((x.P && (!x.Q))==true) from by kernel_rfl] at d;have r:=depC d j 11 20 (x.sv);have h:=depD d j 13 22 ([x.y]);obtain ⟨q,p⟩:∃ v,a.tmps.getD 22 undef=v:=⟨_,rfl⟩;rw [p] at h;simp only [execOp];go_simp;exact ⟨Below.refl _ _,(c.hMi W hb q h).mono fun e s ⟨_,m,o,k⟩=>⟨_,m,k,o⟩⟩
theorem ys_15 {d:Act} {w0:World} {x:ysP} (c:ysC d w0 x):ObW Tryz.prog ysO (ysK x) d w0 15:=by
 refine ⟨Op.move (Operand.tmp 2), 3,z52_,fun a W e _ hout _=>?_⟩;rw [show wantK ysO (ysK x) 15=((x.P && (!x.Q))==true) from by kernel_rfl] at e;exact k51_
theorem ys_16 {c:Act} {w0:World} {x:ysP} (_c:ysC c w0 x):ObW Tryz.prog ysO (ysK x) c w0 16:=by
 refine ⟨Op.buildSlice 26 1 #[(0,Operand.tmp 24)], 26,z52_,fun a W d _ _ f=>?_⟩;rw [show wantK ysO (ysK x) 16=((x.P && (!x.Q))==true) from by kernel_rfl] at d;have e:=depC d f 15 24 (.int .i64 x.x);have g:a.tmps[24]?.getD undef=.int .i64 x.x:=by simpa using e
 exact j50_
theorem ys_17 {g:Act} {w0:World} {x:ysP} (c:ysC g w0 x):ObW Tryz.prog ysO (ysK x) g w0 17:=by
 refine ⟨Op.call { callee:=Callee.value (Operand.func 43),args:=#[Operand.tmp 23,Operand.tmp 25],argTypes:=#[26, 26] }, 26,z52_,fun a W d hb _ k=>?_⟩;rw [show wantK ysO (ysK x) 17=((x.P && (!x.Q))==true) from by kernel_rfl] at d;have h:=depD d k 14 23 (Z5_ x.s [x.y]);have j:=depD d k 16 25 ([x.x]);obtain ⟨u,q⟩:∃ v,a.tmps.getD 23 undef=v:=⟨_,rfl⟩;rw [q] at h;obtain ⟨w,r⟩:∃ v,a.tmps.getD 25 undef=v:=⟨_,rfl⟩;rw [r] at j;simp only [execOp];go_simp;exact ⟨Below.refl _ _,(c.hU W hb u h w j).mono fun e z ⟨_,o,p,m⟩=>⟨_,o,m,p⟩⟩
theorem ys_18 {g:Act} {w0:World} {x:ysP} (c:ysC g w0 x):ObW Tryz.prog ysO (ysK x) g w0 18:=by
 refine ⟨Op.call { callee:=Callee.value (Operand.func 26),args:=#[Operand.tmp 19,Operand.tmp 26],argTypes:=#[25, 26] }, 4,z52_,fun a W d hb _ j=>?_⟩;rw [show wantK ysO (ysK x) 18=((x.P && (!x.Q))==true) from by kernel_rfl] at d;have q:=depC d j 10 19 (.agg #[x.c0,x.c1,x.c2,x.c3,x.c4,x.c5]);have h:=depD d j 17 26 (Y1_ (Z5_ x.s [x.y]) [x.x]);obtain ⟨p,o⟩:∃ v,a.tmps.getD 26 undef=v:=⟨_,rfl⟩;rw [o] at h;simp only [execOp];go_simp;exact ⟨Below.refl _ _,(c.hI W hb p h).mono fun e r ⟨m,k⟩=>⟨_,m,k,rfl⟩⟩
theorem ys_19 {c:Act} {w0:World} {x:ysP} (_c:ysC c w0 x):ObW Tryz.prog ysO (ysK x) c w0 19:=by
 refine ⟨Op.pick (Operand.tmp 18) (Operand.tmp 27) (Operand.const (Value.bool false)), 4,z52_,fun a W _ _ _ d=>?_⟩;have e1:=depE d 9 18 (.bool (x.P && (!x.Q)));have e2:=d 18 27 z52_ z52_;rw [show ek ysO (ysK x) 18=if ((x.P && (!x.Q))==true)=true then .eq (.bool x.I) else .eq undef from by kernel_rfl] at e2;show Yv6 _ _ _ (Kind.holds (.eq (.bool ((x.P && (!x.Q)) && x.I))));generalize (x.P && (!x.Q))=p at *
 generalize x.I=q at *
 obtain ⟨v,hv⟩:∃ v,a.tmps.getD 27 undef=v:=⟨_,rfl⟩;exact j13_
theorem ys_20 {c:Act} {w0:World} {x:ysP} (_c:ysC c w0 x):ObW Tryz.prog ysO (ysK x) c w0 20:=by
 refine ⟨Op.assign (Operand.tmp 28), 4,z52_,fun a W _ _ _ d=>?_⟩;have e1:=depE d 19 28 (.bool ((x.P && (!x.Q)) && x.I));exact q3_
theorem ys_all {d:Act} {w0:World} {x:ysP} (c:ysC d w0 x):∀ j,j<ysO.size→ObW Tryz.prog ysO (ysK x) d w0 j:=by
 rw [show ysO.size=21 by kernel_rfl];have e:∀ j,j<0→ObW Tryz.prog ysO (ysK x) d w0 j:=fun j G=>absurd G (Nat.not_lt_zero j);have f:=all_next e (ys_0 c);clear e;have v:=all_next f (ys_1 c);clear f;have y:=all_next v (ys_2 c);clear v;have z:=all_next y (ys_3 c);clear y;have B:=all_next z (ys_4 c);clear z;have C:=all_next B (ys_5 c);clear B;have D:=all_next C (ys_6 c);clear C;have E:=all_next D (ys_7 c);clear D;have F:=all_next E (ys_8 c);clear E;have g:=all_next F (ys_9 c);clear F;have h:=all_next g (ys_10 c);clear g;have k:=all_next h (ys_11 c);clear h;have m:=all_next k (ys_12 c);clear k;have o:=all_next m (ys_13 c);clear m;have p:=all_next o (ys_14 c);clear o;have q:=all_next p (ys_15 c);clear p;have r:=all_next q (ys_16 c);clear q;have s:=all_next r (ys_17 c);clear r;have u:=all_next s (ys_18 c);clear s;have w:=all_next u (ys_19 c);clear u;have H:=all_next w (ys_20 c);clear w;exact H
structure yaP where
 (B1:Nat)
 (c0 c1 c2 c3 c4 c5 sv:Value)
 (s:List Int)
 (x:Int)
 (P I:Bool)
noncomputable def yaO:Array Oper:=regOf 5 (Tryz.f52.body.getD .skip)
structure yaC (a0:Act) (w0:World) (x:yaP):Prop where
 h1:a0.tmps.getD 1 undef=x.sv
 h2:a0.tmps.getD 2 undef=.pointer (some ⟨x.B1,0,none⟩)
 h6:a0.tmps.getD 6 undef=.int .i64 x.x
 hK1:∀ W,Below w0.heap.size w0 W→W.cell? ⟨x.B1,0,none⟩=some x.c0∧W.cell? ⟨x.B1,1,none⟩=some x.c1∧W.cell? ⟨x.B1,2,none⟩=some x.c2∧W.cell? ⟨x.B1,3,none⟩=some x.c3∧W.cell? ⟨x.B1,4,none⟩=some x.c4∧W.cell? ⟨x.B1,5,none⟩=some x.c5
 hP:∀ W,Below w0.heap.size w0 W→Calls Tryz.prog 33 #[x.sv,.int .i64 x.x] W (Says W x.P)
 hU:∀ W,Below w0.heap.size w0 W→∀ u,Row W W.heap.size u [x.x]→Calls Tryz.prog 43 #[x.sv,u] W (Gives W (Y1_ x.s [x.x]))
 hI:∀ W,Below w0.heap.size w0 W→∀ u,Row W W.heap.size u (Y1_ x.s [x.x])→Calls Tryz.prog 26 #[.agg #[x.c0,x.c1,x.c2,x.c3,x.c4,x.c5],u] W (Says W x.I)
def yaK (x:yaP):List Kind:=[.eq (x.sv),.eq (.int .i64 x.x),.eq (.bool x.P),.eq (.bool (!x.P)),.eq (.bool (!x.P)),.eq (.agg #[x.c0,x.c1,x.c2,x.c3,x.c4,x.c5]),.eq (x.sv),.eq (.int .i64 x.x),.row ([x.x]),.row (Y1_ x.s [x.x]),.eq (.bool x.I),.eq (.bool ((!x.P) && x.I))]
theorem ya_0 {d:Act} {w0:World} {x:yaP} (c:yaC d w0 x):ObW Tryz.prog yaO (yaK x) d w0 0:=x52_
theorem ya_1 {d:Act} {w0:World} {x:yaP} (c:yaC d w0 x):ObW Tryz.prog yaO (yaK x) d w0 1:=by
 refine ⟨Op.move (Operand.tmp 6), 3,z52_,fun a W _ _ e _=>?_⟩;have e1:=(e 6 z52_).trans c.h6;exact q3_
theorem ya_2 {d:Act} {w0:World} {x:yaP} (c:yaC d w0 x):ObW Tryz.prog yaO (yaK x) d w0 2:=by
 refine ⟨Op.call { callee:=Callee.value (Operand.func 33),args:=#[Operand.tmp 14,Operand.tmp 15],argTypes:=#[26, 3] }, 4,z52_,fun a W _ hb _ g=>?_⟩;have h:=depE g 0 14 (x.sv);have j:=depE g 1 15 (.int .i64 x.x);exact z50_
theorem ya_3 {c:Act} {w0:World} {x:yaP} (_c:yaC c w0 x):ObW Tryz.prog yaO (yaK x) c w0 3:=by
 refine ⟨Op.unOp UnOp.not 4 (Operand.tmp 16), 4,z52_,fun a W _ _ _ d=>?_⟩;have e1:=depE d 2 16 (.bool x.P);exact q3_
theorem ya_4 {c:Act} {w0:World} {x:yaP} (_c:yaC c w0 x):ObW Tryz.prog yaO (yaK x) c w0 4:=by
 refine ⟨Op.move (Operand.tmp 17), 4,z52_,fun a W _ _ _ d=>?_⟩;have e1:=depE d 3 17 (.bool (!x.P));exact q3_
theorem ya_5 {d:Act} {w0:World} {x:yaP} (c:yaC d w0 x):ObW Tryz.prog yaO (yaK x) d w0 5:=by
 refine ⟨Op.load 25 (Operand.tmp 2), 25,z52_,fun a W f hb e _=>?_⟩;rw [show wantK yaO (yaK x) 5=((!x.P)==true) from by kernel_rfl] at f;have e1:=(e 2 z52_).trans c.h2;obtain ⟨g,h,j,k,m,o⟩:=c.hK1 W hb;exact q3_
theorem ya_6 {d:Act} {w0:World} {x:yaP} (c:yaC d w0 x):ObW Tryz.prog yaO (yaK x) d w0 6:=by
 refine ⟨Op.move (Operand.tmp 1), 26,z52_,fun a W e _ hout _=>?_⟩;rw [show wantK yaO (yaK x) 6=((!x.P)==true) from by kernel_rfl] at e;exact z51_
theorem ya_7 {d:Act} {w0:World} {x:yaP} (c:yaC d w0 x):ObW Tryz.prog yaO (yaK x) d w0 7:=by
 refine ⟨Op.move (Operand.tmp 6), 3,z52_,fun a W f _ e _=>?_⟩;rw [show wantK yaO (yaK x) 7=((!x.P)==true) from by kernel_rfl] at f;have e1:=(e 6 z52_).trans c.h6;exact q3_
theorem ya_8 {c:Act} {w0:World} {x:yaP} (_c:yaC c w0 x):ObW Tryz.prog yaO (yaK x) c w0 8:=by
 refine ⟨Op.buildSlice 26 1 #[(0,Operand.tmp 21)], 26,z52_,fun a W d _ _ f=>?_⟩;rw [show wantK yaO (yaK x) 8=((!x.P)==true) from by kernel_rfl] at d;have e:=depC d f 7 21 (.int .i64 x.x);have g:a.tmps[21]?.getD undef=.int .i64 x.x:=by simpa using e
 exact j50_
theorem ya_9 {g:Act} {w0:World} {x:yaP} (c:yaC g w0 x):ObW Tryz.prog yaO (yaK x) g w0 9:=by
 refine ⟨Op.call { callee:=Callee.value (Operand.func 43),args:=#[Operand.tmp 20,Operand.tmp 22],argTypes:=#[26, 26] }, 26,z52_,fun a W d hb _ j=>?_⟩;rw [show wantK yaO (yaK x) 9=((!x.P)==true) from by kernel_rfl] at d;have r:=depC d j 6 20 (x.sv);have h:=depD d j 8 22 ([x.x]);obtain ⟨q,p⟩:∃ v,a.tmps.getD 22 undef=v:=⟨_,rfl⟩;rw [p] at h;simp only [execOp];go_simp;exact ⟨Below.refl _ _,(c.hU W hb q h).mono fun e s ⟨_,m,o,k⟩=>⟨_,m,k,o⟩⟩
theorem ya_10 {g:Act} {w0:World} {x:yaP} (c:yaC g w0 x):ObW Tryz.prog yaO (yaK x) g w0 10:=by
 refine ⟨Op.call { callee:=Callee.value (Operand.func 26),args:=#[Operand.tmp 19,Operand.tmp 23],argTypes:=#[25, 26] }, 4,z52_,fun a W d hb _ j=>?_⟩;rw [show wantK yaO (yaK x) 10=((!x.P)==true) from by kernel_rfl] at d;have q:=depC d j 5 19 (.agg #[x.c0,x.c1,x.c2,x.c3,x.c4,x.c5]);have h:=depD d j 9 23 (Y1_ x.s [x.x]);obtain ⟨p,o⟩:∃ v,a.tmps.getD 23 undef=v:=⟨_,rfl⟩;rw [o] at h;simp only [execOp];go_simp;exact ⟨Below.refl _ _,(c.hI W hb p h).mono fun e r ⟨m,k⟩=>⟨_,m,k,rfl⟩⟩
theorem ya_11 {c:Act} {w0:World} {x:yaP} (_c:yaC c w0 x):ObW Tryz.prog yaO (yaK x) c w0 11:=by
 refine ⟨Op.pick (Operand.tmp 18) (Operand.tmp 24) (Operand.const (Value.bool false)), 4,z52_,fun a W _ _ _ d=>?_⟩;have e1:=depE d 4 18 (.bool (!x.P));have e2:=d 10 24 z52_ z52_;rw [show ek yaO (yaK x) 10=if ((!x.P)==true)=true then .eq (.bool x.I) else .eq undef from by kernel_rfl] at e2;show Yv6 _ _ _ (Kind.holds (.eq (.bool ((!x.P) && x.I))));generalize (!x.P)=p at *
 generalize x.I=q at *
 obtain ⟨v,hv⟩:∃ v,a.tmps.getD 24 undef=v:=⟨_,rfl⟩;exact j13_
theorem ya_all {d:Act} {w0:World} {x:yaP} (c:yaC d w0 x):∀ j,j<yaO.size→ObW Tryz.prog yaO (yaK x) d w0 j:=by
 rw [show yaO.size=12 by kernel_rfl];have e:∀ j,j<0→ObW Tryz.prog yaO (yaK x) d w0 j:=fun j v=>absurd v (Nat.not_lt_zero j);have f:=all_next e (ya_0 c);clear e;have k:=all_next f (ya_1 c);clear f;have m:=all_next k (ya_2 c);clear k;have o:=all_next m (ya_3 c);clear m;have p:=all_next o (ya_4 c);clear o;have q:=all_next p (ya_5 c);clear p;have r:=all_next q (ya_6 c);clear q;have s:=all_next r (ya_7 c);clear r;have u:=all_next s (ya_8 c);clear s;have g:=all_next u (ya_9 c);clear u;have h:=all_next g (ya_10 c);clear g;have w:=all_next h (ya_11 c);clear h;exact w
open Go Go.RowKit
structure ygP where
 (B1 B2:Nat)
 (c0 c1 c2 c3 c4 c5 d0 d1 d2 d3 d4 d5 sv va:Value)
 (L R:List Int)
noncomputable def ygO:Array Oper:=regOf 14 (Tryz.f17.body.getD .skip)
structure ygC (a0:Act) (w0:World) (x:ygP):Prop where
 h2:a0.tmps.getD 2 undef=x.sv
 h3:a0.tmps.getD 3 undef=.pointer (some ⟨x.B1,0,none⟩)
 h4:a0.tmps.getD 4 undef=.pointer (some ⟨x.B2,0,none⟩)
 h10:a0.tmps.getD 10 undef=x.va
 hK1:∀ W,Below w0.heap.size w0 W→W.cell? ⟨x.B1,0,none⟩=some x.c0∧W.cell? ⟨x.B1,1,none⟩=some x.c1∧W.cell? ⟨x.B1,2,none⟩=some x.c2∧W.cell? ⟨x.B1,3,none⟩=some x.c3∧W.cell? ⟨x.B1,4,none⟩=some x.c4∧W.cell? ⟨x.B1,5,none⟩=some x.c5
 hK2:∀ W,Below w0.heap.size w0 W→W.cell? ⟨x.B2,0,none⟩=some x.d0∧W.cell? ⟨x.B2,1,none⟩=some x.d1∧W.cell? ⟨x.B2,2,none⟩=some x.d2∧W.cell? ⟨x.B2,3,none⟩=some x.d3∧W.cell? ⟨x.B2,4,none⟩=some x.d4∧W.cell? ⟨x.B2,5,none⟩=some x.d5
 hL:∀ W,Below w0.heap.size w0 W→Calls Tryz.prog 52 #[.agg #[x.c0,x.c1,x.c2,x.c3,x.c4,x.c5],x.sv] W (Gives W x.L)
 hR:∀ W,Below w0.heap.size w0 W→Calls Tryz.prog 52 #[.agg #[x.d0,x.d1,x.d2,x.d3,x.d4,x.d5],x.sv] W (Gives W x.R)
def ygK (x:ygP):List Kind:=[.eq (x.va),.eq (.agg #[x.c0,x.c1,x.c2,x.c3,x.c4,x.c5]),.eq (x.sv),.row (x.L),.eq (.agg #[x.d0,x.d1,x.d2,x.d3,x.d4,x.d5]),.eq (x.sv),.row (x.R),.eq (x.va),.row (x.L),.row (x.R),.eq (.int .i64 0)]
theorem yg_0 {d:Act} {w0:World} {x:ygP} (c:ygC d w0 x):ObW Tryz.prog ygO (ygK x) d w0 0:=by
 refine ⟨Op.move (Operand.tmp 10), 22,z52_,fun a W _ _ e _=>?_⟩;have e1:=(e 10 z52_).trans c.h10;exact q3_
theorem yg_1 {d:Act} {w0:World} {x:ygP} (c:ygC d w0 x):ObW Tryz.prog ygO (ygK x) d w0 1:=q51_
theorem yg_2 {d:Act} {w0:World} {x:ygP} (c:ygC d w0 x):ObW Tryz.prog ygO (ygK x) d w0 2:=y52_
theorem yg_3 {d:Act} {w0:World} {x:ygP} (c:ygC d w0 x):ObW Tryz.prog ygO (ygK x) d w0 3:=by
 refine ⟨Op.call { callee:=Callee.value (Operand.func 52),args:=#[Operand.tmp 54,Operand.tmp 55],argTypes:=#[25, 26] }, 26,z52_,fun a W _ hb _ g=>?_⟩;have m:=depE g 1 54 (.agg #[x.c0,x.c1,x.c2,x.c3,x.c4,x.c5]);have o:=depE g 2 55 (x.sv);simp only [execOp];go_simp;exact ⟨Below.refl _ _,(c.hL W hb).mono fun e p ⟨_,j,k,h⟩=>⟨_,j,h,k⟩⟩
theorem yg_4 {d:Act} {w0:World} {x:ygP} (c:ygC d w0 x):ObW Tryz.prog ygO (ygK x) d w0 4:=x51_
theorem yg_5 {d:Act} {w0:World} {x:ygP} (c:ygC d w0 x):ObW Tryz.prog ygO (ygK x) d w0 5:=y52_
theorem yg_6 {d:Act} {w0:World} {x:ygP} (c:ygC d w0 x):ObW Tryz.prog ygO (ygK x) d w0 6:=by
 refine ⟨Op.call { callee:=Callee.value (Operand.func 52),args:=#[Operand.tmp 57,Operand.tmp 58],argTypes:=#[25, 26] }, 26,z52_,fun a W _ hb _ g=>?_⟩;have m:=depE g 4 57 (.agg #[x.d0,x.d1,x.d2,x.d3,x.d4,x.d5]);have o:=depE g 5 58 (x.sv);simp only [execOp];go_simp;exact ⟨Below.refl _ _,(c.hR W hb).mono fun e p ⟨_,j,k,h⟩=>⟨_,j,h,k⟩⟩
theorem yg_7 {c:Act} {w0:World} {x:ygP} (_c:ygC c w0 x):ObW Tryz.prog ygO (ygK x) c w0 7:=by
 refine ⟨Op.assign (Operand.tmp 53), 22,z52_,fun a W _ _ _ d=>?_⟩;have e1:=depE d 0 53 (x.va);exact q3_
theorem yg_8 {c:Act} {w0:World} {x:ygP} (_c:ygC c w0 x):ObW Tryz.prog ygO (ygK x) c w0 8:=by
 refine ⟨Op.assign (Operand.tmp 56), 26,z52_,fun a W _ _ _ f=>?_⟩;have d:=depR f 3 56 (x.L);obtain ⟨g,e⟩:∃ v,a.tmps.getD 56 undef=v:=⟨_,rfl⟩;rw [e] at d;simp only [execOp,Act.eval,e];go_simp;exact ⟨Below.refl _ _,d⟩
theorem yg_9 {c:Act} {w0:World} {x:ygP} (_c:ygC c w0 x):ObW Tryz.prog ygO (ygK x) c w0 9:=by
 refine ⟨Op.assign (Operand.tmp 59), 26,z52_,fun a W _ _ _ f=>?_⟩;have d:=depR f 6 59 (x.R);obtain ⟨g,e⟩:∃ v,a.tmps.getD 59 undef=v:=⟨_,rfl⟩;rw [e] at d;simp only [execOp,Act.eval,e];go_simp;exact ⟨Below.refl _ _,d⟩
theorem yg_10 {c:Act} {w0:World} {x:ygP} (_c:ygC c w0 x):ObW Tryz.prog ygO (ygK x) c w0 10:=by
 refine ⟨Op.assign (Operand.const (Value.int IntKind.i64 0)), 31,z52_,fun a W _ _ _ _=>?_⟩;simp only [execOp,Act.eval];exact z4_
theorem yg_all {d:Act} {w0:World} {x:ygP} (c:ygC d w0 x):∀ j,j<ygO.size→ObW Tryz.prog ygO (ygK x) d w0 j:=by
 rw [show ygO.size=11 by kernel_rfl];have e:∀ j,j<0→ObW Tryz.prog ygO (ygK x) d w0 j:=fun j u=>absurd u (Nat.not_lt_zero j);have f:=all_next e (yg_0 c);clear e;have h:=all_next f (yg_1 c);clear f;have k:=all_next h (yg_2 c);clear h;have m:=all_next k (yg_3 c);clear k;have o:=all_next m (yg_4 c);clear m;have p:=all_next o (yg_5 c);clear o;have q:=all_next p (yg_6 c);clear p;have r:=all_next q (yg_7 c);clear q;have s:=all_next r (yg_8 c);clear r;have g:=all_next s (yg_9 c);clear s;have v:=all_next g (yg_10 c);clear g;exact v
open Go Go.RowKit
structure vlP where
 (B1 B2 B3:Nat)
 (c0 c1 c2 c3 c4 c5 d0 d1 d2 d3 d4 d5 sv pv j1 f1 t1 j2 f2 t2:Value)
 (er:Int)
 (T:List Int)
 (M:Bool)
noncomputable def vlO:Array Oper:=regOf 5 (Tryz.f3.body.getD .skip)
structure vlC (a0:Act) (w0:World) (x:vlP):Prop where
 h3:a0.tmps.getD 3 undef=.pointer (some ⟨x.B1,0,none⟩)
 h4:a0.tmps.getD 4 undef=.pointer (some ⟨x.B2,0,none⟩)
 h5:a0.tmps.getD 5 undef=.pointer (some ⟨x.B3,0,none⟩)
 h7:a0.tmps.getD 7 undef=x.j1
 h8:a0.tmps.getD 8 undef=x.f1
 h9:a0.tmps.getD 9 undef=x.t1
 h10:a0.tmps.getD 10 undef=.int .i64 x.er
 h11:a0.tmps.getD 11 undef=x.j2
 h12:a0.tmps.getD 12 undef=x.f2
 h13:a0.tmps.getD 13 undef=x.t2
 h14:a0.tmps.getD 14 undef=.int .i64 x.er
 hK1:∀ W,Below w0.heap.size w0 W→W.cell? ⟨x.B1,0,none⟩=some x.c0∧W.cell? ⟨x.B1,1,none⟩=some x.c1∧W.cell? ⟨x.B1,2,none⟩=some x.c2∧W.cell? ⟨x.B1,3,none⟩=some x.c3∧W.cell? ⟨x.B1,4,none⟩=some x.c4∧W.cell? ⟨x.B1,5,none⟩=some x.c5
 hK2:∀ W,Below w0.heap.size w0 W→W.cell? ⟨x.B2,0,none⟩=some x.d0∧W.cell? ⟨x.B2,1,none⟩=some x.d1∧W.cell? ⟨x.B2,2,none⟩=some x.d2∧W.cell? ⟨x.B2,3,none⟩=some x.d3∧W.cell? ⟨x.B2,4,none⟩=some x.d4∧W.cell? ⟨x.B2,5,none⟩=some x.d5
 hK30:∀ W,Below w0.heap.size w0 W→W.cell? ⟨x.B3,0,none⟩=some x.sv
 hK31:∀ W,Below w0.heap.size w0 W→W.cell? ⟨x.B3,1,none⟩=some x.pv
 hF:∀ W,Below w0.heap.size w0 W→Calls Tryz.prog 15 #[] W (Says W true)
 hM1:∀ W,Below w0.heap.size w0 W→Calls Tryz.prog 18 #[.agg #[x.c0,x.c1,x.c2,x.c3,x.c4,x.c5],.agg #[x.d0,x.d1,x.d2,x.d3,x.d4,x.d5],x.sv] W (Says W x.M)
 hM2:∀ W,Below w0.heap.size w0 W→Calls Tryz.prog 19 #[.agg #[x.c0,x.c1,x.c2,x.c3,x.c4,x.c5],.agg #[x.d0,x.d1,x.d2,x.d3,x.d4,x.d5],x.sv] W (Says W x.M)
 hL:∀ W,Below w0.heap.size w0 W→Calls Tryz.prog 20 #[x.j1,x.j2] W (Says W true)
 hS1:∀ W,Below w0.heap.size w0 W→Calls Tryz.prog 21 #[x.f1,x.f2] W (Says W true)
 hS2:∀ W,Below w0.heap.size w0 W→Calls Tryz.prog 21 #[x.t1,x.t2] W (Says W true)
 hT1:∀ W,Below w0.heap.size w0 W→Calls Tryz.prog 22 #[x.sv,x.pv] W (Gives W x.T)
 hT2:∀ W,Below w0.heap.size w0 W→Calls Tryz.prog 23 #[x.sv,x.pv] W (Gives W x.T)
 hS3:∀ W,Below w0.heap.size w0 W→∀ u,Row W W.heap.size u x.T→∀ v,Row W W.heap.size v x.T→Calls Tryz.prog 21 #[u,v] W (Says W true)
def vlK (x:vlP):List Kind:=[.eq (.bool true),.eq (.bool true),.eq (.agg #[x.c0,x.c1,x.c2,x.c3,x.c4,x.c5]),.eq (.agg #[x.d0,x.d1,x.d2,x.d3,x.d4,x.d5]),.eq (.pointer (some ⟨x.B3,0,none⟩)),.eq (x.sv),.eq (.bool x.M),.eq (.agg #[x.c0,x.c1,x.c2,x.c3,x.c4,x.c5]),.eq (.agg #[x.d0,x.d1,x.d2,x.d3,x.d4,x.d5]),.eq (.pointer (some ⟨x.B3,0,none⟩)),.eq (x.sv),.eq (.bool x.M),.eq (.bool true),.eq (.bool true),.eq (.bool true),.eq (x.j1),.eq (x.j2),.eq (.bool true),.eq (.bool true),.eq (.bool true),.eq (x.f1),.eq (x.f2),.eq (.bool true),.eq (.bool true),.eq (.bool true),.eq (x.t1),.eq (x.t2),.eq (.bool true),.eq (.bool true),.eq (.bool true),.eq (.int .i64 x.er),.eq (.int .i64 x.er),.eq (.bool true),.eq (.bool true),.eq (.bool true),.eq (.pointer (some ⟨x.B3,0,none⟩)),.eq (x.sv),.eq (.pointer (some ⟨x.B3,1,none⟩)),.eq (x.pv),.row (x.T),.eq (.pointer (some ⟨x.B3,0,none⟩)),.eq (x.sv),.eq (.pointer (some ⟨x.B3,1,none⟩)),.eq (x.pv),.row (x.T),.eq (.bool true),.eq (.bool true),.eq (.bool true)]
theorem vl_0 {d:Act} {w0:World} {x:vlP} (c:vlC d w0 x):ObW Tryz.prog vlO (vlK x) d w0 0:=by
 refine ⟨Op.call { callee:=Callee.value (Operand.func 15),args:=#[],argTypes:=#[] }, 4,z52_,fun a W _ hb _ _=>?_⟩;simp only [execOp];go_simp;exact ⟨Below.refl _ _,(c.hF W hb).mono fun e j ⟨h,g⟩=>⟨_,h,g,rfl⟩⟩
theorem vl_1 {c:Act} {w0:World} {x:vlP} (_c:vlC c w0 x):ObW Tryz.prog vlO (vlK x) c w0 1:=by
 refine ⟨Op.move (Operand.tmp 56), 4,z52_,fun a W _ _ _ d=>?_⟩;have e1:=depE d 0 56 (.bool true);exact q3_
theorem vl_2 {d:Act} {w0:World} {x:vlP} (c:vlC d w0 x):ObW Tryz.prog vlO (vlK x) d w0 2:=q51_
theorem vl_3 {d:Act} {w0:World} {x:vlP} (c:vlC d w0 x):ObW Tryz.prog vlO (vlK x) d w0 3:=x51_
theorem vl_4 {d:Act} {w0:World} {x:vlP} (c:vlC d w0 x):ObW Tryz.prog vlO (vlK x) d w0 4:=k50_
theorem vl_5 {d:Act} {w0:World} {x:vlP} (c:vlC d w0 x):ObW Tryz.prog vlO (vlK x) d w0 5:=by
 refine ⟨Op.load 26 (Operand.tmp 60), 26,z52_,fun a W _ hb _ e=>?_⟩;have e1:=depE e 4 60 (.pointer (some ⟨x.B3,0,none⟩));exact q52_
theorem vl_6 {g:Act} {w0:World} {x:vlP} (c:vlC g w0 x):ObW Tryz.prog vlO (vlK x) g w0 6:=by
 refine ⟨Op.call { callee:=Callee.value (Operand.func 18),args:=#[Operand.tmp 58,Operand.tmp 59,Operand.tmp 61],argTypes:=#[25, 25, 26] }, 4,z52_,fun a W _ hb _ d=>?_⟩;have k:=depE d 2 58 (.agg #[x.c0,x.c1,x.c2,x.c3,x.c4,x.c5]);have m:=depE d 3 59 (.agg #[x.d0,x.d1,x.d2,x.d3,x.d4,x.d5]);have o:=depE d 5 61 (x.sv);simp only [execOp];go_simp;exact ⟨Below.refl _ _,(c.hM1 W hb).mono fun e p ⟨j,h⟩=>⟨_,j,h,rfl⟩⟩
theorem vl_7 {d:Act} {w0:World} {x:vlP} (c:vlC d w0 x):ObW Tryz.prog vlO (vlK x) d w0 7:=q51_
theorem vl_8 {d:Act} {w0:World} {x:vlP} (c:vlC d w0 x):ObW Tryz.prog vlO (vlK x) d w0 8:=x51_
theorem vl_9 {d:Act} {w0:World} {x:vlP} (c:vlC d w0 x):ObW Tryz.prog vlO (vlK x) d w0 9:=k50_
theorem vl_10 {d:Act} {w0:World} {x:vlP} (c:vlC d w0 x):ObW Tryz.prog vlO (vlK x) d w0 10:=by
 refine ⟨Op.load 26 (Operand.tmp 65), 26,z52_,fun a W _ hb _ e=>?_⟩;have e1:=depE e 9 65 (.pointer (some ⟨x.B3,0,none⟩));exact q52_
theorem vl_11 {g:Act} {w0:World} {x:vlP} (c:vlC g w0 x):ObW Tryz.prog vlO (vlK x) g w0 11:=by
 refine ⟨Op.call { callee:=Callee.value (Operand.func 19),args:=#[Operand.tmp 63,Operand.tmp 64,Operand.tmp 66],argTypes:=#[25, 25, 26] }, 4,z52_,fun a W _ hb _ d=>?_⟩;have k:=depE d 7 63 (.agg #[x.c0,x.c1,x.c2,x.c3,x.c4,x.c5]);have m:=depE d 8 64 (.agg #[x.d0,x.d1,x.d2,x.d3,x.d4,x.d5]);have o:=depE d 10 66 (x.sv);simp only [execOp];go_simp;exact ⟨Below.refl _ _,(c.hM2 W hb).mono fun e p ⟨j,h⟩=>⟨_,j,h,rfl⟩⟩
theorem vl_12 {c:Act} {w0:World} {x:vlP} (_c:vlC c w0 x):ObW Tryz.prog vlO (vlK x) c w0 12:=by
 refine ⟨Op.binOp BinOp.eql 4 (Operand.tmp 62) (Operand.tmp 67) 4, 4,z52_,fun a W _ _ _ d=>?_⟩;have e:=depE d 6 62 (.bool x.M);have f:=depE d 11 67 (.bool x.M);simp only [execOp,Act.eval,e,f];go_simp;exact ⟨Below.refl _ _,congrArg Value.bool (by cases x.M<;>rfl)⟩
theorem vl_13 {c:Act} {w0:World} {x:vlP} (_c:vlC c w0 x):ObW Tryz.prog vlO (vlK x) c w0 13:=by
 refine ⟨Op.pick (Operand.tmp 57) (Operand.tmp 68) (Operand.const (Value.bool false)), 4,z52_,fun a W _ _ _ d=>?_⟩;have e1:=depE d 1 57 (.bool true);have e2:=depE d 12 68 (.bool true);exact y51_
theorem vl_14 {c:Act} {w0:World} {x:vlP} (_c:vlC c w0 x):ObW Tryz.prog vlO (vlK x) c w0 14:=by
 refine ⟨Op.move (Operand.tmp 69), 4,z52_,fun a W _ _ _ d=>?_⟩;have e1:=depE d 13 69 (.bool true);exact q3_
theorem vl_15 {d:Act} {w0:World} {x:vlP} (c:vlC d w0 x):ObW Tryz.prog vlO (vlK x) d w0 15:=by
 refine ⟨Op.move (Operand.tmp 7), 22,z52_,fun a W _ _ e _=>?_⟩;have e1:=(e 7 z52_).trans c.h7;exact q3_
theorem vl_16 {d:Act} {w0:World} {x:vlP} (c:vlC d w0 x):ObW Tryz.prog vlO (vlK x) d w0 16:=by
 refine ⟨Op.move (Operand.tmp 11), 22,z52_,fun a W _ _ e _=>?_⟩;have e1:=(e 11 z52_).trans c.h11;exact q3_
theorem vl_17 {d:Act} {w0:World} {x:vlP} (c:vlC d w0 x):ObW Tryz.prog vlO (vlK x) d w0 17:=by
 refine ⟨Op.call { callee:=Callee.value (Operand.func 20),args:=#[Operand.tmp 71,Operand.tmp 72],argTypes:=#[22, 22] }, 4,z52_,fun a W _ hb _ g=>?_⟩;have k:=depE g 15 71 (x.j1);have m:=depE g 16 72 (x.j2);simp only [execOp];go_simp;exact ⟨Below.refl _ _,(c.hL W hb).mono fun e o ⟨j,h⟩=>⟨_,j,h,rfl⟩⟩
theorem vl_18 {c:Act} {w0:World} {x:vlP} (_c:vlC c w0 x):ObW Tryz.prog vlO (vlK x) c w0 18:=by
 refine ⟨Op.pick (Operand.tmp 70) (Operand.tmp 73) (Operand.const (Value.bool false)), 4,z52_,fun a W _ _ _ d=>?_⟩;have e1:=depE d 14 70 (.bool true);have e2:=depE d 17 73 (.bool true);exact y51_
theorem vl_19 {c:Act} {w0:World} {x:vlP} (_c:vlC c w0 x):ObW Tryz.prog vlO (vlK x) c w0 19:=by
 refine ⟨Op.move (Operand.tmp 74), 4,z52_,fun a W _ _ _ d=>?_⟩;have e1:=depE d 18 74 (.bool true);exact q3_
theorem vl_20 {d:Act} {w0:World} {x:vlP} (c:vlC d w0 x):ObW Tryz.prog vlO (vlK x) d w0 20:=by
 refine ⟨Op.move (Operand.tmp 8), 26,z52_,fun a W _ _ e _=>?_⟩;have e1:=(e 8 z52_).trans c.h8;exact q3_
theorem vl_21 {d:Act} {w0:World} {x:vlP} (c:vlC d w0 x):ObW Tryz.prog vlO (vlK x) d w0 21:=by
 refine ⟨Op.move (Operand.tmp 12), 26,z52_,fun a W _ _ e _=>?_⟩;have e1:=(e 12 z52_).trans c.h12;exact q3_
theorem vl_22 {d:Act} {w0:World} {x:vlP} (c:vlC d w0 x):ObW Tryz.prog vlO (vlK x) d w0 22:=by
 refine ⟨Op.call { callee:=Callee.value (Operand.func 21),args:=#[Operand.tmp 76,Operand.tmp 77],argTypes:=#[26, 26] }, 4,z52_,fun a W _ hb _ g=>?_⟩;have k:=depE g 20 76 (x.f1);have m:=depE g 21 77 (x.f2);simp only [execOp];go_simp;exact ⟨Below.refl _ _,(c.hS1 W hb).mono fun e o ⟨j,h⟩=>⟨_,j,h,rfl⟩⟩
theorem vl_23 {c:Act} {w0:World} {x:vlP} (_c:vlC c w0 x):ObW Tryz.prog vlO (vlK x) c w0 23:=by
 refine ⟨Op.pick (Operand.tmp 75) (Operand.tmp 78) (Operand.const (Value.bool false)), 4,z52_,fun a W _ _ _ d=>?_⟩;have e1:=depE d 19 75 (.bool true);have e2:=depE d 22 78 (.bool true);exact y51_
theorem vl_24 {c:Act} {w0:World} {x:vlP} (_c:vlC c w0 x):ObW Tryz.prog vlO (vlK x) c w0 24:=by
 refine ⟨Op.move (Operand.tmp 79), 4,z52_,fun a W _ _ _ d=>?_⟩;have e1:=depE d 23 79 (.bool true);exact q3_
theorem vl_25 {d:Act} {w0:World} {x:vlP} (c:vlC d w0 x):ObW Tryz.prog vlO (vlK x) d w0 25:=by
 refine ⟨Op.move (Operand.tmp 9), 26,z52_,fun a W _ _ e _=>?_⟩;have e1:=(e 9 z52_).trans c.h9;exact q3_
theorem vl_26 {d:Act} {w0:World} {x:vlP} (c:vlC d w0 x):ObW Tryz.prog vlO (vlK x) d w0 26:=by
 refine ⟨Op.move (Operand.tmp 13), 26,z52_,fun a W _ _ e _=>?_⟩;have e1:=(e 13 z52_).trans c.h13;exact q3_
theorem vl_27 {d:Act} {w0:World} {x:vlP} (c:vlC d w0 x):ObW Tryz.prog vlO (vlK x) d w0 27:=by
 refine ⟨Op.call { callee:=Callee.value (Operand.func 21),args:=#[Operand.tmp 81,Operand.tmp 82],argTypes:=#[26, 26] }, 4,z52_,fun a W _ hb _ g=>?_⟩;have k:=depE g 25 81 (x.t1);have m:=depE g 26 82 (x.t2);simp only [execOp];go_simp;exact ⟨Below.refl _ _,(c.hS2 W hb).mono fun e o ⟨j,h⟩=>⟨_,j,h,rfl⟩⟩
theorem vl_28 {c:Act} {w0:World} {x:vlP} (_c:vlC c w0 x):ObW Tryz.prog vlO (vlK x) c w0 28:=by
 refine ⟨Op.pick (Operand.tmp 80) (Operand.tmp 83) (Operand.const (Value.bool false)), 4,z52_,fun a W _ _ _ d=>?_⟩;have e1:=depE d 24 80 (.bool true);have e2:=depE d 27 83 (.bool true);exact y51_
theorem vl_29 {c:Act} {w0:World} {x:vlP} (_c:vlC c w0 x):ObW Tryz.prog vlO (vlK x) c w0 29:=by
 refine ⟨Op.move (Operand.tmp 84), 4,z52_,fun a W _ _ _ d=>?_⟩;have e1:=depE d 28 84 (.bool true);exact q3_
theorem vl_30 {d:Act} {w0:World} {x:vlP} (c:vlC d w0 x):ObW Tryz.prog vlO (vlK x) d w0 30:=by
 refine ⟨Op.move (Operand.tmp 10), 31,z52_,fun a W _ _ e _=>?_⟩;have e1:=(e 10 z52_).trans c.h10;exact q3_
theorem vl_31 {d:Act} {w0:World} {x:vlP} (c:vlC d w0 x):ObW Tryz.prog vlO (vlK x) d w0 31:=by
 refine ⟨Op.move (Operand.tmp 14), 31,z52_,fun a W _ _ e _=>?_⟩;have e1:=(e 14 z52_).trans c.h14;exact q3_
theorem vl_32 {c:Act} {w0:World} {x:vlP} (_c:vlC c w0 x):ObW Tryz.prog vlO (vlK x) c w0 32:=by
 refine ⟨Op.binOp BinOp.eql 31 (Operand.tmp 86) (Operand.tmp 87) 31, 4,z52_,fun a W _ _ _ d=>?_⟩;have e1:=depE d 30 86 (.int .i64 x.er);have e2:=depE d 31 87 (.int .i64 x.er);exact y51_
theorem vl_33 {c:Act} {w0:World} {x:vlP} (_c:vlC c w0 x):ObW Tryz.prog vlO (vlK x) c w0 33:=by
 refine ⟨Op.pick (Operand.tmp 85) (Operand.tmp 88) (Operand.const (Value.bool false)), 4,z52_,fun a W _ _ _ d=>?_⟩;have e1:=depE d 29 85 (.bool true);have e2:=depE d 32 88 (.bool true);exact y51_
theorem vl_34 {c:Act} {w0:World} {x:vlP} (_c:vlC c w0 x):ObW Tryz.prog vlO (vlK x) c w0 34:=by
 refine ⟨Op.move (Operand.tmp 89), 4,z52_,fun a W _ _ _ d=>?_⟩;have e1:=depE d 33 89 (.bool true);exact q3_
theorem vl_35 {d:Act} {w0:World} {x:vlP} (c:vlC d w0 x):ObW Tryz.prog vlO (vlK x) d w0 35:=k50_
theorem vl_36 {d:Act} {w0:World} {x:vlP} (c:vlC d w0 x):ObW Tryz.prog vlO (vlK x) d w0 36:=by
 refine ⟨Op.load 26 (Operand.tmp 91), 26,z52_,fun a W _ hb _ e=>?_⟩;have e1:=depE e 35 91 (.pointer (some ⟨x.B3,0,none⟩));exact q52_
theorem vl_37 {d:Act} {w0:World} {x:vlP} (c:vlC d w0 x):ObW Tryz.prog vlO (vlK x) d w0 37:=j51_
theorem vl_38 {d:Act} {w0:World} {x:vlP} (c:vlC d w0 x):ObW Tryz.prog vlO (vlK x) d w0 38:=by
 refine ⟨Op.load 26 (Operand.tmp 93), 26,z52_,fun a W _ hb _ e=>?_⟩;have e1:=depE e 37 93 (.pointer (some ⟨x.B3,1,none⟩));have f:=c.hK31 W hb;exact q3_
theorem vl_39 {d:Act} {w0:World} {x:vlP} (c:vlC d w0 x):ObW Tryz.prog vlO (vlK x) d w0 39:=by
 refine ⟨Op.call { callee:=Callee.value (Operand.func 22),args:=#[Operand.tmp 92,Operand.tmp 94],argTypes:=#[26, 26] }, 26,z52_,fun a W _ hb _ g=>?_⟩;have m:=depE g 36 92 (x.sv);have o:=depE g 38 94 (x.pv);simp only [execOp];go_simp;exact ⟨Below.refl _ _,(c.hT1 W hb).mono fun e p ⟨_,j,k,h⟩=>⟨_,j,h,k⟩⟩
theorem vl_40 {d:Act} {w0:World} {x:vlP} (c:vlC d w0 x):ObW Tryz.prog vlO (vlK x) d w0 40:=k50_
theorem vl_41 {d:Act} {w0:World} {x:vlP} (c:vlC d w0 x):ObW Tryz.prog vlO (vlK x) d w0 41:=by
 refine ⟨Op.load 26 (Operand.tmp 96), 26,z52_,fun a W _ hb _ e=>?_⟩;have e1:=depE e 40 96 (.pointer (some ⟨x.B3,0,none⟩));exact q52_
theorem vl_42 {d:Act} {w0:World} {x:vlP} (c:vlC d w0 x):ObW Tryz.prog vlO (vlK x) d w0 42:=j51_
theorem vl_43 {d:Act} {w0:World} {x:vlP} (c:vlC d w0 x):ObW Tryz.prog vlO (vlK x) d w0 43:=by
 refine ⟨Op.load 26 (Operand.tmp 98), 26,z52_,fun a W _ hb _ e=>?_⟩;have e1:=depE e 42 98 (.pointer (some ⟨x.B3,1,none⟩));have f:=c.hK31 W hb;exact q3_
theorem vl_44 {d:Act} {w0:World} {x:vlP} (c:vlC d w0 x):ObW Tryz.prog vlO (vlK x) d w0 44:=by
 refine ⟨Op.call { callee:=Callee.value (Operand.func 23),args:=#[Operand.tmp 97,Operand.tmp 99],argTypes:=#[26, 26] }, 26,z52_,fun a W _ hb _ g=>?_⟩;have m:=depE g 41 97 (x.sv);have o:=depE g 43 99 (x.pv);simp only [execOp];go_simp;exact ⟨Below.refl _ _,(c.hT2 W hb).mono fun e p ⟨_,j,k,h⟩=>⟨_,j,h,k⟩⟩
theorem vl_45 {d:Act} {w0:World} {x:vlP} (c:vlC d w0 x):ObW Tryz.prog vlO (vlK x) d w0 45:=by
 refine ⟨Op.call { callee:=Callee.value (Operand.func 21),args:=#[Operand.tmp 95,Operand.tmp 100],argTypes:=#[26, 26] }, 4,z52_,fun a W _ hb _ j=>?_⟩;have g:=depR j 39 95 (x.T);have h:=depR j 44 100 (x.T);obtain ⟨r,p⟩:∃ v,a.tmps.getD 95 undef=v:=⟨_,rfl⟩;rw [p] at g;obtain ⟨q,o⟩:∃ v,a.tmps.getD 100 undef=v:=⟨_,rfl⟩;rw [o] at h;simp only [execOp];go_simp;exact ⟨Below.refl _ _,(c.hS3 W hb r g q h).mono fun e s ⟨m,k⟩=>⟨_,m,k,rfl⟩⟩
theorem vl_46 {c:Act} {w0:World} {x:vlP} (_c:vlC c w0 x):ObW Tryz.prog vlO (vlK x) c w0 46:=by
 refine ⟨Op.pick (Operand.tmp 90) (Operand.tmp 101) (Operand.const (Value.bool false)), 4,z52_,fun a W _ _ _ d=>?_⟩;have e1:=depE d 34 90 (.bool true);have e2:=depE d 45 101 (.bool true);exact y51_
theorem vl_47 {c:Act} {w0:World} {x:vlP} (_c:vlC c w0 x):ObW Tryz.prog vlO (vlK x) c w0 47:=by
 refine ⟨Op.assign (Operand.tmp 102), 4,z52_,fun a W _ _ _ d=>?_⟩;have e1:=depE d 46 102 (.bool true);exact q3_
theorem vl_all {d:Act} {w0:World} {x:vlP} (c:vlC d w0 x):∀ j,j<vlO.size→ObW Tryz.prog vlO (vlK x) d w0 j:=by
 rw [show vlO.size=48 by kernel_rfl];have e:∀ j,j<0→ObW Tryz.prog vlO (vlK x) d w0 j:=fun j hj=>absurd hj (Nat.not_lt_zero j);have f:=all_next e (vl_0 c);clear e;have v:=all_next f (vl_1 c);clear f;have I:=all_next v (vl_2 c);clear v;have T:=all_next I (vl_3 c);clear I;have s5:=all_next T (vl_4 c);clear T;have s6:=all_next s5 (vl_5 c);clear s5;have s7:=all_next s6 (vl_6 c);clear s6;have s8:=all_next s7 (vl_7 c);clear s7;have s9:=all_next s8 (vl_8 c);clear s8;have g:=all_next s9 (vl_9 c);clear s9;have h:=all_next g (vl_10 c);clear g;have k:=all_next h (vl_11 c);clear h;have m:=all_next k (vl_12 c);clear k;have o:=all_next m (vl_13 c);clear m;have p:=all_next o (vl_14 c);clear o;have q:=all_next p (vl_15 c);clear p;have r:=all_next q (vl_16 c);clear q;have s:=all_next r (vl_17 c);clear r;have u:=all_next s (vl_18 c);clear s;have w:=all_next u (vl_19 c);clear u;have y:=all_next w (vl_20 c);clear w;have z:=all_next y (vl_21 c);clear y;have B:=all_next z (vl_22 c);clear z;have C:=all_next B (vl_23 c);clear B;have D:=all_next C (vl_24 c);clear C;have E:=all_next D (vl_25 c);clear D;have F:=all_next E (vl_26 c);clear E;have G:=all_next F (vl_27 c);clear F;have H:=all_next G (vl_28 c);clear G;have J:=all_next H (vl_29 c);clear H;have K:=all_next J (vl_30 c);clear J;have L:=all_next K (vl_31 c);clear K;have M:=all_next L (vl_32 c);clear L;have N:=all_next M (vl_33 c);clear M;have O:=all_next N (vl_34 c);clear N;have P:=all_next O (vl_35 c);clear O;have Q:=all_next P (vl_36 c);clear P;have R:=all_next Q (vl_37 c);clear Q;have S:=all_next R (vl_38 c);clear R;have U:=all_next S (vl_39 c);clear S;have V:=all_next U (vl_40 c);clear U;have W:=all_next V (vl_41 c);clear V;have X:=all_next W (vl_42 c);clear W;have Y:=all_next X (vl_43 c);clear X;have Z:=all_next Y (vl_44 c);clear Y;have x0:=all_next Z (vl_45 c);clear Z;have x1:=all_next x0 (vl_46 c);clear x0;have x2:=all_next x1 (vl_47 c);clear x1;exact x2
end Wp
end Go.Proofs.YteiejkhdonmcdaaGreatDoor
