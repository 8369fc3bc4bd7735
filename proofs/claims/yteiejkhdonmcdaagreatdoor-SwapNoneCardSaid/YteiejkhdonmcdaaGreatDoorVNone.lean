/- SwapNone, walked: it answers true (written by gen_vnone.py). -/
import Derived.Test.YteiejkhdonmcdaaGreatDoorVFix
import Derived.Test.YteiejkhdonmcdaaGreatDoorZH
import Derived.Test.YteiejkhdonmcdaaGreatDoorVTail
import Derived.Test.YteiejkhdonmcdaaGreatDoorZS
import Derived.Test.YteiejkhdonmcdaaGreatDoorX0A
import Derived.Test.YteiejkhdonmcdaaGreatDoorX0B
set_option maxHeartbeats 16000000
set_option maxRecDepth 100000
open Go.Lib (hid)
open Nat (le_refl)
namespace Go.Proofs.YteiejkhdonmcdaaGreatDoor.Wp
private theorem z4_ {P:Prop} (h:P:=by
 refine ⟨Op.move (Operand.tmp 12), 3,by kernel_rfl,fun a W _ hout _=>?_⟩
 have e:a.tmps.getD 12 undef=.int .i64 x:=(hout 12 (by kernel_rfl)).trans c.h12
 simp only [execOp,Act.eval,e]
 go_simp
 exact ⟨Below.refl _ _,rfl⟩):P:=h
private theorem j6_ {P:Prop} (h:P:=by
 simp only [execOp,Act.eval,e]
 go_simp
 exact ⟨Below.refl _ _,rfl⟩):P:=h
private theorem x23_ {P:Prop} (h:P:=by
 simp only [execOp,Act.eval]
 go_simp
 exact ⟨(Below.refl _ W).alloc (le_refl _) _,Row.here (Row.lit1 W x)⟩):P:=h
end Go.Proofs.YteiejkhdonmcdaaGreatDoor.Wp
namespace Go.Proofs.YteiejkhdonmcdaaGreatDoor
open Go Go.RowKit
namespace Wp
noncomputable def opsN:Array Oper:=regOf 12 (Tryz.f7.body.getD .skip)
structure NxC (a0:Act) (w0:World) (B1 B2:Nat) (c0 c1 c2 c3 c4 c5 d0 d1 d2 d3 d4 d5 vf vt:Value) (x:Int) (p q:Bool):Prop where
 h8:a0.tmps.getD 8 undef=vf
 h9:a0.tmps.getD 9 undef=vt
 h12:a0.tmps.getD 12 undef=.int .i64 x
 h3:a0.tmps.getD 3 undef=.pointer (some ⟨B1,0,none⟩)
 h4:a0.tmps.getD 4 undef=.pointer (some ⟨B2,0,none⟩)
 hK:∀ W,Below w0.heap.size w0 W→W.cell? ⟨B1,0,none⟩=some c0∧W.cell? ⟨B1,1,none⟩=some c1∧W.cell? ⟨B1,2,none⟩=some c2∧W.cell? ⟨B1,3,none⟩=some c3∧W.cell? ⟨B1,4,none⟩=some c4∧W.cell? ⟨B1,5,none⟩=some c5∧W.cell? ⟨B2,0,none⟩=some d0∧W.cell? ⟨B2,1,none⟩=some d1∧W.cell? ⟨B2,2,none⟩=some d2∧W.cell? ⟨B2,3,none⟩=some d3∧W.cell? ⟨B2,4,none⟩=some d4∧W.cell? ⟨B2,5,none⟩=some d5
 hH1:∀ W,Below w0.heap.size w0 W→Calls Tryz.prog 33 #[vf,.int .i64 x] W (Says W p)
 hH2:∀ W,Below w0.heap.size w0 W→Calls Tryz.prog 33 #[vt,.int .i64 x] W (Says W q)
 hI1:∀ (sv:Value) W,Below w0.heap.size w0 W→Row W W.heap.size sv [x]→Calls Tryz.prog 26 #[.agg #[c0,c1,c2,c3,c4,c5],sv] W (Says W p)
 hI2:∀ (sv:Value) W,Below w0.heap.size w0 W→Row W W.heap.size sv [x]→Calls Tryz.prog 26 #[.agg #[d0,d1,d2,d3,d4,d5],sv] W (Says W q)
def ksN (c0 c1 c2 c3 c4 c5 d0 d1 d2 d3 d4 d5 vf vt:Value) (x:Int) (p q:Bool):List Kind:=[.eq (vf),.eq (.int .i64 x),.eq (.bool p),.eq (.agg #[c0,c1,c2,c3,c4,c5]),.eq (.int .i64 x),.row [x],.eq (.bool p),.eq (.bool false),.eq (.bool false),.eq (vt),.eq (.int .i64 x),.eq (.bool q),.eq (.agg #[d0,d1,d2,d3,d4,d5]),.eq (.int .i64 x),.row [x],.eq (.bool q),.eq (.bool false),.eq (.bool false)]
theorem nx_0 {f:Act} {w0:World} {B1 B2:Nat} {g c1 c2 c3 c4 c5 h j k m o r d s:Value} {x:Int} {p q:Bool} (c:NxC f w0 B1 B2 g c1 c2 c3 c4 c5 h j k m o r d s x p q):Ob Tryz.prog opsN (ksN g c1 c2 c3 c4 c5 h j k m o r d s x p q) f w0 0:=by
 refine ⟨Op.move (Operand.tmp 8), 26,x39_,fun a W _ u _=>?_⟩;have e:a.tmps.getD 8 undef=d:=(u 8 x39_).trans c.h8;exact j6_
theorem nx_1 {d:Act} {w0:World} {B1 B2:Nat} {f c1 c2 c3 c4 c5 g h j k m o r s:Value} {x:Int} {p q:Bool} (c:NxC d w0 B1 B2 f c1 c2 c3 c4 c5 g h j k m o r s x p q):Ob Tryz.prog opsN (ksN f c1 c2 c3 c4 c5 g h j k m o r s x p q) d w0 1:=z4_
theorem nx_2 {g:Act} {w0:World} {B1 B2:Nat} {h c1 c2 c3 c4 c5 j k m o r s d v:Value} {x:Int} {p q:Bool} (c:NxC g w0 B1 B2 h c1 c2 c3 c4 c5 j k m o r s d v x p q):Ob Tryz.prog opsN (ksN h c1 c2 c3 c4 c5 j k m o r s d v x p q) g w0 2:=by
 refine ⟨Op.call { callee:=Callee.value (Operand.func 33),args:=#[Operand.tmp 68,Operand.tmp 69],argTypes:=#[26, 3] }, 4,x39_,fun a W hb _ u=>?_⟩;have z:a.tmps.getD 68 undef=d:=u 0 68 x39_ x39_;have B:a.tmps.getD 69 undef=.int .i64 x:=u 1 69 x39_ x39_;simp only [execOp];go_simp;exact ⟨Below.refl _ _,(c.hH1 W hb).mono fun e C ⟨y,w⟩=>⟨_,y,w,rfl⟩⟩
theorem nx_3 {d:Act} {w0:World} {B1 B2:Nat} {f c1 c2 c3 c4 c5 g h j k m o r s:Value} {x:Int} {p q:Bool} (c:NxC d w0 B1 B2 f c1 c2 c3 c4 c5 g h j k m o r s x p q):Ob Tryz.prog opsN (ksN f c1 c2 c3 c4 c5 g h j k m o r s x p q) d w0 3:=by
 refine ⟨Op.load 25 (Operand.tmp 3), 25,x39_,fun a W hb u _=>?_⟩;obtain ⟨v,w,y,z,B,C,D,E,F,G,H,I⟩:=c.hK W hb;have e:a.tmps.getD 3 undef=.pointer (some ⟨B1,0,none⟩):=(u 3 x39_).trans c.h3;exact j6_
theorem nx_4 {d:Act} {w0:World} {B1 B2:Nat} {f c1 c2 c3 c4 c5 g h j k m o r s:Value} {x:Int} {p q:Bool} (c:NxC d w0 B1 B2 f c1 c2 c3 c4 c5 g h j k m o r s x p q):Ob Tryz.prog opsN (ksN f c1 c2 c3 c4 c5 g h j k m o r s x p q) d w0 4:=z4_
theorem nx_5 {c:Act} {w0:World} {B1 B2:Nat} {d c1 c2 c3 c4 c5 e f g h j k m o:Value} {x:Int} {p q:Bool} (_c:NxC c w0 B1 B2 d c1 c2 c3 c4 c5 e f g h j k m o x p q):Ob Tryz.prog opsN (ksN d c1 c2 c3 c4 c5 e f g h j k m o x p q) c w0 5:=by
 refine ⟨Op.buildSlice 26 1 #[(0,Operand.tmp 72)], 26,x39_,fun a W _ _ s=>?_⟩;have r:a.tmps.getD 72 undef=.int .i64 x:=s 4 72 x39_ x39_;have u:a.tmps[72]?.getD undef=.int .i64 x:=by simpa using r
 exact x23_
theorem nx_6 {h:Act} {w0:World} {B1 B2:Nat} {g c1 c2 c3 c4 c5 j k d m o r u w:Value} {x:Int} {p q:Bool} (c:NxC h w0 B1 B2 g c1 c2 c3 c4 c5 j k d m o r u w x p q):Ob Tryz.prog opsN (ksN g c1 c2 c3 c4 c5 j k d m o r u w x p q) h w0 6:=by
 refine ⟨Op.call { callee:=Callee.value (Operand.func 26),args:=#[Operand.tmp 71,Operand.tmp 73],argTypes:=#[25, 26] }, 4,x39_,fun a W hb _ s=>?_⟩;have D:a.tmps.getD 71 undef=.agg #[g,c1,c2,c3,c4,c5]:=s 3 71 x39_ x39_;have d:Row W W.heap.size (a.tmps.getD 73 undef) [x]:=s 5 73 x39_ x39_;obtain ⟨C,y⟩:∃ v,a.tmps.getD 73 undef=v:=⟨_,rfl⟩;rw [y] at d;simp only [execOp];go_simp;exact ⟨Below.refl _ _,(c.hI1 C W hb d).mono fun e E ⟨B,z⟩=>⟨_,B,z,rfl⟩⟩
theorem nx_7 {c:Act} {w0:World} {B1 B2:Nat} {d c1 c2 c3 c4 c5 e f g h j k o r:Value} {x:Int} {p q:Bool} (_c:NxC c w0 B1 B2 d c1 c2 c3 c4 c5 e f g h j k o r x p q):Ob Tryz.prog opsN (ksN d c1 c2 c3 c4 c5 e f g h j k o r x p q) c w0 7:=by
 refine ⟨Op.binOp BinOp.neq 4 (Operand.tmp 70) (Operand.tmp 74) 4, 4,x39_,fun a W _ _ m=>?_⟩;have s:a.tmps.getD 70 undef=.bool p:=m 2 70 x39_ x39_;have u:a.tmps.getD 74 undef=.bool p:=m 6 74 x39_ x39_;simp only [execOp,Act.eval,s,u];go_simp;exact ⟨Below.refl _ _,by cases p<;>rfl⟩
theorem nx_8 {c:Act} {w0:World} {B1 B2:Nat} {d c1 c2 c3 c4 c5 e f g h j k m o:Value} {x:Int} {p q:Bool} (_c:NxC c w0 B1 B2 d c1 c2 c3 c4 c5 e f g h j k m o x p q):Ob Tryz.prog opsN (ksN d c1 c2 c3 c4 c5 e f g h j k m o x p q) c w0 8:=by
 refine ⟨Op.move (Operand.tmp 75), 4,x39_,fun a W _ _ s=>?_⟩;have r:a.tmps.getD 75 undef=.bool false:=s 7 75 x39_ x39_;simp only [execOp,Act.eval,r];go_simp;exact ⟨Below.refl _ _,rfl⟩
theorem nx_9 {f:Act} {w0:World} {B1 B2:Nat} {g c1 c2 c3 c4 c5 h j k m o r s d:Value} {x:Int} {p q:Bool} (c:NxC f w0 B1 B2 g c1 c2 c3 c4 c5 h j k m o r s d x p q):Ob Tryz.prog opsN (ksN g c1 c2 c3 c4 c5 h j k m o r s d x p q) f w0 9:=by
 refine ⟨Op.move (Operand.tmp 9), 26,x39_,fun a W _ u _=>?_⟩;have e:a.tmps.getD 9 undef=d:=(u 9 x39_).trans c.h9;exact j6_
theorem nx_10 {d:Act} {w0:World} {B1 B2:Nat} {f c1 c2 c3 c4 c5 g h j k m o r s:Value} {x:Int} {p q:Bool} (c:NxC d w0 B1 B2 f c1 c2 c3 c4 c5 g h j k m o r s x p q):Ob Tryz.prog opsN (ksN f c1 c2 c3 c4 c5 g h j k m o r s x p q) d w0 10:=z4_
theorem nx_11 {g:Act} {w0:World} {B1 B2:Nat} {h c1 c2 c3 c4 c5 j k m o r s v d:Value} {x:Int} {p q:Bool} (c:NxC g w0 B1 B2 h c1 c2 c3 c4 c5 j k m o r s v d x p q):Ob Tryz.prog opsN (ksN h c1 c2 c3 c4 c5 j k m o r s v d x p q) g w0 11:=by
 refine ⟨Op.call { callee:=Callee.value (Operand.func 33),args:=#[Operand.tmp 77,Operand.tmp 78],argTypes:=#[26, 3] }, 4,x39_,fun a W hb _ u=>?_⟩;have z:a.tmps.getD 77 undef=d:=u 9 77 x39_ x39_;have B:a.tmps.getD 78 undef=.int .i64 x:=u 10 78 x39_ x39_;simp only [execOp];go_simp;exact ⟨Below.refl _ _,(c.hH2 W hb).mono fun e C ⟨y,w⟩=>⟨_,y,w,rfl⟩⟩
theorem nx_12 {d:Act} {w0:World} {B1 B2:Nat} {f c1 c2 c3 c4 c5 g h j k m o r s:Value} {x:Int} {p q:Bool} (c:NxC d w0 B1 B2 f c1 c2 c3 c4 c5 g h j k m o r s x p q):Ob Tryz.prog opsN (ksN f c1 c2 c3 c4 c5 g h j k m o r s x p q) d w0 12:=by
 refine ⟨Op.load 25 (Operand.tmp 4), 25,x39_,fun a W hb u _=>?_⟩;obtain ⟨v,w,y,z,B,C,D,E,F,G,H,I⟩:=c.hK W hb;have e:a.tmps.getD 4 undef=.pointer (some ⟨B2,0,none⟩):=(u 4 x39_).trans c.h4;exact j6_
theorem nx_13 {d:Act} {w0:World} {B1 B2:Nat} {f c1 c2 c3 c4 c5 g h j k m o r s:Value} {x:Int} {p q:Bool} (c:NxC d w0 B1 B2 f c1 c2 c3 c4 c5 g h j k m o r s x p q):Ob Tryz.prog opsN (ksN f c1 c2 c3 c4 c5 g h j k m o r s x p q) d w0 13:=z4_
theorem nx_14 {c:Act} {w0:World} {B1 B2:Nat} {d c1 c2 c3 c4 c5 e f g h j k m o:Value} {x:Int} {p q:Bool} (_c:NxC c w0 B1 B2 d c1 c2 c3 c4 c5 e f g h j k m o x p q):Ob Tryz.prog opsN (ksN d c1 c2 c3 c4 c5 e f g h j k m o x p q) c w0 14:=by
 refine ⟨Op.buildSlice 26 1 #[(0,Operand.tmp 81)], 26,x39_,fun a W _ _ s=>?_⟩;have r:a.tmps.getD 81 undef=.int .i64 x:=s 13 81 x39_ x39_;have u:a.tmps[81]?.getD undef=.int .i64 x:=by simpa using r
 exact x23_
theorem nx_15 {o:Act} {w0:World} {B1 B2:Nat} {r c1 c2 c3 c4 c5 g h d j k m u w:Value} {x:Int} {p q:Bool} (c:NxC o w0 B1 B2 r c1 c2 c3 c4 c5 g h d j k m u w x p q):Ob Tryz.prog opsN (ksN r c1 c2 c3 c4 c5 g h d j k m u w x p q) o w0 15:=by
 refine ⟨Op.call { callee:=Callee.value (Operand.func 26),args:=#[Operand.tmp 80,Operand.tmp 82],argTypes:=#[25, 26] }, 4,x39_,fun a W hb _ s=>?_⟩;have D:a.tmps.getD 80 undef=.agg #[g,h,d,j,k,m]:=s 12 80 x39_ x39_;have d:Row W W.heap.size (a.tmps.getD 82 undef) [x]:=s 14 82 x39_ x39_;obtain ⟨C,y⟩:∃ v,a.tmps.getD 82 undef=v:=⟨_,rfl⟩;rw [y] at d;simp only [execOp];go_simp;exact ⟨Below.refl _ _,(c.hI2 C W hb d).mono fun e E ⟨B,z⟩=>⟨_,B,z,rfl⟩⟩
theorem nx_16 {c:Act} {w0:World} {B1 B2:Nat} {d c1 c2 c3 c4 c5 e f g h j k o r:Value} {x:Int} {p q:Bool} (_c:NxC c w0 B1 B2 d c1 c2 c3 c4 c5 e f g h j k o r x p q):Ob Tryz.prog opsN (ksN d c1 c2 c3 c4 c5 e f g h j k o r x p q) c w0 16:=by
 refine ⟨Op.binOp BinOp.neq 4 (Operand.tmp 79) (Operand.tmp 83) 4, 4,x39_,fun a W _ _ m=>?_⟩;have s:a.tmps.getD 79 undef=.bool q:=m 11 79 x39_ x39_;have u:a.tmps.getD 83 undef=.bool q:=m 15 83 x39_ x39_;simp only [execOp,Act.eval,s,u];go_simp;exact ⟨Below.refl _ _,by cases q<;>rfl⟩
theorem nx_17 {c:Act} {w0:World} {B1 B2:Nat} {d c1 c2 c3 c4 c5 e f g h j k o r:Value} {x:Int} {p q:Bool} (_c:NxC c w0 B1 B2 d c1 c2 c3 c4 c5 e f g h j k o r x p q):Ob Tryz.prog opsN (ksN d c1 c2 c3 c4 c5 e f g h j k o r x p q) c w0 17:=by
 refine ⟨Op.pick (Operand.tmp 76) (Operand.const (Value.bool true)) (Operand.tmp 84), 4,x39_,fun a W _ _ m=>?_⟩;have s:a.tmps.getD 76 undef=.bool false:=m 8 76 x39_ x39_;have u:a.tmps.getD 84 undef=.bool false:=m 16 84 x39_ x39_;simp only [execOp,Act.eval,s,u];go_simp;exact ⟨Below.refl _ _,rfl⟩
theorem X8_ {p:Nat→Prop} {n:Nat} (h:∀ i,i<n→p i) (c:p n):∀ i,i<n+1→p i:=fun i d=>if e:i=n then e▸c else h i q39_
theorem Vt3 {d:Act} {w0:World} {B1 B2:Nat} {e c1 c2 c3 c4 c5 f g h k m o r s:Value} {x:Int} {p q:Bool} (c:NxC d w0 B1 B2 e c1 c2 c3 c4 c5 f g h k m o r s x p q):∀ j,j<opsN.size→Ob Tryz.prog opsN (ksN e c1 c2 c3 c4 c5 f g h k m o r s x p q) d w0 j:=by
 rw [show opsN.size=18 by kernel_rfl];have u:∀ j,j<0→Ob Tryz.prog opsN (ksN e c1 c2 c3 c4 c5 f g h k m o r s x p q) d w0 j:=fun j O=>absurd O (Nat.not_lt_zero j);have v:=X8_ u (nx_0 c);clear u;have G:=X8_ v (nx_1 c);clear v;have H:=X8_ G (nx_2 c);clear G;have I:=X8_ H (nx_3 c);clear H;have J:=X8_ I (nx_4 c);clear I;have K:=X8_ J (nx_5 c);clear J;have L:=X8_ K (nx_6 c);clear K;have M:=X8_ L (nx_7 c);clear L;have N:=X8_ M (nx_8 c);clear M;have w:=X8_ N (nx_9 c);clear N;have y:=X8_ w (nx_10 c);clear w;have z:=X8_ y (nx_11 c);clear y;have B:=X8_ z (nx_12 c);clear z;have C:=X8_ B (nx_13 c);clear B;have D:=X8_ C (nx_14 c);clear C;have E:=X8_ D (nx_15 c);clear D;have F:=X8_ E (nx_16 c);clear E;have P:=X8_ F (nx_17 c);clear F;exact P
theorem wn_1 (E:Nat→Addr) (a:Mat) (B:Value) (b:Mat) (C:Value) (z:Value) (s:List Int) (w:World) (q:MatV w w.heap.size B a) (x:Lim a) (r:MatV w w.heap.size C b) (y:Lim b) (p:Row w w.heap.size z s) (u:Env E w) (v:fewB 9 a 8=false):Calls Tryz.prog 7 #[B,C,z] w (Truly w):=by
 have Hfa:=hid v;clear v;have Hla:=hid x;have N:=hid y;obtain ⟨R,P,K,H,F⟩:=q.open;obtain ⟨S,Q,L,I,G⟩:=r.open;obtain ⟨g,cl,rfl,_⟩:=H;obtain ⟨d,k,rfl,_⟩:=F;obtain ⟨j,o,rfl,_⟩:=I;obtain ⟨h,m,rfl,_⟩:=G;obtain ⟨M,O,J,D,_⟩:=id p;subst K L J;obtain ⟨c,hW2⟩:∃ c,c=(w.alloc (.cells #[.int .i64 a.t,.int .i64 a.n,.int .i64 a.a,.int .i64 a.b,.slice g a.l.length cl,.slice d a.i.length k] 25)).alloc (.cells #[.int .i64 b.t,.int .i64 b.n,.int .i64 b.a,.int .i64 b.b,.slice j b.l.length o,.slice h b.i.length m] 25):=⟨_,rfl⟩;have HW2:=hid hW2;have hb2:Below w.heap.size w c:=by rw [hW2];exact ((Below.refl _ w).alloc (le_refl _) _).alloc j39_ _
 have Hka:Hid (Blk c w.heap.size 25 #[.int .i64 a.t,.int .i64 a.n,.int .i64 a.a,.int .i64 a.b,.slice g a.l.length cl,.slice d a.i.length k]):=hid y41_;have Hkb:Hid (Blk c (w.heap.size+1) 25 #[.int .i64 b.t,.int .i64 b.n,.int .i64 b.a,.int .i64 b.b,.slice j b.l.length o,.slice h b.i.length m]):=hid (by
  rw [hW2];have:=Blk.new (w.alloc (.cells #[.int .i64 a.t,.int .i64 a.n,.int .i64 a.a,.int .i64 a.b,.slice g a.l.length cl,.slice d a.i.length k] 25)) 25 #[.int .i64 b.t,.int .i64 b.n,.int .i64 b.a,.int .i64 b.b,.slice j b.l.length o,.slice h b.i.length m];simpa using this)
 have Hb0:=hid hb2;have HVa:=hid (q.up hb2);have HVb:=hid (r.up hb2);have HW:=hid (p.up hb2);have HE:=hid (u.up hb2);clear q r x y u p D hW2 hb2
 go_enter Tryz.func7,Tryz.ntmps7
 exact y1_
theorem wn_2 (E:Nat→Addr) (a:Mat) (C:Value) (b:Mat) (D:Value) (B:Value) (s:List Int) (w:World) (q:MatV w w.heap.size C a) (y:Lim a) (r:MatV w w.heap.size D b) (z:Lim b) (p:Row w w.heap.size B s) (u:Env E w) (v:fewB 9 a 8=true) (x:fewB 9 b 8=false):Calls Tryz.prog 7 #[C,D,B] w (Truly w):=by
 have Hfa:=hid v;have Hfb:=hid x;clear v x;have Hla:=hid y;have Hlb:=hid z;obtain ⟨R,P,L,I,G⟩:=q.open;obtain ⟨S,Q,M,J,H⟩:=r.open;obtain ⟨g,cl,rfl,_⟩:=I;obtain ⟨d,k,rfl,_⟩:=G;obtain ⟨j,o,rfl,_⟩:=J;obtain ⟨h,m,rfl,_⟩:=H;obtain ⟨N,O,K,F,_⟩:=id p;subst L M K;obtain ⟨c,hW2⟩:∃ c,c=(w.alloc (.cells #[.int .i64 a.t,.int .i64 a.n,.int .i64 a.a,.int .i64 a.b,.slice g a.l.length cl,.slice d a.i.length k] 25)).alloc (.cells #[.int .i64 b.t,.int .i64 b.n,.int .i64 b.a,.int .i64 b.b,.slice j b.l.length o,.slice h b.i.length m] 25):=⟨_,rfl⟩;have HW2:=hid hW2;have hb2:Below w.heap.size w c:=by rw [hW2];exact ((Below.refl _ w).alloc (le_refl _) _).alloc j39_ _
 have Hka:Hid (Blk c w.heap.size 25 #[.int .i64 a.t,.int .i64 a.n,.int .i64 a.a,.int .i64 a.b,.slice g a.l.length cl,.slice d a.i.length k]):=hid y41_;have Hkb:Hid (Blk c (w.heap.size+1) 25 #[.int .i64 b.t,.int .i64 b.n,.int .i64 b.a,.int .i64 b.b,.slice j b.l.length o,.slice h b.i.length m]):=hid (by
  rw [hW2];have:=Blk.new (w.alloc (.cells #[.int .i64 a.t,.int .i64 a.n,.int .i64 a.a,.int .i64 a.b,.slice g a.l.length cl,.slice d a.i.length k] 25)) 25 #[.int .i64 b.t,.int .i64 b.n,.int .i64 b.a,.int .i64 b.b,.slice j b.l.length o,.slice h b.i.length m];simpa using this)
 have Hb0:=hid hb2;have HVa:=hid (q.up hb2);have HVb:=hid (r.up hb2);have HW:=hid (p.up hb2);have HE:=hid (u.up hb2);clear q r y z u p F hW2 hb2
 go_enter Tryz.func7,Tryz.ntmps7
 exact j0_
theorem wn_3 (E:Nat→Addr) (a:Mat) (d:Value) (b:Mat) (g:Value) (c:Value) (s:List Int) (w:World) (hva:MatV w w.heap.size d a) (hla:Lim a) (hvb:MatV w w.heap.size g b) (hlb:Lim b) (hrw:Row w w.heap.size c s) (hE:Env E w) (hfa:fewB 9 a 8=true) (hfb:fewB 9 b 8=true) (hm:mayS a b []=false):Calls Tryz.prog 7 #[d,g,c] w (Truly w):=y0_
theorem wn_4 (E:Nat→Addr) (a:Mat) (d:Value) (b:Mat) (g:Value) (c:Value) (s:List Int) (w:World) (hva:MatV w w.heap.size d a) (hla:Lim a) (hvb:MatV w w.heap.size g b) (hlb:Lim b) (hrw:Row w w.heap.size c s) (hE:Env E w) (hfa:fewB 9 a 8=true) (hfb:fewB 9 b 8=true) (hm:mayS a b []=true) (hl:(20:Int)<(s.length:Int)):Calls Tryz.prog 7 #[d,g,c] w (Truly w):=y0_
theorem wn_5 (E:Nat→Addr) (a:Mat) (va:Value) (b:Mat) (vb:Value) (sw:Value) (s:List Int) (w:World) (H:MatV w w.heap.size va a) (x1:Lim a) (I:MatV w w.heap.size vb b) (x2:Lim b) (G:Row w w.heap.size sw s) (Y:Env E w) (Z:fewB 9 a 8=true) (x0:fewB 9 b 8=true) (hm:mayS a b []=true) (hl:¬ (20:Int)<(s.length:Int)) (x3:mayB s=false):Calls Tryz.prog 7 #[va,vb,sw] w (Truly w):=by
 have W:=hid Z;have X:=hid x0;have Hm:=hid hm;have x6:=hid x3;clear Z x0 hm x3;have x4:=hid x1;have x5:=hid x2;obtain ⟨l1,i1,xd,xa,x8⟩:=H.open;obtain ⟨l2,i2,xe,xb,x9⟩:=I.open;obtain ⟨y,cl,rfl,_⟩:=xa;obtain ⟨x,C,rfl,_⟩:=x8;obtain ⟨B,F,rfl,_⟩:=xb;obtain ⟨z,D,rfl,_⟩:=x9;obtain ⟨Aw,cw,xc,x7,_⟩:=id G;subst xd xe xc;obtain ⟨v,hW2⟩:∃ v,v=(w.alloc (.cells #[.int .i64 a.t,.int .i64 a.n,.int .i64 a.a,.int .i64 a.b,.slice y a.l.length cl,.slice x a.i.length C] 25)).alloc (.cells #[.int .i64 b.t,.int .i64 b.n,.int .i64 b.a,.int .i64 b.b,.slice B b.l.length F,.slice z b.i.length D] 25):=⟨_,rfl⟩;have V:=hid hW2;have g:Below w.heap.size w v:=by rw [hW2];exact ((Below.refl _ w).alloc (le_refl _) _).alloc j39_ _
 have c:Hid (Blk v w.heap.size 25 #[.int .i64 a.t,.int .i64 a.n,.int .i64 a.a,.int .i64 a.b,.slice y a.l.length cl,.slice x a.i.length C]):=hid y41_;have d:Hid (Blk v (w.heap.size+1) 25 #[.int .i64 b.t,.int .i64 b.n,.int .i64 b.a,.int .i64 b.b,.slice B b.l.length F,.slice z b.i.length D]):=hid (by
  rw [hW2];have:=Blk.new (w.alloc (.cells #[.int .i64 a.t,.int .i64 a.n,.int .i64 a.a,.int .i64 a.b,.slice y a.l.length cl,.slice x a.i.length C] 25)) 25 #[.int .i64 b.t,.int .i64 b.n,.int .i64 b.a,.int .i64 b.b,.slice B b.l.length F,.slice z b.i.length D];simpa using this)
 have Hb0:=hid g;have j:=hid (H.up g);have k:=hid (I.up g);have m:=hid (G.up g);have h:=hid (Y.up g);clear H I x1 x2 Y G x7 hW2 g
 go_enter Tryz.func7,Tryz.ntmps7
 go_wp2_with fail
 rw [← V.out];refine (Y0_ E _ h.out).mono ?_;rintro e w1 ⟨rfl,o⟩;clear V;replace h:=hid (h.out.up o);replace j:=hid (j.out.up o);replace k:=hid (k.out.up o);replace m:=hid (m.out.up o);replace c:=hid (c.out.below o c.out.lt);replace d:=hid (d.out.below o d.out.lt);replace Hb0:=hid (Z0_ Hb0.out (le_refl _) o);clear o;have J:=c.out.cell 0;have K:=c.out.cell 1;have L:=c.out.cell 2;have M:=c.out.cell 3;have N:=c.out.cell 4;have O:=c.out.cell 5
 go_wp2_with fail
 refine (X6_ a _ 8 _ j.out x4.out).mono ?_;rintro e w2 ⟨rfl,g⟩;rw [W.out];clear J K L M N O;replace h:=hid (h.out.up g);replace j:=hid (j.out.up g);replace k:=hid (k.out.up g);replace m:=hid (m.out.up g);replace c:=hid (c.out.below g c.out.lt);replace d:=hid (d.out.below g d.out.lt);replace Hb0:=hid (Z0_ Hb0.out (le_refl _) g);clear g;have P:=d.out.cell 0;have Q:=d.out.cell 1;have R:=d.out.cell 2;have S:=d.out.cell 3;have T:=d.out.cell 4;have U:=d.out.cell 5
 go_wp2_with fail
 refine (X6_ b _ 8 _ k.out x5.out).mono ?_;rintro e w3 ⟨rfl,p⟩;rw [X.out];clear P Q R S T U;replace h:=hid (h.out.up p);replace j:=hid (j.out.up p);replace k:=hid (k.out.up p);replace m:=hid (m.out.up p);replace c:=hid (c.out.below p c.out.lt);replace d:=hid (d.out.below p d.out.lt);replace Hb0:=hid (Z0_ Hb0.out (le_refl _) p);clear p;have J:=c.out.cell 0;have K:=c.out.cell 1;have L:=c.out.cell 2;have M:=c.out.cell 3;have N:=c.out.cell 4;have O:=c.out.cell 5;have P:=d.out.cell 0;have Q:=d.out.cell 1;have R:=d.out.cell 2;have S:=d.out.cell 3;have T:=d.out.cell 4;have U:=d.out.cell 5
 go_wp2_with fail
 refine (C5_ a b _ _ _ [] _ j.out k.out (V0_ W.out) (V0_ X.out) (Row.nil_ _ _)).mono ?_;rintro e w4 ⟨rfl,q⟩;rw [Hm.out];clear J K L M N O P Q R S T U;replace h:=hid (h.out.up q);replace j:=hid (j.out.up q);replace k:=hid (k.out.up q);replace m:=hid (m.out.up q);replace c:=hid (c.out.below q c.out.lt);replace d:=hid (d.out.below q d.out.lt);replace Hb0:=hid (Z0_ Hb0.out (le_refl _) q);clear q
 go_wp2_with fail
 refine (M8_ _ s _ x6.out _ m.out).mono ?_;rintro e w5 ⟨rfl,r⟩;replace h:=hid (h.out.up r);replace j:=hid (j.out.up r);replace k:=hid (k.out.up r);replace m:=hid (m.out.up r);replace c:=hid (c.out.below r c.out.lt);replace d:=hid (d.out.below r d.out.lt);replace Hb0:=hid (Z0_ Hb0.out (le_refl _) r);clear r
 go_wp2_with fail
 refine (Y0_ E _ h.out).mono ?_;rintro e w6 ⟨rfl,u⟩;replace h:=hid (h.out.up u);replace j:=hid (j.out.up u);replace k:=hid (k.out.up u);replace m:=hid (m.out.up u);replace c:=hid (c.out.below u c.out.lt);replace d:=hid (d.out.below u d.out.lt);replace Hb0:=hid (Z0_ Hb0.out (le_refl _) u);clear u;exact k2_
theorem Vk5 (E:Nat→Addr) (a:Mat) (I:Value) (b:Mat) (J:Value) (sw:Value) (s:List Int) (w:World) (xi:MatV w w.heap.size I a) (y2:Lim a) (xj:MatV w w.heap.size J b) (y3:Lim b) (xg:Row w w.heap.size sw s) (hE:Env E w) (x9:fewB 9 a 8=true) (xa:fewB 9 b 8=true) (H:Common a b []) (hl:¬ (20:Int)<(s.length:Int)) (xh:mayB s=true):Calls Tryz.prog 7 #[I,J,sw] w (Truly w):=by
 have Y:=H.n64;have x8:=(mayI_iff.1 (J5_ H.ia)).1;have xx:=(mayI_iff.1 (J5_ H.ib)).1;have hnn:(nN a:Int)=a.n:=(Z7_ x8).1;have x4:=H.nn;have xb:IsSet s:=mayB_iff.1 xh;obtain ⟨L,hL⟩:∃ L,adjG a b []=L:=⟨_,rfl⟩;obtain ⟨u,x2⟩:∃ F,addG a []=F:=⟨_,rfl⟩;obtain ⟨x,x3⟩:∃ F,addG b []=F:=⟨_,rfl⟩;have hLl:L.length=nN a:=z49_;have zo:((L.length:Int) != a.n)=false:=z48_;have z1:Hid (∀ i,L.getD i []=[]):=hid fun i=>by rw [← hL];exact Xg9 i
 have zk:u.length≤64:=by rw [← x2];exact Nat.le_trans (Y4_ (A9_ Y)) Y
 have zl:x.length≤64:=by rw [← x3];exact Nat.le_trans (Y4_ (A9_ (by rw [x4];exact Y))) (by rw [x4];exact Y)
 have xk:Hid (∀ k:Nat,k<nN a→hasB u (k:Int)=indT a [(k:Int)]):=hid fun k hk=>by rw [← x2];exact Ym0 x8 hk
 have xl:Hid (∀ k:Nat,k<nN a→hasB x (k:Int)=indT b [(k:Int)]):=hid fun k hk=>by rw [← x3];exact Ym0 xx (by rw [x4];exact hk)
 have z2:Hid (turnL [] s=s):=hid (Xh0 xb);have z3:Hid (turnL s s=[]):=hid (Xh1 xb);have zm:(L.length:Int)≤64:=q39_;have zn:((L.length:Int)==a.n)=true:=z48_;have zr:(s.length:Int)≤20:=q39_;have xs:=hid (V0_ x9);have xt:=hid (V0_ xa);have HG:Hid (∀ (I J G:Value) (W:World),MatV W W.heap.size I a→MatV W W.heap.size J b→Row W W.heap.size G []→Env E W→Calls Tryz.prog 16 #[I,J,G] W (D5_ W L u x 0)):=hid fun I J G W h1 h2 h3 h4=>by
  rw [← hL,← x2,← x3];exact H2_ E a b I J G [] W h1 h2 xs.out xt.out h3 h4 H
 have Hm:Hid (mayS a b []=true):=hid (mayS_iff.2 H);have xq:=hid x9;have xr:=hid xa;have yi:=hid xh;have xc:(nN a:Int)=a.n:=hnn;obtain ⟨n,hN⟩:∃ n:Nat,nN a=n:=⟨_,rfl⟩;rw [hN] at xc Y hLl xk xl;have x5:=hid xc;clear x9 xa H x8 xx hnn x4 xb hL x2 x3 xh hN xc hLl;have yg:=hid y2;have yh:=hid y3;obtain ⟨l1,i1,ze,z9,z6⟩:=xi.open;obtain ⟨l2,i2,zf,za,z7⟩:=xj.open;obtain ⟨M,cl,rfl,_⟩:=z9;obtain ⟨K,S,rfl,_⟩:=z6;obtain ⟨R,U,rfl,_⟩:=za;obtain ⟨O,T,rfl,_⟩:=z7;obtain ⟨Aw,cw,zd,z4,_⟩:=id xg;subst ze zf zd;obtain ⟨X,hW2⟩:∃ X,X=(w.alloc (.cells #[.int .i64 a.t,.int .i64 a.n,.int .i64 a.a,.int .i64 a.b,.slice M a.l.length cl,.slice K a.i.length S] 25)).alloc (.cells #[.int .i64 b.t,.int .i64 b.n,.int .i64 b.a,.int .i64 b.b,.slice R b.l.length U,.slice O b.i.length T] 25):=⟨_,rfl⟩;have xm:=hid hW2;have m:Below w.heap.size w X:=by rw [hW2];exact ((Below.refl _ w).alloc (le_refl _) _).alloc j39_ _
 have Hka:Hid (Blk X w.heap.size 25 #[.int .i64 a.t,.int .i64 a.n,.int .i64 a.a,.int .i64 a.b,.slice M a.l.length cl,.slice K a.i.length S]):=hid y41_;have Hkb:Hid (Blk X (w.heap.size+1) 25 #[.int .i64 b.t,.int .i64 b.n,.int .i64 b.a,.int .i64 b.b,.slice R b.l.length U,.slice O b.i.length T]):=hid (by
  rw [hW2];have:=Blk.new (w.alloc (.cells #[.int .i64 a.t,.int .i64 a.n,.int .i64 a.a,.int .i64 a.b,.slice M a.l.length cl,.slice K a.i.length S] 25)) 25 #[.int .i64 b.t,.int .i64 b.n,.int .i64 b.a,.int .i64 b.b,.slice R b.l.length U,.slice O b.i.length T];simpa using this)
 have r:=hid m;have g:=hid (xi.up m);have j:=hid (xj.up m);have q:=hid (xg.up m);have o:=hid (hE.up m);clear xi xj y2 y3 hE xg z4 hW2 m
 go_enter Tryz.func7,Tryz.ntmps7
 go_wp2_with fail
 rw [← xm.out];refine (Y0_ E _ o.out).mono ?_;rintro e w1 ⟨rfl,y⟩;clear xm;replace o:=hid (o.out.up y);replace g:=hid (g.out.up y);replace j:=hid (j.out.up y);replace q:=hid (q.out.up y);replace Hka:=hid (Hka.out.below y Hka.out.lt);replace Hkb:=hid (Hkb.out.below y Hkb.out.lt);replace r:=hid (Z0_ r.out (le_refl _) y);clear y;have Z:=Hka.out.cell 0;have k1:=Hka.out.cell 1;have k2:=Hka.out.cell 2;have k3:=Hka.out.cell 3;have k4:=Hka.out.cell 4;have k5:=Hka.out.cell 5
 go_wp2_with fail
 refine (X6_ a _ 8 _ g.out yg.out).mono ?_;rintro e w2 ⟨rfl,m⟩;rw [xq.out];clear Z k1 k2 k3 k4 k5;replace o:=hid (o.out.up m);replace g:=hid (g.out.up m);replace j:=hid (j.out.up m);replace q:=hid (q.out.up m);replace Hka:=hid (Hka.out.below m Hka.out.lt);replace Hkb:=hid (Hkb.out.below m Hkb.out.lt);replace r:=hid (Z0_ r.out (le_refl _) m);clear m;have n0:=Hkb.out.cell 0;have n1:=Hkb.out.cell 1;have n2:=Hkb.out.cell 2;have n3:=Hkb.out.cell 3;have n4:=Hkb.out.cell 4;have n5:=Hkb.out.cell 5
 go_wp2_with fail
 refine (X6_ b _ 8 _ j.out yh.out).mono ?_;rintro e w3 ⟨rfl,z⟩;rw [xr.out];clear n0 n1 n2 n3 n4 n5;replace o:=hid (o.out.up z);replace g:=hid (g.out.up z);replace j:=hid (j.out.up z);replace q:=hid (q.out.up z);replace Hka:=hid (Hka.out.below z Hka.out.lt);replace Hkb:=hid (Hkb.out.below z Hkb.out.lt);replace r:=hid (Z0_ r.out (le_refl _) z);clear z;have Z:=Hka.out.cell 0;have k1:=Hka.out.cell 1;have k2:=Hka.out.cell 2;have k3:=Hka.out.cell 3;have k4:=Hka.out.cell 4;have k5:=Hka.out.cell 5;have n0:=Hkb.out.cell 0;have n1:=Hkb.out.cell 1;have n2:=Hkb.out.cell 2;have n3:=Hkb.out.cell 3;have n4:=Hkb.out.cell 4;have n5:=Hkb.out.cell 5
 go_wp2_with fail
 refine (C5_ a b _ _ _ [] _ g.out j.out (V0_ xq.out) (V0_ xr.out) (Row.nil_ _ _)).mono ?_;rintro e w4 ⟨rfl,B⟩;rw [Hm.out];clear Z k1 k2 k3 k4 k5 n0 n1 n2 n3 n4 n5;replace o:=hid (o.out.up B);replace g:=hid (g.out.up B);replace j:=hid (j.out.up B);replace q:=hid (q.out.up B);replace Hka:=hid (Hka.out.below B Hka.out.lt);replace Hkb:=hid (Hkb.out.below B Hkb.out.lt);replace r:=hid (Z0_ r.out (le_refl _) B);clear B
 go_wp2_with fail
 refine (M8_ _ s _ yi.out _ q.out).mono ?_;rintro e w5 ⟨rfl,C⟩;replace o:=hid (o.out.up C);replace g:=hid (g.out.up C);replace j:=hid (j.out.up C);replace q:=hid (q.out.up C);replace Hka:=hid (Hka.out.below C Hka.out.lt);replace Hkb:=hid (Hkb.out.below C Hkb.out.lt);replace r:=hid (Z0_ r.out (le_refl _) C);clear C;have Z:=Hka.out.cell 0;have k1:=Hka.out.cell 1;have k2:=Hka.out.cell 2;have k3:=Hka.out.cell 3;have k4:=Hka.out.cell 4;have k5:=Hka.out.cell 5;have n0:=Hkb.out.cell 0;have n1:=Hkb.out.cell 1;have n2:=Hkb.out.cell 2;have n3:=Hkb.out.cell 3;have n4:=Hkb.out.cell 4;have n5:=Hkb.out.cell 5
 go_wp2_with fail
 refine (HG.out _ _ _ _ g.out j.out (Row.nil_ _ _) o.out).mono ?_;rintro e V ⟨vj,vf,vt,rfl,xu,hf,ht,D⟩;clear Z k1 k2 k3 k4 k5 n0 n1 n2 n3 n4 n5 HG;replace o:=hid (o.out.up D);replace g:=hid (g.out.up D);replace j:=hid (j.out.up D);replace q:=hid (q.out.up D);replace Hka:=hid (Hka.out.below D Hka.out.lt);replace Hkb:=hid (Hkb.out.below D Hkb.out.lt);replace r:=hid (Z0_ r.out (le_refl _) D);clear D;have HJ:=hid xu;have HF:=hid hf;have HT:=hid ht;obtain ⟨Aj,cj,rfl,_,_⟩:=xu;obtain ⟨Af,cf,rfl,_⟩:=hf;obtain ⟨At,ct,rfl,_⟩:=ht;go_wp2
 go_loopw [11] (fun vi wr=>∃ i:Nat,vi=.int .i64 (i:Int)∧i≤L.length∧Hid (Below V.heap.size V wr)) (fun vi _=>L.length - (intOf vi).toNat)
 case atStart=>exact ⟨0,rfl,Nat.zero_le _,hid (Below.refl _ _)⟩
 case round =>
  obtain ⟨i,rfl,zp,x0⟩:=hrel;by_cases zb:i<L.length
  ·have zc:(i:Int)<(L.length:Int):=by omega
   have zs:IntKind.i64.wrap ((i:Int)+1)=(i:Int)+1:=q40_;obtain ⟨_,_,he,_,y0⟩:=id HJ.out;obtain ⟨al,u1,hA,halb,xw,xd⟩:=y0 i zb;have z5:=(Value.slice.inj he).1;subst z5;subst hA;clear he;rw [z1.out i] at xd;obtain ⟨A0,c0,rfl⟩:=P3_ xd;have g1:=(x0.out.cell (p:=al.add i) j42_).trans xw;clear y0 xw xd;go_wp2
   go_roundw
   case rel=>exact ⟨i+1,j40_,q39_,x0⟩
   case measure=>simp [intOf];omega
  ·have zc:¬ (i:Int)<(L.length:Int):=by omega
   go_wp2
   go_loopw [12] (fun vk wr=>∃ k:Nat,vk=.int .i64 (k:Int)∧k≤n∧Hid (Below V.heap.size V wr)) (fun vk _=>n - (intOf vk).toNat)
   case atStart=>exact ⟨0,rfl,Nat.zero_le _,x0⟩
   case round =>
    obtain ⟨k,rfl,zq,x1⟩:=hrel;clear x0;have q1:=(Hka.out.below x1.out Hka.out.lt).cell 1;by_cases y1:k<n
    ·have z8:(k:Int)<a.n:=by rw [← x5.out];omega
     have zt:IntKind.i64.wrap ((k:Int)+1)=(k:Int)+1:=by rw [IntKind.wrap_i64];have:=x5.out;omega
     obtain ⟨P,hP⟩:∃ P:Bool,hasB u (k:Int)=P:=⟨_,rfl⟩;obtain ⟨Q,hQ⟩:∃ Q:Bool,hasB x (k:Int)=Q:=⟨_,rfl⟩;have y7:Hid (indT a [(k:Int)]=P):=hid (by rw [← xk.out k y1];exact hP);have y8:Hid (indT b [(k:Int)]=Q):=hid (by rw [← xl.out k y1];exact hQ);have y9:=hid hP;have ya:=hid hQ;have HK:Hid (∀ W,Below wr.drew.heap.size wr.drew W→Below V.heap.size V W):=hid fun W hW=>Z0_ x1.out.drew (le_refl _) hW;clear hP hQ;go_wp2;clear q1;refine Zv8 (ops:=opsN) (ksN (.int .i64 a.t) (.int .i64 a.n) (.int .i64 a.a) (.int .i64 a.b) (.slice M a.l.length cl) (.slice K a.i.length S) (.int .i64 b.t) (.int .i64 b.n) (.int .i64 b.a) (.int .i64 b.b) (.slice R b.l.length U) (.slice O b.i.length T) (.slice Af u.length cf) (.slice At x.length ct) (k:Int) P Q) x39_ x39_ (Vt3 (B1:=w.heap.size) (B2:=w.heap.size+1) ⟨rfl,rfl,rfl,rfl,rfl,?hK,?hH1,?hH2,?hI1,?hI2⟩) ?_
     case hK =>
      intro W hW;exact q13_
     case hH1=>exact fun W hW=>by rw [← y9.out];exact refhas_any _ u _ W (HF.out.up (HK.out W hW)) q39_
     case hH2=>exact fun W hW=>by rw [← ya.out];exact refhas_any _ x _ W (HT.out.up (HK.out W hW)) q39_
     case hI1=>exact fun G W hW h=>by rw [← y7.out];exact C4_ a _ G _ W (g.out.up (HK.out W hW)) xs.out h
     case hI2=>exact fun G W hW h=>by rw [← y8.out];exact C4_ b _ G _ W (j.out.up (HK.out W hW)) xt.out h
     intro c W hW y5 xy y4 d;have yj:c.tmps.getD 68 undef=.slice Af u.length cf:=d 0 68 k40_ x39_;have yk:c.tmps.getD 69 undef=.int .i64 (k:Int):=d 1 69 k40_ x39_;have yl:c.tmps.getD 70 undef=.bool P:=d 2 70 k40_ x39_;have ym:c.tmps.getD 71 undef=.agg #[.int .i64 a.t,.int .i64 a.n,.int .i64 a.a,.int .i64 a.b,.slice M a.l.length cl,.slice K a.i.length S]:=d 3 71 k40_ x39_;have yn:c.tmps.getD 72 undef=.int .i64 (k:Int):=d 4 72 k40_ x39_;have yp:c.tmps.getD 74 undef=.bool P:=d 6 74 k40_ x39_;have yq:c.tmps.getD 75 undef=.bool false:=d 7 75 k40_ x39_;have yr:c.tmps.getD 76 undef=.bool false:=d 8 76 k40_ x39_;have ys:c.tmps.getD 77 undef=.slice At x.length ct:=d 9 77 k40_ x39_;have yt:c.tmps.getD 78 undef=.int .i64 (k:Int):=d 10 78 k40_ x39_;have yu:c.tmps.getD 79 undef=.bool Q:=d 11 79 k40_ x39_;have yv:c.tmps.getD 80 undef=.agg #[.int .i64 b.t,.int .i64 b.n,.int .i64 b.a,.int .i64 b.b,.slice R b.l.length U,.slice O b.i.length T]:=d 12 80 k40_ x39_;have yw:c.tmps.getD 81 undef=.int .i64 (k:Int):=d 13 81 k40_ x39_;have yy:c.tmps.getD 83 undef=.bool Q:=d 15 83 k40_ x39_;have yz:c.tmps.getD 84 undef=.bool false:=d 16 84 k40_ x39_;have z0:c.tmps.getD 85 undef=.bool false:=d 17 85 k40_ x39_;obtain ⟨zg,yo⟩:∃ v,c.tmps.getD 73 undef=v:=⟨_,rfl⟩;obtain ⟨zh,yx⟩:∃ v,c.tmps.getD 82 undef=v:=⟨_,rfl⟩;have xz:=Ym4 (ops:=opsN) (n:=18) (N:=108) [(68,.slice Af u.length cf),(69,.int .i64 (k:Int)),(70,.bool P),(71,.agg #[.int .i64 a.t,.int .i64 a.n,.int .i64 a.a,.int .i64 a.b,.slice M a.l.length cl,.slice K a.i.length S]),(72,.int .i64 (k:Int)),(73,zg),(74,.bool P),(75,.bool false),(76,.bool false),(77,.slice At x.length ct),(78,.int .i64 (k:Int)),(79,.bool Q),(80,.agg #[.int .i64 b.t,.int .i64 b.n,.int .i64 b.a,.int .i64 b.b,.slice R b.l.length U,.slice O b.i.length T]),(81,.int .i64 (k:Int)),(82,zh),(83,.bool Q),(84,.bool false),(85,.bool false)] rfl y5 xy (fun t ht=>y4 t (by unfold Ym1;rw [show opsN.size=18 by kernel_rfl];exact ht)) x39_ (by
      intro p hp;simp only [List.mem_cons,List.not_mem_nil,or_false] at hp;rcases hp with rfl | rfl | rfl | rfl | rfl | rfl | rfl | rfl | rfl | rfl | rfl | rfl | rfl | rfl | rfl | rfl | rfl | rfl<;>assumption)
     have y6:=hid (HK.out W hW);clear y4 d y5 xy yj yk yl ym yn yo yp yq yr ys yt yu yv yw yx yy yz z0 hW;rw [xz];clear xz;simp only [show List.range 108=[0,1,2,3,4,5,6,7,8,9,10,11,12,13,14,15,16,17,18,19,20,21,22,23,24,25,26,27,28,29,30,31,32,33,34,35,36,37,38,39,40,41,42,43,44,45,46,47,48,49,50,51,52,53,54,55,56,57,58,59,60,61,62,63,64,65,66,67,68,69,70,71,72,73,74,75,76,77,78,79,80,81,82,83,84,85,86,87,88,89,90,91,92,93,94,95,96,97,98,99,100,101,102,103,104,105,106,107] from by decide,List.map_cons,List.map_nil,List.lookup_cons,List.lookup_nil];go_simp;go_wp2
     go_roundw
     case rel=>exact ⟨k+1,j40_,q39_,y6⟩
     case measure=>simp [intOf];omega
    ·have z8:¬ (k:Int)<a.n:=by rw [← x5.out];omega
     have xp:=hid (q.out.up x1.out);have yf:=hid (Z0_ r.out (le_refl _) x1.out)
     go_wp2_with fail
     refine (K9_ _ _ [] s _ (Row.nil_ _ _) xp.out j39_ q39_).mono ?_;rintro e w8 ⟨v8,rfl,xf,x6⟩;rw [z2.out] at xf;have yb:=hid xf;have xn:=hid (xp.out.up x6);have yd:=hid (Z0_ yf.out (le_refl _) x6);clear xf x6 q1
     go_wp2_with fail
     refine (cS _ _ s _ yb.out xn.out q39_).mono ?_;rintro e w9 ⟨rfl,x7⟩;have xo:=hid (xn.out.up x7);have ye:=hid (Z0_ yd.out (le_refl _) x7);clear x7
     go_wp2_with fail
     refine (K9_ _ _ s s _ xo.out xo.out q39_ q39_).mono ?_;rintro e zv ⟨zu,rfl,xe,xv⟩;rw [z3.out] at xe;obtain ⟨zi,zj,rfl⟩:=P3_ xe;have yc:=hid (Z0_ ye.out (le_refl _) xv);clear xe xv;go_wp2;go_ret;exact ⟨rfl,yc.out⟩
theorem Yj4 (E:Nat→Addr) (a:Mat) (d:Value) (b:Mat) (e:Value) (c:Value) (s:List Int) (w:World) (m:MatV w w.heap.size d a) (h:Lim a) (o:MatV w w.heap.size e b) (j:Lim b) (k:Row w w.heap.size c s) (g:Env E w):Calls Tryz.prog 7 #[d,e,c] w (Truly w):=by
 cases hfa:fewB 9 a 8 with
 | false=>exact wn_1 E a d b e c s w m h o j k g hfa
 | true =>
  cases hfb:fewB 9 b 8 with
  | false=>exact wn_2 E a d b e c s w m h o j k g hfa hfb
  | true =>
   cases hm:mayS a b [] with
   | false=>exact wn_3 E a d b e c s w m h o j k g hfa hfb hm
   | true =>
    by_cases hl:(20:Int)<(s.length:Int)
    ·exact wn_4 E a d b e c s w m h o j k g hfa hfb hm hl
    ·cases hset:mayB s with
     | false=>exact wn_5 E a d b e c s w m h o j k g hfa hfb hm hl hset
     | true=>exact Vk5 E a d b e c s w m h o j k g hfa hfb (mayS_iff.1 hm) hl hset
end Wp
end Go.Proofs.YteiejkhdonmcdaaGreatDoor
