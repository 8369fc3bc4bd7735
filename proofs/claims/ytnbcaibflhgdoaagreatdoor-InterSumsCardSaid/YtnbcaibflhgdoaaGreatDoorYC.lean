/- A region whose order is drawn, some of whose operations are passed over: what each operation that is come up grants; what is passed over is left undefined. Nothing of the program here. What an operation of a drawn region may lean on, in short. Nothing of the program here. inter's drawn regions, operation by operation (written by gen_ymax.py). -/
import Derived.Test.YtnbcaibflhgdoaaGreatDoorVTail
import Derived.Test.YtnbcaibflhgdoaaGreatDoorZA
import Derived.Test.YtnbcaibflhgdoaaGreatDoorZO
import Derived.Test.YtnbcaibflhgdoaaGreatDoorX0A
import Derived.Test.YtnbcaibflhgdoaaGreatDoorX0B
set_option maxRecDepth 100000
namespace Go.Proofs.YtnbcaibflhgdoaaGreatDoor.Wp
private theorem k2_ {P:Prop} (h:P:=by
 simp only [execOp,Act.eval,e1]
 go_simp
 exact ⟨Below.refl _ _,rfl⟩):P:=h
private theorem y24_ {P:Prop} (h:P:=by
 refine ⟨Op.load 25 (Operand.tmp 4), 25,by kernel_rfl,fun a W _ hb hout _=>?_⟩
 have e1:=(hout 4 (by kernel_rfl)).trans c.h4
 obtain ⟨k0,k1,k2,k3,k4,k5⟩:=c.hK2 W hb
 exact k2_):P:=h
private theorem y25_ {P:Prop} (h:P:=by
 refine ⟨Op.move (Operand.tmp 2), 26,by kernel_rfl,fun a W _ _ hout _=>?_⟩
 have e1:=(hout 2 (by kernel_rfl)).trans c.h2
 exact k2_):P:=h
end Go.Proofs.YtnbcaibflhgdoaaGreatDoor.Wp
namespace Go.Proofs.YtnbcaibflhgdoaaGreatDoor.Wp
open Go Go.RowKit
def Kind.isBool:Kind→Bool
 | .eq (.bool _)=>true
 | _=>false
def wantK (ops:Array Oper) (ks:List Kind) (i:Nat):Bool:=match ops[i]? with
 | none=>true
 | some o=>match o.guard with
  | none=>true
  | some (g,b)=>(kd ks g).isB b
def ek (ops:Array Oper) (ks:List Kind) (i:Nat):Kind:=if wantK ops ks i then kd ks i else .eq undef
def regW (ops:Array Oper) (ks:List Kind) (n:Nat):Bool :=
 (List.range ops.size).all fun i=>match ops[i]? with
  | none=>false
  | some o=>(match o.dst with
    | some d=>decide (d<n) && (List.range ops.size).all fun j=>decide (j=i) || dstOf ops j != some d
    | none=>true) && (o.after.all fun e=>decide (e.on<i)) && (match o.guard with
    | none=>true
    | some (g,_)=>Region.waitsFor .any ops i g && (dstOf ops g).isSome && (kd ks g).isBool && (match ops[g]? with
     | some og=>og.guard.isNone
     | none=>false))
structure RegW (ops:Array Oper) (ks:List Kind) (n:Nat):Prop where
 lt:∀ i d,dstOf ops i=some d→d<n
 one:∀ i j d,dstOf ops i=some d→dstOf ops j=some d→i=j
 back:∀ (i:Nat) (o:Oper),ops[i]?=some o→∀ e∈o.after,e.on<i
 guard:∀ (i:Nat) (o:Oper) (g:Nat) (b:Bool),ops[i]?=some o→o.guard=some (g,b)→Region.waitsFor .any ops i g=true∧(∃ d,dstOf ops g=some d)∧(∃ c,kd ks g=.eq (.bool c))∧wantK ops ks g=true
theorem Kind.bool_of {k:Kind} (h:k.isBool=true):∃ c,k=.eq (.bool c):=by
 cases k with
 | eq u =>
  cases u with
  | bool c=>exact ⟨c,rfl⟩
  | _=>simp [Kind.isBool] at h
 | row l=>simp [Kind.isBool] at h
theorem X7_ {p:Nat→Prop} {n:Nat} (h:∀ i,i<n→p i) (c:p n):∀ i,i<n+1→p i:=fun i d=>if e:i=n then e▸c else h i j29_
section
variable {P:Program} {ops:Array Oper} {Q:Exit→Act→World→Prop}
theorem Xp1 {ks:List Kind} {n:Nat} (h:regW ops ks n=true):RegW ops ks n:=by
 have m:∀ (i:Nat) (o:Oper),ops[i]?=some o→((match o.dst with
    | some d=>decide (d<n) && (List.range ops.size).all fun j=>decide (j=i) || dstOf ops j != some d
    | none=>true)=true∧(o.after.all fun e=>decide (e.on<i))=true)∧(match o.guard with
    | none=>true
    | some (g,_)=>Region.waitsFor .any ops i g && (dstOf ops g).isSome && (kd ks g).isBool && (match ops[g]? with
     | some og=>og.guard.isNone
     | none=>false))=true:=fun i o ho=>by
  have k:i<ops.size:=(Array.getElem?_eq_some_iff.1 ho).1;have c:=List.all_eq_true.1 h i (List.mem_range.2 k);simp only [ho,Bool.and_eq_true] at c ⊢;exact c
 have hd:∀ i d,dstOf ops i=some d→∃ o,ops[i]?=some o∧o.dst=some d:=fun i d h=>q15_;refine ⟨fun i d k=>?_,fun i j d k q=>?_,fun i o ho e r=>?_,fun i o g b ho s=>?_⟩
 ·obtain ⟨o,ho,p⟩:=hd i d k
  have c:=(m i o ho).1.1;simp only [p,Bool.and_eq_true,decide_eq_true_eq] at c;exact c.1
 ·obtain ⟨o,ho,p⟩:=hd i d k
  have c:=(m i o ho).1.1;simp only [p,Bool.and_eq_true,decide_eq_true_eq] at c;obtain ⟨v,u,_⟩:=hd j d q;have f:=List.all_eq_true.1 c.2 j (List.mem_range.2 (Array.getElem?_eq_some_iff.1 u).1);rw [q] at f;simp at f;exact f.symm
 ·have c:=(m i o ho).1.2
  have f:=Array.all_eq_true_iff_forall_mem.1 c e r;simpa using f
 ·have c:=(m i o ho).2
  simp only [s,Bool.and_eq_true] at c;refine ⟨c.1.1.1,Option.isSome_iff_exists.1 c.1.1.2,Kind.bool_of c.1.2,?_⟩;unfold wantK;have f:=c.2;cases hog:ops[g]? with
  | none=>rfl
  | some og =>
   rw [hog] at f;have h3:og.guard=none:=by simpa using f
   simp only [h3]
structure GotW (ops:Array Oper) (ks:List Kind) (a0:Act) (w0:World) (listed:Array Bool) (a:Act) (w:World):Prop where
 size:listed.size=ops.size
 below:Below w0.heap.size w0 w
 asize:a.tmps.size=a0.tmps.size
 defs:a.defers=a0.defers
 outer:∀ t,Zq0 ops t=true→a.tmps.getD t undef=a0.tmps.getD t undef
 got:∀ i d,dstOf ops i=some d→listed.getD i false=true→(ek ops ks i).holds (a.tmps.getD d undef) w
def ObW (P:Program) (ops:Array Oper) (ks:List Kind) (a0:Act) (w0:World) (i:Nat):Prop :=
 ∃ (op:Op) (ty:TypeId),(ops[i]?).map (fun o=>(o.op,o.type))=some (op,ty)∧∀ (a:Act) (W:World),wantK ops ks i=true→Below w0.heap.size w0 W→(∀ t,Zq0 ops t=true→a.tmps.getD t undef=a0.tmps.getD t undef) →
  (∀ j d,Region.waitsFor .any ops i j=true→dstOf ops j=some d→(ek ops ks j).holds (a.tmps.getD d undef) W)→Zi5 P ((execOp a.eval { dst:=none,op:=op,type:=ty,pos := "",after:=#[],guard:=none }).run P W) W (kd ks i).holds
theorem Zr4 {c:Array Bool} {ks:List Kind} {n:Nat} (g:RegW ops ks n) (hs:c.size=ops.size) (h:Region.ready .any ops c=[]):∀ i,i<ops.size→c.getD i false=true:=by
 intro i
 induction i using Nat.strongRecOn with
 | _ i ih =>
  intro d;cases hl:c.getD i false with
  | true=>rfl
  | false =>
   have f:i∈Region.ready .any ops c:=mem_ready.2 ⟨getD_in j29_ hl,ops[i],by simp [d],fun e j _=>by
    have k:=g.back i ops[i] (by simp [d]) e j;exact ih e.on k j29_⟩
   rw [h] at f;cases f
theorem O3_ {ks:List Kind} {A:Act} {w0:World} (r:RegW ops ks A.tmps.size) (L:∀ i,i<ops.size→ObW P ops ks A w0 i)
  (F:∀ f a W,GotW ops ks A w0 f a W→(∀ i,i<ops.size→f.getD i false=true)→Q .normal a W) :
  ∀ (fuel:Nat) (f:Array Bool) (a:Act) (w:World),GotW ops ks A w0 f a w→cnt (fun i=>!f.getD i false) ops.size=fuel→wpAny P .any ops Q fuel f a w
 | 0,f,a,w,hg,hc=>by
  have B:∀ i,i<ops.size→f.getD i false=true:=fun i H=>by
   cases hl:f.getD i false with
   | true=>rfl
   | false =>
    have:=Zu6 (p:=fun _=>false) (q:=fun i=>!f.getD i false) (n:=ops.size) (fun _ _ h=>by cases h) ⟨i,H,rfl,by simp [hl]⟩;omega
  refine ⟨?_,F _ _ _ hg B⟩;cases hr:Region.ready .any ops f with
  | nil=>rfl
  | cons x xs =>
   have hx:x∈Region.ready .any ops f:=by rw [hr];simp
   obtain ⟨m,o,ho,_⟩:=mem_ready.1 hx;have:=B x (Array.getElem?_eq_some_iff.1 ho).1;rw [getD_both m] at this;cases this
 | fuel+1,f,a,w,hg,hc=>by
  refine ⟨fun N=>F _ _ _ hg (Zr4 r hg.size N),fun i H=>?_⟩;obtain ⟨Y,o,ho,B⟩:=mem_ready.1 H;have C:i<ops.size:=(Array.getElem?_eq_some_iff.1 ho).1;obtain ⟨op,ty,D,hO⟩:=L i C;rw [ho] at D;simp only [Option.map_some,Option.some.injEq,Prod.mk.injEq] at D;have K:∀ j d,Region.waitsFor .any ops i j=true→dstOf ops j=some d→(ek ops ks j).holds (a.tmps.getD d undef) w:=fun j d J hd=>by
   obtain ⟨oj,U,e,z,hb,V⟩:=Region.waitsFor_spec J;have:oj=o:=Option.some.inj (U.symm.trans ho);subst this;exact hg.got j d hd (by rw [← V];exact B e z hb)
  have J:Region.wanted o (yielded ops a.tmps)=wantK ops ks i:=by
   unfold Region.wanted wantK;rw [ho];cases hgd:o.guard with
   | none=>simp [hgd]
   | some gb =>
    obtain ⟨g,b⟩:=gb;obtain ⟨m,⟨d,hd⟩,⟨c,h3⟩,x0⟩:=r.guard i o g b ho hgd;have s:=K g d m hd;unfold ek at s;rw [x0,if_pos rfl,h3] at s;have s:a.tmps.getD d undef=.bool c:=s;have R:d<a.tmps.size:=by rw [hg.asize];exact r.lt g d hd
    have O:a.tmps[d]?=some (.bool c):=by
     rw [← s];simp [Array.getD,R]
    unfold dstOf at hd;simp [hgd,yielded,h3,Kind.isB,hd,O]
  have S:i<f.size:=by rw [hg.size];exact C
  have next:∀ u w',Below w.heap.size w w'→(ek ops ks i).holds u w'→wpAny P .any ops Q fuel (f.setIfInBounds i true) (a.put o.dst u) w':=fun u w' hb E=>by
   refine O3_ r L F fuel _ _ _ ⟨by simp [hg.size],hg.below.trans (hb.mono hg.below.size),by rw [Yy5];exact hg.asize,by rw [Yy6];exact hg.defs,fun t M=>?_,fun j d hj hl=>?_⟩ ?_
   ·rw [F6_ a u (fun e=>by
     have m:=List.all_eq_true.1 M i (List.mem_range.2 C);have:dstOf ops i=some t:=y33_;rw [this] at m;simp at m)]
    exact hg.outer t M
   ·by_cases I:i=j
    ·subst I
     have T:o.dst=some d:=y36_;rw [T,Zd1 a u (by rw [hg.asize];exact r.lt i d hj)];exact E
    ·rw [F6_ a u (fun e=>I (r.one i j d y33_ hj))]
     rw [getD_set_ne false I] at hl;exact Kind.up (hg.got j d hj hl) hb
   ·have X:(fun k=>!(f.setIfInBounds i true).getD k false) i=false:=by simp [S]
    have m:=P2_ (p:=fun k=>!f.getD k false) (q:=fun k=>!(f.setIfInBounds i true).getD k false) (y:=i) (by simp only [getD_both Y];rfl) X (fun v Z=>by simp only [getD_set_ne false (Ne.symm Z)]) (n:=ops.size);rw [if_pos C] at m;omega
  unfold wpOp;simp only [ho,J];cases hwk:wantK ops ks i with
  | true =>
   rw [if_pos rfl];have z:ek ops ks i=kd ks i:=by unfold ek;rw [hwk,if_pos rfl]
   exact .inl (S1_ (G:=(kd ks i).holds) (by rw [Zy4,D.1,D.2];exact hO a w hwk hg.below hg.outer K) fun u w' hb E=>next u w' hb (by rw [z];exact E))
  | false =>
   rw [if_neg y30_];have z:ek ops ks i=.eq undef:=by unfold ek;rw [hwk,if_neg y30_]
   exact next undef w (Below.refl _ _) (by rw [z];exact rfl)
theorem K7_ {id:Nat} {a:Act} {w:World} (ks:List Kind) (j:P.follows .mixedOrders=true) (hB:regW ops ks a.tmps.size=true) (k:∀ i,i<ops.size→ObW P ops ks a w.drew i)
  (f:∀ c W,Below w.drew.heap.size w.drew W→c.tmps.size=a.tmps.size→c.defers=a.defers→(∀ t,Zq0 ops t=true→c.tmps.getD t undef=a.tmps.getD t undef)→(∀ i d,i<ops.size→dstOf ops i=some d→(ek ops ks i).holds (c.tmps.getD d undef) W)→Q .normal c W) :
  (Code.region id ops true).wp P Q a w:=by
 refine wp_region_any j ?_;exact O3_ (w0:=w.drew) (Xp1 hB) k (fun m c W e g=>f c W e.below e.asize e.defs e.outer fun i d h hd=>e.got i d hd (g i h)) _ _ _ _
  ⟨x30_,Below.refl _ _,rfl,rfl,fun _ _=>rfl,fun i d _ hl=>by rw [getD_replicate_false] at hl;cases hl⟩ (S8_ fun v _=>by simp only [getD_replicate_false];rfl)
end
open Go Go.RowKit
section
variable {ops:Array Oper} {ks:List Kind} {i:Nat} {a:Act} {W:World}
theorem depE (hd:∀ j d,Region.waitsFor .any ops i j=true→dstOf ops j=some d→(ek ops ks j).holds (a.tmps.getD d undef) W) (j t:Nat) (v:Value)
  (c:Region.waitsFor .any ops i j=true:=by kernel_rfl) (e:dstOf ops j=some t:=by kernel_rfl) (h3:ek ops ks j=.eq v:=by kernel_rfl):a.tmps.getD t undef=v:=by
 have h:=hd j t c e;rw [h3] at h;exact h
theorem depR (hd:∀ j d,Region.waitsFor .any ops i j=true→dstOf ops j=some d→(ek ops ks j).holds (a.tmps.getD d undef) W) (j t:Nat) (l:List Int)
  (c:Region.waitsFor .any ops i j=true:=by kernel_rfl) (e:dstOf ops j=some t:=by kernel_rfl) (h3:ek ops ks j=.row l:=by kernel_rfl):Row W W.heap.size (a.tmps.getD t undef) l:=by
 have h:=hd j t c e;rw [h3] at h;exact h
end
end Go.Proofs.YtnbcaibflhgdoaaGreatDoor.Wp
namespace Go.Proofs.YtnbcaibflhgdoaaGreatDoor
open Go Go.RowKit
namespace Wp
structure ymP where
 (B1:Nat)
 (c0 c1 c2 c3 c4 c5 sv vj vf:Value)
 (W U:List Int)
noncomputable def ymO:Array Oper:=regOf 7 (Tryz.f8.body.getD .skip)
structure ymC (a0:Act) (w0:World) (x:ymP):Prop where
 h2:a0.tmps.getD 2 undef=.pointer (some ⟨x.B1,0,none⟩)
 h7:a0.tmps.getD 7 undef=x.sv
 h8:a0.tmps.getD 8 undef=x.vj
 h9:a0.tmps.getD 9 undef=x.vf
 hK1:∀ W,Below w0.heap.size w0 W→W.cell? ⟨x.B1,0,none⟩=some x.c0∧W.cell? ⟨x.B1,1,none⟩=some x.c1∧W.cell? ⟨x.B1,2,none⟩=some x.c2∧W.cell? ⟨x.B1,3,none⟩=some x.c3∧W.cell? ⟨x.B1,4,none⟩=some x.c4∧W.cell? ⟨x.B1,5,none⟩=some x.c5
 hF:∀ W,Below w0.heap.size w0 W→Calls Tryz.prog 22 #[x.vj,x.vf] W (Gives W x.W)
 hO:∀ W,Below w0.heap.size w0 W→∀ u,Row W W.heap.size u x.W→Calls Tryz.prog 21 #[.agg #[x.c0,x.c1,x.c2,x.c3,x.c4,x.c5],u] W (Gives W x.U)
def ymK (x:ymP):List Kind:=[.eq (x.sv),.eq (.agg #[x.c0,x.c1,x.c2,x.c3,x.c4,x.c5]),.eq (x.vj),.eq (x.vf),.row (x.W),.row (x.U),.eq (x.sv),.row (x.U),.eq (.int .i64 0)]
theorem ym_0 {d:Act} {w0:World} {x:ymP} (c:ymC d w0 x):ObW Tryz.prog ymO (ymK x) d w0 0:=by
 refine ⟨Op.move (Operand.tmp 7), 26,k29_,fun a W _ _ e _=>?_⟩;have e1:=(e 7 k29_).trans c.h7;exact k2_
theorem ym_1 {d:Act} {w0:World} {x:ymP} (c:ymC d w0 x):ObW Tryz.prog ymO (ymK x) d w0 1:=by
 refine ⟨Op.load 25 (Operand.tmp 2), 25,k29_,fun a W _ hb e _=>?_⟩;have e1:=(e 2 k29_).trans c.h2;obtain ⟨f,g,h,j,k,m⟩:=c.hK1 W hb;exact k2_
theorem ym_2 {d:Act} {w0:World} {x:ymP} (c:ymC d w0 x):ObW Tryz.prog ymO (ymK x) d w0 2:=by
 refine ⟨Op.move (Operand.tmp 8), 22,k29_,fun a W _ _ e _=>?_⟩;have e1:=(e 8 k29_).trans c.h8;exact k2_
theorem ym_3 {d:Act} {w0:World} {x:ymP} (c:ymC d w0 x):ObW Tryz.prog ymO (ymK x) d w0 3:=by
 refine ⟨Op.move (Operand.tmp 9), 26,k29_,fun a W _ _ e _=>?_⟩;have e1:=(e 9 k29_).trans c.h9;exact k2_
theorem ym_4 {d:Act} {w0:World} {x:ymP} (c:ymC d w0 x):ObW Tryz.prog ymO (ymK x) d w0 4:=by
 refine ⟨Op.call { callee:=Callee.value (Operand.func 22),args:=#[Operand.tmp 38,Operand.tmp 39],argTypes:=#[22, 26] }, 26,k29_,fun a W _ hb _ g=>?_⟩;have m:=depE g 2 38 (x.vj);have o:=depE g 3 39 (x.vf);simp only [execOp];go_simp;exact ⟨Below.refl _ _,(c.hF W hb).mono fun e p ⟨_,j,k,h⟩=>⟨_,j,h,k⟩⟩
theorem ym_5 {d:Act} {w0:World} {x:ymP} (c:ymC d w0 x):ObW Tryz.prog ymO (ymK x) d w0 5:=by
 refine ⟨Op.call { callee:=Callee.value (Operand.func 21),args:=#[Operand.tmp 37,Operand.tmp 40],argTypes:=#[25, 26] }, 26,k29_,fun a W _ hb _ h=>?_⟩;have q:=depE h 1 37 (.agg #[x.c0,x.c1,x.c2,x.c3,x.c4,x.c5]);have g:=depR h 4 40 (x.W);obtain ⟨p,o⟩:∃ v,a.tmps.getD 40 undef=v:=⟨_,rfl⟩;rw [o] at g;simp only [execOp];go_simp;exact ⟨Below.refl _ _,(c.hO W hb p g).mono fun e r ⟨_,k,m,j⟩=>⟨_,k,j,m⟩⟩
theorem ym_6 {c:Act} {w0:World} {x:ymP} (_c:ymC c w0 x):ObW Tryz.prog ymO (ymK x) c w0 6:=by
 refine ⟨Op.assign (Operand.tmp 36), 26,k29_,fun a W _ _ _ d=>?_⟩;have e1:=depE d 0 36 (x.sv);exact k2_
theorem ym_7 {c:Act} {w0:World} {x:ymP} (_c:ymC c w0 x):ObW Tryz.prog ymO (ymK x) c w0 7:=by
 refine ⟨Op.assign (Operand.tmp 41), 26,k29_,fun a W _ _ _ f=>?_⟩;have d:=depR f 5 41 (x.U);obtain ⟨g,e⟩:∃ v,a.tmps.getD 41 undef=v:=⟨_,rfl⟩;rw [e] at d;simp only [execOp,Act.eval,e];go_simp;exact ⟨Below.refl _ _,d⟩
theorem ym_8 {c:Act} {w0:World} {x:ymP} (_c:ymC c w0 x):ObW Tryz.prog ymO (ymK x) c w0 8:=by
 refine ⟨Op.assign (Operand.const (Value.int IntKind.i64 0)), 29,k29_,fun a W _ _ _ _=>?_⟩;simp only [execOp,Act.eval];go_simp;exact ⟨Below.refl _ _,rfl⟩
theorem Vx6 {d:Act} {w0:World} {x:ymP} (c:ymC d w0 x):∀ j,j<ymO.size→ObW Tryz.prog ymO (ymK x) d w0 j:=by
 rw [show ymO.size=9 by kernel_rfl];have e:∀ j,j<0→ObW Tryz.prog ymO (ymK x) d w0 j:=fun j r=>absurd r (Nat.not_lt_zero j);have f:=X7_ e (ym_0 c);clear e;have g:=X7_ f (ym_1 c);clear f;have h:=X7_ g (ym_2 c);clear g;have k:=X7_ h (ym_3 c);clear h;have m:=X7_ k (ym_4 c);clear k;have o:=X7_ m (ym_5 c);clear m;have p:=X7_ o (ym_6 c);clear o;have q:=X7_ p (ym_7 c);clear p;have s:=X7_ q (ym_8 c);clear q;exact s
structure ybP where
 (B1 B2:Nat)
 (c0 c1 c2 c3 c4 c5 d0 d1 d2 d3 d4 d5 uv:Value)
 (U:List Int)
 (r q:Int)
noncomputable def ybO:Array Oper:=regOf 3 (Tryz.f11.body.getD .skip)
structure ybC (a0:Act) (w0:World) (x:ybP):Prop where
 h2:a0.tmps.getD 2 undef=x.uv
 h3:a0.tmps.getD 3 undef=.pointer (some ⟨x.B1,0,none⟩)
 h4:a0.tmps.getD 4 undef=.pointer (some ⟨x.B2,0,none⟩)
 hK1:∀ W,Below w0.heap.size w0 W→W.cell? ⟨x.B1,0,none⟩=some x.c0∧W.cell? ⟨x.B1,1,none⟩=some x.c1∧W.cell? ⟨x.B1,2,none⟩=some x.c2∧W.cell? ⟨x.B1,3,none⟩=some x.c3∧W.cell? ⟨x.B1,4,none⟩=some x.c4∧W.cell? ⟨x.B1,5,none⟩=some x.c5
 hK2:∀ W,Below w0.heap.size w0 W→W.cell? ⟨x.B2,0,none⟩=some x.d0∧W.cell? ⟨x.B2,1,none⟩=some x.d1∧W.cell? ⟨x.B2,2,none⟩=some x.d2∧W.cell? ⟨x.B2,3,none⟩=some x.d3∧W.cell? ⟨x.B2,4,none⟩=some x.d4∧W.cell? ⟨x.B2,5,none⟩=some x.d5
 hR1:∀ W,Below w0.heap.size w0 W→Calls Tryz.prog 32 #[.agg #[x.c0,x.c1,x.c2,x.c3,x.c4,x.c5],x.uv] W (Tells W x.r)
 hR2:∀ W,Below w0.heap.size w0 W→∀ u,Row W W.heap.size u x.U→Calls Tryz.prog 32 #[.agg #[x.d0,x.d1,x.d2,x.d3,x.d4,x.d5],u] W (Tells W x.q)
 hO:∀ W,Below w0.heap.size w0 W→Calls Tryz.prog 21 #[.agg #[x.d0,x.d1,x.d2,x.d3,x.d4,x.d5],x.uv] W (Gives W x.U)
 hA:IntKind.i64.wrap (x.r+x.q)=x.r+x.q
def ybK (x:ybP):List Kind:=[.eq (.agg #[x.c0,x.c1,x.c2,x.c3,x.c4,x.c5]),.eq (x.uv),.eq (.int .i64 x.r),.eq (.agg #[x.d0,x.d1,x.d2,x.d3,x.d4,x.d5]),.eq (.agg #[x.d0,x.d1,x.d2,x.d3,x.d4,x.d5]),.eq (x.uv),.row (x.U),.eq (.int .i64 x.q),.eq (.int .i64 (x.r+x.q)),.eq (.int .i64 (x.r+x.q))]
theorem yb_0 {d:Act} {w0:World} {x:ybP} (c:ybC d w0 x):ObW Tryz.prog ybO (ybK x) d w0 0:=by
 refine ⟨Op.load 25 (Operand.tmp 3), 25,k29_,fun a W _ hb e _=>?_⟩;have e1:=(e 3 k29_).trans c.h3;obtain ⟨f,g,h,j,k,m⟩:=c.hK1 W hb;exact k2_
theorem yb_1 {d:Act} {w0:World} {x:ybP} (c:ybC d w0 x):ObW Tryz.prog ybO (ybK x) d w0 1:=y25_
theorem yb_2 {d:Act} {w0:World} {x:ybP} (c:ybC d w0 x):ObW Tryz.prog ybO (ybK x) d w0 2:=by
 refine ⟨Op.call { callee:=Callee.value (Operand.func 32),args:=#[Operand.tmp 17,Operand.tmp 18],argTypes:=#[25, 26] }, 3,k29_,fun a W _ hb _ g=>?_⟩;have k:=depE g 0 17 (.agg #[x.c0,x.c1,x.c2,x.c3,x.c4,x.c5]);have m:=depE g 1 18 (x.uv);simp only [execOp];go_simp;exact ⟨Below.refl _ _,(c.hR1 W hb).mono fun e o ⟨j,h⟩=>⟨_,j,h,rfl⟩⟩
theorem yb_3 {d:Act} {w0:World} {x:ybP} (c:ybC d w0 x):ObW Tryz.prog ybO (ybK x) d w0 3:=y24_
theorem yb_4 {d:Act} {w0:World} {x:ybP} (c:ybC d w0 x):ObW Tryz.prog ybO (ybK x) d w0 4:=y24_
theorem yb_5 {d:Act} {w0:World} {x:ybP} (c:ybC d w0 x):ObW Tryz.prog ybO (ybK x) d w0 5:=y25_
theorem yb_6 {d:Act} {w0:World} {x:ybP} (c:ybC d w0 x):ObW Tryz.prog ybO (ybK x) d w0 6:=by
 refine ⟨Op.call { callee:=Callee.value (Operand.func 21),args:=#[Operand.tmp 21,Operand.tmp 22],argTypes:=#[25, 26] }, 26,k29_,fun a W _ hb _ g=>?_⟩;have m:=depE g 4 21 (.agg #[x.d0,x.d1,x.d2,x.d3,x.d4,x.d5]);have o:=depE g 5 22 (x.uv);simp only [execOp];go_simp;exact ⟨Below.refl _ _,(c.hO W hb).mono fun e p ⟨_,j,k,h⟩=>⟨_,j,h,k⟩⟩
theorem yb_7 {d:Act} {w0:World} {x:ybP} (c:ybC d w0 x):ObW Tryz.prog ybO (ybK x) d w0 7:=by
 refine ⟨Op.call { callee:=Callee.value (Operand.func 32),args:=#[Operand.tmp 20,Operand.tmp 23],argTypes:=#[25, 26] }, 3,k29_,fun a W _ hb _ h=>?_⟩;have p:=depE h 3 20 (.agg #[x.d0,x.d1,x.d2,x.d3,x.d4,x.d5]);have g:=depR h 6 23 (x.U);obtain ⟨o,m⟩:∃ v,a.tmps.getD 23 undef=v:=⟨_,rfl⟩;rw [m] at g;simp only [execOp];go_simp;exact ⟨Below.refl _ _,(c.hR2 W hb o g).mono fun e q ⟨k,j⟩=>⟨_,k,j,rfl⟩⟩
theorem yb_8 {d:Act} {w0:World} {x:ybP} (c:ybC d w0 x):ObW Tryz.prog ybO (ybK x) d w0 8:=by
 refine ⟨Op.binOp BinOp.add 3 (Operand.tmp 19) (Operand.tmp 24) 3, 3,k29_,fun a W _ _ _ e=>?_⟩;have f:=depE e 2 19 (.int .i64 x.r);have g:=depE e 7 24 (.int .i64 x.q);simp only [execOp,Act.eval,f,g];go_simp;exact ⟨Below.refl _ _,congrArg (Value.int .i64) c.hA⟩
theorem yb_9 {c:Act} {w0:World} {x:ybP} (_c:ybC c w0 x):ObW Tryz.prog ybO (ybK x) c w0 9:=by
 refine ⟨Op.assign (Operand.tmp 25), 3,k29_,fun a W _ _ _ d=>?_⟩;have e1:=depE d 8 25 (.int .i64 (x.r+x.q));exact k2_
theorem Vx7 {d:Act} {w0:World} {x:ybP} (c:ybC d w0 x):∀ j,j<ybO.size→ObW Tryz.prog ybO (ybK x) d w0 j:=by
 rw [show ybO.size=10 by kernel_rfl];have e:∀ j,j<0→ObW Tryz.prog ybO (ybK x) d w0 j:=fun j s=>absurd s (Nat.not_lt_zero j);have f:=X7_ e (yb_0 c);clear e;have g:=X7_ f (yb_1 c);clear f;have h:=X7_ g (yb_2 c);clear g;have k:=X7_ h (yb_3 c);clear h;have m:=X7_ k (yb_4 c);clear k;have o:=X7_ m (yb_5 c);clear m;have p:=X7_ o (yb_6 c);clear o;have q:=X7_ p (yb_7 c);clear p;have r:=X7_ q (yb_8 c);clear q;have u:=X7_ r (yb_9 c);clear r;exact u
end Wp
end Go.Proofs.YtnbcaibflhgdoaaGreatDoor
