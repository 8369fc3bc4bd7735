/- A region whose order is drawn, some of whose operations are passed over: what each operation that is come up grants; what is passed over is left undefined. Nothing of the program here. inter's drawn regions, operation by operation (written by gen_ymax.py). The document's Bound: its last region, operation by operation (written by gen_yref.py). -/
import Derived.Test.YteiejkhdonmcdaaGreatDoorVTail
import Derived.Test.YteiejkhdonmcdaaGreatDoorZA
import Derived.Test.YteiejkhdonmcdaaGreatDoorZO
import Derived.Test.YteiejkhdonmcdaaGreatDoorX0A
import Derived.Test.YteiejkhdonmcdaaGreatDoorX0B
set_option maxRecDepth 100000
namespace Go.Proofs.YteiejkhdonmcdaaGreatDoor.Wp
private theorem k3_ {P:Prop} (h:P:=by
 refine ⟨Op.move (Operand.tmp 2), 26,by kernel_rfl,fun a W _ _ hout _=>?_⟩
 have e2:a.tmps.getD 2 undef=x.uv:=(hout 2 (by kernel_rfl)).trans c.h2
 simp only [execOp,Act.eval,e2]
 go_simp
 exact ⟨Below.refl _ _,rfl⟩):P:=h
private theorem q4_ {P:Prop} (h:P:=by
 refine ⟨Op.load 25 (Operand.tmp 4), 25,by kernel_rfl,fun a W _ hb hout _=>?_⟩
 have e4:a.tmps.getD 4 undef=.pointer (some ⟨x.B2,0,none⟩):=(hout 4 (by kernel_rfl)).trans c.h4
 obtain ⟨k0,k1,k2,k3,k4,k5⟩:=c.hK2 W hb
 simp only [execOp,Act.eval,e4]
 go_simp
 exact ⟨Below.refl _ _,rfl⟩):P:=h
private theorem x4_ {P:Prop} (h:P:=by
 go_simp
 exact ⟨Below.refl _ _,rfl⟩):P:=h
private theorem x19_ {P:Prop} (h:P:=by
 simp only [execOp]
 go_simp
 exact ⟨Below.refl _ _,(c.hL W hb).mono fun e w1 ⟨_,he,hr1,hb1⟩=>⟨_,he,hb1,hr1⟩⟩):P:=h
private theorem q20_ {P:Prop} (h:P:=by
 simp only [execOp]
 go_simp
 exact ⟨Below.refl _ _,(c.hR1 W hb).mono fun e w1 ⟨he,hb1⟩=>⟨_,he,hb1,rfl⟩⟩):P:=h
private theorem y29_ {P:Prop} (h:P:=by
 refine ⟨Op.load 25 (Operand.tmp 2), 25,by kernel_rfl,fun a W _ hb hout _=>?_⟩
 have e2:a.tmps.getD 2 undef=.pointer (some ⟨x.B1,0,none⟩):=(hout 2 (by kernel_rfl)).trans c.h2
 obtain ⟨k0,k1,k2,k3,k4,k5⟩:=c.hK1 W hb
 simp only [execOp,Act.eval,e2]
 exact x4_):P:=h
private theorem z29_ {P:Prop} (h:P:=by
 refine ⟨Op.load 25 (Operand.tmp 3), 25,by kernel_rfl,fun a W _ hb hout _=>?_⟩
 have e3:a.tmps.getD 3 undef=.pointer (some ⟨x.B1,0,none⟩):=(hout 3 (by kernel_rfl)).trans c.h3
 obtain ⟨k0,k1,k2,k3,k4,k5⟩:=c.hK1 W hb
 simp only [execOp,Act.eval,e3]
 exact x4_):P:=h
end Go.Proofs.YteiejkhdonmcdaaGreatDoor.Wp
namespace Go.Proofs.YteiejkhdonmcdaaGreatDoor.Wp
open Go Go.RowKit
def Kind.isBool:Kind→Bool
 | .eq (.bool _)=>true
 | _=>false
def wantK (ops:Array Oper) (ks:List Kind) (i:Nat):Bool:=match ops[i]? with
 | none=>true
 | some o=>match o.guard with
  | none=>true
  | some (g,b)=>(kd ks g).isB b
def ek (ops:Array Oper) (ks:List Kind) (i:Nat):Kind:=if wantK ops ks i then kd ks i else .eq undef
def regW (ops:Array Oper) (ks:List Kind) (n:Nat):Bool :=
 (List.range ops.size).all fun i=>match ops[i]? with
  | none=>false
  | some o=>(match o.dst with
    | some d=>decide (d<n) && (List.range ops.size).all fun j=>decide (j=i) || dstOf ops j != some d
    | none=>true) && (o.after.all fun e=>decide (e.on<i)) && (match o.guard with
    | none=>true
    | some (g,_)=>Region.waitsFor .any ops i g && (dstOf ops g).isSome && (kd ks g).isBool && (match ops[g]? with
     | some og=>og.guard.isNone
     | none=>false))
structure RegW (ops:Array Oper) (ks:List Kind) (n:Nat):Prop where
 lt:∀ i d,dstOf ops i=some d→d<n
 one:∀ i j d,dstOf ops i=some d→dstOf ops j=some d→i=j
 back:∀ (i:Nat) (o:Oper),ops[i]?=some o→∀ e∈o.after,e.on<i
 guard:∀ (i:Nat) (o:Oper) (g:Nat) (b:Bool),ops[i]?=some o→o.guard=some (g,b)→Region.waitsFor .any ops i g=true∧(∃ d,dstOf ops g=some d)∧(∃ c,kd ks g=.eq (.bool c))∧wantK ops ks g=true
theorem Kind.bool_of {k:Kind} (h:k.isBool=true):∃ c,k=.eq (.bool c):=by
 cases k with
 | eq u =>
  cases u with
  | bool c=>exact ⟨c,rfl⟩
  | _=>simp [Kind.isBool] at h
 | row l=>simp [Kind.isBool] at h
theorem Y1_ {p:Nat→Prop} {n:Nat} (h:∀ i,i<n→p i) (c:p n):∀ i,i<n+1→p i:=fun i d=>if e:i=n then e▸c else h i k35_
section
variable {P:Program} {ops:Array Oper} {Q:Exit→Act→World→Prop}
theorem Va5 {ks:List Kind} {n:Nat} (h:regW ops ks n=true):RegW ops ks n:=by
 have k:∀ (i:Nat) (o:Oper),ops[i]?=some o→((match o.dst with
    | some d=>decide (d<n) && (List.range ops.size).all fun j=>decide (j=i) || dstOf ops j != some d
    | none=>true)=true∧(o.after.all fun e=>decide (e.on<i))=true)∧(match o.guard with
    | none=>true
    | some (g,_)=>Region.waitsFor .any ops i g && (dstOf ops g).isSome && (kd ks g).isBool && (match ops[g]? with
     | some og=>og.guard.isNone
     | none=>false))=true:=fun i o ho=>by
  have f:i<ops.size:=(Array.getElem?_eq_some_iff.1 ho).1;have c:=List.all_eq_true.1 h i (List.mem_range.2 f);simp only [ho,Bool.and_eq_true] at c ⊢;exact c
 have hd:∀ i d,dstOf ops i=some d→∃ o,ops[i]?=some o∧o.dst=some d:=fun i d h=>q19_;refine ⟨fun i d f=>?_,fun i j d f p=>?_,fun i o ho e q=>?_,fun i o g b ho r=>?_⟩
 ·obtain ⟨o,ho,m⟩:=hd i d f
  have c:=(k i o ho).1.1;simp only [m,Bool.and_eq_true,decide_eq_true_eq] at c;exact c.1
 ·obtain ⟨o,ho,m⟩:=hd i d f
  have c:=(k i o ho).1.1;simp only [m,Bool.and_eq_true,decide_eq_true_eq] at c;obtain ⟨u,s,_⟩:=hd j d p;have h2:=List.all_eq_true.1 c.2 j (List.mem_range.2 (Array.getElem?_eq_some_iff.1 s).1);rw [p] at h2;simp at h2;exact h2.symm
 ·have c:=(k i o ho).1.2
  have h2:=Array.all_eq_true_iff_forall_mem.1 c e q;simpa using h2
 ·have c:=(k i o ho).2
  simp only [r,Bool.and_eq_true] at c;refine ⟨c.1.1.1,Option.isSome_iff_exists.1 c.1.1.2,Kind.bool_of c.1.2,?_⟩;unfold wantK;have h2:=c.2;cases hog:ops[g]? with
  | none=>rfl
  | some og =>
   rw [hog] at h2;have h3:og.guard=none:=z44_;simp only [h3]
structure GotW (ops:Array Oper) (ks:List Kind) (a0:Act) (w0:World) (listed:Array Bool) (a:Act) (w:World):Prop where
 size:listed.size=ops.size
 below:Below w0.heap.size w0 w
 asize:a.tmps.size=a0.tmps.size
 defs:a.defers=a0.defers
 outer:∀ t,Zx5 ops t=true→a.tmps.getD t undef=a0.tmps.getD t undef
 got:∀ i d,dstOf ops i=some d→listed.getD i false=true→(ek ops ks i).holds (a.tmps.getD d undef) w
def ObW (P:Program) (ops:Array Oper) (ks:List Kind) (a0:Act) (w0:World) (i:Nat):Prop :=
 ∃ (op:Op) (ty:TypeId),(ops[i]?).map (fun o=>(o.op,o.type))=some (op,ty)∧∀ (a:Act) (W:World),wantK ops ks i=true→Below w0.heap.size w0 W→(∀ t,Zx5 ops t=true→a.tmps.getD t undef=a0.tmps.getD t undef) →
  (∀ j d,Region.waitsFor .any ops i j=true→dstOf ops j=some d→(ek ops ks j).holds (a.tmps.getD d undef) W)→Zs5 P ((execOp a.eval { dst:=none,op:=op,type:=ty,pos := "",after:=#[],guard:=none }).run P W) W (kd ks i).holds
theorem Yq4 {c:Array Bool} {ks:List Kind} {n:Nat} (hR:RegW ops ks n) (hs:c.size=ops.size) (h:Region.ready .any ops c=[]):∀ i,i<ops.size→c.getD i false=true:=by
 intro i
 induction i using Nat.strongRecOn with
 | _ i ih =>
  intro d;cases hl:c.getD i false with
  | true=>rfl
  | false =>
   have f:i∈Region.ready .any ops c:=mem_ready.2 ⟨getD_in k35_ hl,ops[i],by simp [d],fun e g _=>by
    have j:=hR.back i ops[i] (by simp [d]) e g;exact ih e.on j k35_⟩
   rw [h] at f;cases f
theorem U1_ {ks:List Kind} {z:Act} {w0:World} (hR:RegW ops ks z.tmps.size) (K:∀ i,i<ops.size→ObW P ops ks z w0 i)
  (E:∀ f a W,GotW ops ks z w0 f a W→(∀ i,i<ops.size→f.getD i false=true)→Q .normal a W) :
  ∀ (fuel:Nat) (f:Array Bool) (a:Act) (w:World),GotW ops ks z w0 f a w→cnt (fun i=>!f.getD i false) ops.size=fuel→wpAny P .any ops Q fuel f a w
 | 0,f,a,w,hg,hc=>by
  have A:∀ i,i<ops.size→f.getD i false=true:=fun i F=>by
   cases hl:f.getD i false with
   | true=>rfl
   | false =>
    have:=Zr5 (p:=fun _=>false) (q:=fun i=>!f.getD i false) (n:=ops.size) (fun _ _ h=>by cases h) ⟨i,F,rfl,by simp [hl]⟩;omega
  refine ⟨?_,E _ _ _ hg A⟩;cases hr:Region.ready .any ops f with
  | nil=>rfl
  | cons x xs =>
   have hx:x∈Region.ready .any ops f:=by rw [hr];simp
   obtain ⟨m,o,ho,_⟩:=mem_ready.1 hx;have:=A x (Array.getElem?_eq_some_iff.1 ho).1;rw [getD_both m] at this;cases this
 | fuel+1,f,a,w,hg,hc=>by
  refine ⟨fun M=>E _ _ _ hg (Yq4 hR hg.size M),fun i F=>?_⟩;obtain ⟨X,o,ho,A⟩:=mem_ready.1 F;have B:i<ops.size:=(Array.getElem?_eq_some_iff.1 ho).1;obtain ⟨op,ty,C,hO⟩:=K i B;rw [ho] at C;simp only [Option.map_some,Option.some.injEq,Prod.mk.injEq] at C;have J:∀ j d,Region.waitsFor .any ops i j=true→dstOf ops j=some d→(ek ops ks j).holds (a.tmps.getD d undef) w:=fun j d I hd=>by
   obtain ⟨oj,T,e,s,hb,U⟩:=Region.waitsFor_spec I;have:oj=o:=Option.some.inj (T.symm.trans ho);subst this;exact hg.got j d hd (by rw [← U];exact A e s hb)
  have I:Region.wanted o (yielded ops a.tmps)=wantK ops ks i:=by
   unfold Region.wanted wantK;rw [ho];cases hgd:o.guard with
   | none=>simp [hgd]
   | some gb =>
    obtain ⟨g,b⟩:=gb;obtain ⟨m,⟨d,hd⟩,⟨c,h3⟩,Z⟩:=hR.guard i o g b ho hgd;have r:=J g d m hd;unfold ek at r;rw [Z,if_pos rfl,h3] at r;have r:a.tmps.getD d undef=.bool c:=r;have O:d<a.tmps.size:=by rw [hg.asize];exact hR.lt g d hd
    have N:a.tmps[d]?=some (.bool c):=by
     rw [← r];simp [Array.getD,O]
    unfold dstOf at hd;simp [hgd,yielded,h3,Kind.isB,hd,N]
  have R:i<f.size:=by rw [hg.size];exact B
  have next:∀ u w',Below w.heap.size w w'→(ek ops ks i).holds u w'→wpAny P .any ops Q fuel (f.setIfInBounds i true) (a.put o.dst u) w':=fun u w' hb D=>by
   refine U1_ hR K E fuel _ _ _ ⟨by simp [hg.size],hg.below.trans (hb.mono hg.below.size),by rw [Yg8];exact hg.asize,by rw [Yg9];exact hg.defs,fun t L=>?_,fun j d hj hl=>?_⟩ ?_
   ·rw [I9_ a u (fun e=>by
     have m:=List.all_eq_true.1 L i (List.mem_range.2 B);have:dstOf ops i=some t:=k40_;rw [this] at m;simp at m)]
    exact hg.outer t L
   ·by_cases H:i=j
    ·subst H
     have S:o.dst=some d:=k43_;rw [S,Zm3 a u (by rw [hg.asize];exact hR.lt i d hj)];exact D
    ·rw [I9_ a u (fun e=>H (hR.one i j d k40_ hj))]
     rw [getD_set_ne false H] at hl;exact Kind.up (hg.got j d hj hl) hb
   ·have V:(fun k=>!(f.setIfInBounds i true).getD k false) i=false:=by simp [R]
    have m:=Zz1 (p:=fun k=>!f.getD k false) (q:=fun k=>!(f.setIfInBounds i true).getD k false) (y:=i) (by simp only [getD_both X];rfl) V (fun v Y=>by simp only [getD_set_ne false (Ne.symm Y)]) (n:=ops.size);rw [if_pos B] at m;omega
  unfold wpOp;simp only [ho,I];cases hwk:wantK ops ks i with
  | true =>
   rw [if_pos rfl];have s:ek ops ks i=kd ks i:=by unfold ek;rw [hwk,if_pos rfl]
   exact .inl (Zx4 (G:=(kd ks i).holds) (by rw [Zb3,C.1,C.2];exact hO a w hwk hg.below hg.outer J) fun u w' hb D=>next u w' hb (by rw [s];exact D))
  | false =>
   rw [if_neg k36_];have s:ek ops ks i=.eq undef:=by unfold ek;rw [hwk,if_neg k36_]
   exact next undef w (Below.refl _ _) (by rw [s];exact rfl)
theorem E0_ {id:Nat} {a:Act} {w:World} (ks:List Kind) (j:P.follows .mixedOrders=true) (hB:regW ops ks a.tmps.size=true) (k:∀ i,i<ops.size→ObW P ops ks a w.drew i)
  (f:∀ c W,Below w.drew.heap.size w.drew W→c.tmps.size=a.tmps.size→c.defers=a.defers→(∀ t,Zx5 ops t=true→c.tmps.getD t undef=a.tmps.getD t undef)→(∀ i d,i<ops.size→dstOf ops i=some d→(ek ops ks i).holds (c.tmps.getD d undef) W)→Q .normal c W) :
  (Code.region id ops true).wp P Q a w:=by
 refine wp_region_any j ?_;exact U1_ (w0:=w.drew) (Va5 hB) k (fun m c W e g=>f c W e.below e.asize e.defs e.outer fun i d h hd=>e.got i d hd (g i h)) _ _ _ _
  ⟨z36_,Below.refl _ _,rfl,rfl,fun _ _=>rfl,fun i d _ hl=>by rw [getD_replicate_false] at hl;cases hl⟩ (P0_ fun v _=>by simp only [getD_replicate_false];rfl)
end
end Go.Proofs.YteiejkhdonmcdaaGreatDoor.Wp
namespace Go.Proofs.YteiejkhdonmcdaaGreatDoor
open Go Go.RowKit
namespace Wp
structure ymP where
 (B1:Nat)
 (c0 c1 c2 c3 c4 c5 sv vj vf:Value)
 (W U:List Int)
noncomputable def ymO:Array Oper:=regOf 7 (Tryz.f36.body.getD .skip)
structure ymC (a0:Act) (w0:World) (x:ymP):Prop where
 h2:a0.tmps.getD 2 undef=.pointer (some ⟨x.B1,0,none⟩)
 h7:a0.tmps.getD 7 undef=x.sv
 h8:a0.tmps.getD 8 undef=x.vj
 h9:a0.tmps.getD 9 undef=x.vf
 hK1:∀ W,Below w0.heap.size w0 W→W.cell? ⟨x.B1,0,none⟩=some x.c0∧W.cell? ⟨x.B1,1,none⟩=some x.c1∧W.cell? ⟨x.B1,2,none⟩=some x.c2∧W.cell? ⟨x.B1,3,none⟩=some x.c3∧W.cell? ⟨x.B1,4,none⟩=some x.c4∧W.cell? ⟨x.B1,5,none⟩=some x.c5
 hF:∀ W,Below w0.heap.size w0 W→Calls Tryz.prog 68 #[x.vj,x.vf] W (Gives W x.W)
 hO:∀ W,Below w0.heap.size w0 W→∀ u,Row W W.heap.size u x.W→Calls Tryz.prog 67 #[.agg #[x.c0,x.c1,x.c2,x.c3,x.c4,x.c5],u] W (Gives W x.U)
def ymK (x:ymP):List Kind:=[.eq (x.sv),.eq (.agg #[x.c0,x.c1,x.c2,x.c3,x.c4,x.c5]),.eq (x.vj),.eq (x.vf),.row (x.W),.row (x.U),.eq (x.sv),.row (x.U),.eq (.int .i64 0)]
theorem ym_0 {d:Act} {w0:World} {x:ymP} (c:ymC d w0 x):ObW Tryz.prog ymO (ymK x) d w0 0:=by
 refine ⟨Op.move (Operand.tmp 7), 26,q36_,fun a W _ _ f _=>?_⟩;have e:a.tmps.getD 7 undef=x.sv:=(f 7 q36_).trans c.h7;simp only [execOp,Act.eval,e];exact x4_
theorem ym_1 {d:Act} {w0:World} {x:ymP} (c:ymC d w0 x):ObW Tryz.prog ymO (ymK x) d w0 1:=y29_
theorem ym_2 {d:Act} {w0:World} {x:ymP} (c:ymC d w0 x):ObW Tryz.prog ymO (ymK x) d w0 2:=by
 refine ⟨Op.move (Operand.tmp 8), 22,q36_,fun a W _ _ f _=>?_⟩;have e:a.tmps.getD 8 undef=x.vj:=(f 8 q36_).trans c.h8;simp only [execOp,Act.eval,e];exact x4_
theorem ym_3 {d:Act} {w0:World} {x:ymP} (c:ymC d w0 x):ObW Tryz.prog ymO (ymK x) d w0 3:=by
 refine ⟨Op.move (Operand.tmp 9), 26,q36_,fun a W _ _ f _=>?_⟩;have e:a.tmps.getD 9 undef=x.vf:=(f 9 q36_).trans c.h9;simp only [execOp,Act.eval,e];exact x4_
theorem ym_4 {h:Act} {w0:World} {x:ymP} (c:ymC h w0 x):ObW Tryz.prog ymO (ymK x) h w0 4:=by
 refine ⟨Op.call { callee:=Callee.value (Operand.func 68),args:=#[Operand.tmp 38,Operand.tmp 39],argTypes:=#[22, 26] }, 26,q36_,fun a W _ hb _ j=>?_⟩;have d:=j 2 38 q36_ q36_;rw [show ek ymO (ymK x) 2=.eq (x.vj) from by kernel_rfl] at d;have d:a.tmps.getD 38 undef=x.vj:=d;have g:=j 3 39 q36_ q36_;rw [show ek ymO (ymK x) 3=.eq (x.vf) from by kernel_rfl] at g;have g:a.tmps.getD 39 undef=x.vf:=g;simp only [execOp];go_simp;exact ⟨Below.refl _ _,(c.hF W hb).mono fun e p ⟨_,m,o,k⟩=>⟨_,m,k,o⟩⟩
theorem ym_5 {h:Act} {w0:World} {x:ymP} (c:ymC h w0 x):ObW Tryz.prog ymO (ymK x) h w0 5:=by
 refine ⟨Op.call { callee:=Callee.value (Operand.func 67),args:=#[Operand.tmp 37,Operand.tmp 40],argTypes:=#[25, 26] }, 26,q36_,fun a W _ hb _ j=>?_⟩;have g:=j 1 37 q36_ q36_;rw [show ek ymO (ymK x) 1=.eq (.agg #[x.c0,x.c1,x.c2,x.c3,x.c4,x.c5]) from by kernel_rfl] at g;have g:a.tmps.getD 37 undef=.agg #[x.c0,x.c1,x.c2,x.c3,x.c4,x.c5]:=g;have d:=j 4 40 q36_ q36_;rw [show ek ymO (ymK x) 4=.row (x.W) from by kernel_rfl] at d;have d:Row W W.heap.size (a.tmps.getD 40 undef) (x.W):=d;obtain ⟨q,p⟩:∃ v,a.tmps.getD 40 undef=v:=⟨_,rfl⟩;rw [p] at d;simp only [execOp];go_simp;exact ⟨Below.refl _ _,(c.hO W hb q d).mono fun e r ⟨_,m,o,k⟩=>⟨_,m,k,o⟩⟩
theorem ym_6 {d:Act} {w0:World} {x:ymP} (_c:ymC d w0 x):ObW Tryz.prog ymO (ymK x) d w0 6:=by
 refine ⟨Op.assign (Operand.tmp 36), 26,q36_,fun a W _ _ _ e=>?_⟩;have c:=e 0 36 q36_ q36_;rw [show ek ymO (ymK x) 0=.eq (x.sv) from by kernel_rfl] at c;have c:a.tmps.getD 36 undef=x.sv:=c;simp only [execOp,Act.eval,c];exact x4_
theorem ym_7 {d:Act} {w0:World} {x:ymP} (_c:ymC d w0 x):ObW Tryz.prog ymO (ymK x) d w0 7:=by
 refine ⟨Op.assign (Operand.tmp 41), 26,q36_,fun a W _ _ _ f=>?_⟩;have c:=f 5 41 q36_ q36_;rw [show ek ymO (ymK x) 5=.row (x.U) from by kernel_rfl] at c;have c:Row W W.heap.size (a.tmps.getD 41 undef) (x.U):=c;obtain ⟨g,e⟩:∃ v,a.tmps.getD 41 undef=v:=⟨_,rfl⟩;rw [e] at c;simp only [execOp,Act.eval,e];go_simp;exact ⟨Below.refl _ _,c⟩
theorem ym_8 {c:Act} {w0:World} {x:ymP} (_c:ymC c w0 x):ObW Tryz.prog ymO (ymK x) c w0 8:=by
 refine ⟨Op.assign (Operand.const (Value.int IntKind.i64 0)), 31,q36_,fun a W _ _ _ _=>?_⟩;simp only [execOp,Act.eval];exact x4_
theorem Vk5 {d:Act} {w0:World} {x:ymP} (c:ymC d w0 x):∀ j,j<ymO.size→ObW Tryz.prog ymO (ymK x) d w0 j:=by
 rw [show ymO.size=9 by kernel_rfl];have e:∀ j,j<0→ObW Tryz.prog ymO (ymK x) d w0 j:=fun j r=>absurd r (Nat.not_lt_zero j);have f:=Y1_ e (ym_0 c);clear e;have g:=Y1_ f (ym_1 c);clear f;have h:=Y1_ g (ym_2 c);clear g;have k:=Y1_ h (ym_3 c);clear h;have m:=Y1_ k (ym_4 c);clear k;have o:=Y1_ m (ym_5 c);clear m;have p:=Y1_ o (ym_6 c);clear o;have q:=Y1_ p (ym_7 c);clear p;have s:=Y1_ q (ym_8 c);clear q;exact s
structure ybP where
 (B1 B2:Nat)
 (c0 c1 c2 c3 c4 c5 d0 d1 d2 d3 d4 d5 uv:Value)
 (U:List Int)
 (r q:Int)
noncomputable def ybO:Array Oper:=regOf 3 (Tryz.f38.body.getD .skip)
structure ybC (a0:Act) (w0:World) (x:ybP):Prop where
 h2:a0.tmps.getD 2 undef=x.uv
 h3:a0.tmps.getD 3 undef=.pointer (some ⟨x.B1,0,none⟩)
 h4:a0.tmps.getD 4 undef=.pointer (some ⟨x.B2,0,none⟩)
 hK1:∀ W,Below w0.heap.size w0 W→W.cell? ⟨x.B1,0,none⟩=some x.c0∧W.cell? ⟨x.B1,1,none⟩=some x.c1∧W.cell? ⟨x.B1,2,none⟩=some x.c2∧W.cell? ⟨x.B1,3,none⟩=some x.c3∧W.cell? ⟨x.B1,4,none⟩=some x.c4∧W.cell? ⟨x.B1,5,none⟩=some x.c5
 hK2:∀ W,Below w0.heap.size w0 W→W.cell? ⟨x.B2,0,none⟩=some x.d0∧W.cell? ⟨x.B2,1,none⟩=some x.d1∧W.cell? ⟨x.B2,2,none⟩=some x.d2∧W.cell? ⟨x.B2,3,none⟩=some x.d3∧W.cell? ⟨x.B2,4,none⟩=some x.d4∧W.cell? ⟨x.B2,5,none⟩=some x.d5
 hR1:∀ W,Below w0.heap.size w0 W→Calls Tryz.prog 70 #[.agg #[x.c0,x.c1,x.c2,x.c3,x.c4,x.c5],x.uv] W (Tells W x.r)
 hR2:∀ W,Below w0.heap.size w0 W→∀ u,Row W W.heap.size u x.U→Calls Tryz.prog 70 #[.agg #[x.d0,x.d1,x.d2,x.d3,x.d4,x.d5],u] W (Tells W x.q)
 hO:∀ W,Below w0.heap.size w0 W→Calls Tryz.prog 67 #[.agg #[x.d0,x.d1,x.d2,x.d3,x.d4,x.d5],x.uv] W (Gives W x.U)
 hA:IntKind.i64.wrap (x.r+x.q)=x.r+x.q
def ybK (x:ybP):List Kind:=[.eq (.agg #[x.c0,x.c1,x.c2,x.c3,x.c4,x.c5]),.eq (x.uv),.eq (.int .i64 x.r),.eq (.agg #[x.d0,x.d1,x.d2,x.d3,x.d4,x.d5]),.eq (.agg #[x.d0,x.d1,x.d2,x.d3,x.d4,x.d5]),.eq (x.uv),.row (x.U),.eq (.int .i64 x.q),.eq (.int .i64 (x.r+x.q)),.eq (.int .i64 (x.r+x.q))]
theorem yb_0 {d:Act} {w0:World} {x:ybP} (c:ybC d w0 x):ObW Tryz.prog ybO (ybK x) d w0 0:=z29_
theorem yb_1 {d:Act} {w0:World} {x:ybP} (c:ybC d w0 x):ObW Tryz.prog ybO (ybK x) d w0 1:=k3_
theorem yb_2 {h:Act} {w0:World} {x:ybP} (c:ybC h w0 x):ObW Tryz.prog ybO (ybK x) h w0 2:=by
 refine ⟨Op.call { callee:=Callee.value (Operand.func 70),args:=#[Operand.tmp 17,Operand.tmp 18],argTypes:=#[25, 26] }, 3,q36_,fun a W _ hb _ j=>?_⟩;have d:=j 0 17 q36_ q36_;rw [show ek ybO (ybK x) 0=.eq (.agg #[x.c0,x.c1,x.c2,x.c3,x.c4,x.c5]) from by kernel_rfl] at d;have d:a.tmps.getD 17 undef=.agg #[x.c0,x.c1,x.c2,x.c3,x.c4,x.c5]:=d;have g:=j 1 18 q36_ q36_;rw [show ek ybO (ybK x) 1=.eq (x.uv) from by kernel_rfl] at g;have g:a.tmps.getD 18 undef=x.uv:=g;exact q20_
theorem yb_3 {d:Act} {w0:World} {x:ybP} (c:ybC d w0 x):ObW Tryz.prog ybO (ybK x) d w0 3:=q4_
theorem yb_4 {d:Act} {w0:World} {x:ybP} (c:ybC d w0 x):ObW Tryz.prog ybO (ybK x) d w0 4:=q4_
theorem yb_5 {d:Act} {w0:World} {x:ybP} (c:ybC d w0 x):ObW Tryz.prog ybO (ybK x) d w0 5:=k3_
theorem yb_6 {h:Act} {w0:World} {x:ybP} (c:ybC h w0 x):ObW Tryz.prog ybO (ybK x) h w0 6:=by
 refine ⟨Op.call { callee:=Callee.value (Operand.func 67),args:=#[Operand.tmp 21,Operand.tmp 22],argTypes:=#[25, 26] }, 26,q36_,fun a W _ hb _ j=>?_⟩;have d:=j 4 21 q36_ q36_;rw [show ek ybO (ybK x) 4=.eq (.agg #[x.d0,x.d1,x.d2,x.d3,x.d4,x.d5]) from by kernel_rfl] at d;have d:a.tmps.getD 21 undef=.agg #[x.d0,x.d1,x.d2,x.d3,x.d4,x.d5]:=d;have g:=j 5 22 q36_ q36_;rw [show ek ybO (ybK x) 5=.eq (x.uv) from by kernel_rfl] at g;have g:a.tmps.getD 22 undef=x.uv:=g;simp only [execOp];go_simp;exact ⟨Below.refl _ _,(c.hO W hb).mono fun e p ⟨_,m,o,k⟩=>⟨_,m,k,o⟩⟩
theorem yb_7 {h:Act} {w0:World} {x:ybP} (c:ybC h w0 x):ObW Tryz.prog ybO (ybK x) h w0 7:=by
 refine ⟨Op.call { callee:=Callee.value (Operand.func 70),args:=#[Operand.tmp 20,Operand.tmp 23],argTypes:=#[25, 26] }, 3,q36_,fun a W _ hb _ j=>?_⟩;have g:=j 3 20 q36_ q36_;rw [show ek ybO (ybK x) 3=.eq (.agg #[x.d0,x.d1,x.d2,x.d3,x.d4,x.d5]) from by kernel_rfl] at g;have g:a.tmps.getD 20 undef=.agg #[x.d0,x.d1,x.d2,x.d3,x.d4,x.d5]:=g;have d:=j 6 23 q36_ q36_;rw [show ek ybO (ybK x) 6=.row (x.U) from by kernel_rfl] at d;have d:Row W W.heap.size (a.tmps.getD 23 undef) (x.U):=d;obtain ⟨p,o⟩:∃ v,a.tmps.getD 23 undef=v:=⟨_,rfl⟩;rw [o] at d;simp only [execOp];go_simp;exact ⟨Below.refl _ _,(c.hR2 W hb p d).mono fun e q ⟨m,k⟩=>⟨_,m,k,rfl⟩⟩
theorem yb_8 {f:Act} {w0:World} {x:ybP} (c:ybC f w0 x):ObW Tryz.prog ybO (ybK x) f w0 8:=by
 refine ⟨Op.binOp BinOp.add 3 (Operand.tmp 19) (Operand.tmp 24) 3, 3,q36_,fun a W _ _ _ g=>?_⟩;have d:=g 2 19 q36_ q36_;rw [show ek ybO (ybK x) 2=.eq (.int .i64 x.r) from by kernel_rfl] at d;have d:a.tmps.getD 19 undef=.int .i64 x.r:=d;have e:=g 7 24 q36_ q36_;rw [show ek ybO (ybK x) 7=.eq (.int .i64 x.q) from by kernel_rfl] at e;have e:a.tmps.getD 24 undef=.int .i64 x.q:=e;simp only [execOp,Act.eval,d,e];go_simp;exact ⟨Below.refl _ _,congrArg (Value.int .i64) c.hA⟩
theorem yb_9 {d:Act} {w0:World} {x:ybP} (_c:ybC d w0 x):ObW Tryz.prog ybO (ybK x) d w0 9:=by
 refine ⟨Op.assign (Operand.tmp 25), 3,q36_,fun a W _ _ _ e=>?_⟩;have c:=e 8 25 q36_ q36_;rw [show ek ybO (ybK x) 8=.eq (.int .i64 (x.r+x.q)) from by kernel_rfl] at c;have c:a.tmps.getD 25 undef=.int .i64 (x.r+x.q):=c;simp only [execOp,Act.eval,c];exact x4_
theorem Vk6 {d:Act} {w0:World} {x:ybP} (c:ybC d w0 x):∀ j,j<ybO.size→ObW Tryz.prog ybO (ybK x) d w0 j:=by
 rw [show ybO.size=10 by kernel_rfl];have e:∀ j,j<0→ObW Tryz.prog ybO (ybK x) d w0 j:=fun j s=>absurd s (Nat.not_lt_zero j);have f:=Y1_ e (yb_0 c);clear e;have g:=Y1_ f (yb_1 c);clear f;have h:=Y1_ g (yb_2 c);clear g;have k:=Y1_ h (yb_3 c);clear h;have m:=Y1_ k (yb_4 c);clear k;have o:=Y1_ m (yb_5 c);clear m;have p:=Y1_ o (yb_6 c);clear o;have q:=Y1_ p (yb_7 c);clear p;have r:=Y1_ q (yb_8 c);clear q;have u:=Y1_ r (yb_9 c);clear r;exact u
open Go Go.RowKit
structure yrP where
 (B1 B2:Nat)
 (c0 c1 c2 c3 c4 c5 d0 d1 d2 d3 d4 d5 uv:Value)
 (U L:List Int)
 (n r q:Int)
noncomputable def yrO:Array Oper:=regOf 3 (Tryz.f39.body.getD .skip)
structure yrC (a0:Act) (w0:World) (x:yrP):Prop where
 h2:a0.tmps.getD 2 undef=x.uv
 h3:a0.tmps.getD 3 undef=.pointer (some ⟨x.B1,0,none⟩)
 h4:a0.tmps.getD 4 undef=.pointer (some ⟨x.B2,0,none⟩)
 hK1:∀ W,Below w0.heap.size w0 W→W.cell? ⟨x.B1,0,none⟩=some x.c0∧W.cell? ⟨x.B1,1,none⟩=some x.c1∧W.cell? ⟨x.B1,2,none⟩=some x.c2∧W.cell? ⟨x.B1,3,none⟩=some x.c3∧W.cell? ⟨x.B1,4,none⟩=some x.c4∧W.cell? ⟨x.B1,5,none⟩=some x.c5
 hK2:∀ W,Below w0.heap.size w0 W→W.cell? ⟨x.B2,0,none⟩=some x.d0∧W.cell? ⟨x.B2,1,none⟩=some x.d1∧W.cell? ⟨x.B2,2,none⟩=some x.d2∧W.cell? ⟨x.B2,3,none⟩=some x.d3∧W.cell? ⟨x.B2,4,none⟩=some x.d4∧W.cell? ⟨x.B2,5,none⟩=some x.d5
 hN:∀ W,Below w0.heap.size w0 W→W.cell? ⟨x.B1,1,none⟩=some (.int .i64 x.n)
 hR1:∀ W,Below w0.heap.size w0 W→Calls Tryz.prog 31 #[.agg #[x.c0,x.c1,x.c2,x.c3,x.c4,x.c5],x.uv] W (Tells W x.r)
 hR2:∀ W,Below w0.heap.size w0 W→∀ u,Row W W.heap.size u x.U→Calls Tryz.prog 31 #[.agg #[x.d0,x.d1,x.d2,x.d3,x.d4,x.d5],u] W (Tells W x.q)
 hL:∀ W,Below w0.heap.size w0 W→Calls Tryz.prog 30 #[.int .i64 x.n] W (Gives W x.L)
 hO:∀ W,Below w0.heap.size w0 W→∀ u,Row W W.heap.size u x.L→Calls Tryz.prog 29 #[u,x.uv] W (Gives W x.U)
 hA:IntKind.i64.wrap (x.r+x.q)=x.r+x.q
def yrK (x:yrP):List Kind:=[.eq (.agg #[x.c0,x.c1,x.c2,x.c3,x.c4,x.c5]),.eq (x.uv),.eq (.int .i64 x.r),.eq (.agg #[x.d0,x.d1,x.d2,x.d3,x.d4,x.d5]),.eq (.pointer (some ⟨x.B1,1,none⟩)),.eq (.int .i64 x.n),.row (x.L),.eq (x.uv),.row (x.U),.eq (.int .i64 x.q),.eq (.int .i64 (x.r+x.q)),.eq (.int .i64 (x.r+x.q))]
theorem yr_0 {d:Act} {w0:World} {x:yrP} (c:yrC d w0 x):ObW Tryz.prog yrO (yrK x) d w0 0:=z29_
theorem yr_1 {d:Act} {w0:World} {x:yrP} (c:yrC d w0 x):ObW Tryz.prog yrO (yrK x) d w0 1:=k3_
theorem yr_2 {h:Act} {w0:World} {x:yrP} (c:yrC h w0 x):ObW Tryz.prog yrO (yrK x) h w0 2:=by
 refine ⟨Op.call { callee:=Callee.value (Operand.func 31),args:=#[Operand.tmp 18,Operand.tmp 19],argTypes:=#[25, 26] }, 3,q36_,fun a W _ hb _ j=>?_⟩;have d:=j 0 18 q36_ q36_;rw [show ek yrO (yrK x) 0=.eq (.agg #[x.c0,x.c1,x.c2,x.c3,x.c4,x.c5]) from by kernel_rfl] at d;have d:a.tmps.getD 18 undef=.agg #[x.c0,x.c1,x.c2,x.c3,x.c4,x.c5]:=d;have g:=j 1 19 q36_ q36_;rw [show ek yrO (yrK x) 1=.eq (x.uv) from by kernel_rfl] at g;have g:a.tmps.getD 19 undef=x.uv:=g;exact q20_
theorem yr_3 {d:Act} {w0:World} {x:yrP} (c:yrC d w0 x):ObW Tryz.prog yrO (yrK x) d w0 3:=q4_
theorem yr_4 {d:Act} {w0:World} {x:yrP} (c:yrC d w0 x):ObW Tryz.prog yrO (yrK x) d w0 4:=by
 refine ⟨Op.fieldAddr 25 (Operand.tmp 3) 1, 0,q36_,fun a W _ _ f _=>?_⟩;have e:a.tmps.getD 3 undef=.pointer (some ⟨x.B1,0,none⟩):=(f 3 q36_).trans c.h3;simp only [execOp,Act.eval,e];exact x4_
theorem yr_5 {e:Act} {w0:World} {x:yrP} (c:yrC e w0 x):ObW Tryz.prog yrO (yrK x) e w0 5:=by
 refine ⟨Op.load 3 (Operand.tmp 22), 3,q36_,fun a W _ hb _ f=>?_⟩;have d:=f 4 22 q36_ q36_;rw [show ek yrO (yrK x) 4=.eq (.pointer (some ⟨x.B1,1,none⟩)) from by kernel_rfl] at d;have d:a.tmps.getD 22 undef=.pointer (some ⟨x.B1,1,none⟩):=d;have g:=c.hN W hb;simp only [execOp,Act.eval,d];exact x4_
theorem yr_6 {g:Act} {w0:World} {x:yrP} (c:yrC g w0 x):ObW Tryz.prog yrO (yrK x) g w0 6:=by
 refine ⟨Op.call { callee:=Callee.value (Operand.func 30),args:=#[Operand.tmp 23],argTypes:=#[3] }, 26,q36_,fun a W _ hb _ h=>?_⟩;have d:=h 5 23 q36_ q36_;rw [show ek yrO (yrK x) 5=.eq (.int .i64 x.n) from by kernel_rfl] at d;have d:a.tmps.getD 23 undef=.int .i64 x.n:=d;exact x19_
theorem yr_7 {d:Act} {w0:World} {x:yrP} (c:yrC d w0 x):ObW Tryz.prog yrO (yrK x) d w0 7:=k3_
theorem yr_8 {h:Act} {w0:World} {x:yrP} (c:yrC h w0 x):ObW Tryz.prog yrO (yrK x) h w0 8:=by
 refine ⟨Op.call { callee:=Callee.value (Operand.func 29),args:=#[Operand.tmp 24,Operand.tmp 25],argTypes:=#[26, 26] }, 26,q36_,fun a W _ hb _ j=>?_⟩;have d:=j 6 24 q36_ q36_;rw [show ek yrO (yrK x) 6=.row (x.L) from by kernel_rfl] at d;have d:Row W W.heap.size (a.tmps.getD 24 undef) (x.L):=d;have g:=j 7 25 q36_ q36_;rw [show ek yrO (yrK x) 7=.eq (x.uv) from by kernel_rfl] at g;have g:a.tmps.getD 25 undef=x.uv:=g;obtain ⟨q,p⟩:∃ v,a.tmps.getD 24 undef=v:=⟨_,rfl⟩;rw [p] at d;simp only [execOp];go_simp;exact ⟨Below.refl _ _,(c.hO W hb q d).mono fun e r ⟨_,m,o,k⟩=>⟨_,m,k,o⟩⟩
theorem yr_9 {h:Act} {w0:World} {x:yrP} (c:yrC h w0 x):ObW Tryz.prog yrO (yrK x) h w0 9:=by
 refine ⟨Op.call { callee:=Callee.value (Operand.func 31),args:=#[Operand.tmp 21,Operand.tmp 26],argTypes:=#[25, 26] }, 3,q36_,fun a W _ hb _ j=>?_⟩;have g:=j 3 21 q36_ q36_;rw [show ek yrO (yrK x) 3=.eq (.agg #[x.d0,x.d1,x.d2,x.d3,x.d4,x.d5]) from by kernel_rfl] at g;have g:a.tmps.getD 21 undef=.agg #[x.d0,x.d1,x.d2,x.d3,x.d4,x.d5]:=g;have d:=j 8 26 q36_ q36_;rw [show ek yrO (yrK x) 8=.row (x.U) from by kernel_rfl] at d;have d:Row W W.heap.size (a.tmps.getD 26 undef) (x.U):=d;obtain ⟨p,o⟩:∃ v,a.tmps.getD 26 undef=v:=⟨_,rfl⟩;rw [o] at d;simp only [execOp];go_simp;exact ⟨Below.refl _ _,(c.hR2 W hb p d).mono fun e q ⟨m,k⟩=>⟨_,m,k,rfl⟩⟩
theorem yr_10 {f:Act} {w0:World} {x:yrP} (c:yrC f w0 x):ObW Tryz.prog yrO (yrK x) f w0 10:=by
 refine ⟨Op.binOp BinOp.add 3 (Operand.tmp 20) (Operand.tmp 27) 3, 3,q36_,fun a W _ _ _ g=>?_⟩;have d:=g 2 20 q36_ q36_;rw [show ek yrO (yrK x) 2=.eq (.int .i64 x.r) from by kernel_rfl] at d;have d:a.tmps.getD 20 undef=.int .i64 x.r:=d;have e:=g 9 27 q36_ q36_;rw [show ek yrO (yrK x) 9=.eq (.int .i64 x.q) from by kernel_rfl] at e;have e:a.tmps.getD 27 undef=.int .i64 x.q:=e;simp only [execOp,Act.eval,d,e];go_simp;exact ⟨Below.refl _ _,congrArg (Value.int .i64) c.hA⟩
theorem yr_11 {d:Act} {w0:World} {x:yrP} (_c:yrC d w0 x):ObW Tryz.prog yrO (yrK x) d w0 11:=by
 refine ⟨Op.assign (Operand.tmp 28), 3,q36_,fun a W _ _ _ e=>?_⟩;have c:=e 10 28 q36_ q36_;rw [show ek yrO (yrK x) 10=.eq (.int .i64 (x.r+x.q)) from by kernel_rfl] at c;have c:a.tmps.getD 28 undef=.int .i64 (x.r+x.q):=c;simp only [execOp,Act.eval,c];exact x4_
theorem Vk7 {d:Act} {w0:World} {x:yrP} (c:yrC d w0 x):∀ j,j<yrO.size→ObW Tryz.prog yrO (yrK x) d w0 j:=by
 rw [show yrO.size=12 by kernel_rfl];have e:∀ j,j<0→ObW Tryz.prog yrO (yrK x) d w0 j:=fun j v=>absurd v (Nat.not_lt_zero j);have f:=Y1_ e (yr_0 c);clear e;have k:=Y1_ f (yr_1 c);clear f;have m:=Y1_ k (yr_2 c);clear k;have o:=Y1_ m (yr_3 c);clear m;have p:=Y1_ o (yr_4 c);clear o;have q:=Y1_ p (yr_5 c);clear p;have r:=Y1_ q (yr_6 c);clear q;have s:=Y1_ r (yr_7 c);clear r;have u:=Y1_ s (yr_8 c);clear s;have g:=Y1_ u (yr_9 c);clear u;have h:=Y1_ g (yr_10 c);clear g;have w:=Y1_ h (yr_11 c);clear h;exact w
end Wp
end Go.Proofs.YteiejkhdonmcdaaGreatDoor
