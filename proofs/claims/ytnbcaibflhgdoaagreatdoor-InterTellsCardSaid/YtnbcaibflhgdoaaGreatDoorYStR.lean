/- A region whose order is drawn, some of whose operations are passed over: what each operation that is come up grants; what is passed over is left undefined. Nothing of the program here. What an operation of a drawn region may lean on, in short. Nothing of the program here. The document's Bound: its last region, operation by operation (written by gen_yref.py). inter's drawn regions, operation by operation (written by gen_ymax.py). -/
import Derived.Test.YtnbcaibflhgdoaaGreatDoorVTail
import Derived.Test.YtnbcaibflhgdoaaGreatDoorZA
import Derived.Test.YtnbcaibflhgdoaaGreatDoorZO
import Derived.Test.YtnbcaibflhgdoaaGreatDoorX0A
import Derived.Test.YtnbcaibflhgdoaaGreatDoorX0B
set_option maxRecDepth 100000
namespace Go.Proofs.YtnbcaibflhgdoaaGreatDoor.Wp
private theorem k0_ {P:Prop} (h:P:=by
 simp only [execOp,Act.eval,e1]
 go_simp
 exact ⟨Below.refl _ _,rfl⟩):P:=h
private theorem k1_ {P:Prop} (h:P:=by
 go_simp
 exact ⟨Below.refl _ _,rfl⟩):P:=h
private theorem q9_ {P:Prop} (h:P:=by
 rw [hv] at e2
 cases p
 all_goals
  simp at e2
  have e2:v=_:=e2
  subst e2
  simp only [execOp,Act.eval,e1,hv]
  go_simp
  exact ⟨Below.refl _ _,rfl⟩):P:=h
private theorem y20_ {P:Prop} (h:P:=by
 simp only [execOp]
 go_simp
 exact ⟨Below.refl _ _,(c.hL W hb).mono fun e w1 ⟨_,he,hr1,hb1⟩=>⟨_,he,hb1,hr1⟩⟩):P:=h
private theorem x21_ {P:Prop} (h:P:=by
 simp only [execOp]
 go_simp
 exact ⟨Below.refl _ _,(c.hR1 W hb).mono fun e w1 ⟨he,hb1⟩=>⟨_,he,hb1,rfl⟩⟩):P:=h
private theorem y21_ {P:Prop} (h:P:=by
 simp only [execOp]
 go_simp
 exact ⟨Below.refl _ _,(c.hP W hb).mono fun e w1 ⟨he,hb1⟩=>⟨_,he,hb1,rfl⟩⟩):P:=h
private theorem j21_ {P:Prop} (h:P:=by
 simp only [execOp,Act.eval]
 go_simp
 exact ⟨(Below.refl _ W).alloc (Nat.le_refl _) _,Row.here (Row.lit1 W (x.x))⟩):P:=h
private theorem y23_ {P:Prop} (h:P:=by
 simp only [execOp,Act.eval,e1,e2]
 go_simp
 exact ⟨Below.refl _ _,congrArg (Value.int .i64) c.hA⟩):P:=h
private theorem z23_ {P:Prop} (h:P:=by
 simp only [execOp,Act.eval,e1,e2]
 go_simp
 exact ⟨Below.refl _ _,by simp [Kind.holds,kd,yiK]⟩):P:=h
private theorem z30_ {P:Prop} (h:P:=by
 refine ⟨Op.load 25 (Operand.tmp 4), 25,by kernel_rfl,fun a W _ hb hout _=>?_⟩
 have e1:=(hout 4 (by kernel_rfl)).trans c.h4
 obtain ⟨k0,k1,k2,k3,k4,k5⟩:=c.hK2 W hb
 exact k0_):P:=h
private theorem j30_ {P:Prop} (h:P:=by
 refine ⟨Op.move (Operand.tmp 2), 26,by kernel_rfl,fun a W _ _ hout _=>?_⟩
 have e1:=(hout 2 (by kernel_rfl)).trans c.h2
 exact k0_):P:=h
private theorem k30_ {P:Prop} (h:P:=by
 refine ⟨Op.load 25 (Operand.tmp 3), 25,by kernel_rfl,fun a W _ hb hout _=>?_⟩
 have e1:=(hout 3 (by kernel_rfl)).trans c.h3
 obtain ⟨k0,k1,k2,k3,k4,k5⟩:=c.hK1 W hb
 exact k0_):P:=h
private theorem q33_ {P:Prop} (h:P:=by
 obtain ⟨k0,k1,k2,k3,k4,k5⟩:=c.hK1 W hb
 exact k0_):P:=h
private theorem z34_ {P:Prop} (h:P:=by
 have e1:=(hout 1 (by kernel_rfl)).trans c.h1
 exact k0_):P:=h
private theorem y35_ {P:Prop} (h:P:=by
 refine ⟨Op.assign (Operand.const (Value.int IntKind.i64 0)), 29,by kernel_rfl,fun a W _ _ _ _=>?_⟩
 simp only [execOp,Act.eval]
 exact k1_):P:=h
private theorem z35_ {P:Prop} (h:P:=by
 refine ⟨Op.move (Operand.tmp 7), 26,by kernel_rfl,fun a W _ _ hout _=>?_⟩
 have e1:=(hout 7 (by kernel_rfl)).trans c.h7
 exact k0_):P:=h
private theorem k36_ {P:Prop} (h:P:=by
 simp only [execOp,Act.eval,e1,e2]
 exact k1_):P:=h
private theorem z37_ {P:Prop} (h:P:=by
 have e1:=(hout 3 (by kernel_rfl)).trans c.h3
 exact k0_):P:=h
private theorem x40_ {P:Prop} (h:P:=by
 refine ⟨Op.move (Operand.tmp 1), 26,by kernel_rfl,fun a W _ _ hout _=>?_⟩
 exact z34_):P:=h
end Go.Proofs.YtnbcaibflhgdoaaGreatDoor.Wp
namespace Go.Proofs.YtnbcaibflhgdoaaGreatDoor.Wp
open Go Go.RowKit
def Kind.isBool:Kind→Bool
 | .eq (.bool _)=>true
 | _=>false
def wantK (ops:Array Oper) (ks:List Kind) (i:Nat):Bool:=match ops[i]? with
 | none=>true
 | some o=>match o.guard with
  | none=>true
  | some (g,b)=>(kd ks g).isB b
def ek (ops:Array Oper) (ks:List Kind) (i:Nat):Kind:=if wantK ops ks i then kd ks i else .eq undef
def regW (ops:Array Oper) (ks:List Kind) (n:Nat):Bool :=
 (List.range ops.size).all fun i=>match ops[i]? with
  | none=>false
  | some o=>(match o.dst with
    | some d=>decide (d<n) && (List.range ops.size).all fun j=>decide (j=i) || dstOf ops j != some d
    | none=>true) && (o.after.all fun e=>decide (e.on<i)) && (match o.guard with
    | none=>true
    | some (g,_)=>Region.waitsFor .any ops i g && (dstOf ops g).isSome && (kd ks g).isBool && (match ops[g]? with
     | some og=>og.guard.isNone
     | none=>false))
structure RegW (ops:Array Oper) (ks:List Kind) (n:Nat):Prop where
 lt:∀ i d,dstOf ops i=some d→d<n
 one:∀ i j d,dstOf ops i=some d→dstOf ops j=some d→i=j
 back:∀ (i:Nat) (o:Oper),ops[i]?=some o→∀ e∈o.after,e.on<i
 guard:∀ (i:Nat) (o:Oper) (g:Nat) (b:Bool),ops[i]?=some o→o.guard=some (g,b)→Region.waitsFor .any ops i g=true∧(∃ d,dstOf ops g=some d)∧(∃ c,kd ks g=.eq (.bool c))∧wantK ops ks g=true
theorem Kind.bool_of {k:Kind} (h:k.isBool=true):∃ c,k=.eq (.bool c):=by
 cases k with
 | eq u =>
  cases u with
  | bool c=>exact ⟨c,rfl⟩
  | _=>simp [Kind.isBool] at h
 | row l=>simp [Kind.isBool] at h
theorem Z3_ {p:Nat→Prop} {n:Nat} (h:∀ i,i<n→p i) (c:p n):∀ i,i<n+1→p i:=fun i d=>if e:i=n then e▸c else h i q41_
section
variable {P:Program} {ops:Array Oper} {Q:Exit→Act→World→Prop}
theorem Vl4 {ks:List Kind} {n:Nat} (h:regW ops ks n=true):RegW ops ks n:=by
 have k:∀ (i:Nat) (o:Oper),ops[i]?=some o→((match o.dst with
    | some d=>decide (d<n) && (List.range ops.size).all fun j=>decide (j=i) || dstOf ops j != some d
    | none=>true)=true∧(o.after.all fun e=>decide (e.on<i))=true)∧(match o.guard with
    | none=>true
    | some (g,_)=>Region.waitsFor .any ops i g && (dstOf ops g).isSome && (kd ks g).isBool && (match ops[g]? with
     | some og=>og.guard.isNone
     | none=>false))=true:=fun i o ho=>by
  have f:i<ops.size:=(Array.getElem?_eq_some_iff.1 ho).1;have c:=List.all_eq_true.1 h i (List.mem_range.2 f);simp only [ho,Bool.and_eq_true] at c ⊢;exact c
 have hd:∀ i d,dstOf ops i=some d→∃ o,ops[i]?=some o∧o.dst=some d:=fun i d h=>x20_;refine ⟨fun i d f=>?_,fun i j d f p=>?_,fun i o ho e q=>?_,fun i o g b ho r=>?_⟩
 ·obtain ⟨o,ho,m⟩:=hd i d f
  have c:=(k i o ho).1.1;simp only [m,Bool.and_eq_true,decide_eq_true_eq] at c;exact c.1
 ·obtain ⟨o,ho,m⟩:=hd i d f
  have c:=(k i o ho).1.1;simp only [m,Bool.and_eq_true,decide_eq_true_eq] at c;obtain ⟨u,s,_⟩:=hd j d p;have h2:=List.all_eq_true.1 c.2 j (List.mem_range.2 (Array.getElem?_eq_some_iff.1 s).1);rw [p] at h2;simp at h2;exact h2.symm
 ·have c:=(k i o ho).1.2
  have h2:=Array.all_eq_true_iff_forall_mem.1 c e q;simpa using h2
 ·have c:=(k i o ho).2
  simp only [r,Bool.and_eq_true] at c;refine ⟨c.1.1.1,Option.isSome_iff_exists.1 c.1.1.2,Kind.bool_of c.1.2,?_⟩;unfold wantK;have h2:=c.2;cases hog:ops[g]? with
  | none=>rfl
  | some og =>
   rw [hog] at h2;have h3:og.guard=none:=x50_;simp only [h3]
structure GotW (ops:Array Oper) (ks:List Kind) (a0:Act) (w0:World) (listed:Array Bool) (a:Act) (w:World):Prop where
 size:listed.size=ops.size
 below:Below w0.heap.size w0 w
 asize:a.tmps.size=a0.tmps.size
 defs:a.defers=a0.defers
 outer:∀ t,M8_ ops t=true→a.tmps.getD t undef=a0.tmps.getD t undef
 got:∀ i d,dstOf ops i=some d→listed.getD i false=true→(ek ops ks i).holds (a.tmps.getD d undef) w
def ObW (P:Program) (ops:Array Oper) (ks:List Kind) (a0:Act) (w0:World) (i:Nat):Prop :=
 ∃ (op:Op) (ty:TypeId),(ops[i]?).map (fun o=>(o.op,o.type))=some (op,ty)∧∀ (a:Act) (W:World),wantK ops ks i=true→Below w0.heap.size w0 W→(∀ t,M8_ ops t=true→a.tmps.getD t undef=a0.tmps.getD t undef) →
  (∀ j d,Region.waitsFor .any ops i j=true→dstOf ops j=some d→(ek ops ks j).holds (a.tmps.getD d undef) W)→Zx9 P ((execOp a.eval { dst:=none,op:=op,type:=ty,pos := "",after:=#[],guard:=none }).run P W) W (kd ks i).holds
theorem Yf5 {c:Array Bool} {ks:List Kind} {n:Nat} (hR:RegW ops ks n) (hs:c.size=ops.size) (h:Region.ready .any ops c=[]):∀ i,i<ops.size→c.getD i false=true:=by
 intro i
 induction i using Nat.strongRecOn with
 | _ i ih =>
  intro d;cases hl:c.getD i false with
  | true=>rfl
  | false =>
   have f:i∈Region.ready .any ops c:=mem_ready.2 ⟨getD_in q41_ hl,ops[i],by simp [d],fun e g _=>by
    have j:=hR.back i ops[i] (by simp [d]) e g;exact ih e.on j q41_⟩
   rw [h] at f;cases f
theorem W9_ {ks:List Kind} {z:Act} {w0:World} (hR:RegW ops ks z.tmps.size) (J:∀ i,i<ops.size→ObW P ops ks z w0 i)
  (hQ:∀ f a W,GotW ops ks z w0 f a W→(∀ i,i<ops.size→f.getD i false=true)→Q .normal a W) :
  ∀ (fuel:Nat) (f:Array Bool) (a:Act) (w:World),GotW ops ks z w0 f a w→cnt (fun i=>!f.getD i false) ops.size=fuel→wpAny P .any ops Q fuel f a w
 | 0,f,a,w,hg,hc=>by
  have A:∀ i,i<ops.size→f.getD i false=true:=fun i E=>by
   cases hl:f.getD i false with
   | true=>rfl
   | false =>
    have:=Zt5 (p:=fun _=>false) (q:=fun i=>!f.getD i false) (n:=ops.size) (fun _ _ h=>by cases h) ⟨i,E,rfl,by simp [hl]⟩;omega
  refine ⟨?_,hQ _ _ _ hg A⟩;cases hr:Region.ready .any ops f with
  | nil=>rfl
  | cons x xs =>
   have Z:x∈Region.ready .any ops f:=by rw [hr];simp
   obtain ⟨m,o,ho,_⟩:=mem_ready.1 Z;have:=A x (Array.getElem?_eq_some_iff.1 ho).1;rw [getD_both m] at this;cases this
 | fuel+1,f,a,w,hg,hc=>by
  refine ⟨fun L=>hQ _ _ _ hg (Yf5 hR hg.size L),fun i E=>?_⟩;obtain ⟨V,o,ho,A⟩:=mem_ready.1 E;have B:i<ops.size:=(Array.getElem?_eq_some_iff.1 ho).1;obtain ⟨op,ty,C,hO⟩:=J i B;rw [ho] at C;simp only [Option.map_some,Option.some.injEq,Prod.mk.injEq] at C;have I:∀ j d,Region.waitsFor .any ops i j=true→dstOf ops j=some d→(ek ops ks j).holds (a.tmps.getD d undef) w:=fun j d H hd=>by
   obtain ⟨oj,S,e,s,hb,T⟩:=Region.waitsFor_spec H;have:oj=o:=Option.some.inj (S.symm.trans ho);subst this;exact hg.got j d hd (by rw [← T];exact A e s hb)
  have H:Region.wanted o (yielded ops a.tmps)=wantK ops ks i:=by
   unfold Region.wanted wantK;rw [ho];cases hgd:o.guard with
   | none=>simp [hgd]
   | some gb =>
    obtain ⟨g,b⟩:=gb;obtain ⟨m,⟨d,hd⟩,⟨c,h3⟩,Y⟩:=hR.guard i o g b ho hgd;have r:=I g d m hd;unfold ek at r;rw [Y,if_pos rfl,h3] at r;have r:a.tmps.getD d undef=.bool c:=r;have N:d<a.tmps.size:=by rw [hg.asize];exact hR.lt g d hd
    have M:a.tmps[d]?=some (.bool c):=by
     rw [← r];simp [Array.getD,N]
    unfold dstOf at hd;simp [hgd,yielded,h3,Kind.isB,hd,M]
  have O:i<f.size:=by rw [hg.size];exact B
  have next:∀ u w',Below w.heap.size w w'→(ek ops ks i).holds u w'→wpAny P .any ops Q fuel (f.setIfInBounds i true) (a.put o.dst u) w':=fun u w' hb D=>by
   refine W9_ hR J hQ fuel _ _ _ ⟨by simp [hg.size],hg.below.trans (hb.mono hg.below.size),by rw [Yi8];exact hg.asize,by rw [Yi9];exact hg.defs,fun t K=>?_,fun j d hj hl=>?_⟩ ?_
   ·rw [K2_ a u (fun e=>by
     have m:=List.all_eq_true.1 K i (List.mem_range.2 B);have:dstOf ops i=some t:=x46_;rw [this] at m;simp at m)]
    exact hg.outer t K
   ·by_cases F:i=j
    ·subst F
     have R:o.dst=some d:=j49_;rw [R,Zn9 a u (by rw [hg.asize];exact hR.lt i d hj)];exact D
    ·rw [K2_ a u (fun e=>F (hR.one i j d x46_ hj))]
     rw [getD_set_ne false F] at hl;exact Kind.up (hg.got j d hj hl) hb
   ·have U:(fun k=>!(f.setIfInBounds i true).getD k false) i=false:=by simp [O]
    have m:=Zz7 (p:=fun k=>!f.getD k false) (q:=fun k=>!(f.setIfInBounds i true).getD k false) (y:=i) (by simp only [getD_both V];rfl) U (fun v X=>by simp only [getD_set_ne false (Ne.symm X)]) (n:=ops.size);rw [if_pos B] at m;omega
  unfold wpOp;simp only [ho,H];cases hwk:wantK ops ks i with
  | true =>
   rw [if_pos rfl];have s:ek ops ks i=kd ks i:=by unfold ek;rw [hwk,if_pos rfl]
   exact .inl (Zv0 (G:=(kd ks i).holds) (by rw [Zb9,C.1,C.2];exact hO a w hwk hg.below hg.outer I) fun u w' hb D=>next u w' hb (by rw [s];exact D))
  | false =>
   rw [if_neg x42_];have s:ek ops ks i=.eq undef:=by unfold ek;rw [hwk,if_neg x42_]
   exact next undef w (Below.refl _ _) (by rw [s];exact rfl)
theorem V9_ {id:Nat} {a:Act} {w:World} (ks:List Kind) (h:P.follows .mixedOrders=true) (hB:regW ops ks a.tmps.size=true) (j:∀ i,i<ops.size→ObW P ops ks a w.drew i)
  (hQ:∀ c W,Below w.drew.heap.size w.drew W→c.tmps.size=a.tmps.size→c.defers=a.defers→(∀ t,M8_ ops t=true→c.tmps.getD t undef=a.tmps.getD t undef)→(∀ i d,i<ops.size→dstOf ops i=some d→(ek ops ks i).holds (c.tmps.getD d undef) W)→Q .normal c W) :
  (Code.region id ops true).wp P Q a w:=by
 refine wp_region_any h ?_;exact W9_ (w0:=w.drew) (Vl4 hB) j (fun k c W e f=>hQ c W e.below e.asize e.defs e.outer fun i d g hd=>e.got i d hd (f i g)) _ _ _ _
  ⟨j41_,Below.refl _ _,rfl,rfl,fun _ _=>rfl,fun i d _ hl=>by rw [getD_replicate_false] at hl;cases hl⟩ (P9_ fun v _=>by simp only [getD_replicate_false];rfl)
end
open Go Go.RowKit
section
variable {ops:Array Oper} {ks:List Kind} {i:Nat} {a:Act} {W:World}
theorem depE (hd:∀ j d,Region.waitsFor .any ops i j=true→dstOf ops j=some d→(ek ops ks j).holds (a.tmps.getD d undef) W) (j t:Nat) (v:Value)
  (c:Region.waitsFor .any ops i j=true:=by kernel_rfl) (e:dstOf ops j=some t:=by kernel_rfl) (h3:ek ops ks j=.eq v:=by kernel_rfl):a.tmps.getD t undef=v:=by
 have h:=hd j t c e;rw [h3] at h;exact h
theorem depR (hd:∀ j d,Region.waitsFor .any ops i j=true→dstOf ops j=some d→(ek ops ks j).holds (a.tmps.getD d undef) W) (j t:Nat) (l:List Int)
  (c:Region.waitsFor .any ops i j=true:=by kernel_rfl) (e:dstOf ops j=some t:=by kernel_rfl) (h3:ek ops ks j=.row l:=by kernel_rfl):Row W W.heap.size (a.tmps.getD t undef) l:=by
 have h:=hd j t c e;rw [h3] at h;exact h
theorem depC {c:Bool} (g:c=true) (hd:∀ j d,Region.waitsFor .any ops i j=true→dstOf ops j=some d→(ek ops ks j).holds (a.tmps.getD d undef) W) (j t:Nat) (v:Value)
  (e:Region.waitsFor .any ops i j=true:=by kernel_rfl) (f:dstOf ops j=some t:=by kernel_rfl) (h3:ek ops ks j=if c=true then .eq v else .eq undef:=by kernel_rfl):a.tmps.getD t undef=v:=by
 have h:=hd j t e f;rw [h3,if_pos g] at h;exact h
theorem depD {c:Bool} (g:c=true) (hd:∀ j d,Region.waitsFor .any ops i j=true→dstOf ops j=some d→(ek ops ks j).holds (a.tmps.getD d undef) W) (j t:Nat) (l:List Int)
  (e:Region.waitsFor .any ops i j=true:=by kernel_rfl) (f:dstOf ops j=some t:=by kernel_rfl) (h3:ek ops ks j=if c=true then .row l else .eq undef:=by kernel_rfl):Row W W.heap.size (a.tmps.getD t undef) l:=by
 have h:=hd j t e f;rw [h3,if_pos g] at h;exact h
end
end Go.Proofs.YtnbcaibflhgdoaaGreatDoor.Wp
namespace Go.Proofs.YtnbcaibflhgdoaaGreatDoor
open Go Go.RowKit
namespace Wp
structure yrP where
 (B1 B2:Nat)
 (c0 c1 c2 c3 c4 c5 d0 d1 d2 d3 d4 d5 uv:Value)
 (U L:List Int)
 (n r q:Int)
noncomputable def yrO:Array Oper:=regOf 3 (Tryz.f12.body.getD .skip)
structure yrC (a0:Act) (w0:World) (x:yrP):Prop where
 h2:a0.tmps.getD 2 undef=x.uv
 h3:a0.tmps.getD 3 undef=.pointer (some ⟨x.B1,0,none⟩)
 h4:a0.tmps.getD 4 undef=.pointer (some ⟨x.B2,0,none⟩)
 hK1:∀ W,Below w0.heap.size w0 W→W.cell? ⟨x.B1,0,none⟩=some x.c0∧W.cell? ⟨x.B1,1,none⟩=some x.c1∧W.cell? ⟨x.B1,2,none⟩=some x.c2∧W.cell? ⟨x.B1,3,none⟩=some x.c3∧W.cell? ⟨x.B1,4,none⟩=some x.c4∧W.cell? ⟨x.B1,5,none⟩=some x.c5
 hK2:∀ W,Below w0.heap.size w0 W→W.cell? ⟨x.B2,0,none⟩=some x.d0∧W.cell? ⟨x.B2,1,none⟩=some x.d1∧W.cell? ⟨x.B2,2,none⟩=some x.d2∧W.cell? ⟨x.B2,3,none⟩=some x.d3∧W.cell? ⟨x.B2,4,none⟩=some x.d4∧W.cell? ⟨x.B2,5,none⟩=some x.d5
 hN:∀ W,Below w0.heap.size w0 W→W.cell? ⟨x.B1,1,none⟩=some (.int .i64 x.n)
 hR1:∀ W,Below w0.heap.size w0 W→Calls Tryz.prog 34 #[.agg #[x.c0,x.c1,x.c2,x.c3,x.c4,x.c5],x.uv] W (Tells W x.r)
 hR2:∀ W,Below w0.heap.size w0 W→∀ u,Row W W.heap.size u x.U→Calls Tryz.prog 34 #[.agg #[x.d0,x.d1,x.d2,x.d3,x.d4,x.d5],u] W (Tells W x.q)
 hL:∀ W,Below w0.heap.size w0 W→Calls Tryz.prog 28 #[.int .i64 x.n] W (Gives W x.L)
 hO:∀ W,Below w0.heap.size w0 W→∀ u,Row W W.heap.size u x.L→Calls Tryz.prog 27 #[u,x.uv] W (Gives W x.U)
 hA:IntKind.i64.wrap (x.r+x.q)=x.r+x.q
def yrK (x:yrP):List Kind:=[.eq (.agg #[x.c0,x.c1,x.c2,x.c3,x.c4,x.c5]),.eq (x.uv),.eq (.int .i64 x.r),.eq (.agg #[x.d0,x.d1,x.d2,x.d3,x.d4,x.d5]),.eq (.pointer (some ⟨x.B1,1,none⟩)),.eq (.int .i64 x.n),.row (x.L),.eq (x.uv),.row (x.U),.eq (.int .i64 x.q),.eq (.int .i64 (x.r+x.q)),.eq (.int .i64 (x.r+x.q))]
theorem yr_0 {d:Act} {w0:World} {x:yrP} (c:yrC d w0 x):ObW Tryz.prog yrO (yrK x) d w0 0:=k30_
theorem yr_1 {d:Act} {w0:World} {x:yrP} (c:yrC d w0 x):ObW Tryz.prog yrO (yrK x) d w0 1:=j30_
theorem yr_2 {d:Act} {w0:World} {x:yrP} (c:yrC d w0 x):ObW Tryz.prog yrO (yrK x) d w0 2:=by
 refine ⟨Op.call { callee:=Callee.value (Operand.func 34),args:=#[Operand.tmp 18,Operand.tmp 19],argTypes:=#[25, 26] }, 3,x41_,fun a W _ hb _ g=>?_⟩;have h:=depE g 0 18 (.agg #[x.c0,x.c1,x.c2,x.c3,x.c4,x.c5]);have j:=depE g 1 19 (x.uv);exact x21_
theorem yr_3 {d:Act} {w0:World} {x:yrP} (c:yrC d w0 x):ObW Tryz.prog yrO (yrK x) d w0 3:=z30_
theorem yr_4 {d:Act} {w0:World} {x:yrP} (c:yrC d w0 x):ObW Tryz.prog yrO (yrK x) d w0 4:=by
 refine ⟨Op.fieldAddr 25 (Operand.tmp 3) 1, 0,x41_,fun a W _ _ hout _=>?_⟩;exact z37_
theorem yr_5 {d:Act} {w0:World} {x:yrP} (c:yrC d w0 x):ObW Tryz.prog yrO (yrK x) d w0 5:=by
 refine ⟨Op.load 3 (Operand.tmp 22), 3,x41_,fun a W _ hb _ e=>?_⟩;have e1:=depE e 4 22 (.pointer (some ⟨x.B1,1,none⟩));have f:=c.hN W hb;exact k0_
theorem yr_6 {d:Act} {w0:World} {x:yrP} (c:yrC d w0 x):ObW Tryz.prog yrO (yrK x) d w0 6:=by
 refine ⟨Op.call { callee:=Callee.value (Operand.func 28),args:=#[Operand.tmp 23],argTypes:=#[3] }, 26,x41_,fun a W _ hb _ g=>?_⟩;have h:=depE g 5 23 (.int .i64 x.n);exact y20_
theorem yr_7 {d:Act} {w0:World} {x:yrP} (c:yrC d w0 x):ObW Tryz.prog yrO (yrK x) d w0 7:=j30_
theorem yr_8 {d:Act} {w0:World} {x:yrP} (c:yrC d w0 x):ObW Tryz.prog yrO (yrK x) d w0 8:=by
 refine ⟨Op.call { callee:=Callee.value (Operand.func 27),args:=#[Operand.tmp 24,Operand.tmp 25],argTypes:=#[26, 26] }, 26,x41_,fun a W _ hb _ h=>?_⟩;have g:=depR h 6 24 (x.L);have q:=depE h 7 25 (x.uv);obtain ⟨p,o⟩:∃ v,a.tmps.getD 24 undef=v:=⟨_,rfl⟩;rw [o] at g;simp only [execOp];go_simp;exact ⟨Below.refl _ _,(c.hO W hb p g).mono fun e r ⟨_,k,m,j⟩=>⟨_,k,j,m⟩⟩
theorem yr_9 {d:Act} {w0:World} {x:yrP} (c:yrC d w0 x):ObW Tryz.prog yrO (yrK x) d w0 9:=by
 refine ⟨Op.call { callee:=Callee.value (Operand.func 34),args:=#[Operand.tmp 21,Operand.tmp 26],argTypes:=#[25, 26] }, 3,x41_,fun a W _ hb _ h=>?_⟩;have p:=depE h 3 21 (.agg #[x.d0,x.d1,x.d2,x.d3,x.d4,x.d5]);have g:=depR h 8 26 (x.U);obtain ⟨o,m⟩:∃ v,a.tmps.getD 26 undef=v:=⟨_,rfl⟩;rw [m] at g;simp only [execOp];go_simp;exact ⟨Below.refl _ _,(c.hR2 W hb o g).mono fun e q ⟨k,j⟩=>⟨_,k,j,rfl⟩⟩
theorem yr_10 {d:Act} {w0:World} {x:yrP} (c:yrC d w0 x):ObW Tryz.prog yrO (yrK x) d w0 10:=by
 refine ⟨Op.binOp BinOp.add 3 (Operand.tmp 20) (Operand.tmp 27) 3, 3,x41_,fun a W _ _ _ e=>?_⟩;have e1:=depE e 2 20 (.int .i64 x.r);have e2:=depE e 9 27 (.int .i64 x.q);exact y23_
theorem yr_11 {c:Act} {w0:World} {x:yrP} (_c:yrC c w0 x):ObW Tryz.prog yrO (yrK x) c w0 11:=by
 refine ⟨Op.assign (Operand.tmp 28), 3,x41_,fun a W _ _ _ d=>?_⟩;have e1:=depE d 10 28 (.int .i64 (x.r+x.q));exact k0_
theorem Vt9 {d:Act} {w0:World} {x:yrP} (c:yrC d w0 x):∀ j,j<yrO.size→ObW Tryz.prog yrO (yrK x) d w0 j:=by
 rw [show yrO.size=12 by kernel_rfl];have e:∀ j,j<0→ObW Tryz.prog yrO (yrK x) d w0 j:=fun j v=>absurd v (Nat.not_lt_zero j);have f:=Z3_ e (yr_0 c);clear e;have k:=Z3_ f (yr_1 c);clear f;have m:=Z3_ k (yr_2 c);clear k;have o:=Z3_ m (yr_3 c);clear m;have p:=Z3_ o (yr_4 c);clear o;have q:=Z3_ p (yr_5 c);clear p;have r:=Z3_ q (yr_6 c);clear q;have s:=Z3_ r (yr_7 c);clear r;have u:=Z3_ s (yr_8 c);clear s;have g:=Z3_ u (yr_9 c);clear u;have h:=Z3_ g (yr_10 c);clear g;have w:=Z3_ h (yr_11 c);clear h;exact w
open Go Go.RowKit
structure ymP where
 (B1:Nat)
 (c0 c1 c2 c3 c4 c5 sv vj vf:Value)
 (W U:List Int)
noncomputable def ymO:Array Oper:=regOf 7 (Tryz.f8.body.getD .skip)
structure ymC (a0:Act) (w0:World) (x:ymP):Prop where
 h2:a0.tmps.getD 2 undef=.pointer (some ⟨x.B1,0,none⟩)
 h7:a0.tmps.getD 7 undef=x.sv
 h8:a0.tmps.getD 8 undef=x.vj
 h9:a0.tmps.getD 9 undef=x.vf
 hK1:∀ W,Below w0.heap.size w0 W→W.cell? ⟨x.B1,0,none⟩=some x.c0∧W.cell? ⟨x.B1,1,none⟩=some x.c1∧W.cell? ⟨x.B1,2,none⟩=some x.c2∧W.cell? ⟨x.B1,3,none⟩=some x.c3∧W.cell? ⟨x.B1,4,none⟩=some x.c4∧W.cell? ⟨x.B1,5,none⟩=some x.c5
 hF:∀ W,Below w0.heap.size w0 W→Calls Tryz.prog 22 #[x.vj,x.vf] W (Gives W x.W)
 hO:∀ W,Below w0.heap.size w0 W→∀ u,Row W W.heap.size u x.W→Calls Tryz.prog 21 #[.agg #[x.c0,x.c1,x.c2,x.c3,x.c4,x.c5],u] W (Gives W x.U)
def ymK (x:ymP):List Kind:=[.eq (x.sv),.eq (.agg #[x.c0,x.c1,x.c2,x.c3,x.c4,x.c5]),.eq (x.vj),.eq (x.vf),.row (x.W),.row (x.U),.eq (x.sv),.row (x.U),.eq (.int .i64 0)]
theorem ym_0 {d:Act} {w0:World} {x:ymP} (c:ymC d w0 x):ObW Tryz.prog ymO (ymK x) d w0 0:=z35_
theorem ym_1 {d:Act} {w0:World} {x:ymP} (c:ymC d w0 x):ObW Tryz.prog ymO (ymK x) d w0 1:=by
 refine ⟨Op.load 25 (Operand.tmp 2), 25,x41_,fun a W _ hb e _=>?_⟩;have e1:=(e 2 x41_).trans c.h2;exact q33_
theorem ym_2 {d:Act} {w0:World} {x:ymP} (c:ymC d w0 x):ObW Tryz.prog ymO (ymK x) d w0 2:=by
 refine ⟨Op.move (Operand.tmp 8), 22,x41_,fun a W _ _ e _=>?_⟩;have e1:=(e 8 x41_).trans c.h8;exact k0_
theorem ym_3 {d:Act} {w0:World} {x:ymP} (c:ymC d w0 x):ObW Tryz.prog ymO (ymK x) d w0 3:=by
 refine ⟨Op.move (Operand.tmp 9), 26,x41_,fun a W _ _ e _=>?_⟩;have e1:=(e 9 x41_).trans c.h9;exact k0_
theorem ym_4 {d:Act} {w0:World} {x:ymP} (c:ymC d w0 x):ObW Tryz.prog ymO (ymK x) d w0 4:=by
 refine ⟨Op.call { callee:=Callee.value (Operand.func 22),args:=#[Operand.tmp 38,Operand.tmp 39],argTypes:=#[22, 26] }, 26,x41_,fun a W _ hb _ g=>?_⟩;have m:=depE g 2 38 (x.vj);have o:=depE g 3 39 (x.vf);simp only [execOp];go_simp;exact ⟨Below.refl _ _,(c.hF W hb).mono fun e p ⟨_,j,k,h⟩=>⟨_,j,h,k⟩⟩
theorem ym_5 {d:Act} {w0:World} {x:ymP} (c:ymC d w0 x):ObW Tryz.prog ymO (ymK x) d w0 5:=by
 refine ⟨Op.call { callee:=Callee.value (Operand.func 21),args:=#[Operand.tmp 37,Operand.tmp 40],argTypes:=#[25, 26] }, 26,x41_,fun a W _ hb _ h=>?_⟩;have q:=depE h 1 37 (.agg #[x.c0,x.c1,x.c2,x.c3,x.c4,x.c5]);have g:=depR h 4 40 (x.W);obtain ⟨p,o⟩:∃ v,a.tmps.getD 40 undef=v:=⟨_,rfl⟩;rw [o] at g;simp only [execOp];go_simp;exact ⟨Below.refl _ _,(c.hO W hb p g).mono fun e r ⟨_,k,m,j⟩=>⟨_,k,j,m⟩⟩
theorem ym_6 {c:Act} {w0:World} {x:ymP} (_c:ymC c w0 x):ObW Tryz.prog ymO (ymK x) c w0 6:=by
 refine ⟨Op.assign (Operand.tmp 36), 26,x41_,fun a W _ _ _ d=>?_⟩;have e1:=depE d 0 36 (x.sv);exact k0_
theorem ym_7 {c:Act} {w0:World} {x:ymP} (_c:ymC c w0 x):ObW Tryz.prog ymO (ymK x) c w0 7:=by
 refine ⟨Op.assign (Operand.tmp 41), 26,x41_,fun a W _ _ _ f=>?_⟩;have d:=depR f 5 41 (x.U);obtain ⟨g,e⟩:∃ v,a.tmps.getD 41 undef=v:=⟨_,rfl⟩;rw [e] at d;simp only [execOp,Act.eval,e];go_simp;exact ⟨Below.refl _ _,d⟩
theorem ym_8 {c:Act} {w0:World} {x:ymP} (_c:ymC c w0 x):ObW Tryz.prog ymO (ymK x) c w0 8:=y35_
theorem Vu0 {d:Act} {w0:World} {x:ymP} (c:ymC d w0 x):∀ j,j<ymO.size→ObW Tryz.prog ymO (ymK x) d w0 j:=by
 rw [show ymO.size=9 by kernel_rfl];have e:∀ j,j<0→ObW Tryz.prog ymO (ymK x) d w0 j:=fun j r=>absurd r (Nat.not_lt_zero j);have f:=Z3_ e (ym_0 c);clear e;have g:=Z3_ f (ym_1 c);clear f;have h:=Z3_ g (ym_2 c);clear g;have k:=Z3_ h (ym_3 c);clear h;have m:=Z3_ k (ym_4 c);clear k;have o:=Z3_ m (ym_5 c);clear m;have p:=Z3_ o (ym_6 c);clear o;have q:=Z3_ p (ym_7 c);clear p;have s:=Z3_ q (ym_8 c);clear q;exact s
structure ybP where
 (B1 B2:Nat)
 (c0 c1 c2 c3 c4 c5 d0 d1 d2 d3 d4 d5 uv:Value)
 (U:List Int)
 (r q:Int)
noncomputable def ybO:Array Oper:=regOf 3 (Tryz.f11.body.getD .skip)
structure ybC (a0:Act) (w0:World) (x:ybP):Prop where
 h2:a0.tmps.getD 2 undef=x.uv
 h3:a0.tmps.getD 3 undef=.pointer (some ⟨x.B1,0,none⟩)
 h4:a0.tmps.getD 4 undef=.pointer (some ⟨x.B2,0,none⟩)
 hK1:∀ W,Below w0.heap.size w0 W→W.cell? ⟨x.B1,0,none⟩=some x.c0∧W.cell? ⟨x.B1,1,none⟩=some x.c1∧W.cell? ⟨x.B1,2,none⟩=some x.c2∧W.cell? ⟨x.B1,3,none⟩=some x.c3∧W.cell? ⟨x.B1,4,none⟩=some x.c4∧W.cell? ⟨x.B1,5,none⟩=some x.c5
 hK2:∀ W,Below w0.heap.size w0 W→W.cell? ⟨x.B2,0,none⟩=some x.d0∧W.cell? ⟨x.B2,1,none⟩=some x.d1∧W.cell? ⟨x.B2,2,none⟩=some x.d2∧W.cell? ⟨x.B2,3,none⟩=some x.d3∧W.cell? ⟨x.B2,4,none⟩=some x.d4∧W.cell? ⟨x.B2,5,none⟩=some x.d5
 hR1:∀ W,Below w0.heap.size w0 W→Calls Tryz.prog 32 #[.agg #[x.c0,x.c1,x.c2,x.c3,x.c4,x.c5],x.uv] W (Tells W x.r)
 hR2:∀ W,Below w0.heap.size w0 W→∀ u,Row W W.heap.size u x.U→Calls Tryz.prog 32 #[.agg #[x.d0,x.d1,x.d2,x.d3,x.d4,x.d5],u] W (Tells W x.q)
 hO:∀ W,Below w0.heap.size w0 W→Calls Tryz.prog 21 #[.agg #[x.d0,x.d1,x.d2,x.d3,x.d4,x.d5],x.uv] W (Gives W x.U)
 hA:IntKind.i64.wrap (x.r+x.q)=x.r+x.q
def ybK (x:ybP):List Kind:=[.eq (.agg #[x.c0,x.c1,x.c2,x.c3,x.c4,x.c5]),.eq (x.uv),.eq (.int .i64 x.r),.eq (.agg #[x.d0,x.d1,x.d2,x.d3,x.d4,x.d5]),.eq (.agg #[x.d0,x.d1,x.d2,x.d3,x.d4,x.d5]),.eq (x.uv),.row (x.U),.eq (.int .i64 x.q),.eq (.int .i64 (x.r+x.q)),.eq (.int .i64 (x.r+x.q))]
theorem yb_0 {d:Act} {w0:World} {x:ybP} (c:ybC d w0 x):ObW Tryz.prog ybO (ybK x) d w0 0:=k30_
theorem yb_1 {d:Act} {w0:World} {x:ybP} (c:ybC d w0 x):ObW Tryz.prog ybO (ybK x) d w0 1:=j30_
theorem yb_2 {d:Act} {w0:World} {x:ybP} (c:ybC d w0 x):ObW Tryz.prog ybO (ybK x) d w0 2:=by
 refine ⟨Op.call { callee:=Callee.value (Operand.func 32),args:=#[Operand.tmp 17,Operand.tmp 18],argTypes:=#[25, 26] }, 3,x41_,fun a W _ hb _ g=>?_⟩;have h:=depE g 0 17 (.agg #[x.c0,x.c1,x.c2,x.c3,x.c4,x.c5]);have j:=depE g 1 18 (x.uv);exact x21_
theorem yb_3 {d:Act} {w0:World} {x:ybP} (c:ybC d w0 x):ObW Tryz.prog ybO (ybK x) d w0 3:=z30_
theorem yb_4 {d:Act} {w0:World} {x:ybP} (c:ybC d w0 x):ObW Tryz.prog ybO (ybK x) d w0 4:=z30_
theorem yb_5 {d:Act} {w0:World} {x:ybP} (c:ybC d w0 x):ObW Tryz.prog ybO (ybK x) d w0 5:=j30_
theorem yb_6 {d:Act} {w0:World} {x:ybP} (c:ybC d w0 x):ObW Tryz.prog ybO (ybK x) d w0 6:=by
 refine ⟨Op.call { callee:=Callee.value (Operand.func 21),args:=#[Operand.tmp 21,Operand.tmp 22],argTypes:=#[25, 26] }, 26,x41_,fun a W _ hb _ g=>?_⟩;have m:=depE g 4 21 (.agg #[x.d0,x.d1,x.d2,x.d3,x.d4,x.d5]);have o:=depE g 5 22 (x.uv);simp only [execOp];go_simp;exact ⟨Below.refl _ _,(c.hO W hb).mono fun e p ⟨_,j,k,h⟩=>⟨_,j,h,k⟩⟩
theorem yb_7 {d:Act} {w0:World} {x:ybP} (c:ybC d w0 x):ObW Tryz.prog ybO (ybK x) d w0 7:=by
 refine ⟨Op.call { callee:=Callee.value (Operand.func 32),args:=#[Operand.tmp 20,Operand.tmp 23],argTypes:=#[25, 26] }, 3,x41_,fun a W _ hb _ h=>?_⟩;have p:=depE h 3 20 (.agg #[x.d0,x.d1,x.d2,x.d3,x.d4,x.d5]);have g:=depR h 6 23 (x.U);obtain ⟨o,m⟩:∃ v,a.tmps.getD 23 undef=v:=⟨_,rfl⟩;rw [m] at g;simp only [execOp];go_simp;exact ⟨Below.refl _ _,(c.hR2 W hb o g).mono fun e q ⟨k,j⟩=>⟨_,k,j,rfl⟩⟩
theorem yb_8 {d:Act} {w0:World} {x:ybP} (c:ybC d w0 x):ObW Tryz.prog ybO (ybK x) d w0 8:=by
 refine ⟨Op.binOp BinOp.add 3 (Operand.tmp 19) (Operand.tmp 24) 3, 3,x41_,fun a W _ _ _ e=>?_⟩;have e1:=depE e 2 19 (.int .i64 x.r);have e2:=depE e 7 24 (.int .i64 x.q);exact y23_
theorem yb_9 {c:Act} {w0:World} {x:ybP} (_c:ybC c w0 x):ObW Tryz.prog ybO (ybK x) c w0 9:=by
 refine ⟨Op.assign (Operand.tmp 25), 3,x41_,fun a W _ _ _ d=>?_⟩;have e1:=depE d 8 25 (.int .i64 (x.r+x.q));exact k0_
theorem Vu1 {d:Act} {w0:World} {x:ybP} (c:ybC d w0 x):∀ j,j<ybO.size→ObW Tryz.prog ybO (ybK x) d w0 j:=by
 rw [show ybO.size=10 by kernel_rfl];have e:∀ j,j<0→ObW Tryz.prog ybO (ybK x) d w0 j:=fun j s=>absurd s (Nat.not_lt_zero j);have f:=Z3_ e (yb_0 c);clear e;have g:=Z3_ f (yb_1 c);clear f;have h:=Z3_ g (yb_2 c);clear g;have k:=Z3_ h (yb_3 c);clear h;have m:=Z3_ k (yb_4 c);clear k;have o:=Z3_ m (yb_5 c);clear m;have p:=Z3_ o (yb_6 c);clear o;have q:=Z3_ p (yb_7 c);clear p;have r:=Z3_ q (yb_8 c);clear q;have u:=Z3_ r (yb_9 c);clear r;exact u
open Go Go.RowKit
structure yiP where
 (B1 B2:Nat)
 (c0 c1 c2 c3 c4 c5 d0 d1 d2 d3 d4 d5 uv s1 u1 s2 u2:Value)
 (er bd:Int)
noncomputable def yiO:Array Oper:=regOf 5 (Tryz.f3.body.getD .skip)
structure yiC (a0:Act) (w0:World) (x:yiP):Prop where
 h2:a0.tmps.getD 2 undef=x.uv
 h3:a0.tmps.getD 3 undef=.pointer (some ⟨x.B1,0,none⟩)
 h4:a0.tmps.getD 4 undef=.pointer (some ⟨x.B2,0,none⟩)
 h7:a0.tmps.getD 7 undef=x.s1
 h8:a0.tmps.getD 8 undef=x.u1
 h9:a0.tmps.getD 9 undef=.int .i64 x.er
 h10:a0.tmps.getD 10 undef=x.s2
 h11:a0.tmps.getD 11 undef=x.u2
 h12:a0.tmps.getD 12 undef=.int .i64 x.er
 hK1:∀ W,Below w0.heap.size w0 W→W.cell? ⟨x.B1,0,none⟩=some x.c0∧W.cell? ⟨x.B1,1,none⟩=some x.c1∧W.cell? ⟨x.B1,2,none⟩=some x.c2∧W.cell? ⟨x.B1,3,none⟩=some x.c3∧W.cell? ⟨x.B1,4,none⟩=some x.c4∧W.cell? ⟨x.B1,5,none⟩=some x.c5
 hK2:∀ W,Below w0.heap.size w0 W→W.cell? ⟨x.B2,0,none⟩=some x.d0∧W.cell? ⟨x.B2,1,none⟩=some x.d1∧W.cell? ⟨x.B2,2,none⟩=some x.d2∧W.cell? ⟨x.B2,3,none⟩=some x.d3∧W.cell? ⟨x.B2,4,none⟩=some x.d4∧W.cell? ⟨x.B2,5,none⟩=some x.d5
 hF:∀ W,Below w0.heap.size w0 W→Calls Tryz.prog 7 #[] W (Says W true)
 hS1:∀ W,Below w0.heap.size w0 W→Calls Tryz.prog 10 #[x.s1,x.s2] W (Says W true)
 hS2:∀ W,Below w0.heap.size w0 W→Calls Tryz.prog 10 #[x.u1,x.u2] W (Says W true)
 hB1:∀ W,Below w0.heap.size w0 W→Calls Tryz.prog 11 #[.agg #[x.c0,x.c1,x.c2,x.c3,x.c4,x.c5],.agg #[x.d0,x.d1,x.d2,x.d3,x.d4,x.d5],x.uv] W (Tells W x.bd)
 hB2:∀ W,Below w0.heap.size w0 W→Calls Tryz.prog 12 #[.agg #[x.c0,x.c1,x.c2,x.c3,x.c4,x.c5],.agg #[x.d0,x.d1,x.d2,x.d3,x.d4,x.d5],x.uv] W (Tells W x.bd)
def yiK (x:yiP):List Kind:=[.eq (.bool true),.eq (.bool true),.eq (x.s1),.eq (x.s2),.eq (.bool true),.eq (.bool true),.eq (.bool true),.eq (x.u1),.eq (x.u2),.eq (.bool true),.eq (.bool true),.eq (.bool true),.eq (.int .i64 x.er),.eq (.int .i64 x.er),.eq (.bool true),.eq (.bool true),.eq (.bool true),.eq (.agg #[x.c0,x.c1,x.c2,x.c3,x.c4,x.c5]),.eq (.agg #[x.d0,x.d1,x.d2,x.d3,x.d4,x.d5]),.eq (x.uv),.eq (.int .i64 x.bd),.eq (.agg #[x.c0,x.c1,x.c2,x.c3,x.c4,x.c5]),.eq (.agg #[x.d0,x.d1,x.d2,x.d3,x.d4,x.d5]),.eq (x.uv),.eq (.int .i64 x.bd),.eq (.bool true),.eq (.bool true),.eq (.bool true)]
theorem yi_0 {d:Act} {w0:World} {x:yiP} (c:yiC d w0 x):ObW Tryz.prog yiO (yiK x) d w0 0:=by
 refine ⟨Op.call { callee:=Callee.value (Operand.func 7),args:=#[],argTypes:=#[] }, 4,x41_,fun a W _ hb _ _=>?_⟩;simp only [execOp];go_simp;exact ⟨Below.refl _ _,(c.hF W hb).mono fun e j ⟨h,g⟩=>⟨_,h,g,rfl⟩⟩
theorem yi_1 {c:Act} {w0:World} {x:yiP} (_c:yiC c w0 x):ObW Tryz.prog yiO (yiK x) c w0 1:=by
 refine ⟨Op.move (Operand.tmp 41), 4,x41_,fun a W _ _ _ d=>?_⟩;have e1:=depE d 0 41 (.bool true);exact k0_
theorem yi_2 {d:Act} {w0:World} {x:yiP} (c:yiC d w0 x):ObW Tryz.prog yiO (yiK x) d w0 2:=z35_
theorem yi_3 {d:Act} {w0:World} {x:yiP} (c:yiC d w0 x):ObW Tryz.prog yiO (yiK x) d w0 3:=by
 refine ⟨Op.move (Operand.tmp 10), 26,x41_,fun a W _ _ e _=>?_⟩;have e1:=(e 10 x41_).trans c.h10;exact k0_
theorem yi_4 {d:Act} {w0:World} {x:yiP} (c:yiC d w0 x):ObW Tryz.prog yiO (yiK x) d w0 4:=by
 refine ⟨Op.call { callee:=Callee.value (Operand.func 10),args:=#[Operand.tmp 43,Operand.tmp 44],argTypes:=#[26, 26] }, 4,x41_,fun a W _ hb _ g=>?_⟩;have k:=depE g 2 43 (x.s1);have m:=depE g 3 44 (x.s2);simp only [execOp];go_simp;exact ⟨Below.refl _ _,(c.hS1 W hb).mono fun e o ⟨j,h⟩=>⟨_,j,h,rfl⟩⟩
theorem yi_5 {c:Act} {w0:World} {x:yiP} (_c:yiC c w0 x):ObW Tryz.prog yiO (yiK x) c w0 5:=by
 refine ⟨Op.pick (Operand.tmp 42) (Operand.tmp 45) (Operand.const (Value.bool false)), 4,x41_,fun a W _ _ _ d=>?_⟩;have e1:=depE d 1 42 (.bool true);have e2:=depE d 4 45 (.bool true);exact k36_
theorem yi_6 {c:Act} {w0:World} {x:yiP} (_c:yiC c w0 x):ObW Tryz.prog yiO (yiK x) c w0 6:=by
 refine ⟨Op.move (Operand.tmp 46), 4,x41_,fun a W _ _ _ d=>?_⟩;have e1:=depE d 5 46 (.bool true);exact k0_
theorem yi_7 {d:Act} {w0:World} {x:yiP} (c:yiC d w0 x):ObW Tryz.prog yiO (yiK x) d w0 7:=by
 refine ⟨Op.move (Operand.tmp 8), 26,x41_,fun a W _ _ e _=>?_⟩;have e1:=(e 8 x41_).trans c.h8;exact k0_
theorem yi_8 {d:Act} {w0:World} {x:yiP} (c:yiC d w0 x):ObW Tryz.prog yiO (yiK x) d w0 8:=by
 refine ⟨Op.move (Operand.tmp 11), 26,x41_,fun a W _ _ e _=>?_⟩;have e1:=(e 11 x41_).trans c.h11;exact k0_
theorem yi_9 {d:Act} {w0:World} {x:yiP} (c:yiC d w0 x):ObW Tryz.prog yiO (yiK x) d w0 9:=by
 refine ⟨Op.call { callee:=Callee.value (Operand.func 10),args:=#[Operand.tmp 48,Operand.tmp 49],argTypes:=#[26, 26] }, 4,x41_,fun a W _ hb _ g=>?_⟩;have k:=depE g 7 48 (x.u1);have m:=depE g 8 49 (x.u2);simp only [execOp];go_simp;exact ⟨Below.refl _ _,(c.hS2 W hb).mono fun e o ⟨j,h⟩=>⟨_,j,h,rfl⟩⟩
theorem yi_10 {c:Act} {w0:World} {x:yiP} (_c:yiC c w0 x):ObW Tryz.prog yiO (yiK x) c w0 10:=by
 refine ⟨Op.pick (Operand.tmp 47) (Operand.tmp 50) (Operand.const (Value.bool false)), 4,x41_,fun a W _ _ _ d=>?_⟩;have e1:=depE d 6 47 (.bool true);have e2:=depE d 9 50 (.bool true);exact k36_
theorem yi_11 {c:Act} {w0:World} {x:yiP} (_c:yiC c w0 x):ObW Tryz.prog yiO (yiK x) c w0 11:=by
 refine ⟨Op.move (Operand.tmp 51), 4,x41_,fun a W _ _ _ d=>?_⟩;have e1:=depE d 10 51 (.bool true);exact k0_
theorem yi_12 {d:Act} {w0:World} {x:yiP} (c:yiC d w0 x):ObW Tryz.prog yiO (yiK x) d w0 12:=by
 refine ⟨Op.move (Operand.tmp 9), 29,x41_,fun a W _ _ e _=>?_⟩;have e1:=(e 9 x41_).trans c.h9;exact k0_
theorem yi_13 {d:Act} {w0:World} {x:yiP} (c:yiC d w0 x):ObW Tryz.prog yiO (yiK x) d w0 13:=by
 refine ⟨Op.move (Operand.tmp 12), 29,x41_,fun a W _ _ e _=>?_⟩;have e1:=(e 12 x41_).trans c.h12;exact k0_
theorem yi_14 {c:Act} {w0:World} {x:yiP} (_c:yiC c w0 x):ObW Tryz.prog yiO (yiK x) c w0 14:=by
 refine ⟨Op.binOp BinOp.eql 29 (Operand.tmp 53) (Operand.tmp 54) 29, 4,x41_,fun a W _ _ _ d=>?_⟩;have e1:=depE d 12 53 (.int .i64 x.er);have e2:=depE d 13 54 (.int .i64 x.er);exact z23_
theorem yi_15 {c:Act} {w0:World} {x:yiP} (_c:yiC c w0 x):ObW Tryz.prog yiO (yiK x) c w0 15:=by
 refine ⟨Op.pick (Operand.tmp 52) (Operand.tmp 55) (Operand.const (Value.bool false)), 4,x41_,fun a W _ _ _ d=>?_⟩;have e1:=depE d 11 52 (.bool true);have e2:=depE d 14 55 (.bool true);exact k36_
theorem yi_16 {c:Act} {w0:World} {x:yiP} (_c:yiC c w0 x):ObW Tryz.prog yiO (yiK x) c w0 16:=by
 refine ⟨Op.move (Operand.tmp 56), 4,x41_,fun a W _ _ _ d=>?_⟩;have e1:=depE d 15 56 (.bool true);exact k0_
theorem yi_17 {d:Act} {w0:World} {x:yiP} (c:yiC d w0 x):ObW Tryz.prog yiO (yiK x) d w0 17:=k30_
theorem yi_18 {d:Act} {w0:World} {x:yiP} (c:yiC d w0 x):ObW Tryz.prog yiO (yiK x) d w0 18:=z30_
theorem yi_19 {d:Act} {w0:World} {x:yiP} (c:yiC d w0 x):ObW Tryz.prog yiO (yiK x) d w0 19:=j30_
theorem yi_20 {g:Act} {w0:World} {x:yiP} (c:yiC g w0 x):ObW Tryz.prog yiO (yiK x) g w0 20:=by
 refine ⟨Op.call { callee:=Callee.value (Operand.func 11),args:=#[Operand.tmp 58,Operand.tmp 59,Operand.tmp 60],argTypes:=#[25, 25, 26] }, 3,x41_,fun a W _ hb _ d=>?_⟩;have k:=depE d 17 58 (.agg #[x.c0,x.c1,x.c2,x.c3,x.c4,x.c5]);have m:=depE d 18 59 (.agg #[x.d0,x.d1,x.d2,x.d3,x.d4,x.d5]);have o:=depE d 19 60 (x.uv);simp only [execOp];go_simp;exact ⟨Below.refl _ _,(c.hB1 W hb).mono fun e p ⟨j,h⟩=>⟨_,j,h,rfl⟩⟩
theorem yi_21 {d:Act} {w0:World} {x:yiP} (c:yiC d w0 x):ObW Tryz.prog yiO (yiK x) d w0 21:=k30_
theorem yi_22 {d:Act} {w0:World} {x:yiP} (c:yiC d w0 x):ObW Tryz.prog yiO (yiK x) d w0 22:=z30_
theorem yi_23 {d:Act} {w0:World} {x:yiP} (c:yiC d w0 x):ObW Tryz.prog yiO (yiK x) d w0 23:=j30_
theorem yi_24 {g:Act} {w0:World} {x:yiP} (c:yiC g w0 x):ObW Tryz.prog yiO (yiK x) g w0 24:=by
 refine ⟨Op.call { callee:=Callee.value (Operand.func 12),args:=#[Operand.tmp 62,Operand.tmp 63,Operand.tmp 64],argTypes:=#[25, 25, 26] }, 3,x41_,fun a W _ hb _ d=>?_⟩;have k:=depE d 21 62 (.agg #[x.c0,x.c1,x.c2,x.c3,x.c4,x.c5]);have m:=depE d 22 63 (.agg #[x.d0,x.d1,x.d2,x.d3,x.d4,x.d5]);have o:=depE d 23 64 (x.uv);simp only [execOp];go_simp;exact ⟨Below.refl _ _,(c.hB2 W hb).mono fun e p ⟨j,h⟩=>⟨_,j,h,rfl⟩⟩
theorem yi_25 {c:Act} {w0:World} {x:yiP} (_c:yiC c w0 x):ObW Tryz.prog yiO (yiK x) c w0 25:=by
 refine ⟨Op.binOp BinOp.eql 3 (Operand.tmp 61) (Operand.tmp 65) 3, 4,x41_,fun a W _ _ _ d=>?_⟩;have e1:=depE d 20 61 (.int .i64 x.bd);have e2:=depE d 24 65 (.int .i64 x.bd);exact z23_
theorem yi_26 {c:Act} {w0:World} {x:yiP} (_c:yiC c w0 x):ObW Tryz.prog yiO (yiK x) c w0 26:=by
 refine ⟨Op.pick (Operand.tmp 57) (Operand.tmp 66) (Operand.const (Value.bool false)), 4,x41_,fun a W _ _ _ d=>?_⟩;have e1:=depE d 16 57 (.bool true);have e2:=depE d 25 66 (.bool true);exact k36_
theorem yi_27 {c:Act} {w0:World} {x:yiP} (_c:yiC c w0 x):ObW Tryz.prog yiO (yiK x) c w0 27:=by
 refine ⟨Op.assign (Operand.tmp 67), 4,x41_,fun a W _ _ _ d=>?_⟩;have e1:=depE d 26 67 (.bool true);exact k0_
theorem Va1 {d:Act} {w0:World} {x:yiP} (c:yiC d w0 x):∀ j,j<yiO.size→ObW Tryz.prog yiO (yiK x) d w0 j:=by
 rw [show yiO.size=28 by kernel_rfl];have e:∀ j,j<0→ObW Tryz.prog yiO (yiK x) d w0 j:=fun j N=>absurd N (Nat.not_lt_zero j);have f:=Z3_ e (yi_0 c);clear e;have v:=Z3_ f (yi_1 c);clear f;have G:=Z3_ v (yi_2 c);clear v;have H:=Z3_ G (yi_3 c);clear G;have I:=Z3_ H (yi_4 c);clear H;have J:=Z3_ I (yi_5 c);clear I;have K:=Z3_ J (yi_6 c);clear J;have L:=Z3_ K (yi_7 c);clear K;have M:=Z3_ L (yi_8 c);clear L;have g:=Z3_ M (yi_9 c);clear M;have h:=Z3_ g (yi_10 c);clear g;have k:=Z3_ h (yi_11 c);clear h;have m:=Z3_ k (yi_12 c);clear k;have o:=Z3_ m (yi_13 c);clear m;have p:=Z3_ o (yi_14 c);clear o;have q:=Z3_ p (yi_15 c);clear p;have r:=Z3_ q (yi_16 c);clear q;have s:=Z3_ r (yi_17 c);clear r;have u:=Z3_ s (yi_18 c);clear s;have w:=Z3_ u (yi_19 c);clear u;have y:=Z3_ w (yi_20 c);clear w;have z:=Z3_ y (yi_21 c);clear y;have B:=Z3_ z (yi_22 c);clear z;have C:=Z3_ B (yi_23 c);clear B;have D:=Z3_ C (yi_24 c);clear C;have E:=Z3_ D (yi_25 c);clear D;have F:=Z3_ E (yi_26 c);clear E;have O:=Z3_ F (yi_27 c);clear F;exact O
open Go Go.RowKit
structure ygP where
 (B1 B2:Nat)
 (c0 c1 c2 c3 c4 c5 d0 d1 d2 d3 d4 d5 sv va:Value)
 (L R:List Int)
noncomputable def ygO:Array Oper:=regOf 14 (Tryz.f25.body.getD .skip)
structure ygC (a0:Act) (w0:World) (x:ygP):Prop where
 h2:a0.tmps.getD 2 undef=x.sv
 h3:a0.tmps.getD 3 undef=.pointer (some ⟨x.B1,0,none⟩)
 h4:a0.tmps.getD 4 undef=.pointer (some ⟨x.B2,0,none⟩)
 h10:a0.tmps.getD 10 undef=x.va
 hK1:∀ W,Below w0.heap.size w0 W→W.cell? ⟨x.B1,0,none⟩=some x.c0∧W.cell? ⟨x.B1,1,none⟩=some x.c1∧W.cell? ⟨x.B1,2,none⟩=some x.c2∧W.cell? ⟨x.B1,3,none⟩=some x.c3∧W.cell? ⟨x.B1,4,none⟩=some x.c4∧W.cell? ⟨x.B1,5,none⟩=some x.c5
 hK2:∀ W,Below w0.heap.size w0 W→W.cell? ⟨x.B2,0,none⟩=some x.d0∧W.cell? ⟨x.B2,1,none⟩=some x.d1∧W.cell? ⟨x.B2,2,none⟩=some x.d2∧W.cell? ⟨x.B2,3,none⟩=some x.d3∧W.cell? ⟨x.B2,4,none⟩=some x.d4∧W.cell? ⟨x.B2,5,none⟩=some x.d5
 hL:∀ W,Below w0.heap.size w0 W→Calls Tryz.prog 57 #[.agg #[x.c0,x.c1,x.c2,x.c3,x.c4,x.c5],x.sv] W (Gives W x.L)
 hR:∀ W,Below w0.heap.size w0 W→Calls Tryz.prog 57 #[.agg #[x.d0,x.d1,x.d2,x.d3,x.d4,x.d5],x.sv] W (Gives W x.R)
def ygK (x:ygP):List Kind:=[.eq (x.va),.eq (.agg #[x.c0,x.c1,x.c2,x.c3,x.c4,x.c5]),.eq (x.sv),.row (x.L),.eq (.agg #[x.d0,x.d1,x.d2,x.d3,x.d4,x.d5]),.eq (x.sv),.row (x.R),.eq (x.va),.row (x.L),.row (x.R),.eq (.int .i64 0)]
theorem yg_0 {d:Act} {w0:World} {x:ygP} (c:ygC d w0 x):ObW Tryz.prog ygO (ygK x) d w0 0:=by
 refine ⟨Op.move (Operand.tmp 10), 22,x41_,fun a W _ _ e _=>?_⟩;have e1:=(e 10 x41_).trans c.h10;exact k0_
theorem yg_1 {d:Act} {w0:World} {x:ygP} (c:ygC d w0 x):ObW Tryz.prog ygO (ygK x) d w0 1:=k30_
theorem yg_2 {d:Act} {w0:World} {x:ygP} (c:ygC d w0 x):ObW Tryz.prog ygO (ygK x) d w0 2:=j30_
theorem yg_3 {d:Act} {w0:World} {x:ygP} (c:ygC d w0 x):ObW Tryz.prog ygO (ygK x) d w0 3:=by
 refine ⟨Op.call { callee:=Callee.value (Operand.func 57),args:=#[Operand.tmp 54,Operand.tmp 55],argTypes:=#[25, 26] }, 26,x41_,fun a W _ hb _ g=>?_⟩;have h:=depE g 1 54 (.agg #[x.c0,x.c1,x.c2,x.c3,x.c4,x.c5]);have j:=depE g 2 55 (x.sv);exact y20_
theorem yg_4 {d:Act} {w0:World} {x:ygP} (c:ygC d w0 x):ObW Tryz.prog ygO (ygK x) d w0 4:=z30_
theorem yg_5 {d:Act} {w0:World} {x:ygP} (c:ygC d w0 x):ObW Tryz.prog ygO (ygK x) d w0 5:=j30_
theorem yg_6 {d:Act} {w0:World} {x:ygP} (c:ygC d w0 x):ObW Tryz.prog ygO (ygK x) d w0 6:=by
 refine ⟨Op.call { callee:=Callee.value (Operand.func 57),args:=#[Operand.tmp 57,Operand.tmp 58],argTypes:=#[25, 26] }, 26,x41_,fun a W _ hb _ g=>?_⟩;have m:=depE g 4 57 (.agg #[x.d0,x.d1,x.d2,x.d3,x.d4,x.d5]);have o:=depE g 5 58 (x.sv);simp only [execOp];go_simp;exact ⟨Below.refl _ _,(c.hR W hb).mono fun e p ⟨_,j,k,h⟩=>⟨_,j,h,k⟩⟩
theorem yg_7 {c:Act} {w0:World} {x:ygP} (_c:ygC c w0 x):ObW Tryz.prog ygO (ygK x) c w0 7:=by
 refine ⟨Op.assign (Operand.tmp 53), 22,x41_,fun a W _ _ _ d=>?_⟩;have e1:=depE d 0 53 (x.va);exact k0_
theorem yg_8 {c:Act} {w0:World} {x:ygP} (_c:ygC c w0 x):ObW Tryz.prog ygO (ygK x) c w0 8:=by
 refine ⟨Op.assign (Operand.tmp 56), 26,x41_,fun a W _ _ _ f=>?_⟩;have d:=depR f 3 56 (x.L);obtain ⟨g,e⟩:∃ v,a.tmps.getD 56 undef=v:=⟨_,rfl⟩;rw [e] at d;simp only [execOp,Act.eval,e];go_simp;exact ⟨Below.refl _ _,d⟩
theorem yg_9 {c:Act} {w0:World} {x:ygP} (_c:ygC c w0 x):ObW Tryz.prog ygO (ygK x) c w0 9:=by
 refine ⟨Op.assign (Operand.tmp 59), 26,x41_,fun a W _ _ _ f=>?_⟩;have d:=depR f 6 59 (x.R);obtain ⟨g,e⟩:∃ v,a.tmps.getD 59 undef=v:=⟨_,rfl⟩;rw [e] at d;simp only [execOp,Act.eval,e];go_simp;exact ⟨Below.refl _ _,d⟩
theorem yg_10 {c:Act} {w0:World} {x:ygP} (_c:ygC c w0 x):ObW Tryz.prog ygO (ygK x) c w0 10:=y35_
theorem Vu2 {d:Act} {w0:World} {x:ygP} (c:ygC d w0 x):∀ j,j<ygO.size→ObW Tryz.prog ygO (ygK x) d w0 j:=by
 rw [show ygO.size=11 by kernel_rfl];have e:∀ j,j<0→ObW Tryz.prog ygO (ygK x) d w0 j:=fun j u=>absurd u (Nat.not_lt_zero j);have f:=Z3_ e (yg_0 c);clear e;have h:=Z3_ f (yg_1 c);clear f;have k:=Z3_ h (yg_2 c);clear h;have m:=Z3_ k (yg_3 c);clear k;have o:=Z3_ m (yg_4 c);clear m;have p:=Z3_ o (yg_5 c);clear o;have q:=Z3_ p (yg_6 c);clear p;have r:=Z3_ q (yg_7 c);clear q;have s:=Z3_ r (yg_8 c);clear r;have g:=Z3_ s (yg_9 c);clear s;have v:=Z3_ g (yg_10 c);clear g;exact v
open Go Go.RowKit
structure ysP where
 (B1:Nat)
 (c0 c1 c2 c3 c4 c5 sv:Value)
 (s:List Int)
 (x y:Int)
 (P Q I:Bool)
noncomputable def ysO:Array Oper:=regOf 1 (Tryz.f56.body.getD .skip)
structure ysC (a0:Act) (w0:World) (x:ysP):Prop where
 h1:a0.tmps.getD 1 undef=x.sv
 h2:a0.tmps.getD 2 undef=.int .i64 x.x
 h3:a0.tmps.getD 3 undef=.int .i64 x.y
 h4:a0.tmps.getD 4 undef=.pointer (some ⟨x.B1,0,none⟩)
 hK1:∀ W,Below w0.heap.size w0 W→W.cell? ⟨x.B1,0,none⟩=some x.c0∧W.cell? ⟨x.B1,1,none⟩=some x.c1∧W.cell? ⟨x.B1,2,none⟩=some x.c2∧W.cell? ⟨x.B1,3,none⟩=some x.c3∧W.cell? ⟨x.B1,4,none⟩=some x.c4∧W.cell? ⟨x.B1,5,none⟩=some x.c5
 hP:∀ W,Below w0.heap.size w0 W→Calls Tryz.prog 61 #[x.sv,.int .i64 x.y] W (Says W x.P)
 hQ:∀ W,Below w0.heap.size w0 W→Calls Tryz.prog 61 #[x.sv,.int .i64 x.x] W (Says W x.Q)
 hMi:∀ W,Below w0.heap.size w0 W→∀ u,Row W W.heap.size u [x.y]→Calls Tryz.prog 27 #[x.sv,u] W (Gives W (Z5_ x.s [x.y]))
 hU:∀ W,Below w0.heap.size w0 W→∀ u,Row W W.heap.size u (Z5_ x.s [x.y])→∀ v,Row W W.heap.size v [x.x]→Calls Tryz.prog 13 #[u,v] W (Gives W (Z9_ (Z5_ x.s [x.y]) [x.x]))
 hI:∀ W,Below w0.heap.size w0 W→∀ u,Row W W.heap.size u (Z9_ (Z5_ x.s [x.y]) [x.x])→Calls Tryz.prog 87 #[.agg #[x.c0,x.c1,x.c2,x.c3,x.c4,x.c5],u] W (Says W x.I)
def ysK (x:ysP):List Kind:=[.eq (x.sv),.eq (.int .i64 x.y),.eq (.bool x.P),.eq (.bool x.P),.eq (x.sv),.eq (.int .i64 x.x),.eq (.bool x.Q),.eq (.bool (!x.Q)),.eq (.bool (x.P && (!x.Q))),.eq (.bool (x.P && (!x.Q))),.eq (.agg #[x.c0,x.c1,x.c2,x.c3,x.c4,x.c5]),.eq (x.sv),.eq (.int .i64 x.y),.row ([x.y]),.row (Z5_ x.s [x.y]),.eq (.int .i64 x.x),.row ([x.x]),.row (Z9_ (Z5_ x.s [x.y]) [x.x]),.eq (.bool x.I),.eq (.bool ((x.P && (!x.Q)) && x.I)),.eq (.bool ((x.P && (!x.Q)) && x.I))]
theorem ys_0 {d:Act} {w0:World} {x:ysP} (c:ysC d w0 x):ObW Tryz.prog ysO (ysK x) d w0 0:=x40_
theorem ys_1 {d:Act} {w0:World} {x:ysP} (c:ysC d w0 x):ObW Tryz.prog ysO (ysK x) d w0 1:=by
 refine ⟨Op.move (Operand.tmp 3), 3,x41_,fun a W _ _ hout _=>?_⟩;exact z37_
theorem ys_2 {d:Act} {w0:World} {x:ysP} (c:ysC d w0 x):ObW Tryz.prog ysO (ysK x) d w0 2:=by
 refine ⟨Op.call { callee:=Callee.value (Operand.func 61),args:=#[Operand.tmp 9,Operand.tmp 10],argTypes:=#[26, 3] }, 4,x41_,fun a W _ hb _ g=>?_⟩;have h:=depE g 0 9 (x.sv);have j:=depE g 1 10 (.int .i64 x.y);exact y21_
theorem ys_3 {c:Act} {w0:World} {x:ysP} (_c:ysC c w0 x):ObW Tryz.prog ysO (ysK x) c w0 3:=by
 refine ⟨Op.move (Operand.tmp 11), 4,x41_,fun a W _ _ _ d=>?_⟩;have e1:=depE d 2 11 (.bool x.P);exact k0_
theorem ys_4 {d:Act} {w0:World} {x:ysP} (c:ysC d w0 x):ObW Tryz.prog ysO (ysK x) d w0 4:=by
 refine ⟨Op.move (Operand.tmp 1), 26,x41_,fun a W e _ hout _=>?_⟩;rw [show wantK ysO (ysK x) 4=(x.P==true) from by kernel_rfl] at e;exact z34_
theorem ys_5 {d:Act} {w0:World} {x:ysP} (c:ysC d w0 x):ObW Tryz.prog ysO (ysK x) d w0 5:=by
 refine ⟨Op.move (Operand.tmp 2), 3,x41_,fun a W f _ e _=>?_⟩;rw [show wantK ysO (ysK x) 5=(x.P==true) from by kernel_rfl] at f;have e1:=(e 2 x41_).trans c.h2;exact k0_
theorem ys_6 {g:Act} {w0:World} {x:ysP} (c:ysC g w0 x):ObW Tryz.prog ysO (ysK x) g w0 6:=by
 refine ⟨Op.call { callee:=Callee.value (Operand.func 61),args:=#[Operand.tmp 13,Operand.tmp 14],argTypes:=#[26, 3] }, 4,x41_,fun a W d hb _ h=>?_⟩;rw [show wantK ysO (ysK x) 6=(x.P==true) from by kernel_rfl] at d;have m:=depC d h 4 13 (x.sv);have o:=depC d h 5 14 (.int .i64 x.x);simp only [execOp];go_simp;exact ⟨Below.refl _ _,(c.hQ W hb).mono fun e p ⟨k,j⟩=>⟨_,k,j,rfl⟩⟩
theorem ys_7 {c:Act} {w0:World} {x:ysP} (_c:ysC c w0 x):ObW Tryz.prog ysO (ysK x) c w0 7:=by
 refine ⟨Op.unOp UnOp.not 4 (Operand.tmp 15), 4,x41_,fun a W d _ _ e=>?_⟩;rw [show wantK ysO (ysK x) 7=(x.P==true) from by kernel_rfl] at d;have e1:=depC d e 6 15 (.bool x.Q);exact k0_
theorem ys_8 {c:Act} {w0:World} {x:ysP} (_c:ysC c w0 x):ObW Tryz.prog ysO (ysK x) c w0 8:=by
 refine ⟨Op.pick (Operand.tmp 12) (Operand.tmp 16) (Operand.const (Value.bool false)), 4,x41_,fun a W _ _ _ d=>?_⟩;have e1:=depE d 3 12 (.bool x.P);have e2:=d 7 16 x41_ x41_;rw [show ek ysO (ysK x) 7=if (x.P==true)=true then .eq (.bool (!x.Q)) else .eq undef from by kernel_rfl] at e2;show Zx9 _ _ _ (Kind.holds (.eq (.bool (x.P && (!x.Q)))));generalize x.P=p at *
 generalize (!x.Q)=q at *
 obtain ⟨v,hv⟩:∃ v,a.tmps.getD 16 undef=v:=⟨_,rfl⟩;exact q9_
theorem ys_9 {c:Act} {w0:World} {x:ysP} (_c:ysC c w0 x):ObW Tryz.prog ysO (ysK x) c w0 9:=by
 refine ⟨Op.move (Operand.tmp 17), 4,x41_,fun a W _ _ _ d=>?_⟩;have e1:=depE d 8 17 (.bool (x.P && (!x.Q)));exact k0_
theorem ys_10 {d:Act} {w0:World} {x:ysP} (c:ysC d w0 x):ObW Tryz.prog ysO (ysK x) d w0 10:=by
 refine ⟨Op.load 25 (Operand.tmp 4), 25,x41_,fun a W f hb e _=>?_⟩;rw [show wantK ysO (ysK x) 10=((x.P && (!x.Q))==true) from by kernel_rfl] at f;have e1:=(e 4 x41_).trans c.h4;exact q33_
theorem ys_11 {d:Act} {w0:World} {x:ysP} (c:ysC d w0 x):ObW Tryz.prog ysO (ysK x) d w0 11:=by
 refine ⟨Op.move (Operand.tmp 1), 26,x41_,fun a W e _ hout _=>?_⟩;rw [show wantK ysO (ysK x) 11=((x.P && (!x.Q))==true) from by kernel_rfl] at e;exact z34_
theorem ys_12 {d:Act} {w0:World} {x:ysP} (c:ysC d w0 x):ObW Tryz.prog ysO (ysK x) d w0 12:=by
 refine ⟨Op.move (Operand.tmp 3), 3,x41_,fun a W e _ hout _=>?_⟩;rw [show wantK ysO (ysK x) 12=((x.P && (!x.Q))==true) from by kernel_rfl] at e;exact z37_
theorem ys_13 {c:Act} {w0:World} {x:ysP} (_c:ysC c w0 x):ObW Tryz.prog ysO (ysK x) c w0 13:=by
 refine ⟨Op.buildSlice 26 1 #[(0,Operand.tmp 21)], 26,x41_,fun a W d _ _ f=>?_⟩;rw [show wantK ysO (ysK x) 13=((x.P && (!x.Q))==true) from by kernel_rfl] at d;have e:=depC d f 12 21 (.int .i64 x.y);have g:a.tmps[21]?.getD undef=.int .i64 x.y:=by simpa using e
 simp only [execOp,Act.eval];go_simp;exact ⟨(Below.refl _ W).alloc (Nat.le_refl _) _,Row.here (Row.lit1 W (x.y))⟩
theorem ys_14 {g:Act} {w0:World} {x:ysP} (c:ysC g w0 x):ObW Tryz.prog ysO (ysK x) g w0 14:=by
 refine ⟨Op.call { callee:=Callee.value (Operand.func 27),args:=#[Operand.tmp 20,Operand.tmp 22],argTypes:=#[26, 26] }, 26,x41_,fun a W d hb _ j=>?_⟩;rw [show wantK ysO (ysK x) 14=((x.P && (!x.Q))==true) from by kernel_rfl] at d;have r:=depC d j 11 20 (x.sv);have h:=depD d j 13 22 ([x.y]);obtain ⟨q,p⟩:∃ v,a.tmps.getD 22 undef=v:=⟨_,rfl⟩;rw [p] at h;simp only [execOp];go_simp;exact ⟨Below.refl _ _,(c.hMi W hb q h).mono fun e s ⟨_,m,o,k⟩=>⟨_,m,k,o⟩⟩
theorem ys_15 {d:Act} {w0:World} {x:ysP} (c:ysC d w0 x):ObW Tryz.prog ysO (ysK x) d w0 15:=by
 refine ⟨Op.move (Operand.tmp 2), 3,x41_,fun a W f _ e _=>?_⟩;rw [show wantK ysO (ysK x) 15=((x.P && (!x.Q))==true) from by kernel_rfl] at f;have e1:=(e 2 x41_).trans c.h2;exact k0_
theorem ys_16 {c:Act} {w0:World} {x:ysP} (_c:ysC c w0 x):ObW Tryz.prog ysO (ysK x) c w0 16:=by
 refine ⟨Op.buildSlice 26 1 #[(0,Operand.tmp 24)], 26,x41_,fun a W d _ _ f=>?_⟩;rw [show wantK ysO (ysK x) 16=((x.P && (!x.Q))==true) from by kernel_rfl] at d;have e:=depC d f 15 24 (.int .i64 x.x);have g:a.tmps[24]?.getD undef=.int .i64 x.x:=by simpa using e
 exact j21_
theorem ys_17 {g:Act} {w0:World} {x:ysP} (c:ysC g w0 x):ObW Tryz.prog ysO (ysK x) g w0 17:=by
 refine ⟨Op.call { callee:=Callee.value (Operand.func 13),args:=#[Operand.tmp 23,Operand.tmp 25],argTypes:=#[26, 26] }, 26,x41_,fun a W d hb _ k=>?_⟩;rw [show wantK ysO (ysK x) 17=((x.P && (!x.Q))==true) from by kernel_rfl] at d;have h:=depD d k 14 23 (Z5_ x.s [x.y]);have j:=depD d k 16 25 ([x.x]);obtain ⟨u,q⟩:∃ v,a.tmps.getD 23 undef=v:=⟨_,rfl⟩;rw [q] at h;obtain ⟨w,r⟩:∃ v,a.tmps.getD 25 undef=v:=⟨_,rfl⟩;rw [r] at j;simp only [execOp];go_simp;exact ⟨Below.refl _ _,(c.hU W hb u h w j).mono fun e z ⟨_,o,p,m⟩=>⟨_,o,m,p⟩⟩
theorem ys_18 {g:Act} {w0:World} {x:ysP} (c:ysC g w0 x):ObW Tryz.prog ysO (ysK x) g w0 18:=by
 refine ⟨Op.call { callee:=Callee.value (Operand.func 87),args:=#[Operand.tmp 19,Operand.tmp 26],argTypes:=#[25, 26] }, 4,x41_,fun a W d hb _ j=>?_⟩;rw [show wantK ysO (ysK x) 18=((x.P && (!x.Q))==true) from by kernel_rfl] at d;have q:=depC d j 10 19 (.agg #[x.c0,x.c1,x.c2,x.c3,x.c4,x.c5]);have h:=depD d j 17 26 (Z9_ (Z5_ x.s [x.y]) [x.x]);obtain ⟨p,o⟩:∃ v,a.tmps.getD 26 undef=v:=⟨_,rfl⟩;rw [o] at h;simp only [execOp];go_simp;exact ⟨Below.refl _ _,(c.hI W hb p h).mono fun e r ⟨m,k⟩=>⟨_,m,k,rfl⟩⟩
theorem ys_19 {c:Act} {w0:World} {x:ysP} (_c:ysC c w0 x):ObW Tryz.prog ysO (ysK x) c w0 19:=by
 refine ⟨Op.pick (Operand.tmp 18) (Operand.tmp 27) (Operand.const (Value.bool false)), 4,x41_,fun a W _ _ _ d=>?_⟩;have e1:=depE d 9 18 (.bool (x.P && (!x.Q)));have e2:=d 18 27 x41_ x41_;rw [show ek ysO (ysK x) 18=if ((x.P && (!x.Q))==true)=true then .eq (.bool x.I) else .eq undef from by kernel_rfl] at e2;show Zx9 _ _ _ (Kind.holds (.eq (.bool ((x.P && (!x.Q)) && x.I))));generalize (x.P && (!x.Q))=p at *
 generalize x.I=q at *
 obtain ⟨v,hv⟩:∃ v,a.tmps.getD 27 undef=v:=⟨_,rfl⟩;exact q9_
theorem ys_20 {c:Act} {w0:World} {x:ysP} (_c:ysC c w0 x):ObW Tryz.prog ysO (ysK x) c w0 20:=by
 refine ⟨Op.assign (Operand.tmp 28), 4,x41_,fun a W _ _ _ d=>?_⟩;have e1:=depE d 19 28 (.bool ((x.P && (!x.Q)) && x.I));exact k0_
theorem Vu3 {d:Act} {w0:World} {x:ysP} (c:ysC d w0 x):∀ j,j<ysO.size→ObW Tryz.prog ysO (ysK x) d w0 j:=by
 rw [show ysO.size=21 by kernel_rfl];have e:∀ j,j<0→ObW Tryz.prog ysO (ysK x) d w0 j:=fun j G=>absurd G (Nat.not_lt_zero j);have f:=Z3_ e (ys_0 c);clear e;have v:=Z3_ f (ys_1 c);clear f;have y:=Z3_ v (ys_2 c);clear v;have z:=Z3_ y (ys_3 c);clear y;have B:=Z3_ z (ys_4 c);clear z;have C:=Z3_ B (ys_5 c);clear B;have D:=Z3_ C (ys_6 c);clear C;have E:=Z3_ D (ys_7 c);clear D;have F:=Z3_ E (ys_8 c);clear E;have g:=Z3_ F (ys_9 c);clear F;have h:=Z3_ g (ys_10 c);clear g;have k:=Z3_ h (ys_11 c);clear h;have m:=Z3_ k (ys_12 c);clear k;have o:=Z3_ m (ys_13 c);clear m;have p:=Z3_ o (ys_14 c);clear o;have q:=Z3_ p (ys_15 c);clear p;have r:=Z3_ q (ys_16 c);clear q;have s:=Z3_ r (ys_17 c);clear r;have u:=Z3_ s (ys_18 c);clear s;have w:=Z3_ u (ys_19 c);clear u;have H:=Z3_ w (ys_20 c);clear w;exact H
structure yaP where
 (B1:Nat)
 (c0 c1 c2 c3 c4 c5 sv:Value)
 (s:List Int)
 (x:Int)
 (P I:Bool)
noncomputable def yaO:Array Oper:=regOf 5 (Tryz.f57.body.getD .skip)
structure yaC (a0:Act) (w0:World) (x:yaP):Prop where
 h1:a0.tmps.getD 1 undef=x.sv
 h2:a0.tmps.getD 2 undef=.pointer (some ⟨x.B1,0,none⟩)
 h6:a0.tmps.getD 6 undef=.int .i64 x.x
 hK1:∀ W,Below w0.heap.size w0 W→W.cell? ⟨x.B1,0,none⟩=some x.c0∧W.cell? ⟨x.B1,1,none⟩=some x.c1∧W.cell? ⟨x.B1,2,none⟩=some x.c2∧W.cell? ⟨x.B1,3,none⟩=some x.c3∧W.cell? ⟨x.B1,4,none⟩=some x.c4∧W.cell? ⟨x.B1,5,none⟩=some x.c5
 hP:∀ W,Below w0.heap.size w0 W→Calls Tryz.prog 61 #[x.sv,.int .i64 x.x] W (Says W x.P)
 hU:∀ W,Below w0.heap.size w0 W→∀ u,Row W W.heap.size u [x.x]→Calls Tryz.prog 13 #[x.sv,u] W (Gives W (Z9_ x.s [x.x]))
 hI:∀ W,Below w0.heap.size w0 W→∀ u,Row W W.heap.size u (Z9_ x.s [x.x])→Calls Tryz.prog 87 #[.agg #[x.c0,x.c1,x.c2,x.c3,x.c4,x.c5],u] W (Says W x.I)
def yaK (x:yaP):List Kind:=[.eq (x.sv),.eq (.int .i64 x.x),.eq (.bool x.P),.eq (.bool (!x.P)),.eq (.bool (!x.P)),.eq (.agg #[x.c0,x.c1,x.c2,x.c3,x.c4,x.c5]),.eq (x.sv),.eq (.int .i64 x.x),.row ([x.x]),.row (Z9_ x.s [x.x]),.eq (.bool x.I),.eq (.bool ((!x.P) && x.I))]
theorem ya_0 {d:Act} {w0:World} {x:yaP} (c:yaC d w0 x):ObW Tryz.prog yaO (yaK x) d w0 0:=x40_
theorem ya_1 {d:Act} {w0:World} {x:yaP} (c:yaC d w0 x):ObW Tryz.prog yaO (yaK x) d w0 1:=by
 refine ⟨Op.move (Operand.tmp 6), 3,x41_,fun a W _ _ e _=>?_⟩;have e1:=(e 6 x41_).trans c.h6;exact k0_
theorem ya_2 {d:Act} {w0:World} {x:yaP} (c:yaC d w0 x):ObW Tryz.prog yaO (yaK x) d w0 2:=by
 refine ⟨Op.call { callee:=Callee.value (Operand.func 61),args:=#[Operand.tmp 14,Operand.tmp 15],argTypes:=#[26, 3] }, 4,x41_,fun a W _ hb _ g=>?_⟩;have h:=depE g 0 14 (x.sv);have j:=depE g 1 15 (.int .i64 x.x);exact y21_
theorem ya_3 {c:Act} {w0:World} {x:yaP} (_c:yaC c w0 x):ObW Tryz.prog yaO (yaK x) c w0 3:=by
 refine ⟨Op.unOp UnOp.not 4 (Operand.tmp 16), 4,x41_,fun a W _ _ _ d=>?_⟩;have e1:=depE d 2 16 (.bool x.P);exact k0_
theorem ya_4 {c:Act} {w0:World} {x:yaP} (_c:yaC c w0 x):ObW Tryz.prog yaO (yaK x) c w0 4:=by
 refine ⟨Op.move (Operand.tmp 17), 4,x41_,fun a W _ _ _ d=>?_⟩;have e1:=depE d 3 17 (.bool (!x.P));exact k0_
theorem ya_5 {d:Act} {w0:World} {x:yaP} (c:yaC d w0 x):ObW Tryz.prog yaO (yaK x) d w0 5:=by
 refine ⟨Op.load 25 (Operand.tmp 2), 25,x41_,fun a W f hb e _=>?_⟩;rw [show wantK yaO (yaK x) 5=((!x.P)==true) from by kernel_rfl] at f;have e1:=(e 2 x41_).trans c.h2;exact q33_
theorem ya_6 {d:Act} {w0:World} {x:yaP} (c:yaC d w0 x):ObW Tryz.prog yaO (yaK x) d w0 6:=by
 refine ⟨Op.move (Operand.tmp 1), 26,x41_,fun a W e _ hout _=>?_⟩;rw [show wantK yaO (yaK x) 6=((!x.P)==true) from by kernel_rfl] at e;exact z34_
theorem ya_7 {d:Act} {w0:World} {x:yaP} (c:yaC d w0 x):ObW Tryz.prog yaO (yaK x) d w0 7:=by
 refine ⟨Op.move (Operand.tmp 6), 3,x41_,fun a W f _ e _=>?_⟩;rw [show wantK yaO (yaK x) 7=((!x.P)==true) from by kernel_rfl] at f;have e1:=(e 6 x41_).trans c.h6;exact k0_
theorem ya_8 {c:Act} {w0:World} {x:yaP} (_c:yaC c w0 x):ObW Tryz.prog yaO (yaK x) c w0 8:=by
 refine ⟨Op.buildSlice 26 1 #[(0,Operand.tmp 21)], 26,x41_,fun a W d _ _ f=>?_⟩;rw [show wantK yaO (yaK x) 8=((!x.P)==true) from by kernel_rfl] at d;have e:=depC d f 7 21 (.int .i64 x.x);have g:a.tmps[21]?.getD undef=.int .i64 x.x:=by simpa using e
 exact j21_
theorem ya_9 {g:Act} {w0:World} {x:yaP} (c:yaC g w0 x):ObW Tryz.prog yaO (yaK x) g w0 9:=by
 refine ⟨Op.call { callee:=Callee.value (Operand.func 13),args:=#[Operand.tmp 20,Operand.tmp 22],argTypes:=#[26, 26] }, 26,x41_,fun a W d hb _ j=>?_⟩;rw [show wantK yaO (yaK x) 9=((!x.P)==true) from by kernel_rfl] at d;have r:=depC d j 6 20 (x.sv);have h:=depD d j 8 22 ([x.x]);obtain ⟨q,p⟩:∃ v,a.tmps.getD 22 undef=v:=⟨_,rfl⟩;rw [p] at h;simp only [execOp];go_simp;exact ⟨Below.refl _ _,(c.hU W hb q h).mono fun e s ⟨_,m,o,k⟩=>⟨_,m,k,o⟩⟩
theorem ya_10 {g:Act} {w0:World} {x:yaP} (c:yaC g w0 x):ObW Tryz.prog yaO (yaK x) g w0 10:=by
 refine ⟨Op.call { callee:=Callee.value (Operand.func 87),args:=#[Operand.tmp 19,Operand.tmp 23],argTypes:=#[25, 26] }, 4,x41_,fun a W d hb _ j=>?_⟩;rw [show wantK yaO (yaK x) 10=((!x.P)==true) from by kernel_rfl] at d;have q:=depC d j 5 19 (.agg #[x.c0,x.c1,x.c2,x.c3,x.c4,x.c5]);have h:=depD d j 9 23 (Z9_ x.s [x.x]);obtain ⟨p,o⟩:∃ v,a.tmps.getD 23 undef=v:=⟨_,rfl⟩;rw [o] at h;simp only [execOp];go_simp;exact ⟨Below.refl _ _,(c.hI W hb p h).mono fun e r ⟨m,k⟩=>⟨_,m,k,rfl⟩⟩
theorem ya_11 {c:Act} {w0:World} {x:yaP} (_c:yaC c w0 x):ObW Tryz.prog yaO (yaK x) c w0 11:=by
 refine ⟨Op.pick (Operand.tmp 18) (Operand.tmp 24) (Operand.const (Value.bool false)), 4,x41_,fun a W _ _ _ d=>?_⟩;have e1:=depE d 4 18 (.bool (!x.P));have e2:=d 10 24 x41_ x41_;rw [show ek yaO (yaK x) 10=if ((!x.P)==true)=true then .eq (.bool x.I) else .eq undef from by kernel_rfl] at e2;show Zx9 _ _ _ (Kind.holds (.eq (.bool ((!x.P) && x.I))));generalize (!x.P)=p at *
 generalize x.I=q at *
 obtain ⟨v,hv⟩:∃ v,a.tmps.getD 24 undef=v:=⟨_,rfl⟩;exact q9_
theorem Vu4 {d:Act} {w0:World} {x:yaP} (c:yaC d w0 x):∀ j,j<yaO.size→ObW Tryz.prog yaO (yaK x) d w0 j:=by
 rw [show yaO.size=12 by kernel_rfl];have e:∀ j,j<0→ObW Tryz.prog yaO (yaK x) d w0 j:=fun j v=>absurd v (Nat.not_lt_zero j);have f:=Z3_ e (ya_0 c);clear e;have k:=Z3_ f (ya_1 c);clear f;have m:=Z3_ k (ya_2 c);clear k;have o:=Z3_ m (ya_3 c);clear m;have p:=Z3_ o (ya_4 c);clear o;have q:=Z3_ p (ya_5 c);clear p;have r:=Z3_ q (ya_6 c);clear q;have s:=Z3_ r (ya_7 c);clear r;have u:=Z3_ s (ya_8 c);clear s;have g:=Z3_ u (ya_9 c);clear u;have h:=Z3_ g (ya_10 c);clear g;have w:=Z3_ h (ya_11 c);clear h;exact w
end Wp
end Go.Proofs.YtnbcaibflhgdoaaGreatDoor
