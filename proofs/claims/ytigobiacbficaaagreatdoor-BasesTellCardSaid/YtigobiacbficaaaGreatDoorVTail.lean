/- A region whose order is drawn, by what each of its operations grants: one thing that its value is, or a list that it holds, in each world above. Nothing of the program here. -/
import Derived.Test.YtigobiacbficaaaGreatDoorZA
import Derived.Test.YtigobiacbficaaaGreatDoorZP
import Derived.StillTail
import Derived.Test.YtigobiacbficaaaGreatDoorX0A
namespace Go.Proofs.YtigobiacbficaaaGreatDoor.Wp
open Go Go.RowKit
inductive Kind where
 | eq (v:Value)
 | row (l:List Int)
def Kind.holds:Kind→Value→World→Prop
 | .eq u,v,_=>v=u
 | .row l,v,W=>Row W W.heap.size v l
def Kind.isB:Kind→Bool→Bool
 | .eq (.bool c),b=>c==b
 | _,_=>false
theorem Kind.up {k:Kind} {v:Value} {W c:World} (h:k.holds v W) (hb:Below W.heap.size W c):k.holds v c:=by
 cases k with
 | eq u=>exact h
 | row l=>exact Row.up h hb
theorem Kind.bool {k:Kind} {b:Bool} {v:Value} {W:World} (h:k.isB b=true) (d:k.holds v W):v=.bool b:=by
 cases k with
 | eq u =>
  cases u with
  | bool c =>
   have e:c=b:=by simpa [Kind.isB] using h
   rw [← e];exact d
  | _=>simp [Kind.isB] at h
 | row l=>simp [Kind.isB] at h
def kd (ks:List Kind) (i:Nat):Kind:=ks.getD i (.eq undef)
def Yb6 (P:Program) (r:Result Next) (w:World) (G:Value→World→Prop):Prop :=
 match r with
 | .ok (.value u) w'=>Below w.heap.size w w'∧G u w'
 | .ok (.enter f args) w'=>Below w.heap.size w w'∧Calls P f args w' (fun e w''=>∃ u,e=.returned u∧Below w.heap.size w w''∧G u w'')
 | _=>False
section
variable {P:Program} {ops:Array Oper} {Q:Exit→Act→World→Prop}
theorem Yb7 {o:Oper} {a:Act} {w:World} {K:Act→World→Prop} {G:Value→World→Prop}
  (h:Yb6 P ((execOp a.eval o).run P w) w G) (c:∀ u w',Below w.heap.size w w'→G u w'→K (a.put o.dst u) w'):o.wp P a w K Q:=by
 unfold Oper.wp;generalize (execOp a.eval o).run P w=r at *
 cases r with
 | ok n w' =>
  cases n<;>simp only [Yb6] at h<;>simp only [Oper.upon]
  case value u=>exact c u w' h.1 h.2
  case enter f args=>exact h.2.mono fun e j ⟨u,g,hb,d⟩=>by subst g;exact c u j hb d
 | halt x w'=>simp only [Yb6] at h
def dstOf (ops:Array Oper) (i:Nat):Option Tmp:=(ops[i]?).bind (·.dst)
def Zn1 (ops:Array Oper) (t:Tmp):Bool:=(List.range ops.size).all fun i=>dstOf ops i != some t
structure Reg (ops:Array Oper) (ks:List Kind) (n:Nat):Prop where
 lt:∀ i d,dstOf ops i=some d→d<n
 one:∀ i j d,dstOf ops i=some d→dstOf ops j=some d→i=j
 back:∀ (i:Nat) (o:Oper),ops[i]?=some o→∀ e∈o.after,e.on<i
 guard:∀ (i:Nat) (o:Oper) (g:Nat) (b:Bool),ops[i]?=some o→o.guard=some (g,b)→Region.waitsFor .any ops i g=true∧(∃ d,dstOf ops g=some d)∧(kd ks g).isB b=true
structure Got (ops:Array Oper) (ks:List Kind) (a0:Act) (w0:World) (listed:Array Bool) (a:Act) (w:World):Prop where
 size:listed.size=ops.size
 below:Below w0.heap.size w0 w
 asize:a.tmps.size=a0.tmps.size
 defs:a.defers=a0.defers
 outer:∀ t,Zn1 ops t=true→a.tmps.getD t undef=a0.tmps.getD t undef
 got:∀ i d,dstOf ops i=some d→listed.getD i false=true→(kd ks i).holds (a.tmps.getD d undef) w
theorem Yk9 (ρ:Operand→Value) (o:Oper):execOp ρ o=execOp ρ { dst:=none,op:=o.op,type:=o.type,pos := "",after:=#[],guard:=none }:=rfl
theorem Vt4 (a:Act) {d:Tmp} (v:Value) (h:d<a.tmps.size):(a.put (some d) v).tmps.getD d undef=v:=by
 simp [Act.put,Array.getD,h]
theorem Yb8 (a:Act) {x:Option Tmp} {t:Tmp} (v:Value) (h:x≠some t):(a.put x v).tmps.getD t undef=a.tmps.getD t undef:=by
 cases x with
 | none=>rfl
 | some d =>
  have hd:d≠t:=fun e=>h (by rw [e]);simp [Act.put,Array.getD_eq_getD_getElem?,Array.getElem?_setIfInBounds_ne hd]
theorem Vd2 (a:Act) (x:Option Tmp) (v:Value):(a.put x v).tmps.size=a.tmps.size:=by cases x<;>simp [Act.put]
theorem Vd3 (a:Act) (x:Option Tmp) (v:Value):(a.put x v).defers=a.defers:=by cases x<;>rfl
end
open Go Go.RowKit
def Kind.isBool:Kind→Bool
 | .eq (.bool _)=>true
 | _=>false
def wantK (ops:Array Oper) (ks:List Kind) (i:Nat):Bool:=match ops[i]? with
 | none=>true
 | some o=>match o.guard with
  | none=>true
  | some (g,b)=>(kd ks g).isB b
def ek (ops:Array Oper) (ks:List Kind) (i:Nat):Kind:=if wantK ops ks i then kd ks i else .eq undef
def regW (ops:Array Oper) (ks:List Kind) (n:Nat):Bool :=
 (List.range ops.size).all fun i=>match ops[i]? with
  | none=>false
  | some o=>(match o.dst with
    | some d=>decide (d<n) && (List.range ops.size).all fun j=>decide (j=i) || dstOf ops j != some d
    | none=>true) && (o.after.all fun e=>decide (e.on<i)) && (match o.guard with
    | none=>true
    | some (g,_)=>Region.waitsFor .any ops i g && (dstOf ops g).isSome && (kd ks g).isBool && (match ops[g]? with
     | some og=>og.guard.isNone
     | none=>false))
structure RegW (ops:Array Oper) (ks:List Kind) (n:Nat):Prop where
 lt:∀ i d,dstOf ops i=some d→d<n
 one:∀ i j d,dstOf ops i=some d→dstOf ops j=some d→i=j
 back:∀ (i:Nat) (o:Oper),ops[i]?=some o→∀ e∈o.after,e.on<i
 guard:∀ (i:Nat) (o:Oper) (g:Nat) (b:Bool),ops[i]?=some o→o.guard=some (g,b)→Region.waitsFor .any ops i g=true∧(∃ d,dstOf ops g=some d)∧(∃ c,kd ks g=.eq (.bool c))∧wantK ops ks g=true
theorem Kind.bool_of {k:Kind} (h:k.isBool=true):∃ c,k=.eq (.bool c):=by
 cases k with
 | eq u =>
  cases u with
  | bool c=>exact ⟨c,rfl⟩
  | _=>simp [Kind.isBool] at h
 | row l=>simp [Kind.isBool] at h
theorem Y3_ {p:Nat→Prop} {n:Nat} (h:∀ i,i<n→p i) (c:p n):∀ i,i<n+1→p i:=fun i d=>if e:i=n then e▸c else h i y40_
section
variable {P:Program} {ops:Array Oper} {Q:Exit→Act→World→Prop}
theorem Vt5 {ks:List Kind} {n:Nat} (h:regW ops ks n=true):RegW ops ks n:=by
 have m:∀ (i:Nat) (o:Oper),ops[i]?=some o→((match o.dst with
    | some d=>decide (d<n) && (List.range ops.size).all fun j=>decide (j=i) || dstOf ops j != some d
    | none=>true)=true∧(o.after.all fun e=>decide (e.on<i))=true)∧(match o.guard with
    | none=>true
    | some (g,_)=>Region.waitsFor .any ops i g && (dstOf ops g).isSome && (kd ks g).isBool && (match ops[g]? with
     | some og=>og.guard.isNone
     | none=>false))=true:=fun i o f=>by
  have k:i<ops.size:=(Array.getElem?_eq_some_iff.1 f).1;have c:=List.all_eq_true.1 h i (List.mem_range.2 k);simp only [f,Bool.and_eq_true] at c ⊢;exact c
 have hd:∀ i d,dstOf ops i=some d→∃ o,ops[i]?=some o∧o.dst=some d:=fun i d h=>by
  unfold dstOf at h;cases f:ops[i]? with
  | none=>rw [f] at h;cases h
  | some o=>rw [f] at h;exact ⟨o,rfl,h⟩
 refine ⟨fun i d k=>?_,fun i j d k q=>?_,fun i o f e r=>?_,fun i o g b f s=>?_⟩
 ·obtain ⟨o,f,p⟩:=hd i d k
  have c:=(m i o f).1.1;simp only [p,Bool.and_eq_true,decide_eq_true_eq] at c;exact c.1
 ·obtain ⟨o,f,p⟩:=hd i d k
  have c:=(m i o f).1.1;simp only [p,Bool.and_eq_true,decide_eq_true_eq] at c;obtain ⟨v,u,_⟩:=hd j d q;have h2:=List.all_eq_true.1 c.2 j (List.mem_range.2 (Array.getElem?_eq_some_iff.1 u).1);rw [q] at h2;simp at h2;exact h2.symm
 ·have c:=(m i o f).1.2
  have h2:=Array.all_eq_true_iff_forall_mem.1 c e r;simpa using h2
 ·have c:=(m i o f).2
  simp only [s,Bool.and_eq_true] at c;refine ⟨c.1.1.1,Option.isSome_iff_exists.1 c.1.1.2,Kind.bool_of c.1.2,?_⟩;unfold wantK;have h2:=c.2;cases hog:ops[g]? with
  | none=>rfl
  | some og =>
   rw [hog] at h2;have h3:og.guard=none:=j50_;simp only [h3]
structure GotW (ops:Array Oper) (ks:List Kind) (a0:Act) (w0:World) (listed:Array Bool) (a:Act) (w:World):Prop where
 size:listed.size=ops.size
 below:Below w0.heap.size w0 w
 asize:a.tmps.size=a0.tmps.size
 defs:a.defers=a0.defers
 outer:∀ t,Zn1 ops t=true→a.tmps.getD t undef=a0.tmps.getD t undef
 got:∀ i d,dstOf ops i=some d→listed.getD i false=true→(ek ops ks i).holds (a.tmps.getD d undef) w
def ObW (P:Program) (ops:Array Oper) (ks:List Kind) (a0:Act) (w0:World) (i:Nat):Prop :=
 ∃ (op:Op) (ty:TypeId),(ops[i]?).map (fun o=>(o.op,o.type))=some (op,ty)∧∀ (a:Act) (W:World),wantK ops ks i=true→Below w0.heap.size w0 W→(∀ t,Zn1 ops t=true→a.tmps.getD t undef=a0.tmps.getD t undef) →
  (∀ j d,Region.waitsFor .any ops i j=true→dstOf ops j=some d→(ek ops ks j).holds (a.tmps.getD d undef) W)→Yb6 P ((execOp a.eval { dst:=none,op:=op,type:=ty,pos := "",after:=#[],guard:=none }).run P W) W (kd ks i).holds
theorem Yl0 {c:Array Bool} {ks:List Kind} {n:Nat} (g:RegW ops ks n) (hs:c.size=ops.size) (h:Region.ready .any ops c=[]):∀ i,i<ops.size→c.getD i false=true:=by
 intro i
 induction i using Nat.strongRecOn with
 | _ i ih =>
  intro d;cases hl:c.getD i false with
  | true=>rfl
  | false =>
   have f:i∈Region.ready .any ops c:=mem_ready.2 ⟨getD_in y40_ hl,ops[i],by simp [d],fun e j _=>by
    have k:=g.back i ops[i] (by simp [d]) e j;exact ih e.on k y40_⟩
   rw [h] at f;cases f
theorem Zz2 {ks:List Kind} {C:Act} {w0:World} (s:RegW ops ks C.tmps.size) (N:∀ i,i<ops.size→ObW P ops ks C w0 i)
  (I:∀ f a W,GotW ops ks C w0 f a W→(∀ i,i<ops.size→f.getD i false=true)→Q .normal a W) :
  ∀ (fuel:Nat) (f:Array Bool) (a:Act) (w:World),GotW ops ks C w0 f a w→cnt (fun i=>!f.getD i false) ops.size=fuel→wpAny P .any ops Q fuel f a w
 | 0,f,a,w,hg,hc=>by
  have D:∀ i,i<ops.size→f.getD i false=true:=fun i J=>by
   cases hl:f.getD i false with
   | true=>rfl
   | false =>
    have:=Yy9 (p:=fun _=>false) (q:=fun i=>!f.getD i false) (n:=ops.size) (fun _ _ h=>by cases h) ⟨i,J,rfl,by simp [hl]⟩;omega
  refine ⟨?_,I _ _ _ hg D⟩;cases hr:Region.ready .any ops f with
  | nil=>rfl
  | cons x xs =>
   have hx:x∈Region.ready .any ops f:=by rw [hr];simp
   obtain ⟨r,o,m,_⟩:=mem_ready.1 hx;have:=D x (Array.getElem?_eq_some_iff.1 m).1;rw [getD_both r] at this;cases this
 | fuel+1,f,a,w,hg,hc=>by
  refine ⟨fun R=>I _ _ _ hg (Yl0 s hg.size R),fun i J=>?_⟩;obtain ⟨x0,o,m,D⟩:=mem_ready.1 J;have E:i<ops.size:=(Array.getElem?_eq_some_iff.1 m).1;obtain ⟨op,ty,F,T⟩:=N i E;rw [m] at F;simp only [Option.map_some,Option.some.injEq,Prod.mk.injEq] at F;have M:∀ j d,Region.waitsFor .any ops i j=true→dstOf ops j=some d→(ek ops ks j).holds (a.tmps.getD d undef) w:=fun j d L hd=>by
   obtain ⟨oj,Y,e,B,hb,Z⟩:=Region.waitsFor_spec L;have:oj=o:=Option.some.inj (Y.symm.trans m);subst this;exact hg.got j d hd (by rw [← Z];exact D e B hb)
  have L:Region.wanted o (yielded ops a.tmps)=wantK ops ks i:=by
   unfold Region.wanted wantK;rw [m];cases hgd:o.guard with
   | none=>simp [hgd]
   | some gb =>
    obtain ⟨g,b⟩:=gb;obtain ⟨r,⟨d,hd⟩,⟨c,h3⟩,x1⟩:=s.guard i o g b m hgd;have A:=M g d r hd;unfold ek at A;rw [x1,if_pos rfl,h3] at A;have A:a.tmps.getD d undef=.bool c:=A;have U:d<a.tmps.size:=by rw [hg.asize];exact s.lt g d hd
    have S:a.tmps[d]?=some (.bool c):=by
     rw [← A];simp [Array.getD,U]
    unfold dstOf at hd;simp [hgd,yielded,h3,Kind.isB,hd,S]
  have V:i<f.size:=by rw [hg.size];exact E
  have next:∀ u w',Below w.heap.size w w'→(ek ops ks i).holds u w'→wpAny P .any ops Q fuel (f.setIfInBounds i true) (a.put o.dst u) w':=fun u w' hb H=>by
   refine Zz2 s N I fuel _ _ _ ⟨by simp [hg.size],hg.below.trans (hb.mono hg.below.size),by rw [Vd2];exact hg.asize,by rw [Vd3];exact hg.defs,fun t O=>?_,fun j d z hl=>?_⟩ ?_
   ·rw [Yb8 a u (fun e=>by
     have r:=List.all_eq_true.1 O i (List.mem_range.2 E);have:dstOf ops i=some t:=by unfold dstOf;rw [m];exact e
     rw [this] at r;simp at r)]
    exact hg.outer t O
   ·by_cases K:i=j
    ·subst K
     have X:o.dst=some d:=by unfold dstOf at z;rw [m] at z;exact z
     rw [X,Vt4 a u (by rw [hg.asize];exact s.lt i d z)];exact H
    ·rw [Yb8 a u (fun e=>K (s.one i j d (by unfold dstOf;rw [m];exact e) z))]
     rw [getD_set_ne false K] at hl;exact Kind.up (hg.got j d z hl) hb
   ·have hq:(fun k=>!(f.setIfInBounds i true).getD k false) i=false:=by simp [V]
    have r:=Zc0 (p:=fun k=>!f.getD k false) (q:=fun k=>!(f.setIfInBounds i true).getD k false) (y:=i) (by simp only [getD_both x0];rfl) hq (fun v hv=>by simp only [getD_set_ne false (Ne.symm hv)]) (n:=ops.size);rw [if_pos E] at r;omega
  unfold wpOp;simp only [m,L];cases hwk:wantK ops ks i with
  | true =>
   rw [if_pos rfl];have B:ek ops ks i=kd ks i:=by unfold ek;rw [hwk,if_pos rfl]
   exact .inl (Yb7 (G:=(kd ks i).holds) (by rw [Yk9,F.1,F.2];exact T a w hwk hg.below hg.outer M) fun u w' hb H=>next u w' hb (by rw [B];exact H))
  | false =>
   rw [if_neg q41_];have B:ek ops ks i=.eq undef:=by unfold ek;rw [hwk,if_neg q41_]
   exact next undef w (Below.refl _ _) (by rw [B];exact rfl)
theorem R9_ {id:Nat} {a:Act} {w:World} (ks:List Kind) (k:P.follows .mixedOrders=true) (f:regW ops ks a.tmps.size=true) (m:∀ i,i<ops.size→ObW P ops ks a w.drew i)
  (g:∀ c W,Below w.drew.heap.size w.drew W→c.tmps.size=a.tmps.size→c.defers=a.defers→(∀ t,Zn1 ops t=true→c.tmps.getD t undef=a.tmps.getD t undef)→(∀ i d,i<ops.size→dstOf ops i=some d→(ek ops ks i).holds (c.tmps.getD d undef) W)→Q .normal c W) :
  (Code.region id ops true).wp P Q a w:=by
 refine wp_region_any k ?_;exact Zz2 (w0:=w.drew) (Vt5 f) m (fun o c W e h=>g c W e.below e.asize e.defs e.outer fun i d j hd=>e.got i d hd (h i j)) _ _ _ _
  ⟨k40_,Below.refl _ _,rfl,rfl,fun _ _=>rfl,fun i d _ hl=>by rw [getD_replicate_false] at hl;cases hl⟩ (U1_ fun v _=>by simp only [getD_replicate_false];rfl)
end
open Go Go.RowKit
section
variable {ops:Array Oper} {ks:List Kind} {i:Nat} {a:Act} {W:World}
theorem depE (hd:∀ j d,Region.waitsFor .any ops i j=true→dstOf ops j=some d→(ek ops ks j).holds (a.tmps.getD d undef) W) (j t:Nat) (v:Value)
  (c:Region.waitsFor .any ops i j=true:=by kernel_rfl) (h2:dstOf ops j=some t:=by kernel_rfl) (h3:ek ops ks j=.eq v:=by kernel_rfl):a.tmps.getD t undef=v:=by
 have h:=hd j t c h2;rw [h3] at h;exact h
theorem depR (hd:∀ j d,Region.waitsFor .any ops i j=true→dstOf ops j=some d→(ek ops ks j).holds (a.tmps.getD d undef) W) (j t:Nat) (l:List Int)
  (c:Region.waitsFor .any ops i j=true:=by kernel_rfl) (h2:dstOf ops j=some t:=by kernel_rfl) (h3:ek ops ks j=.row l:=by kernel_rfl):Row W W.heap.size (a.tmps.getD t undef) l:=by
 have h:=hd j t c h2;rw [h3] at h;exact h
theorem depC {c:Bool} (f:c=true) (hd:∀ j d,Region.waitsFor .any ops i j=true→dstOf ops j=some d→(ek ops ks j).holds (a.tmps.getD d undef) W) (j t:Nat) (v:Value)
  (e:Region.waitsFor .any ops i j=true:=by kernel_rfl) (h2:dstOf ops j=some t:=by kernel_rfl) (h3:ek ops ks j=if c=true then .eq v else .eq undef:=by kernel_rfl):a.tmps.getD t undef=v:=by
 have h:=hd j t e h2;rw [h3,if_pos f] at h;exact h
theorem depD {c:Bool} (f:c=true) (hd:∀ j d,Region.waitsFor .any ops i j=true→dstOf ops j=some d→(ek ops ks j).holds (a.tmps.getD d undef) W) (j t:Nat) (l:List Int)
  (e:Region.waitsFor .any ops i j=true:=by kernel_rfl) (h2:dstOf ops j=some t:=by kernel_rfl) (h3:ek ops ks j=if c=true then .row l else .eq undef:=by kernel_rfl):Row W W.heap.size (a.tmps.getD t undef) l:=by
 have h:=hd j t e h2;rw [h3,if_pos f] at h;exact h
end
open Go Go.RowKit
structure KindT where
 holds:Value→World→Prop
 up:∀ {v:Value} {W W':World},holds v W→Below W.heap.size W W'→holds v W'
def KindT.eq (u:Value):KindT:=⟨fun v _=>v=u,fun h _=>h⟩
def KindT.box (t:TypeId) (cs:Array Value):KindT:=⟨fun v W=>∃ g,v=.pointer (some ⟨g,0,none⟩)∧Blk W g t cs,fun {_ _ _} h hb=>by
 obtain ⟨g,h1,h2⟩:=h;exact ⟨g,h1,h2.below hb h2.lt⟩⟩
def kdT (ks:List KindT) (i:Nat):KindT:=ks.getD i (.eq undef)
section
variable {P:Program} {ops:Array Oper} {Q:Exit→Act→World→Prop}
def notD (ops:Array Oper) (n:Nat) (t:Tmp):Bool:=(List.range n).all fun i=>dstOf ops i != some t
structure RegT (ops:Array Oper) (n N:Nat):Prop where
 lt:∀ i d,i<n→dstOf ops i=some d→d<N
 one:∀ i j d,i<n→j<n→dstOf ops i=some d→dstOf ops j=some d→i=j
 back:∀ (i:Nat) (o:Oper),i<n→ops[i]?=some o→∀ e∈o.after,e.on<i
 guard:∀ (i:Nat) (o:Oper),i<n→ops[i]?=some o→o.guard=none
structure GotT (ops:Array Oper) (ks:List KindT) (fr:Nat→Bool) (n:Nat) (a0:Act) (w0:World) (listed:Array Bool) (a:Act) (w:World):Prop where
 below:Below w0.heap.size w0 w
 asize:a.tmps.size=a0.tmps.size
 defs:a.defers=a0.defers
 outer:∀ t,notD ops n t=true→a.tmps.getD t undef=a0.tmps.getD t undef
 got:∀ i d,i<n→dstOf ops i=some d→listed.getD i false=true→(kdT ks i).holds (a.tmps.getD d undef) w
 fresh:∀ i d,i<n→fr i=true→dstOf ops i=some d→listed.getD i false=true→∃ g,a.tmps.getD d undef=.pointer (some ⟨g,0,none⟩)∧g<w.heap.size∧w0.heap.size≤g
 apart:∀ i j d d' g g',i<n→j<n→i≠j→fr i=true→fr j=true→dstOf ops i=some d→dstOf ops j=some d'→listed.getD i false=true→listed.getD j false=true→a.tmps.getD d undef=.pointer (some ⟨g,0,none⟩)→a.tmps.getD d' undef=.pointer (some ⟨g',0,none⟩)→g≠g'
end
theorem Zn2 {i:Nat} {v:Value}:∀ {D:List (Nat × Value)},D.lookup i=some v→(i,v)∈D
 | [],h=>by cases h
 | (k,u) :: r,h=>by
  rw [List.lookup_cons] at h;cases hk:(i==k) with
  | true =>
   rw [hk] at h;have e:i=k:=by simpa using hk
   simp only [Option.some.injEq] at h;rw [e,← h];simp
  | false =>
   rw [hk] at h;exact List.mem_cons_of_mem _ (Zn2 h)
theorem Yu2 {ops:Array Oper} {n N:Nat} {a c:Act} (D:List (Nat × Value)) (hs:a.tmps.size=N) (o:c.tmps.size=a.tmps.size) (f:c.defers=a.defers) (h:∀ t,notD ops n t=true→c.tmps.getD t undef=a.tmps.getD t undef)
  (m:((List.range N).all fun i=>(D.lookup i).isSome || notD ops n i)=true) (e:∀ p∈D,c.tmps.getD p.1 undef=p.2):c=⟨((List.range N).map fun i=>(D.lookup i).getD (a.tmps.getD i undef)).toArray,a.defers⟩:=by
 obtain ⟨d,q⟩:=c;simp only at o f h e;subst f;congr 1;refine Array.ext_getElem? fun i=>?_;by_cases g:i<N
 ·have h1:=List.all_eq_true.1 m i (List.mem_range.2 g)
  have h2:i<d.size:=y40_;have j:d.getD i undef=(D.lookup i).getD (a.tmps.getD i undef):=by
   cases hl:D.lookup i with
   | none =>
    rw [hl] at h1;exact h i z50_
   | some v=>exact e (i,v) (Zn2 hl)
  have k:d[i]?=some (d.getD i undef):=by simp [Array.getD,h2]
  rw [k,j];simp [g]
 ·rw [Array.getElem?_eq_none y40_,Array.getElem?_eq_none x41_]
def regOf (k:Nat):Code→Array Oper
 | .region id ops _=>if id=k then ops else #[]
 | .seq a b=>let x:=regOf k a;if x.size=0 then regOf k b else x
 | .cond _ a b=>let x:=regOf k a;if x.size=0 then regOf k b else x
 | .block _ a=>regOf k a
 | .loop a=>regOf k a
 | _=>#[]
end Go.Proofs.YtigobiacbficaaaGreatDoor.Wp
