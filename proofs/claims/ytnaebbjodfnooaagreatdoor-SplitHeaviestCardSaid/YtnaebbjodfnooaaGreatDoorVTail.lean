/- A region whose order is drawn, by what each of its operations grants: one thing that its value is, or a list that it holds, in each world above. Nothing of the program here. -/
import Derived.Test.YtnaebbjodfnooaaGreatDoorGPlaces
import Derived.Test.YtnaebbjodfnooaaGreatDoorZP
import Derived.StillTail
import Derived.Test.YtnaebbjodfnooaaGreatDoorX0A
namespace Go.Proofs.YtnaebbjodfnooaaGreatDoor.Wp
open Go Go.RowKit
inductive Kind where
 | eq (v:Value)
 | row (l:List Int)
def Kind.holds:Kind→Value→World→Prop
 | .eq u,v,_=>v=u
 | .row l,v,W=>Row W W.heap.size v l
def Kind.isB:Kind→Bool→Bool
 | .eq (.bool c),b=>c==b
 | _,_=>false
def kd (ks:List Kind) (i:Nat):Kind:=ks.getD i (.eq undef)
def Yo3 (P:Program) (r:Result Next) (w:World) (G:Value→World→Prop):Prop :=
 match r with
 | .ok (.value u) w'=>Below w.heap.size w w'∧G u w'
 | .ok (.enter f args) w'=>Below w.heap.size w w'∧Calls P f args w' (fun e w''=>∃ u,e=.returned u∧Below w.heap.size w w''∧G u w'')
 | _=>False
section
variable {P:Program} {ops:Array Oper} {Q:Exit→Act→World→Prop}
theorem Yv1 {o:Oper} {a:Act} {w:World} {K:Act→World→Prop} {G:Value→World→Prop}
  (h:Yo3 P ((execOp a.eval o).run P w) w G) (hK:∀ u w',Below w.heap.size w w'→G u w'→K (a.put o.dst u) w'):o.wp P a w K Q:=by
 unfold Oper.wp;generalize (execOp a.eval o).run P w=r at *
 cases r with
 | ok n w' =>
  cases n<;>simp only [Yo3] at h<;>simp only [Oper.upon]
  case value u=>exact hK u w' h.1 h.2
  case enter f args=>exact h.2.mono fun e g ⟨u,d,hb,c⟩=>by subst d;exact hK u g hb c
 | halt x w'=>simp only [Yo3] at h
def dstOf (ops:Array Oper) (i:Nat):Option Tmp:=(ops[i]?).bind (·.dst)
def Jx0 (ops:Array Oper) (t:Tmp):Bool:=(List.range ops.size).all fun i=>dstOf ops i != some t
structure Reg (ops:Array Oper) (ks:List Kind) (n:Nat):Prop where
 lt:∀ i d,dstOf ops i=some d→d<n
 one:∀ i j d,dstOf ops i=some d→dstOf ops j=some d→i=j
 back:∀ (i:Nat) (o:Oper),ops[i]?=some o→∀ e∈o.after,e.on<i
 guard:∀ (i:Nat) (o:Oper) (g:Nat) (b:Bool),ops[i]?=some o→o.guard=some (g,b)→Region.waitsFor .any ops i g=true∧(∃ d,dstOf ops g=some d)∧(kd ks g).isB b=true
structure Got (ops:Array Oper) (ks:List Kind) (a0:Act) (w0:World) (listed:Array Bool) (a:Act) (w:World):Prop where
 size:listed.size=ops.size
 below:Below w0.heap.size w0 w
 asize:a.tmps.size=a0.tmps.size
 defs:a.defers=a0.defers
 outer:∀ t,Jx0 ops t=true→a.tmps.getD t undef=a0.tmps.getD t undef
 got:∀ i d,dstOf ops i=some d→listed.getD i false=true→(kd ks i).holds (a.tmps.getD d undef) w
theorem Yf9 (ρ:Operand→Value) (o:Oper):execOp ρ o=execOp ρ { dst:=none,op:=o.op,type:=o.type,pos := "",after:=#[],guard:=none }:=rfl
theorem Yg0 (a:Act) {d:Tmp} (v:Value) (h:d<a.tmps.size):(a.put (some d) v).tmps.getD d undef=v:=by
 simp [Act.put,Array.getD,h]
theorem W1_ (a:Act) {x:Option Tmp} {t:Tmp} (v:Value) (h:x≠some t):(a.put x v).tmps.getD t undef=a.tmps.getD t undef:=by
 cases x with
 | none=>rfl
 | some d =>
  have hd:d≠t:=fun e=>h (by rw [e]);simp [Act.put,Array.getD_eq_getD_getElem?,Array.getElem?_setIfInBounds_ne hd]
theorem Vv3 (a:Act) (x:Option Tmp) (v:Value):(a.put x v).tmps.size=a.tmps.size:=by cases x<;>simp [Act.put]
theorem Vv4 (a:Act) (x:Option Tmp) (v:Value):(a.put x v).defers=a.defers:=by cases x<;>rfl
end
open Go Go.RowKit
structure KindT where
 holds:Value→World→Prop
 up:∀ {v:Value} {W W':World},holds v W→Below W.heap.size W W'→holds v W'
def KindT.eq (u:Value):KindT:=⟨fun v _=>v=u,fun h _=>h⟩
def KindT.box (t:TypeId) (cs:Array Value):KindT:=⟨fun v W=>∃ g,v=.pointer (some ⟨g,0,none⟩)∧Blk W g t cs,fun {_ _ _} h hb=>by
 obtain ⟨g,h1,h2⟩:=h;exact ⟨g,h1,h2.below hb h2.lt⟩⟩
def kdT (ks:List KindT) (i:Nat):KindT:=ks.getD i (.eq undef)
section
variable {P:Program} {ops:Array Oper} {Q:Exit→Act→World→Prop}
def notD (ops:Array Oper) (n:Nat) (t:Tmp):Bool:=(List.range n).all fun i=>dstOf ops i != some t
def regT (ops:Array Oper) (n N:Nat):Bool :=
 (List.range n).all fun i=>match ops[i]? with
  | none=>false
  | some o=>(match o.dst with
    | some d=>decide (d<N) && (List.range n).all fun j=>decide (j=i) || dstOf ops j != some d
    | none=>true) && (o.after.all fun e=>decide (e.on<i)) && o.guard.isNone
structure RegT (ops:Array Oper) (n N:Nat):Prop where
 lt:∀ i d,i<n→dstOf ops i=some d→d<N
 one:∀ i j d,i<n→j<n→dstOf ops i=some d→dstOf ops j=some d→i=j
 back:∀ (i:Nat) (o:Oper),i<n→ops[i]?=some o→∀ e∈o.after,e.on<i
 guard:∀ (i:Nat) (o:Oper),i<n→ops[i]?=some o→o.guard=none
theorem Vn4 {n N:Nat} (h:regT ops n N=true):RegT ops n N:=by
 have m:∀ (i:Nat) (o:Oper),i<n→ops[i]?=some o→((match o.dst with
    | some d=>decide (d<N) && (List.range n).all fun j=>decide (j=i) || dstOf ops j != some d
    | none=>true)=true∧(o.after.all fun e=>decide (e.on<i))=true)∧o.guard.isNone=true:=fun i o hi f=>by
  have c:=List.all_eq_true.1 h i (List.mem_range.2 hi);simp only [f,Bool.and_eq_true] at c;exact c
 have hd:∀ i d,dstOf ops i=some d→∃ o,ops[i]?=some o∧o.dst=some d:=fun i d h=>by
  unfold dstOf at h;cases f:ops[i]? with
  | none=>rw [f] at h;cases h
  | some o=>rw [f] at h;exact ⟨o,rfl,h⟩
 refine ⟨fun i d g hi=>?_,fun i j d g s hi r=>?_,fun i o g f e q=>?_,fun i o g f=>?_⟩
 ·obtain ⟨o,f,p⟩:=hd i d hi
  have c:=(m i o g f).1.1;simp only [p,Bool.and_eq_true,decide_eq_true_eq] at c;exact c.1
 ·obtain ⟨o,f,p⟩:=hd i d hi
  have c:=(m i o g f).1.1;simp only [p,Bool.and_eq_true,decide_eq_true_eq] at c;have k:=List.all_eq_true.1 c.2 j (List.mem_range.2 s);rw [r] at k;simp at k;exact k.symm
 ·have c:=(m i o g f).1.2
  have k:=Array.all_eq_true_iff_forall_mem.1 c e q;simpa using k
 ·have c:=(m i o g f).2
  simpa using c
structure GotT (ops:Array Oper) (ks:List KindT) (fr:Nat→Bool) (n:Nat) (a0:Act) (w0:World) (listed:Array Bool) (a:Act) (w:World):Prop where
 below:Below w0.heap.size w0 w
 asize:a.tmps.size=a0.tmps.size
 defs:a.defers=a0.defers
 outer:∀ t,notD ops n t=true→a.tmps.getD t undef=a0.tmps.getD t undef
 got:∀ i d,i<n→dstOf ops i=some d→listed.getD i false=true→(kdT ks i).holds (a.tmps.getD d undef) w
 fresh:∀ i d,i<n→fr i=true→dstOf ops i=some d→listed.getD i false=true→∃ g,a.tmps.getD d undef=.pointer (some ⟨g,0,none⟩)∧g<w.heap.size∧w0.heap.size≤g
 apart:∀ i j d d' g g',i<n→j<n→i≠j→fr i=true→fr j=true→dstOf ops i=some d→dstOf ops j=some d'→listed.getD i false=true→listed.getD j false=true→a.tmps.getD d undef=.pointer (some ⟨g,0,none⟩)→a.tmps.getD d' undef=.pointer (some ⟨g',0,none⟩)→g≠g'
def PostT (ks:List KindT) (fr:Nat→Bool) (i:Nat) (W:World) (u:Value) (W':World):Prop:=(kdT ks i).holds u W'∧(fr i=true→∃ g,u=.pointer (some ⟨g,0,none⟩)∧W.heap.size≤g∧g<W'.heap.size)
def ObT (P:Program) (ops:Array Oper) (ks:List KindT) (fr:Nat→Bool) (n:Nat) (a0:Act) (w0:World) (i:Nat):Prop :=
 ∃ (op:Op) (ty:TypeId),(ops[i]?).map (fun o=>(o.op,o.type))=some (op,ty)∧∀ (a:Act) (W:World),Below w0.heap.size w0 W→(∀ t,notD ops n t=true→a.tmps.getD t undef=a0.tmps.getD t undef) →
  (∀ j d,Region.waitsFor .any ops i j=true→dstOf ops j=some d→(kdT ks j).holds (a.tmps.getD d undef) W)→Yo3 P ((execOp a.eval { dst:=none,op:=op,type:=ty,pos := "",after:=#[],guard:=none }).run P W) W (PostT ks fr i W)
def Zp4 (n m:Nat):Array Bool:=Array.replicate n true ++ Array.replicate (m - n) false
theorem Vn5 {n:Nat} {e:Array Bool} (f:n<ops.size) (inv:HeadInv .any ops n e) (h:∀ i,i<n→e.getD i false=true):e=Zp4 n ops.size:=by
 have hs:=inv.size;refine Array.ext_getElem? fun i=>?_;unfold Zp4;by_cases hi:i<n
 ·have c:=h i hi
  have d:i<e.size:=x37_;simp only [Array.getD,d,dif_pos] at c;rw [Array.getElem?_append_left j46_,Array.getElem?_eq_getElem d];simp [hi];exact c
 ·by_cases d:i<e.size
  ·have c:=inv.tail i x37_ x37_
   simp only [Array.getD,d,dif_pos] at c;rw [Array.getElem?_append_right (by simpa using Nat.le_of_not_lt hi),Array.getElem?_eq_getElem d];simp [show i - n<ops.size - n by omega];exact c
  ·exact k26_
theorem N2_ {ks:List KindT} {E:Nat→Bool} {n:Nat} {I:Act} {w0:World} (z:RegT ops n I.tmps.size) (hs:Region.sinkB .any ops n=true) (hc:Region.chainB .any ops n=true) (Y:n<ops.size)
  (J:Region.seqB .any ops (ops.toList.drop n).length n (Zp4 n ops.size)=true) (x6:∀ i,i<n→ObT P ops ks E n I w0 i)
  (hQ:∀ a W,Below w0.heap.size w0 W→a.tmps.size=I.tmps.size→a.defers=I.defers→(∀ t,notD ops n t=true→a.tmps.getD t undef=I.tmps.getD t undef)→(∀ i d,i<n→dstOf ops i=some d→(kdT ks i).holds (a.tmps.getD d undef) W)→(∀ i j d A g B,i<n→j<n→i≠j→E i=true→E j=true→dstOf ops i=some d→dstOf ops j=some A→a.tmps.getD d undef=.pointer (some ⟨g,0,none⟩)→a.tmps.getD A undef=.pointer (some ⟨B,0,none⟩)→g≠B)→(∀ i d,i<n→E i=true→dstOf ops i=some d→∃ g,a.tmps.getD d undef=.pointer (some ⟨g,0,none⟩)∧w0.heap.size≤g)→wpList P ops Q (ops.toList.drop n) a W) :
  ∀ (fuel:Nat) (c:Array Bool) (a:Act) (w:World),GotT ops ks E n I w0 c a w→HeadInv .any ops n c→cnt (fun i=>!c.getD i false) n=fuel→wpAny P .any ops Q (fuel+(ops.toList.drop n).length) c a w
 | 0,c,a,w,hg,inv,hc0=>by
  have C:∀ i,i<n→c.getD i false=true:=fun i hi=>by
   cases hl:c.getD i false with
   | true=>rfl
   | false =>
    have:=Yk2 (p:=fun _=>false) (q:=fun i=>!c.getD i false) (n:=n) (fun _ _ h=>by cases h) ⟨i,hi,rfl,by simp [hl]⟩;omega
  rw [Nat.zero_add];refine wpAny_of_seq _ n c a w (fun j=>by rw [List.getElem?_drop,Array.getElem?_toList]) ?_ (hQ a w hg.below hg.asize hg.defs hg.outer (fun i d hi hd=>hg.got i d hi hd (C i hi)) (fun i j d A g B hi f s h1 r h3 h4=>hg.apart i j d A g B hi f s h1 r h3 h4 (C i hi) (C j f)) (fun i d hi H hd=>(hg.fresh i d hi H hd (C i hi)).elim fun g h=>⟨g,h.1,h.2.2⟩));rw [Vn5 Y inv C];exact J
 | fuel+1,c,a,w,hg,inv,hc0=>by
  have x8:∃ i,i<n∧c.getD i false=false:=by
   refine Classical.byContradiction fun xd=>?_;have h1:cnt (fun i=>!c.getD i false) n=0:=by
    unfold cnt;rw [List.filter_eq_nil_iff.2 fun v L=>?_]
    ·rfl
    ·have L:=List.mem_range.1 L
     cases hl:c.getD v false with
     | true=>simp
     | false=>exact absurd ⟨v,L,hl⟩ xd
   omega
  rw [show fuel+1+(ops.toList.drop n).length=(fuel+(ops.toList.drop n).length)+1 by omega];obtain ⟨i0,x2,X⟩:=x8;have xh:c.getD i0 true=false:=getD_in (by rw [inv.size];omega) X;refine ⟨fun h0=>?_,fun i hi=>?_⟩
  ·exfalso
   have C:∀ i,i<n→c.getD i false=true:=by
    intro i
    induction i using Nat.strongRecOn with
    | _ i ih =>
     intro hi;cases hl:c.getD i false with
     | true=>rfl
     | false =>
      have hm:i∈Region.ready .any ops c:=mem_ready.2 ⟨getD_in (by rw [inv.size];omega) hl,ops[i],by simp [show i<ops.size by omega],fun e he _=>by
       have xc:=z.back i ops[i] hi (by simp [show i<ops.size by omega]) e he;exact ih e.on xc x37_⟩
      rw [h0] at hm;cases hm
   rw [C i0 x2] at X;cases X
  ·have x:i<n:=by
    rcases Nat.lt_or_ge i n with h | h
    ·exact h
    ·exact absurd hi (tail_waits hs hc Y inv _ i0 rfl x2 xh i h)
   obtain ⟨xg,o,ho,C⟩:=mem_ready.1 hi;obtain ⟨op,ty,S,hO⟩:=x6 i x;rw [ho] at S;simp only [Option.map_some,Option.some.injEq,Prod.mk.injEq] at S;have x7:∀ j d,Region.waitsFor .any ops i j=true→dstOf ops j=some d→(kdT ks j).holds (a.tmps.getD d undef) w:=fun j d Z hd=>by
    obtain ⟨oj,xe,e,he,hb,x5⟩:=Region.waitsFor_spec Z;have:oj=o:=Option.some.inj (xe.symm.trans ho);subst this;exact hg.got j d (by rw [← x5];have:=z.back i oj x ho e he;omega) hd (by rw [← x5];exact C e he hb)
   have Z:Region.wanted o (yielded ops a.tmps)=true:=by
    unfold Region.wanted;rw [z.guard i o x ho]
   unfold wpOp;simp only [ho,Z,if_true];refine .inl (Yv1 (G:=PostT ks E i w) (by rw [Yf9,S.1,S.2];exact hO a w hg.below hg.outer x7) fun u w' hb T=>?_);have x9:i<c.size:=by rw [inv.size];omega
   refine N2_ z hs hc Y J x6 hQ fuel _ _ _ ⟨hg.below.trans (hb.mono hg.below.size),by rw [Vv3];exact hg.asize,by rw [Vv4];exact hg.defs,fun t ht=>?_,fun j d D f hl=>?_,fun j d D H f hl=>?_,fun j k d A g B D R xa U M f O xb x4 x1 V=>?_⟩ (inv.set hi x) ?_
   ·rw [W1_ a u (fun e=>by
     have h1:=List.all_eq_true.1 ht i (List.mem_range.2 x);have:dstOf ops i=some t:=k45_;rw [this] at h1;simp at h1)]
    exact hg.outer t ht
   ·by_cases s:i=j
    ·subst s
     have K:o.dst=some d:=by unfold dstOf at f;rw [ho] at f;exact f
     rw [K,Yg0 a u (by rw [hg.asize];exact z.lt i d x f)];exact T.1
    ·rw [W1_ a u (fun e=>s (z.one i j d x D k45_ f))]
     rw [getD_set_ne false s] at hl;exact (kdT ks j).up (hg.got j d D f hl) hb
   ·by_cases s:i=j
    ·subst s
     have K:o.dst=some d:=by unfold dstOf at f;rw [ho] at f;exact f
     rw [K,Yg0 a u (by rw [hg.asize];exact z.lt i d x f)];obtain ⟨g,h1,r,h3⟩:=T.2 H;exact ⟨g,h1,h3,Nat.le_trans hg.below.size r⟩
    ·rw [W1_ a u (fun e=>s (z.one i j d x D k45_ f))]
     rw [getD_set_ne false s] at hl;obtain ⟨g,h1,r,h3⟩:=hg.fresh j d D H f hl;exact ⟨g,h1,Nat.lt_of_lt_of_le r hb.size,h3⟩
   ·have own:∀ q m F,q<n→i=q→E q=true→dstOf ops q=some m→(a.put o.dst u).tmps.getD m undef=.pointer (some ⟨F,0,none⟩)→w.heap.size≤F:=fun q m F J N H hd he=>by
     subst N;have K:o.dst=some m:=by unfold dstOf at hd;rw [ho] at hd;exact hd
     rw [K,Yg0 a u (by rw [hg.asize];exact z.lt i m x hd)] at he;obtain ⟨g0,h1,r,_⟩:=T.2 H;exact k19_
    have x0:∀ q m F,q<n→i≠q→E q=true→dstOf ops q=some m→(c.setIfInBounds i true).getD q false=true→(a.put o.dst u).tmps.getD m undef=.pointer (some ⟨F,0,none⟩)→F<w.heap.size∧a.tmps.getD m undef=.pointer (some ⟨F,0,none⟩)∧c.getD q false=true:=fun q m F J N H hd hl he=>by
     rw [W1_ a u (fun e=>N (z.one i q m x J k45_ hd))] at he;rw [getD_set_ne false N] at hl;obtain ⟨g0,h1,r,_⟩:=hg.fresh q m J H hd hl;refine ⟨?_,he,hl⟩;exact k19_
    by_cases s:i=j
    ·have h1:=own j d g D s U f x1
     have r:=(x0 k A B R x37_ M O x4 V).1;omega
    ·have h1:=x0 j d g D s U f xb x1
     by_cases x3:i=k
     ·have r:=own k A B R x3 M O V
      have h3:=h1.1;omega
     ·have r:=x0 k A B R x3 M O x4 V
      exact hg.apart j k d A g B D R xa U M f O h1.2.2 r.2.2 h1.2.1 r.2.1
   ·have xf:(fun k=>!(c.setIfInBounds i true).getD k false) i=false:=by simp [x9]
    have h1:=Za6 (p:=fun k=>!c.getD k false) (q:=fun k=>!(c.setIfInBounds i true).getD k false) (y:=i) (by simp only [getD_both xg];rfl) xf (fun v L=>by simp only [getD_set_ne false (Ne.symm L)]) (n:=n);rw [if_pos x] at h1;omega
theorem Zy4 {id:Nat} {a:Act} {w:World} (n:Nat) (ks:List KindT) (e:Nat→Bool) (u:P.follows .mixedOrders=true) (hB:(regT ops n a.tmps.size && Region.sinkB .any ops n && Region.chainB .any ops n && decide (n<ops.size) && Region.seqB .any ops (ops.toList.drop n).length n (Zp4 n ops.size))=true) (x:∀ i,i<n→ObT P ops ks e n a w.drew i)
  (r:∀ c W,Below w.drew.heap.size w.drew W→c.tmps.size=a.tmps.size→c.defers=a.defers→(∀ t,notD ops n t=true→c.tmps.getD t undef=a.tmps.getD t undef)→(∀ i d,i<n→dstOf ops i=some d→(kdT ks i).holds (c.tmps.getD d undef) W)→(∀ i j d f g k,i<n→j<n→i≠j→e i=true→e j=true→dstOf ops i=some d→dstOf ops j=some f→c.tmps.getD d undef=.pointer (some ⟨g,0,none⟩)→c.tmps.getD f undef=.pointer (some ⟨k,0,none⟩)→g≠k)→(∀ i d,i<n→e i=true→dstOf ops i=some d→∃ g,c.tmps.getD d undef=.pointer (some ⟨g,0,none⟩)∧w.drew.heap.size≤g)→wpList P ops Q (ops.toList.drop n) c W) :
  (Code.region id ops true).wp P Q a w:=by
 simp only [Bool.and_eq_true,decide_eq_true_eq] at hB;obtain ⟨⟨⟨⟨m,o⟩,h3⟩,p⟩,q⟩:=hB;refine wp_region_any u ?_;have h:=N2_ (w0:=w.drew) (Vn4 m) o h3 p q x (fun c W=>r c W) (cnt (fun i=>!(Array.replicate ops.size false).getD i false) n) (Array.replicate ops.size false) a w.drew
  ⟨Below.refl _ _,rfl,rfl,fun _ _=>rfl,fun i d _ _ hl=>y43_,fun i d _ _ _ hl=>y43_,fun i j d f g k _ _ _ _ _ _ _ hl=>y43_⟩ ⟨j37_,fun j z _ hl=>y43_,fun t _ y=>(by simp [Array.getD,y])⟩ rfl
 have s:cnt (fun i=>!(Array.replicate ops.size false).getD i false) n=n:=T2_ fun v _=>by simp only [getD_replicate_false];rfl
 rw [s] at h;rw [show n+(ops.toList.drop n).length=ops.size by simp;omega] at h;exact h
end
theorem Zk5 {i:Nat} {v:Value}:∀ {D:List (Nat × Value)},D.lookup i=some v→(i,v)∈D
 | [],h=>by cases h
 | (k,u) :: r,h=>by
  rw [List.lookup_cons] at h;cases hk:(i==k) with
  | true =>
   rw [hk] at h;have e:i=k:=by simpa using hk
   simp only [Option.some.injEq] at h;rw [e,← h];simp
  | false =>
   rw [hk] at h;exact List.mem_cons_of_mem _ (Zk5 h)
theorem Vv5 {ops:Array Oper} {n N:Nat} {a c:Act} (D:List (Nat × Value)) (hs:a.tmps.size=N) (o:c.tmps.size=a.tmps.size) (g:c.defers=a.defers) (h:∀ t,notD ops n t=true→c.tmps.getD t undef=a.tmps.getD t undef)
  (hB:((List.range N).all fun i=>(D.lookup i).isSome || notD ops n i)=true) (f:∀ p∈D,c.tmps.getD p.1 undef=p.2):c=⟨((List.range N).map fun i=>(D.lookup i).getD (a.tmps.getD i undef)).toArray,a.defers⟩:=by
 obtain ⟨d,q⟩:=c;simp only at o g h f;subst g;congr 1;refine Array.ext_getElem? fun i=>?_;by_cases hi:i<N
 ·have e:=List.all_eq_true.1 hB i (List.mem_range.2 hi)
  have j:i<d.size:=x37_;have k:d.getD i undef=(D.lookup i).getD (a.tmps.getD i undef):=by
   cases hl:D.lookup i with
   | none =>
    rw [hl] at e;exact h i (by simpa using e)
   | some v=>exact f (i,v) (Zk5 hl)
  have m:d[i]?=some (d.getD i undef):=by simp [Array.getD,j]
  rw [m,k];simp [hi]
 ·exact k26_
def regOf (k:Nat):Code→Array Oper
 | .region id ops _=>if id=k then ops else #[]
 | .seq a b=>let x:=regOf k a;if x.size=0 then regOf k b else x
 | .cond _ a b=>let x:=regOf k a;if x.size=0 then regOf k b else x
 | .block _ a=>regOf k a
 | .loop a=>regOf k a
 | _=>#[]
end Go.Proofs.YtnaebbjodfnooaaGreatDoor.Wp
