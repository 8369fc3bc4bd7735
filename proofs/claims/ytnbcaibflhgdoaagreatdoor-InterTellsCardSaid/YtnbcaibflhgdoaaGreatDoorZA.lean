/- Sets of numbers as lists, plain: what layer 2's calls answer, and that sets are an algebra. Nothing of the program here. Small laws of memory that the walks of this seat use: a block that is known whole; a list of integers in memory; what a call gives. Memory of this seat: a list of lists of integers; a family of rows that the call itself makes, no two in one block. Plain facts on sets as lists, for the walks: whether a list is a set, step by step; what both have, step by step. Whether a list is a set, as the program and as the document ask it, walked. Two sides that may be: the program's May, walked. The program's part (Meet, Minus), walked: both lists rise, and one goes along the other. The program's Has and All, walked. Whether a list is a set, as the document asks it, walked. The document's answer: is a number in a list: walked. The document's meet and union of sets, walked. -/
import Derived.Lib.SlicesCompact
import Derived.Test.YtnbcaibflhgdoaaGreatDoorProg
import Derived.WalkKit
import Derived.OwnWalk
import Derived.Lib.Hide
import Derived.Laws.Cells
import Derived.Laws.Rows
import Derived.Deep.Draws
import Derived.BigQuiet
import Derived.Deep.QuietTactic
import Derived.Laws.AppendOwnNone
import Derived.Maps.AppendAt
import Derived.Lib.OwnBridge
import Derived.DataElems
import Derived.Test.YtnbcaibflhgdoaaGreatDoorX0A
import Derived.Test.YtnbcaibflhgdoaaGreatDoorX0B
set_option maxHeartbeats 8000000
set_option maxRecDepth 100000
open Go.Lib (hid)
open Nat (le_refl)
namespace Go.Proofs.YtnbcaibflhgdoaaGreatDoor.Wp
def Fit (x:Int):Prop:=0≤x∧x≤1099511627776
instance (x:Int):Decidable (Fit x):=inferInstanceAs (Decidable (_∧_))
def IsSet (l:List Int):Prop:=l.Pairwise (·<·)∧∀ x∈l,Fit x
instance (l:List Int):Decidable (IsSet l):=inferInstanceAs (Decidable (_∧_))
def mayB (l:List Int):Bool:=decide (IsSet l)
theorem X7_:IsSet []:=⟨List.Pairwise.nil,fun _ h=>absurd h j41_⟩
theorem Zz1:∀ {a b:List Int},a.Pairwise (·<·)→b.Pairwise (·<·)→(∀ x,x∈a↔x∈b)→a=b
 | [],[],_,_,_=>rfl
 | [],y :: b,_,_,h=>absurd ((h y).2 j41_) j41_
 | x :: a,[],_,_,h=>absurd ((h x).1 j41_) j41_
 | x :: a,y :: b,ha,hb,h=>by
  rw [List.pairwise_cons] at ha hb;have g:x=y:=by
   rcases List.mem_cons.1 ((h x).1 j41_) with e | f
   ·exact e
   ·rcases List.mem_cons.1 ((h y).2 j41_) with e | j
    ·exact e.symm
    ·have:=hb.1 x f
     have:=ha.1 y j;omega
  subst g;congr 1;refine Zz1 ha.2 hb.2 fun z=>⟨fun c=>?_,fun c=>?_⟩
  ·rcases List.mem_cons.1 ((h z).1 (by simp [c])) with e | d
   ·have:=ha.1 z c;omega
   ·exact d
  ·rcases List.mem_cons.1 ((h z).2 (by simp [c])) with e | d
   ·have:=hb.1 z c;omega
   ·exact d
theorem IsSet.ext {a b:List Int} (ha:IsSet a) (hb:IsSet b) (h:∀ x,x∈a↔x∈b):a=b:=Zz1 ha.1 hb.1 h
theorem IsSet.sub {a b:List Int} (h:IsSet b) (hs:a.Sublist b):IsSet a:=⟨h.1.sublist hs,fun x c=>h.2 x (hs.subset c)⟩
theorem IsSet.filter {a:List Int} (h:IsSet a) (p:Int→Bool):IsSet (a.filter p):=h.sub List.filter_sublist
theorem IsSet.tail {x:Int} {a:List Int} (h:IsSet (x :: a)):IsSet a:=h.sub (List.sublist_cons_self x a)
def ins (x:Int):List Int→List Int
 | []=>[x]
 | y :: r=>if x<y then x :: y :: r else if x=y then y :: r else y :: ins x r
theorem Zm7 (x z:Int):∀ l,z∈ins x l↔z=x∨z∈l
 | []=>by simp [ins]
 | y :: r=>by
  unfold ins;split
  ·simp
  ·split
   ·subst_vars;simp
   ·simp only [List.mem_cons,Zm7 x z r]
    constructor
    ·rintro (h | h | h)<;>simp [h]
    ·rintro (h | h | h)<;>simp [h]
theorem Yj1 (x:Int) (f:Fit x):∀ l,IsSet l→IsSet (ins x l)
 | [],_=>⟨by simp [ins],by simp [ins];exact f⟩
 | y :: r,h=>by
  have g:=List.pairwise_cons.1 h.1;unfold ins;split
  ·refine ⟨List.pairwise_cons.2 ⟨fun z c=>?_,h.1⟩,fun z c=>?_⟩
   ·rcases List.mem_cons.1 c with e | d
    ·omega
    ·have:=g.1 z d;omega
   ·rcases List.mem_cons.1 c with e | d
    ·rw [e];exact f
    ·exact h.2 z d
  ·split
   ·exact h
   ·have j:=Yj1 x f r h.tail
    refine ⟨List.pairwise_cons.2 ⟨fun z c=>?_,j.1⟩,fun z c=>?_⟩
    ·rcases (Zm7 x z r).1 c with e | d
     ·omega
     ·exact g.1 z d
    ·rcases List.mem_cons.1 c with e | d
     ·rw [e];exact h.2 y j41_
     ·exact j.2 z d
def sortL:List Int→List Int
 | []=>[]
 | x :: r=>if Fit x then ins x (sortL r) else sortL r
theorem V8_:∀ l,IsSet (sortL l)
 | []=>X7_
 | x :: r=>by
  unfold sortL;split
  ·exact Yj1 x (by assumption) _ (V8_ r)
  ·exact V8_ r
theorem B5_ (z:Int):∀ l,z∈sortL l↔z∈l∧Fit z
 | []=>by simp [sortL]
 | x :: r=>by
  unfold sortL;split
  ·next hx =>
   rw [Zm7,B5_ z r,List.mem_cons];constructor
   ·rintro (e | ⟨h,c⟩)
    ·subst e;exact ⟨.inl rfl,hx⟩
    ·exact ⟨.inr h,c⟩
   ·rintro ⟨e | h,c⟩
    ·exact .inl e
    ·exact .inr ⟨h,c⟩
  ·next hx =>
   rw [B5_ z r,List.mem_cons];constructor
   ·rintro ⟨h,c⟩;exact ⟨.inr h,c⟩
   ·rintro ⟨e | h,c⟩
    ·subst e;exact absurd c hx
    ·exact ⟨h,c⟩
theorem Yg3 {r l:List Int} (c:IsSet r) (h:∀ x,x∈r↔x∈l∧Fit x):r=sortL l :=
 c.ext (V8_ l) fun x=>by rw [h,B5_]
theorem Yg4 {l:List Int} (h:IsSet l):sortL l=l :=
 (Yg3 h fun x=>⟨fun c=>⟨c,h.2 x c⟩,fun c=>c.1⟩).symm
theorem F0_:∀ l,(sortL l).length≤l.length
 | []=>le_refl _
 | x :: r=>by
  unfold sortL;have c:∀ (y:Int) (t:List Int),(ins y t).length≤t.length+1:=by
   intro y t;exact x16_
  split
  ·have:=c x (sortL r)
   have:=F0_ r;simp;omega
  ·have:=F0_ r
   simp;omega
def hasB (l:List Int) (x:Int):Bool:=mayB l && l.contains x
def Z9_ (a b:List Int):List Int:=if mayB a && mayB b then sortL (a ++ b) else []
def partL (a b:List Int) (w:Bool):List Int:=if mayB a && mayB b then a.filter fun x=>b.contains x==w else []
def meetL (a b:List Int):List Int:=partL a b true
def Z5_ (a b:List Int):List Int:=partL a b false
def subB (a b:List Int):Bool:=mayB a && mayB b && decide (Z5_ a b=[])
def allL (n:Int):List Int:=if n<1∨100000<n then [] else (List.range n.toNat).map Int.ofNat
theorem mayB_iff {l:List Int}:mayB l=true↔IsSet l:=by simp [mayB]
theorem I3_ {l:List Int} (h:IsSet l):mayB l=true:=mayB_iff.2 h
theorem B6_ (a b:List Int):IsSet (Z9_ a b):=by
 unfold Z9_;split
 ·exact V8_ _
 ·exact X7_
theorem Yg5 (a b:List Int) (w:Bool):IsSet (partL a b w):=by
 unfold partL;split
 ·next h=>exact (mayB_iff.1 (by simp at h;exact h.1)).filter _
 ·exact X7_
theorem Xm3 (a b:List Int):IsSet (meetL a b):=Yg5 a b true
theorem J0_ (a b:List Int):IsSet (Z5_ a b):=Yg5 a b false
theorem G0_ (n:Int):IsSet (allL n):=by
 unfold allL;split
 ·exact X7_
 ·next h =>
  refine ⟨?_,fun x d=>?_⟩
  ·rw [List.pairwise_map]
   exact List.pairwise_lt_range.imp fun h=>by simpa using h
  ·obtain ⟨k,c,rfl⟩:=List.mem_map.1 d
   have:=List.mem_range.1 c;have e:Int.ofNat k=(k:Int):=rfl;unfold Fit;rw [e];omega
theorem J1_ {a b:List Int} (ha:IsSet a) (hb:IsSet b) (x:Int):x∈Z9_ a b↔x∈a∨x∈b:=by
 unfold Z9_;rw [if_pos (by rw [I3_ ha,I3_ hb];rfl),B5_,List.mem_append];constructor
 ·exact fun h=>h.1
 ·rintro (h | h)
  ·exact ⟨.inl h,ha.2 x h⟩
  ·exact ⟨.inr h,hb.2 x h⟩
theorem Yg6 {a b:List Int} (ha:IsSet a) (hb:IsSet b) (w:Bool) (x:Int):x∈partL a b w↔x∈a∧(b.contains x=w):=by
 unfold partL;rw [if_pos (by rw [I3_ ha,I3_ hb];rfl),List.mem_filter];simp
theorem L2_ {a b:List Int} (ha:IsSet a) (hb:IsSet b) (x:Int):x∈meetL a b↔x∈a∧x∈b:=by
 unfold meetL;rw [Yg6 ha hb,List.contains_iff_mem]
theorem Y7_ {a b:List Int} (ha:IsSet a) (hb:IsSet b) (x:Int):x∈Z5_ a b↔x∈a∧x∉b:=by
 unfold Z5_;rw [Yg6 ha hb,← Bool.not_eq_true,List.contains_iff_mem]
theorem Xx8 {a b:List Int} (ha:IsSet a) (hb:IsSet b):subB a b=true↔∀ x∈a,x∈b:=by
 unfold subB;rw [I3_ ha,I3_ hb];simp only [Bool.and_self,Bool.true_and,decide_eq_true_eq];constructor
 ·intro h x d
  rcases Decidable.em (x∈b) with c | c
  ·exact c
  ·have:=(Y7_ ha hb x).2 ⟨d,c⟩
   rw [h] at this;exact absurd this j41_
 ·intro h
  rcases hm:Z5_ a b with _ | ⟨x,r⟩
  ·rfl
  ·have:=(Y7_ ha hb x).1 (by rw [hm];simp)
   exact absurd (h x this.1) this.2
theorem E0_ {l:List Int} (h:IsSet l) (x:Int):hasB l x=true↔x∈l:=by
 unfold hasB;rw [I3_ h];simp
theorem Yj2 (a b:List Int) (w:Bool):(partL a b w).length≤a.length:=by
 unfold partL;split
 ·exact List.length_filter_le _ _
 ·simp
theorem Zx3 (a b:List Int):(Z9_ a b).length≤a.length+b.length:=by
 unfold Z9_;split
 ·have:=F0_ (a ++ b)
  simpa using this
 ·simp
theorem Yn6 (n:Int):((allL n).length:Int)≤100000∧(1≤n→n≤100000→((allL n).length:Int)=n):=by
 unfold allL;split
 ·next h=>exact ⟨j41_,fun c d=>by omega⟩
 ·next h=>exact ⟨by simp;omega,fun c d=>by simp;omega⟩
theorem I4_ {n:Int} (d:0≤n) (f:n≤100000) (x:Int):x∈allL n↔0≤x∧x<n:=by
 unfold allL;split
 ·next h =>
  simp;omega
 ·rw [List.mem_map]
  constructor
  ·rintro ⟨k,c,rfl⟩
   have:=List.mem_range.1 c;have e:Int.ofNat k=(k:Int):=rfl;rw [e];omega
  ·intro h
   exact ⟨x.toNat,List.mem_range.2 q41_,by simp;omega⟩
section
variable {a b c:List Int} (ha:IsSet a) (hb:IsSet b) (hc:IsSet c)
include ha hb
include hc
end
theorem Za3:∀ {a b r:List Int},IsSet a→IsSet b→IsSet r→(∀ x,x∈a→x∉b)→(∀ x,x∈r↔x∈a∨x∈b)→r.length=a.length+b.length:=by
 intro a b r ha hb g hd c;have d:(a ++ b).Nodup:=by
  rw [List.nodup_append];refine ⟨ha.1.imp fun h=>by omega,hb.1.imp fun h=>by omega,fun x k y m e=>hd x k (by rw [e];exact m)⟩
 have j:r.Nodup:=g.1.imp fun h=>by omega
 have f:r.Perm (a ++ b):=by
  rw [List.perm_ext_iff_of_nodup j d];intro x;rw [c,List.mem_append]
 rw [f.length_eq,List.length_append]
theorem Vb1 {a b:List Int} (ha:IsSet a) (hb:IsSet b):(Z9_ a b).length+(meetL a b).length=a.length+b.length:=by
 have f:a.length=(Z5_ a b).length+(meetL a b).length:=by
  refine Za3 (J0_ a b) (Xm3 a b) ha ?_ ?_
  ·intro x d e
   exact ((Y7_ ha hb x).1 d).2 ((L2_ ha hb x).1 e).2
  ·intro x
   rw [Y7_ ha hb,L2_ ha hb];constructor
   ·intro h
    rcases Decidable.em (x∈b) with c | c
    ·exact .inr ⟨h,c⟩
    ·exact .inl ⟨h,c⟩
   ·rintro (h | h)<;>exact h.1
 have g:(Z9_ a b).length=(Z5_ a b).length+b.length:=by
  refine Za3 (J0_ a b) hb (B6_ a b) ?_ ?_
  ·intro x d
   exact ((Y7_ ha hb x).1 d).2
  ·intro x
   rw [Y7_ ha hb,J1_ ha hb];constructor
   ·rintro (h | h)
    ·rcases Decidable.em (x∈b) with c | c
     ·exact .inr c
     ·exact .inl ⟨h,c⟩
    ·exact .inr h
   ·rintro (h | h)
    ·exact .inl h.1
    ·exact .inr h
 omega
theorem Yn7 (d:Array Int) (hs:∀ i j,i≤j→j<d.size→d[i]!≤d[j]!):∀ m,m≤d.size→(Lib.compactUpTo d m).Pairwise (·<·)∧∀ x,x∈Lib.compactUpTo d m↔∃ j,j<m∧d[j]! = x:=by
 intro m
 induction m with
 | zero=>intro _;exact ⟨by simp [Lib.compactUpTo],by simp [Lib.compactUpTo]⟩
 | succ m ih =>
  intro w;obtain ⟨o,g⟩:=ih q41_;rw [Lib.compactUpTo_succ];by_cases c:Lib.keeps d m=true
  ·rw [if_pos c]
   constructor
   ·rw [List.pairwise_append]
    refine ⟨o,j41_,fun x r y q=>?_⟩;rw [List.mem_singleton] at q;subst q;obtain ⟨j,f,rfl⟩:=(g x).1 r;simp only [Lib.keeps,decide_eq_true_eq] at c;have s:=hs j (m - 1) q41_ q41_;have u:=hs (m - 1) m q41_ q41_;have v:d[m]!≠d[m - 1]!:=by
     rcases c with h | h
     ·omega
     ·exact h
    omega
   ·intro x
    rw [List.mem_append,List.mem_singleton,g];constructor
    ·rintro (⟨j,f,e⟩ | e)
     ·exact ⟨j,q41_,e⟩
     ·exact ⟨m,q41_,e.symm⟩
    ·rintro ⟨j,f,e⟩
     by_cases k:j=m
     ·subst k;exact .inr e.symm
     ·exact .inl ⟨j,q41_,e⟩
  ·have p:Lib.keeps d m=false:=by simpa using c
   rw [if_neg c,List.append_nil];refine ⟨o,fun x=>?_⟩;rw [g];constructor
   ·rintro ⟨j,f,e⟩;exact ⟨j,q41_,e⟩
   ·rintro ⟨j,f,e⟩
    by_cases k:j=m
    ·subst k
     simp only [Lib.keeps,decide_eq_false_iff_not,not_or,Decidable.not_not] at p;exact ⟨j - 1,q41_,by rw [← e,p.2]⟩
    ·exact ⟨j,q41_,e⟩
theorem Zh3 (l:List Int) (h:l.Pairwise (·≤·)):(Lib.compact l).Pairwise (·<·)∧∀ x,x∈Lib.compact l↔x∈l:=by
 have d:∀ i,i<l.length→l.toArray[i]! = l.getD i 0:=by
  intro i hi;rw [getElem!_pos l.toArray i y50_];simp [List.getD,hi]
 have hs:∀ i j,i≤j→j<l.toArray.size→l.toArray[i]!≤l.toArray[j]!:=by
  intro i j m c;have e:j<l.length:=by simpa using c
  rw [d i q41_,d j e];rcases Nat.lt_or_ge i j with f | k
  ·have:=List.pairwise_iff_getElem.1 h i j q41_ e f
   simpa [List.getD,e,show i<l.length from by omega] using this
  ·have:i=j:=by omega
   subst this;exact Int.le_refl _
 have hc:=Yn7 l.toArray hs l.length j41_;refine ⟨hc.1,fun x=>?_⟩;unfold Lib.compact;rw [hc.2];constructor
 ·rintro ⟨j,c,rfl⟩
  rw [d j c];simp [List.getD,c]
 ·intro g
  obtain ⟨j,c,rfl⟩:=List.mem_iff_getElem.1 g;exact ⟨j,c,by rw [d j c];simp [List.getD,c]⟩
theorem Zm8 (l:List Int):Lib.compact ((l.filter fun x=>decide (Fit x)).mergeSort fun x y=>decide (x≤y))=sortL l:=by
 have g:((l.filter fun x=>decide (Fit x)).mergeSort fun x y=>decide (x≤y)).Pairwise (·≤·):=by
  have:=List.pairwise_mergeSort (le:=fun x y:Int=>decide (x≤y)) (fun a b c d e=>by simp at *;omega) (fun a b=>by simp;omega) (l.filter fun x=>decide (Fit x));exact this.imp fun h=>by simpa using h
 obtain ⟨d,e⟩:=Zh3 _ g;have f:∀ x,x∈Lib.compact ((l.filter fun x=>decide (Fit x)).mergeSort fun x y=>decide (x≤y))↔x∈l∧Fit x:=by
  intro x;rw [e,List.mem_mergeSort,List.mem_filter,decide_eq_true_eq]
 exact Yg3 ⟨d,fun x j=>((f x).1 j).2⟩ f
open Go Go.RowKit
theorem info3:(Tryz.prog.info? 3).map (fun i=>(i.zero,i.size,i.bytes))=some (some (.int .i64 0),1,8):=x41_
def Blk (w:World) (g:Nat) (t:TypeId) (cs:Array Value):Prop:=w.heap[g]?=some (.cells cs t (0,0))
section
variable {w w':World} {g:Nat} {t:TypeId} {cs:Array Value}
theorem Blk.lt (h:Blk w g t cs):g<w.heap.size:=by
 rcases Nat.lt_or_ge g w.heap.size with d | c
 ·exact d
 ·unfold Blk at h;rw [Array.getElem?_eq_none c] at h;cases h
theorem Blk.cell (h:Blk w g t cs) (i:Nat):w.cell? ⟨g,i,none⟩=cs[i]?:=cell_of_row w g i cs t (0,0) h
theorem Blk.frozen (h:Blk w g t cs) (i:Nat):w.frozen? ⟨g,i,none⟩=false:=by
 unfold Blk at h;simp [World.frozen?,h]
theorem Blk.new (w:World) (t:TypeId) (cs:Array Value):Blk (w.alloc (.cells cs t)) w.heap.size t cs:=heap_alloc_new w _
theorem Blk.drew (h:Blk w g t cs):Blk w.drew g t cs:=h
theorem Blk.alloc (h:Blk w g t cs) (o:Obj):Blk (w.alloc o) g t cs:=(Below.heap_alloc w o g h.lt).trans h
theorem Blk.set_ (h:Blk w g t cs) (i:Nat) (u:Value):Blk (w.setCell ⟨g,i,none⟩ u) g t (cs.setIfInBounds i u):=by
 unfold Blk at h ⊢;simp [World.setCell,Array.getElem?_modify,h]
theorem Blk.far (h:Blk w g t cs) {p:Addr} (c:g≠p.block) (u:Value):Blk (w.setCell p u) g t cs:=(Below.heap_setCell w p u g c).trans h
theorem Blk.below {B:Nat} (h:Blk w g t cs) (hb:Below B w w') (c:g<B):Blk w' g t cs:=(hb.block g c).trans h
theorem Blk.grown {row:Option Nat} (h:Blk w g t cs) (hb:w.grownBy w' row) (c:some g≠row):Blk w' g t cs:=(hb.block g h.lt c).trans h
end
theorem N2_ {a w:World} {g:Nat} (h:a.grownBy w (some g)) {p:Addr} (c:p.block=g∨a.heap.size≤p.block) (u:Value):a.grownBy (w.setCell p u) (some g) :=
 ⟨h.os,h.tape,h.output,by simpa [World.setCell] using h.size,fun i e d=>(Below.heap_setCell w p u i (by
  rintro rfl;rcases c with c | c
  ·exact d (by rw [c])
  ·omega)).trans (h.block i e d)⟩
theorem Z7_ {a w:World} (h:Below a.heap.size a w) (row:Option Nat):a.grownBy w row:=⟨h.os,h.tape,h.output,h.size,fun i c _=>h.block i c⟩
theorem X9_ {a b c:World} {row:Option Nat} (h:a.grownBy b row) (k:b.grownBy c row):a.grownBy c row :=
 ⟨k.os.trans h.os,k.tape.trans h.tape,k.output.trans h.output,Nat.le_trans h.size k.size,fun i d e=>(k.block i (Nat.lt_of_lt_of_le d h.size) e).trans (h.block i d e)⟩
theorem Y2_ {B:Nat} {a w:World} (h:Below B a w) (n:Nat):Below B a (w.drewN n):=⟨h.os,h.tape,h.output,h.size,h.block⟩
def Row (w:World) (B:Nat) (v:Value) (zs:List Int):Prop :=
 ∃ A c,v=.slice A zs.length c∧(zs.length≤c∧c≤maxLen∧(A=none→c=0))∧∀ k,k<zs.length→∃ ad:Addr,A=some ad∧ad.block<B∧w.cell? (ad.add k)=some (.int .i64 (zs.getD k 0))
theorem add_zero (a:Addr):a.add 0=a:=z51_
theorem Z2_ (a:Addr) (n:Nat):(a.add n).block=a.block:=by unfold Addr.add;split<;>rfl
theorem Row.below {w w':World} {B:Nat} {v:Value} {zs:List Int} (h:Row w B v zs) (hb:Below B w w'):Row w' B v zs:=by
 obtain ⟨A,c,j,g,e⟩:=h;refine ⟨A,c,j,g,fun k f=>?_⟩;obtain ⟨d,hA,hB,hc⟩:=e k f;exact ⟨d,hA,hB,(hb.cell (by rw [Z2_];exact hB)).trans hc⟩
theorem Row.mono {w:World} {B d:Nat} {v:Value} {zs:List Int} (h:Row w B v zs) (hB:B≤d):Row w d v zs:=by
 obtain ⟨A,c,m,j,f⟩:=h;refine ⟨A,c,m,j,fun k g=>?_⟩;obtain ⟨e,hA,hb,hc⟩:=f k g;exact ⟨e,hA,q41_,hc⟩
theorem Row.of_own {w:World} {base:Nat} {v:Value} {n:Nat} {zs:List Int} (h:w.ownsRow base 3 1 v n (zs.map (Value.int .i64))) (j:n=zs.length):Row w w.heap.size v zs:=by
 subst j;rcases h.2 with ⟨rfl,d⟩ | ⟨g,c,m,rfl,hb,o,e,f,_⟩
 ·have:zs=[]:=List.eq_nil_of_length_eq_zero (by simpa using d)
  subst this;exact q11_
 ·refine ⟨_,c,rfl,⟨e,f,fun h=>j51_⟩,fun k hk=>⟨⟨g,0,none⟩,rfl,(h.lt g rfl).2,?_⟩⟩
  refine h.cells (g:=g) rfl k _ ?_;rw [List.getElem?_map,List.getElem?_eq_getElem hk];simp [List.getD,hk]
theorem Row.lit0 (W:World):Row (W.alloc (.cells #[] 3)) (W.heap.size+1) (.slice (some ⟨W.heap.size,0,none⟩) 0 0) []:=⟨_,0,rfl,⟨le_refl _,x42_,fun _=>rfl⟩,fun k c=>absurd c j41_⟩
theorem Row.nil_ (W:World) (B:Nat):Row W B (.slice none 0 0) []:=⟨none,0,rfl,⟨le_refl _,x42_,fun _=>rfl⟩,fun k c=>absurd c j41_⟩
theorem Row.lit1 (W:World) (x:Int):Row (W.alloc (.cells #[.int .i64 x] 3)) (W.heap.size+1) (.slice (some ⟨W.heap.size,0,none⟩) 1 1) [x]:=by
 refine ⟨_,1,rfl,⟨le_refl _,x42_,fun h=>j51_⟩,fun k c=>⟨⟨W.heap.size,0,none⟩,rfl,by show W.heap.size<_;omega,?_⟩⟩;have hb:=Blk.new W 3 #[.int .i64 x]
 match k,c with
 | 0,_=>exact hb.cell 0
theorem Row.lit3 (W:World) (x y z:Int):Row (W.alloc (.cells #[.int .i64 x,.int .i64 y,.int .i64 z] 3)) (W.heap.size+1) (.slice (some ⟨W.heap.size,0,none⟩) 3 3) [x,y,z]:=by
 refine ⟨_,3,rfl,⟨le_refl _,x42_,fun h=>j51_⟩,fun k c=>⟨⟨W.heap.size,0,none⟩,rfl,by show W.heap.size<_;omega,?_⟩⟩;have hb:=Blk.new W 3 #[.int .i64 x,.int .i64 y,.int .i64 z]
 match k,c with
 | 0,_=>exact hb.cell 0
 | 1,_=>exact hb.cell 1
 | 2,_=>exact hb.cell 2
theorem Yg7 (w:World) (t:TypeId) (u:Value):∀ (j:Nat) (v:Value),[u][j]?=some v→(w.alloc (.cells #[u] t)).cell? ((⟨w.heap.size,0,none⟩:Addr).add j)=some v:=by
 intro j v c
 match j,c with
 | 0,c =>
  simp at c;subst c;rw [add_zero];exact (Blk.new w t #[u]).cell 0
theorem Vb2 (x:Int):∀ u∈[Value.int .i64 x],u.oneCell'=true:=by
 intro u c;simp at c;subst c;rfl
def lenOf:Value→Nat
 | .slice _ n _=>n
 | _=>0
def Says (w:World) (b:Bool) (e:Ending) (w':World):Prop:=e=.returned (.bool b)∧Below w.heap.size w w'
def Gives (w:World) (r:List Int) (e:Ending) (w':World):Prop:=∃ v,e=.returned v∧Row w' w'.heap.size v r∧Below w.heap.size w w'
def ints (l:List Int):List Value:=l.map (Value.int .i64)
theorem V6_ (a b:List Int):ints (a ++ b)=ints a ++ ints b:=List.map_append
theorem Y6_ (l:List Int):(ints l).length=l.length:=List.length_map ..
theorem Z6_ {w:World} {ops:Array Oper} {rest:List Oper} {o:Oper} {a:Act} {Q:Exit→Act→World→Prop} (p:o.guard=none) (s x:Operand)
  (D:o.op=.call { callee:=.builtin .append,args:=#[s,x],argTypes:=#[26, 26] })
  (base B:Nat) (v G:Value) (zs ys:List Int) (hs:a.eval s=v) (E:a.eval x=G) (m:w.ownsRow base 3 1 v zs.length (ints zs)) (L:Row w B G ys)
  (V:zs.length≤4194304) (U:ys.length≤4194304) (hb:base≤w.heap.size)
  (h:∀ g w',w'.ownsRow base 3 1 g (zs ++ ys).length (ints (zs ++ ys))→w.grownBy w' v.ownBlock→wpList Tryz.prog ops Q rest (a.put o.dst g) w'):wpList Tryz.prog ops Q (o :: rest) a w:=by
 obtain ⟨F,q,O,P,R⟩:=info_parts info3;obtain ⟨A,c,rfl,K,C⟩:=L;have J:∀ d,A=some d→∀ j u,(ints ys)[j]?=some u→w.cell? (d.add j)=some u:=by
  intro d hA j u f;have k:j<ys.length:=by
   have:=(List.getElem?_eq_some_iff.1 f).1;simpa [ints] using this
  obtain ⟨T,e,_,hc⟩:=C j k;rw [hA] at e;have e:=Option.some.inj e;subst e;rw [hc];rw [ints,List.getElem?_map,List.getElem?_eq_getElem k] at f;simp at f;rw [← f];simp [List.getD,k]
 have S:∀ d,A=some d→wpList Tryz.prog ops Q (o :: rest) a w:=by
  intro d hA;refine wpList_append_own w p s x _ D base 3 F (.int .i64 0) 1 8 x41_ q O P R rfl x42_ v zs.length (ints zs) hs m d ys.length c (ints ys) (by rw [E,hA]) (by simp [ints]) (J d hA) ?_ ?_ ?_ hb ?_
  ·intro u M
   obtain ⟨z,_,rfl⟩:=List.mem_map.1 M;rfl
  ·unfold maxLen;omega
  ·omega
  ·intro g w' H I _
   refine h g w' ?_ I;rw [V6_,List.length_append];exact H
 cases A with
 | some d=>exact S d rfl
 | none =>
  have N:ys=[]:=by
   cases ys with
   | nil=>rfl
   | cons y r =>
    obtain ⟨_,hA,_⟩:=C 0 j41_;cases hA
  subst N;have hc:=K.2.2 rfl;subst hc;refine wpList_append_own_none p s x _ D base 3 F 1 x41_ q v zs.length (ints zs) hs m E ?_;exact h v w (by rw [List.append_nil];exact m) ⟨rfl,rfl,rfl,le_refl _,fun _ _ _=>rfl⟩
def Truly (w:World) (e:Ending) (w':World):Prop:=e=.returned (.bool true)∧Below w.heap.size w w'
theorem Row.up {w w':World} {v:Value} {l:List Int} (h:Row w w.heap.size v l) (hb:Below w.heap.size w w'):Row w' w'.heap.size v l:=(h.below hb).mono hb.size
theorem Z0_ {B:Nat} {a b c:World} (h:Below B a b) (hB:B≤a.heap.size) (k:Below b.heap.size b c):Below B a c:=h.trans (k.mono (Nat.le_trans hB h.size))
theorem Row.here {w:World} {o:Obj} {v:Value} {l:List Int} (h:Row (w.alloc o) (w.heap.size+1) v l):Row (w.alloc o) (w.alloc o).heap.size v l:=by
 have e:(w.alloc o).heap.size=w.heap.size+1:=j41_;rw [e];exact h
theorem Row.upA {w:World} {v:Value} {l:List Int} (h:Row w w.heap.size v l) (o:Obj):Row (w.alloc o) (w.alloc o).heap.size v l:=h.up ((Below.refl _ w).alloc (le_refl _) o)
end Go.Proofs.YtnbcaibflhgdoaaGreatDoor.Wp
namespace Go.Proofs.YtnbcaibflhgdoaaGreatDoor
open Go.RowKit
namespace Wp
def Rows2 (w:World) (B:Nat) (v:Value) (pp:List (List Int)):Prop :=
 ∃ A c,v=.slice A pp.length c∧(pp.length≤c∧c≤maxLen∧(A=none→c=0)) ∧
  ∀ k,k<pp.length→∃ (ad:Addr) (u:Value),A=some ad∧ad.block<B∧w.cell? (ad.add k)=some u∧Row w B u (pp.getD k [])
theorem Rows2.below {w w':World} {B:Nat} {v:Value} {pp:List (List Int)} (h:Rows2 w B v pp) (hb:Below B w w'):Rows2 w' B v pp:=by
 obtain ⟨A,c,o,m,g⟩:=h;refine ⟨A,c,o,m,fun k j=>?_⟩;obtain ⟨d,u,hA,hB,e,f⟩:=g k j;exact ⟨d,u,hA,hB,(hb.cell (by rw [Z2_];exact hB)).trans e,f.below hb⟩
theorem Rows2.mono {w:World} {B d:Nat} {v:Value} {pp:List (List Int)} (h:Rows2 w B v pp) (hB:B≤d):Rows2 w d v pp:=by
 obtain ⟨A,c,p,o,j⟩:=h;refine ⟨A,c,p,o,fun k m=>?_⟩;obtain ⟨e,u,hA,hb,f,g⟩:=j k m;exact ⟨e,u,hA,q41_,f,g.mono hB⟩
theorem Rows2.up {w w':World} {v:Value} {pp:List (List Int)} (h:Rows2 w w.heap.size v pp) (hb:Below w.heap.size w w'):Rows2 w' w'.heap.size v pp:=(h.below hb).mono hb.size
theorem Zx4 {w:World} {j k:Nat} {e f:TypeId} {y z v x:Nat} {d h:Value} {A B:List Value} (o:w.ownsRow j e y d v A) (p:w.ownsRow k f z h x B) (u:e≠f) :
  d.ownBlock=none∨d.ownBlock≠h.ownBlock:=by
 rcases o.2 with ⟨rfl,_⟩ | ⟨g,C,E,rfl,_,s,_⟩
 ·exact .inl rfl
 ·right
  rcases p.2 with ⟨rfl,_⟩ | ⟨m,D,F,rfl,_,c,_⟩
  ·simp [Value.ownBlock]
  ·intro q
   have r:g=m:=by simpa [Value.ownBlock] using q
   subst r;rw [s] at c;injection c with c;injection c with _ ht;exact u ht
def Fam (w:World) (B:Nat) (vs:List Value) (pp:List (List Int)):Prop :=
 vs.length=pp.length∧(∀ (i:Nat) (v:Value) (p:List Int),vs[i]?=some v→pp[i]?=some p→w.ownsRow B 3 1 v p.length (ints p)) ∧
  ∀ (i j:Nat) (v u:Value),vs[i]?=some v→vs[j]?=some u→i≠j→v.ownBlock=none∨v.ownBlock≠u.ownBlock
theorem Yj3 (w:World) (B:Nat):Fam w B [] []:=⟨rfl,fun i v p h=>by simp at h,fun i j v u h=>by simp at h⟩
theorem Fam.kept {w w':World} {B:Nat} {c:List Value} {pp:List (List Int)} (h:Fam w B c pp) {row:Option Nat} (e:w.grownBy w' row) (g:∀ v∈c,v.ownBlock=none∨v.ownBlock≠row):Fam w' B c pp :=
 ⟨h.1,fun i v p d f=>(h.2.1 i v p d f).kept e (g v (List.mem_of_getElem? d)),h.2.2⟩
theorem Fam.apart {w w':World} {B:Nat} {c:List Value} {pp:List (List Int)} (h:Fam w B c pp) {g:Nat} (f:w.grownBy w' (some g)) (p:g<B):Fam w' B c pp:=by
 refine h.kept f fun v o=>?_;obtain ⟨i,e,rfl⟩:=List.mem_iff_getElem.1 o;have j:i<pp.length:=by rw [← h.1];exact e
 have m:=h.2.1 i _ _ (List.getElem?_eq_getElem e) (List.getElem?_eq_getElem j);rcases hb:c[i].ownBlock with _ | k
 ·exact .inl rfl
 ·right
  have:=m.lt k hb;intro d;injection d with d;omega
theorem Fam.new {w w':World} {B:Nat} {c:List Value} {pp:List (List Int)} (h:Fam w B c pp) (d:w.grownBy w' none):Fam w' B c pp :=
 h.kept d fun v _=>by
  rcases v.ownBlock with _ | k
  ·exact .inl rfl
  ·exact .inr j41_
theorem Fam.more {w:World} {B:Nat} {c:List Value} {pp:List (List Int)} (h:Fam w B c pp):Fam w B (c ++ [.slice none 0 0]) (pp ++ [[]]):=by
 have o:(Value.slice none 0 0).ownBlock=none:=rfl;refine ⟨by simp [h.1],fun i v p hv hp=>?_,fun i j v u hv d f=>?_⟩
 ·by_cases hi:i<c.length
  ·exact z18_
  ·have e:i=c.length:=x19_
   subst e;rw [List.getElem?_append_right (le_refl _)] at hv;rw [h.1,List.getElem?_append_right (le_refl _)] at hp;simp at hv hp;subst hv hp;exact World.ownsRow_nil _ _ _ _
 ·by_cases hi:i<c.length
  ·rw [List.getElem?_append_left hi] at hv
   by_cases g:j<c.length
   ·rw [List.getElem?_append_left g] at d
    exact h.2.2 i j v u hv d f
   ·have m:j=c.length:=by
     have:=(List.getElem?_eq_some_iff.1 d).1;simp at this;omega
    subst m;rw [List.getElem?_append_right (le_refl _)] at d;simp at d;subst d;rw [o];rcases v.ownBlock with _ | k
    ·exact .inl rfl
    ·exact .inr j41_
  ·have e:i=c.length:=x19_
   subst e;rw [List.getElem?_append_right (le_refl _)] at hv;simp at hv;subst hv;exact .inl rfl
theorem Fam.grow {w w':World} {B:Nat} {m:List Value} {pp:List (List Int)} (h:Fam w B m pp) {at_:Nat} {u u':Value} {q:List Int} (x:m[at_]?=some u) (C:w.grownBy w' u.ownBlock)
  (F:w'.ownsRow B 3 1 u' q.length (ints q)) (hl:u'.ownBlock=u.ownBlock∨u'.ownBlock=some w.heap.size):Fam w' B (m.set at_ u') (pp.set at_ q):=by
 have o:at_<m.length:=(List.getElem?_eq_some_iff.1 x).1;have A:∀ (j:Nat) (v:Value),m[j]?=some v→∀ k,v.ownBlock=some k→k<w.heap.size:=by
  intro j v c k E;have s:=(List.getElem?_eq_some_iff.1 c).1;have D:j<pp.length:=by rw [← h.1];exact s
  exact ((h.2.1 j v _ c (List.getElem?_eq_getElem D)).lt k E).2
 refine ⟨by simp [h.1],fun i v p c g=>?_,fun i j v z c d y=>?_⟩
 ·by_cases f:i=at_
  ·subst f
   rw [List.getElem?_set_self o] at c;rw [List.getElem?_set_self (by rw [← h.1];exact o)] at g;injection c with c;injection g with g;subst c g;exact F
  ·rw [List.getElem?_set_ne (fun e=>f e.symm)] at c g
   exact (h.2.1 i v p c g).kept C (h.2.2 i at_ v u c x f)
 ·by_cases f:i=at_
  ·subst f
   rw [List.getElem?_set_self o] at c;injection c with c;subst c;rw [List.getElem?_set_ne y] at d;rcases hl with hl | hl
   ·rw [hl]
    exact h.2.2 i j u z x d y
   ·right
    rw [hl];intro r;have:=A j z d _ r.symm;omega
  ·rw [List.getElem?_set_ne (fun e=>f e.symm)] at c
   by_cases s:j=at_
   ·subst s
    rw [List.getElem?_set_self o] at d;injection d with d;subst d;rcases hl with hl | hl
    ·rw [hl]
     exact h.2.2 i j v u c x f
    ·rcases hb:v.ownBlock with _ | k
     ·exact .inl rfl
     ·right
      rw [hl];intro r;injection r with r;have:=A i v c k hb;omega
   ·rw [List.getElem?_set_ne (fun e=>s e.symm)] at d
    exact h.2.2 i j v z c d y
theorem X6_ {w:World} {ops:Array Oper} {rest:List Oper} {o:Oper} {a:Act} {Q:Exit→Act→World→Prop} (r:o.guard=none) (s x:Operand) (T e:TypeId) (z:Value) (f:Nat)
  (D:o.op=.call { callee:=.builtin .append,args:=#[s,x],argTypes:=#[T,T] }) (F:Tryz.prog.underlying T=some (.slice e)) (C:(Tryz.prog.info? e).map (fun i=>(i.zero,i.size,i.bytes))=some (some z,1,f)) (K:z.cells.size=1)
  (base:Nat) (v u:Value) (c:List Value) (hs:a.eval s=v) (E:w.ownsRow base e 1 v c.length c) (g:Nat) (G:a.eval x=.slice (some ⟨g,0,none⟩) 1 1) (hc:w.cell? ⟨g,0,none⟩=some u) (p:u.oneCell'=true)
  (hl:c.length≤4194304) (q:f≤1024) (hb:base≤w.heap.size)
  (h:∀ d w',w'.ownsRow base e 1 d (c.length+1) (c ++ [u])→w.grownBy w' v.ownBlock→(d.ownBlock=v.ownBlock∨d.ownBlock=some w.heap.size)→wpList Tryz.prog ops Q rest (a.put o.dst d) w'):wpList Tryz.prog ops Q (o :: rest) a w:=by
 obtain ⟨L,B,H,I,J⟩:=info_parts C;refine wpList_append_own_at w r s x T D base e L z 1 f F B H I J K x42_ v c.length c hs E ⟨g,0,none⟩ 1 1 [u] G j41_ ?_ ?_ ?_ ?_ hb ?_
 ·intro j y k
  match j,k with
  | 0,k =>
   simp at k;subst k;rw [add_zero];exact hc
 ·intro y m
  simp at m;subst m;exact p
 ·unfold maxLen;omega
 ·have:(c.length+1) * f≤4194305 * 1024:=Nat.mul_le_mul q41_ q
  omega
 ·intro d w' M N _ O
  exact h d w' M N O
theorem L3_ {w:World} {B:Nat} {e:TypeId} {v:Value} {n:Nat} {f:List Value} (h:w.ownsRow B e 1 v n f) (j:0<n):∃ g c,v=.slice (some ⟨g,0,none⟩) n c∧B≤g:=by
 rcases h.2 with ⟨_,rfl⟩ | ⟨g,c,_,d,hb,_⟩
 ·omega
 ·exact ⟨g,c,d,hb⟩
theorem Q3_ {w:World} {B:Nat} {e:TypeId} {v:Value} {n:Nat} {f:List Value} (h:w.ownsRow B e 1 v n f):∃ A c,v=.slice A n c:=by
 rcases h.2 with ⟨rfl,rfl⟩ | ⟨g,c,_,d,_⟩
 ·exact ⟨none,0,rfl⟩
 ·exact ⟨_,c,d⟩
theorem Fam.rows {w:World} {B:Nat} {v:Value} {c:List Value} {pp:List (List Int)} (h:Fam w B c pp) (d:w.ownsRow B 26 1 v c.length c):Rows2 w w.heap.size v pp:=by
 have q:∀ k,k<pp.length→∃ u,c[k]?=some u∧Row w w.heap.size u (pp.getD k []):=by
  intro k hk;have f:k<c.length:=by rw [h.1];exact hk
  refine ⟨c[k],List.getElem?_eq_getElem f,?_⟩;have:=h.2.1 k _ _ (List.getElem?_eq_getElem f) (List.getElem?_eq_getElem hk);rw [show pp.getD k []=pp[k] from by simp [List.getD,hk]];exact Row.of_own this rfl
 rcases d.2 with ⟨rfl,m⟩ | ⟨g,j,x,rfl,hb,y,o,p,_⟩
 ·have hp0:pp.length=0:=by rw [← h.1];exact m
  exact z38_
 ·refine ⟨some ⟨g,0,none⟩,j,by rw [h.1],⟨by rw [← h.1];exact o,p,fun e=>by cases e⟩,fun k hk=>?_⟩
  obtain ⟨u,s,r⟩:=q k hk;exact ⟨_,u,rfl,(d.lt g rfl).2,d.cells (g:=g) rfl k u s,r⟩
open Go.RowKit
theorem X3_ {w w':World} {b c:Bool} {e:Ending} (hb:b=c) (d:e=.returned (.bool c)) (h:Below w.heap.size w w'):Says w b e w':=⟨by rw [hb];exact d,h⟩
theorem Yg8 (l:List Int) (k:Nat) (f:k<l.length) (h:IsSet (l.take k)) (m:Fit (l.getD k 0)) (d:k=0∨l.getD (k - 1) 0<l.getD k 0):IsSet (l.take (k+1)):=by
 have e:l.take (k+1)=l.take k ++ [l.getD k 0]:=by
  rw [List.take_succ_eq_append_getElem f];simp [List.getD,f]
 rw [e];refine ⟨?_,fun x c=>?_⟩
 ·rw [List.pairwise_append]
  refine ⟨h.1,j41_,fun x c y g=>?_⟩;rw [List.mem_singleton] at g;subst g;obtain ⟨j,o,rfl⟩:=List.mem_iff_getElem.1 c;rw [List.length_take] at o;rcases d with q | d
  ·omega
  ·have hl:l.getD (k - 1) 0=(l.take k)[k - 1]'x44_:=by
    simp [List.getD,show k - 1<l.length from by omega]
   rw [hl] at d;rcases Nat.lt_or_ge j (k - 1) with p | r
   ·have:=List.pairwise_iff_getElem.1 h.1 j (k - 1) x44_ x44_ p
    omega
   ·have:j=k - 1:=by omega
    subst this;exact d
 ·rw [List.mem_append,List.mem_singleton] at c
  rcases c with c | c
  ·exact h.2 x c
  ·subst c;exact m
theorem Zs3 (l:List Int) (k:Nat) (c:k<l.length) (h:¬ Fit (l.getD k 0)∨(0<k∧l.getD k 0≤l.getD (k - 1) 0)):mayB l=false:=by
 rw [← Bool.not_eq_true,mayB_iff];intro hs;have d:l.getD k 0∈l:=by simp [List.getD,c]
 rcases h with h | ⟨e,h⟩
 ·exact h (hs.2 _ d)
 ·have:=List.pairwise_iff_getElem.1 hs.1 (k - 1) k q41_ c q41_
  simp [List.getD,c,show k - 1<l.length from by omega] at h;omega
theorem Xx9 (l:List Int) (k:Nat) (c:k=l.length) (h:IsSet (l.take k)):mayB l=true:=by
 subst c;rw [List.take_length] at h;exact I3_ h
theorem F1_ (w:World) {w':World} (h:Below w.heap.size w w') {r:List Int} (c:r=[]):Gives w r (.returned (.slice none 0 0)) w':=⟨_,rfl,by rw [c];exact Row.nil_ _ _,h⟩
theorem Zs4 {a b:List Int} (ha:mayB a=true) (hb:mayB b=true):Z9_ a b=sortL (a ++ b):=by unfold Z9_;rw [ha,hb];rfl
theorem Zs5 {a b:List Int} (ha:mayB a=false):Z9_ a b=[]:=by unfold Z9_;rw [ha];rfl
theorem Zs6 {a b:List Int} (hb:mayB b=false):Z9_ a b=[]:=by unfold Z9_;rw [hb,Bool.and_false];rfl
def B7_ (a b:List Int) (w:Bool) (k:Nat):List Int:=(a.take k).filter fun x=>b.contains x==w
theorem Zz2 (a b:List Int) (w:Bool) (k:Nat) (h:k<a.length) (c:b.contains (a.getD k 0)=w):B7_ a b w (k+1)=B7_ a b w k ++ [a.getD k 0]:=by
 unfold B7_;rw [List.take_succ_eq_append_getElem h,List.filter_append];have e:a[k]=a.getD k 0:=q50_;rw [e];congr 1;rw [List.filter_cons,if_pos (by simpa using c)];rfl
theorem Za4 (a b:List Int) (w:Bool) (k:Nat) (h:k<a.length) (c:¬ b.contains (a.getD k 0)=w):B7_ a b w (k+1)=B7_ a b w k:=by
 unfold B7_;rw [List.take_succ_eq_append_getElem h,List.filter_append];have e:a[k]=a.getD k 0:=q50_;rw [e,List.filter_cons,if_neg (by simpa using c)];simp
theorem L4_ (a b:List Int) (w:Bool) (k:Nat):(B7_ a b w k).length≤a.length:=by
 unfold B7_;refine Nat.le_trans (List.length_filter_le _ _) ?_;simp;omega
theorem Zz3 (a b:List Int) (w:Bool) (ha:mayB a=true) (hb:mayB b=true):B7_ a b w a.length=partL a b w:=by
 unfold B7_ partL;rw [List.take_length,ha,hb];rfl
theorem Zm9 {a b:List Int} {w:Bool} (ha:mayB a=false):partL a b w=[]:=by unfold partL;rw [ha];rfl
theorem Zn0 {a b:List Int} {w:Bool} (hb:mayB b=false):partL a b w=[]:=by unfold partL;rw [hb,Bool.and_false];rfl
theorem Vb3 {a b:List Int} (ha:mayB a=false):subB a b=false:=by unfold subB;rw [ha];rfl
theorem Vb4 {a b:List Int} (hb:mayB b=false):subB a b=false:=by unfold subB;rw [hb,Bool.and_false];rfl
theorem Vb5 {a b:List Int} (ha:mayB a=true) (hb:mayB b=true):subB a b=decide (Z5_ a b=[]):=by unfold subB;rw [ha,hb];rfl
open Go.RowKit
theorem Xm4 (x:Int) (w:World):Calls Tryz.prog 83 #[.int .i64 x] w fun e w'=>e=.returned (.bool (decide (Fit x)))∧w'=w:=by
 by_cases c:0≤x
 ·by_cases d:x≤1099511627776
  ·have hf:decide (Fit x)=true:=by simp [Fit,c,d]
   exact q34_
  ·have hf:decide (Fit x)=false:=by simp [Fit,d]
   exact q34_
 ·have hf:decide (Fit x)=false:=by simp [Fit,c]
  exact q34_
theorem Zz4 (x:Int) (b:Bool) (h:decide (Fit x)=b) (w:World):Calls Tryz.prog 83 #[.int .i64 x] w fun e w'=>e=.returned (.bool b)∧w'=w:=by
 subst h;exact Xm4 x w
theorem may_any (v:Value) (l:List Int) (w:World) (C:Row w w.heap.size v l) (hl:l.length≤9223372036854775807):Calls Tryz.prog 53 #[v] w (Says w (mayB l)):=by
 obtain ⟨A,c,rfl,_,p⟩:=C;have Hcell:=hid p;clear p;have L:(l.length:Int)≤9223372036854775807:=q41_
 go_enter Tryz.func53,Tryz.ntmps53
 go_wp2
 go_loopw [7] (fun m wr=>∃ k q:Nat,m=.int .i64 k∧k≤l.length∧wr=w.drewN q∧IsSet (l.take k)) (fun m _=>l.length - (intOf m).toNat)
 case atStart=>exact ⟨0,0,rfl,Nat.zero_le _,rfl,by simpa using X7_⟩
 case round =>
  obtain ⟨k,q,rfl,J,u,s⟩:=hrel;have Hwr:=hid u;have Hset:=hid s;clear u s;by_cases h:k<l.length
  ·obtain ⟨o,hA,G,hc⟩:=Hcell.out k h
   subst hA;have g:wr.cell? (o.add k)=some (.int .i64 (l.getD k 0)):=by rw [Hwr.out];exact hc
   clear hc;have d:=hid (Yg8 l k h Hset.out);have Hfail:=hid (Zs3 l k h);have Hq:Hid (Below w.heap.size w wr):=y29_;by_cases B:k=0
   ·subst B
    rw [add_zero] at g;generalize l.getD 0 0=x at g d Hfail;by_cases hx:Fit x
    ·have hfx:=Zz4 x true k45_
     go_wp2_with (go_at_call 83;refine (hfx _).mono ?_;rintro e w' ⟨rfl,rfl⟩)
     go_roundw
     case rel=>exact ⟨1,q,rfl,q41_,Hwr.out,d.out hx (.inl trivial)⟩
     case measure=>simp [intOf];omega
    ·exact z13_
   ·obtain ⟨j,r⟩:∃ j,j+1=k:=⟨k - 1,q41_⟩
    have H:(k:Int) - 1=(j:Int):=q41_;have I:(j:Int)<(l.length:Int):=q41_;have z:wr.cell? (o.add j)=some (.int .i64 (l.getD j 0)):=y19_;have F:=hid r;have K:0<(k:Int):=q41_;rw [show k - 1=j from by omega] at d Hfail;clear r;generalize l.getD k 0=x at g d Hfail;generalize l.getD j 0=y at z d Hfail;by_cases hx:Fit x
    ·have hfx:=Zz4 x true k45_
     by_cases E:y<x
     ·go_wp2_with (go_at_call 83;refine (hfx _).mono ?_;rintro e w' ⟨rfl,rfl⟩)
      go_roundw
      case rel=>exact ⟨k+1,q,z42_,q41_,Hwr.out,d.out hx (.inr E)⟩
      case measure=>simp [intOf];omega
     ·have D:x≤y:=by omega
      go_wp2_with (go_at_call 83;refine (hfx _).mono ?_;rintro e w' ⟨rfl,rfl⟩)
      go_ret;exact X3_ (Hfail.out (.inr ⟨q41_,D⟩)) rfl Hq.out
    ·exact z13_
  ·exact k13_
open Go.RowKit
def okA (right:Int) (l:List Int):Bool:=mayB l && (decide (l.length=0) || decide (l.getD (l.length - 1) 0<right))
def mayM (right:Int) (adj:List (List Int)):Bool:=decide (0≤right∧right≤64) && decide (adj.length≤64) && adj.all (okA right)
theorem mayM_off {right:Int} {adj:List (List Int)} (h:right<0∨64<right∨64<(adj.length:Int)):mayM right adj=false:=k21_
theorem mayM_miss {right:Int} {adj:List (List Int)} {i:Nat} (hi:i<adj.length) (h:okA right (adj.getD i [])=false):mayM right adj=false:=by
 unfold mayM;exact z4_
theorem mayM_all {right:Int} {adj:List (List Int)} (c:¬ right<0) (d:¬ 64<right) (h3:¬ 64<(adj.length:Int)) (h:∀ i,i<adj.length→okA right (adj.getD i [])=true):mayM right adj=true:=j34_
theorem Xv0 {right:Int} {l:List Int} (h:mayB l=false):okA right l=false:=by simp [okA,h]
theorem Zn1 {right:Int} {l:List Int} (h:mayB l=true) (c:l.length=0):okA right l=true:=by simp [okA,h,c]
theorem Zj5 {right x:Int} {l:List Int} (h:mayB l=true) (c:0<l.length) (hx:l.getD (l.length - 1) 0=x):okA right l=decide (x<right):=by
 unfold okA;exact q22_
theorem mayset_is (v:Value) (l:List Int) (b:Bool) (h:mayB l=b) (w:World) (hr:Row w w.heap.size v l):Calls Tryz.prog 53 #[v] w (Says w b):=y22_
theorem kmay_any (right:Int) (v:Value) (adj:List (List Int)) (w:World) (N:Rows2 w w.heap.size v adj) :
  Calls Tryz.prog 113 #[.int .i64 right,v] w (Says w (mayM right adj)):=by
 obtain ⟨A,c,rfl,_,y⟩:=N;have G:=hid y;clear y;by_cases o:right<0
 ·rw [mayM_off (.inl o)]
  exact y32_
 by_cases q:64<right
 ·rw [mayM_off (.inr (.inl q))]
  exact y32_
 by_cases r:64<(adj.length:Int)
 ·rw [mayM_off (.inr (.inr r))]
  exact y32_
 have Hall:=hid (fun h=>mayM_all (adj:=adj) o q r h)
 go_enter Tryz.func113,Tryz.ntmps113
 go_wp2
 go_loopw [20] (fun m wr=>∃ i:Nat,m=.int .i64 i∧i≤adj.length∧Below w.heap.size w wr∧∀ j,j<i→okA right (adj.getD j [])=true) (fun m _=>adj.length - (intOf m).toNat)
 case atStart=>exact ⟨0,rfl,Nat.zero_le _,Below.refl _ _,fun j C=>absurd C (Nat.not_lt_zero _)⟩
 case round =>
  obtain ⟨i,rfl,R,s,E⟩:=hrel;have Hbr:=hid s;have Hok:=hid E;clear s E;by_cases D:i<adj.length
  ·have S:(i:Int)<(adj.length:Int):=by omega
   obtain ⟨I,u,hA,hab,B,g⟩:=G.out i D;subst hA;have K:=(Hbr.out.cell (p:=I.add i) q43_).trans B;have Hru:=hid ((g.below Hbr.out).mono Hbr.out.size);have Hmiss:=hid (fun h=>mayM_miss (right:=right) D h);have Hnext:Hid (okA right (adj.getD i [])=true→∀ j,j<i+1→okA right (adj.getD j [])=true):=fun h j C=>j11_;clear B hab Hok;generalize adj.getD i []=l at *
   rcases hm:mayB l with _ | _
   ·have Hm:=hid hm
    obtain ⟨F,J,rfl,_⟩:=g;clear hm;rw [Hmiss.out (Xv0 Hm.out)];exact j40_
   ·have Hm:=hid hm
    obtain ⟨F,J,rfl,hcap,z⟩:=g;have H:=hid z;obtain ⟨L,hL⟩:∃ L,l.length=L:=⟨_,rfl⟩;have HL:=hid hL;have Q:(L:Int)≤9223372036854775807:=z6_;rw [hL] at K Hru;clear hm z hcap hL;by_cases h0:L=0
    ·have hok1:=hid (Zn1 (right:=right) Hm.out (HL.out.trans h0))
     exact j7_
    ·obtain ⟨x,k⟩:∃ x,l.getD (l.length - 1) 0=x:=⟨_,rfl⟩
     obtain ⟨al,M,halb,d⟩:=H.out (l.length - 1) x52_;have Hlast:=hid (Zj5 (right:=right) Hm.out x52_ k);rw [k,HL.out] at d;subst M;have P:(0:Int)<(L:Int):=q41_;have T:IntKind.i64.wrap ((L:Int) - 1)=(L:Int) - 1:=q42_;have U:(0:Int)≤(L:Int) - 1:=q41_;have V:(L:Int) - 1<(L:Int):=q41_;have W:((L:Int) - 1).toNat=L - 1:=q41_;clear k h0
     go_wp2_with fail
     refine (mayset_is _ l true Hm.out _ Hru.out).mono ?_;rintro e w1 ⟨rfl,hb1⟩;have Hb1:=hid (Z0_ Hbr.out (le_refl _) hb1);have O:=(Hb1.out.cell (p:=al.add (L - 1)) j48_).trans d;clear hb1 d;by_cases hxr:x<right
     ·have hxr2:¬ right≤x:=by omega
      have Hok1:Hid (okA right l=true):=Hlast.out.trans (decide_eq_true hxr);exact x6_
     ·exact j35_
  ·exact x7_
open Go.RowKit
def from_ (x:Int):List Int→List Int
 | []=>[]
 | y :: r=>if y<x then from_ x r else y :: r
theorem Vb6 {x y:Int} {r:List Int} (h:y<x):from_ x (y :: r)=from_ x r:=by rw [from_,if_pos h]
theorem Vb7 {x y:Int} {r:List Int} (h:¬ y<x):from_ x (y :: r)=y :: r:=by rw [from_,if_neg h]
theorem Yg9 (x:Int):∀ l,(from_ x l).Sublist l
 | []=>List.Sublist.refl _
 | y :: r=>by
  unfold from_;split
  ·exact (Yg9 x r).cons y
  ·exact List.Sublist.refl _
theorem Yh0 (x z:Int) (c:x≤z):∀ l,(z∈from_ x l↔z∈l)
 | []=>Iff.rfl
 | y :: r=>by
  unfold from_;split
  ·rw [Yh0 x z c r,List.mem_cons]
   constructor
   ·exact .inr
   ·rintro (e | h)
    ·omega
    ·exact h
  ·exact Iff.rfl
theorem Xv1 (x:Int) (l:List Int) (h:l.Pairwise (·<·)) (y:Int) (r:List Int) (c:l=y :: r) (f:¬ y<x):(x∈l↔y=x):=by
 subst c;rw [List.pairwise_cons] at h;rw [List.mem_cons];constructor
 ·rintro (e | d)
  ·exact e.symm
  ·have:=h.1 x d;omega
 ·intro e;exact .inl e.symm
def Zx5 (a b b':List Int) (k:Nat):Prop:=b'.Pairwise (·<·)∧b'.length≤b.length∧∀ i,k≤i→i<a.length→(a.getD i 0∈b↔a.getD i 0∈b')
theorem Zs7 {a b:List Int} (hb:IsSet b):Zx5 a b b 0:=⟨hb.1,le_refl _,fun _ _ _=>Iff.rfl⟩
theorem Yj4 {a b c:List Int} {k:Nat} (ha:IsSet a) (e:k<a.length) (h:Zx5 a b c k):Zx5 a b (from_ (a.getD k 0) c) k:=by
 have hs:=Yg9 (a.getD k 0) c;refine ⟨h.1.sublist hs,Nat.le_trans hs.length_le h.2.1,fun i f d=>?_⟩;rw [h.2.2 i f d,Yh0 _ _ ?_];rcases Nat.lt_or_ge k i with g | j
 ·have:=List.pairwise_iff_getElem.1 ha.1 k i e d g
  simp [List.getD,e,d];omega
 ·have:i=k:=by omega
  subst this;exact Int.le_refl _
theorem E1_ {a b c:List Int} {k:Nat} (h:Zx5 a b c k):Zx5 a b c (k+1):=⟨h.1,h.2.1,fun i d=>h.2.2 i q41_⟩
theorem Yn8 {a b:List Int} {k:Nat} (c:k<a.length) (h:Zx5 a b [] k):b.contains (a.getD k 0)=false:=by
 have:=h.2.2 k (le_refl _) c;rw [← Bool.not_eq_true,List.contains_iff_mem,this];simp
theorem Yj5 {a b:List Int} {k:Nat} {y:Int} {r:List Int} (d:k<a.length) (h:Zx5 a b (y :: r) k) (e:¬ y<a.getD k 0):b.contains (a.getD k 0)=decide (y=a.getD k 0):=by
 have c:=h.2.2 k (le_refl _) d;rw [Xv1 _ _ h.1 y r rfl e] at c;rw [Bool.eq_iff_iff,List.contains_iff_mem,c,decide_eq_true_iff]
theorem Row.tail {w:World} {B:Nat} {v:Value} {y:Int} {r:List Int} (h:Row w B v (y :: r)):∃ d c,v=.slice (some d) (r.length+1) (c+1)∧w.cell? d=some (.int .i64 y)∧d.block<B∧r.length≤c∧c+1≤maxLen∧∀ f:Option Addr,(f=some (d.add 1)∨(c=0∧f=some d))→Row w B (.slice f r.length c) r:=by
 obtain ⟨A,c,rfl,⟨j,q,h3⟩,p⟩:=h;obtain ⟨d,rfl,o,hc⟩:=p 0 j41_;rw [add_zero] at hc;obtain ⟨g,rfl⟩:∃ g,c=g+1:=⟨c - 1,by simp at j;omega⟩;refine ⟨d,g,j41_,by simpa using hc,o,by simpa using j,q,fun f hA=>⟨f,g,rfl,⟨by simpa using j,q41_,fun e=>by rcases hA with h | ⟨_,h⟩<;>rw [e] at h<;>cases h⟩,fun k C=>?_⟩⟩;rcases hA with rfl | ⟨x,_⟩
 ·obtain ⟨u,m,z,s⟩:=p (k+1) k41_
  injection m with m;subst m;refine ⟨_,rfl,by rw [Z2_];exact o,?_⟩;have e:(d.add 1).add k=d.add (k+1):=by rw [Addr.add_add,Nat.add_comm]
  rw [e,s];simp
 ·simp at j;omega
theorem Vb8 (M N:Value) (a b:List Int) (within:Bool) (w:World) (ha:Row w w.heap.size M a) (hb:Row w w.heap.size N b) (W:a.length≤1048576) (X:b.length≤1048576) (p:mayB a=true) (q:mayB b=true) :
  Calls Tryz.prog 82 #[M,N,.bool within] w (Gives w (partL a b within)):=by
 have O:=hid ha;have D:=hid hb;obtain ⟨A1,c1,rfl,_,H⟩:=ha;obtain ⟨A2,c2,rfl,_⟩:=hb;have P:=hid H;clear H;have Hall:=hid (Zz3 a b within p q);have Q:=hid (mayB_iff.1 p);have R:=hid (mayB_iff.1 q)
 go_enter Tryz.func82,Tryz.ntmps82
 go_wp2_with fail
 refine (may_any _ a w O.out (Nat.le_trans W x42_)).mono ?_;rintro e w1 ⟨rfl,g⟩;rw [p]
 go_wp2_with fail
 refine (may_any _ b w1 ((D.out.below g).mono g.size) (Nat.le_trans X x42_)).mono ?_;rintro e w2 ⟨rfl,G⟩;rw [q];have hB2:Below w.heap.size w w2:=g.trans (G.mono g.size);clear g G p q;go_wp2
 go_loopw [1,7,21] (fun Y Z B wr=>∃ (k:Nat) (d:List Int),B=.int .i64 k∧k≤a.length∧Row wr w.heap.size Y d∧Zx5 a b d k∧wr.ownsRow w.heap.size 3 1 Z (B7_ a b within k).length (ints (B7_ a b within k))∧Below w.heap.size w wr) (fun _ _ B _=>a.length - (intOf B).toNat)
 case atStart=>exact ⟨0,b,rfl,Nat.zero_le _,D.out.below hB2,Zs7 R.out,World.ownsRow_nil _ _ _ _,hB2⟩
 case round =>
  obtain ⟨k,d,rfl,hk,I,J,hown,hbr⟩:=hrel;by_cases c:k<a.length
  ·obtain ⟨T,hA,hab,hc⟩:=P.out k c
   subst hA;have U:wr.cell? (T.add k)=some (.int .i64 (a.getD k 0)):=(hbr.cell q43_).trans hc;clear hc;have x5:=L4_ a b within k;have Hyes:=hid (Zz2 a b within k c);have Hno:=hid (Za4 a b within k c);have Hsv:=hid (Yj4 Q.out c J);have F:=hid (fun h=>Yn8 (a:=a) (b:=b) c h);have E:=hid (fun y r h=>Yj5 (a:=a) (b:=b) (y:=y) (r:=r) c h);clear J;generalize a.getD k 0=x at U Hyes Hno Hsv F E;go_wp2
   go_loopw [1] (fun C x0=>∃ r:List Int,x0=wr∧Row wr w.heap.size C r∧from_ x d=from_ x r) (fun C _=>lenOf C)
   case atStart=>exact ⟨d,rfl,I,rfl⟩
   case round =>
    obtain ⟨r,rfl,j,v⟩:=hrel;have s:=Hsv;rw [v] at Hsv;have o:=hid v;clear v I;cases r with
    | nil =>
     clear s o;have Hc:=hid (F.out Hsv.out);have Hrr:=hid j;obtain ⟨A3,c3,rfl,_⟩:=j;cases within
     ·
      have Hx:=hid (Hyes.out (by rw [Hc.out]));clear Hyes Hno
      go_wp2_with (at_builtin;refine Z6_ rfl _ _ rfl w.heap.size _ _ _ (B7_ a b false k) [x] rfl rfl (hown.alloc _) (Row.lit1 _ x) q41_ j41_ q44_ ?_)
      intro v' w4 hown' hgrow;have hb4:Below w.heap.size wr w4:=((Below.refl _ wr).alloc hbr.size _).grown hgrow q44_ (fun i hi=>(hown.lt i hi).1);go_wp2
      go_roundw
      case rel=>exact ⟨k+1,[],z42_,q41_,Hrr.out.below hb4,E1_ Hsv.out,by rw [Hx.out,List.length_append];exact hown',hbr.trans hb4⟩
      case measure=>simp [intOf];omega
     ·
      have Hx:=hid (Hno.out (by rw [Hc.out];decide));clear Hyes Hno;go_wp2
      go_roundw
      case rel=>exact ⟨k+1,[],z42_,q41_,Hrr.out,E1_ Hsv.out,by rw [Hx.out];exact hown,hbr⟩
      case measure=>simp [intOf];omega
    | cons y r =>
     have Hrr:=hid j;obtain ⟨x1,c3,rfl,g2,x2,x3,V,K⟩:=j.tail;have S:=hid K;clear K j;have x6:(r.length:Int)≤(c3:Int):=q41_;have x4:(c3:Int)≤9223372036854775806:=by unfold maxLen at V;omega
     by_cases L:y<x
     ·rw [Vb6 L] at o
      clear Hsv s;go_wp2
      go_roundw
      case rel =>
       refine ⟨r,trivial,S.out _ ?_,o.out⟩;by_cases u:c3=0
       ·rw [if_pos u];exact .inr ⟨u,rfl⟩
       ·rw [if_neg u];exact .inl (by simp [Addr.add])
      case measure=>simp [lenOf]
     ·rw [Vb7 L] at Hsv
      clear s o;have m:=hid (E.out y r Hsv.out q41_);have x8:decide (y<x)=false:=k41_;by_cases z:y=x
      ·subst z
       have Hc:Hid (b.contains y=true):=by
        show b.contains y=true;rw [m.out];simp
       clear m;cases within
       ·
        exact x9_
       ·
        have Hx:=hid (Hyes.out (by rw [Hc.out]));clear Hyes Hno
        go_wp2_with (at_builtin;refine Z6_ rfl _ _ rfl w.heap.size _ _ _ (B7_ a b true k) [y] rfl rfl (hown.alloc _) (Row.lit1 _ y) q41_ j41_ q44_ ?_)
        exact j5_
      ·have Hc:Hid (b.contains x=false):=by
        show b.contains x=false;rw [m.out];simp [z]
       have x7:(y==x)=false:=by simp [z]
       clear m;cases within
       ·
        have Hx:=hid (Hyes.out (by rw [Hc.out]));clear Hyes Hno
        go_wp2_with (at_builtin;refine Z6_ rfl _ _ rfl w.heap.size _ _ _ (B7_ a b false k) [x] rfl rfl (hown.alloc _) (Row.lit1 _ x) q41_ j41_ q44_ ?_)
        exact j5_
       ·
        exact x9_
  ·exact z10_
theorem Xm5 (c d:Value) (a b:List Int) (within:Bool) (w:World) (ha:Row w w.heap.size c a) (hb:Row w w.heap.size d b) (h:a.length≤1048576) (j:b.length≤1048576) :
  Calls Tryz.prog 82 #[c,d,.bool within] w (Gives w (partL a b within)):=by
 rcases hma:mayB a with _ | _
 ·have g:=hid ha
  clear ha hb;have Hr:=hid (Zm9 (b:=b) (w:=within) hma)
  go_enter Tryz.func82,Tryz.ntmps82
  go_wp2_with fail
  refine (may_any c a w g.out (Nat.le_trans h x42_)).mono ?_;exact x27_
 ·rcases hmb:mayB b with _ | _
  ·have g:=hid ha
   have k:=hid hb;clear ha hb;have Hr:=hid (Zn0 (a:=a) (w:=within) hmb)
   go_enter Tryz.func82,Tryz.ntmps82
   go_wp2_with fail
   refine (may_any c a w g.out (Nat.le_trans h x42_)).mono ?_;rintro e w1 ⟨rfl,hb1⟩;rw [hma]
   go_wp2_with fail
   refine (may_any d b w1 ((k.out.below hb1).mono hb1.size) (Nat.le_trans j x42_)).mono ?_;rintro e m ⟨rfl,hb2⟩;rw [hmb];exact z19_
  ·exact Vb8 c d a b within w ha hb h j hma hmb
theorem F2_ (c d:Value) (a b:List Int) (w:World) (ha:Row w w.heap.size c a) (hb:Row w w.heap.size d b) (j:a.length≤1048576) (k:b.length≤1048576) :
  Calls Tryz.prog 50 #[c,d] w (Gives w (Z5_ a b)):=by
 have g:=hid (Xm5 c d a b false w ha hb j k);clear ha hb
 go_enter Tryz.func50,Tryz.ntmps50
 go_wp2_with fail
 refine g.out.mono ?_;rintro e p ⟨o,rfl,m,h⟩;go_wp2;go_ret;exact ⟨_,rfl,m,h⟩
theorem Zz5 (g h:Value) (a b:List Int) (w:World) (ha:Row w w.heap.size g a) (hb:Row w w.heap.size h b) (o:a.length≤1048576) (s:b.length≤1048576) :
  Calls Tryz.prog 64 #[g,h] w (Says w (subB a b)):=by
 have j:=hid ha;have q:=hid hb;clear ha hb;rcases hma:mayB a with _ | _
 ·have d:=hid (Vb3 (b:=b) hma)
  go_enter Tryz.func64,Tryz.ntmps64
  go_wp2_with fail
  refine (may_any g a w j.out (Nat.le_trans o x42_)).mono ?_;rintro e p ⟨rfl,c⟩;rw [hma];go_wp2;go_ret;exact X3_ d.out rfl c
 ·rcases hmb:mayB b with _ | _
  ·have d:=hid (Vb4 (a:=a) hmb)
   go_enter Tryz.func64,Tryz.ntmps64
   go_wp2_with fail
   refine (may_any g a w j.out (Nat.le_trans o x42_)).mono ?_;rintro e p ⟨rfl,c⟩;rw [hma]
   go_wp2_with fail
   refine (may_any h b p ((q.out.below c).mono c.size) (Nat.le_trans s x42_)).mono ?_;rintro e u ⟨rfl,k⟩;rw [hmb];go_wp2;go_ret;exact X3_ d.out rfl (c.trans (k.mono c.size))
  ·have d:=hid (Vb5 hma hmb)
   go_enter Tryz.func64,Tryz.ntmps64
   go_wp2_with fail
   refine (may_any g a w j.out (Nat.le_trans o x42_)).mono ?_;rintro e p ⟨rfl,c⟩;rw [hma]
   go_wp2_with fail
   refine (may_any h b p ((q.out.below c).mono c.size) (Nat.le_trans s x42_)).mono ?_;rintro e u ⟨rfl,k⟩;rw [hmb];have hB2:Below w.heap.size w u:=c.trans (k.mono c.size);clear c k
   go_wp2_with fail
   refine (F2_ g h a b u ((j.out.below hB2).mono hB2.size) ((q.out.below hB2).mono hB2.size) o s).mono ?_;rintro e F ⟨E,rfl,z,B⟩;have v:=hB2.trans (B.mono hB2.size);have x:=Yj2 a b false;change (Z5_ a b).length≤_ at x;generalize Z5_ a b=m at d z x;obtain ⟨C,c3,rfl,_⟩:=z;cases m with
   | nil =>
    go_wp2;go_ret;exact X3_ d.out rfl v
   | cons y r =>
    have D:((r.length:Int)+1==0)=false:=k41_;go_wp2;go_ret;exact X3_ d.out rfl v
open Go.RowKit
def upTo (k:Nat):List Int:=(List.range k).map Int.ofNat
theorem Zs8 (k:Nat):upTo (k+1)=upTo k ++ [(k:Int)]:=by
 unfold upTo;rw [List.range_succ,List.map_append];rfl
theorem J2_ (k:Nat):(upTo k).length=k:=by simp [upTo]
theorem Xv2 {n:Int} (h:n<1∨100000<n):allL n=[]:=if_pos h
theorem Yj6 {n:Nat} (c:1≤n) (d:n≤100000):allL n=upTo n:=by
 unfold allL upTo;rw [if_neg q41_];rfl
def filled (n k:Nat):Array Value:=(ints (upTo k ++ List.replicate (n - k) 0)).toArray
theorem Yj7 {n k:Nat} (h:k≤n):(filled n k).size=n:=by
 simp [filled,Y6_,J2_];omega
theorem Yn9 {n k:Nat} (h:k<n):(filled n k).setIfInBounds k (.int .i64 (k:Int))=filled n (k+1):=by
 unfold filled;rw [List.setIfInBounds_toArray];congr 1;rw [Zs8,V6_,V6_,V6_,List.append_assoc];have e:List.replicate (n - k) (0:Int)=0 :: List.replicate (n - (k+1)) 0:=by
  rw [show n - k=(n - (k+1))+1 from by omega,List.replicate_succ]
 rw [e,List.set_append_right _ _ (by rw [Y6_,J2_];exact le_refl _),Y6_,J2_,Nat.sub_self];rfl
theorem Yo0 (n:Nat):filled n n=(ints (upTo n)).toArray:=by
 unfold filled;rw [Nat.sub_self,List.replicate_zero,List.append_nil]
theorem Yo1 {w:World} {g n:Nat} (h:Blk w g 3 (filled n n)) (c:n≤maxLen):Row w w.heap.size (.slice (some ⟨g,0,none⟩) n n) (upTo n):=by
 rw [Yo0] at h;refine ⟨_,n,by rw [J2_],⟨by rw [J2_];exact le_refl _,c,fun e=>by cases e⟩,fun k hk=>⟨_,rfl,h.lt,?_⟩⟩;exact q18_
theorem R9_ (w:World) (g n:Nat) (h:w.ownsRow g 3 1 (.slice (some ⟨g,0,none⟩) n n) n (madeCells (Value.int .i64 0).cells (n * 1)).toList):Blk w g 3 (filled n 0):=by
 rcases h.2 with ⟨e,_⟩ | ⟨q,p,c,o,hb,k,d,f,h3,j⟩
 ·cases e
 ·injection o with e1 _ e3
  injection e1 with e1;injection e1 with e1;subst e1 e3;unfold Blk;rw [k];have m:(madeCells (Value.int IntKind.i64 0).cells (n * 1)).toList=(filled n 0).toList:=by
   unfold madeCells filled;simp only [upTo,List.range_zero,List.map_nil,List.nil_append,Nat.sub_zero,Nat.mul_one];apply List.ext_getElem
   ·simp [ints]
   ·intro i d f
    simp [ints,Value.cells,Nat.mod_one]
  have hc:c.toList=(filled n 0).toList:=by
   rw [← m,← j,List.take_of_length_le];rw [Array.length_toList,h3];exact le_refl _
  rw [Array.toList_inj.1 hc]
theorem Vm7 (n:Nat) (w:World) (r:1≤n) (s:n≤100000) :
  Calls Tryz.prog 51 #[.int .i64 n] w (Gives w (allL n)):=by
 have p:=hid (Yj6 r s);have E:¬ (n:Int)<1:=q41_;have F:¬ (100000:Int)<(n:Int):=q41_;obtain ⟨B,d,y,z,hz2⟩:=info_parts info3
 go_enter Tryz.func51,Tryz.ntmps51
 go_wp2_with (at_make;refine wpList_make_full w rfl _ _ 26 rfl w.heap.size 3 B (.int .i64 0) 1 x41_ d y z .i64 .i64 _ _ n rfl rfl z43_ z43_ q49_ y42_ (le_refl _) ?_)
 intro o m h;have c:=R9_ o w.heap.size n (by rw [Nat.mul_one];exact m);have u:Below w.heap.size w o:=(Below.refl _ w).grown h (le_refl _) (fun i d=>by cases d);clear m h;go_wp2
 go_loopw [15] (fun e wr=>∃ k:Nat,e=.int .i64 k∧k≤n∧Blk wr w.heap.size 3 (filled n k)∧Below w.heap.size w wr) (fun e _=>n - (intOf e).toNat)
 case atStart=>exact ⟨0,rfl,Nat.zero_le _,c,u⟩
 case round =>
  obtain ⟨k,rfl,v,c,g⟩:=hrel;by_cases j:k<n
  ·have hs:=Yj7 v
   have C:wr.cell? ⟨w.heap.size,k,none⟩=some ((filled n k)[k]'q41_):=by rw [c.cell];simp [hs,j]
   have D:=c.frozen k;have q:=hid c;clear c;go_wp2
   go_roundw
   case rel=>exact ⟨k+1,z42_,q41_,by rw [← Yn9 j];exact q.out.set_ k _,g.setCell (by exact le_refl _) _⟩
   case measure=>simp [intOf];omega
  ·have x:k=n:=by omega
   subst x;go_wp2;go_ret;exact ⟨_,rfl,by rw [p.out];exact Yo1 c y42_,g⟩
theorem I5_ (n:Int) (w:World):Calls Tryz.prog 51 #[.int .i64 n] w (Gives w (allL n)):=by
 by_cases c:n<1
 ·have Hf:=hid (Xv2 (.inl c))
  exact k19_
 ·by_cases d:100000<n
  ·have Hf:=hid (Xv2 (.inr d))
   exact k19_
  ·obtain ⟨m,rfl⟩:∃ m:Nat,n=(m:Int):=⟨n.toNat,q41_⟩
   exact Vm7 m w q41_ q41_
open Go.RowKit
theorem K1_ (v:Value) (l:List Int) (w:World) (E:Row w w.heap.size v l) (hl:l.length≤9223372036854775807):Calls Tryz.prog 35 #[v] w (Says w (mayB l)):=by
 obtain ⟨A,c,rfl,_,p⟩:=E;have Hcell:=hid p;clear p;have N:(l.length:Int)≤9223372036854775807:=q41_
 go_enter Tryz.func35,Tryz.ntmps35
 go_wp2
 go_loopw [3] (fun m wr=>∃ k q:Nat,m=.int .i64 k∧k≤l.length∧wr=w.drewN q∧IsSet (l.take k)) (fun m _=>l.length - (intOf m).toNat)
 case atStart=>exact ⟨0,0,rfl,Nat.zero_le _,rfl,by simpa using X7_⟩
 case round =>
  obtain ⟨k,q,rfl,K,u,s⟩:=hrel;have Hwr:=hid u;have Hset:=hid s;clear u s;by_cases g:k<l.length
  ·obtain ⟨o,hA,H,hc⟩:=Hcell.out k g
   subst hA;have e:wr.cell? (o.add k)=some (.int .i64 (l.getD k 0)):=by rw [Hwr.out];exact hc
   clear hc;have L:(k:Int)<(l.length:Int):=q41_;have d:=hid (Yg8 l k g Hset.out);have Hfail:=hid (Zs3 l k g);have Hq:Hid (Below w.heap.size w wr):=y29_;by_cases D:k=0
   ·subst D
    rw [add_zero] at e;generalize l.getD 0 0=x at e d Hfail;by_cases hx0:0≤x
    ·by_cases hx1:x≤1099511627776
     ·have d0:decide (x<0)=false:=by simp;omega
      have d1:decide (1099511627776<x)=false:=k41_;have B:decide ((0:Int)<0)=false:=rfl;go_wp2
      go_quiet (fail)
      go_wp2
      go_roundw
      case rel=>exact ⟨1,q+nq,rfl,q41_,by rw [Hwr.out,World.drewN_drewN],d.out ⟨hx0,hx1⟩ (.inl trivial)⟩
      case measure=>simp [intOf];omega
     ·exact x34_
    ·exact q36_
   ·obtain ⟨j,r⟩:∃ j,j+1=k:=⟨k - 1,q41_⟩
    have I:(k:Int) - 1=(j:Int):=q41_;have J:(j:Int)<(l.length:Int):=q41_;have C:wr.cell? (o.add j)=some (.int .i64 (l.getD j 0)):=y19_;have G:=hid r;have M:0<k:=q41_;rw [show k - 1=j from by omega] at d Hfail;clear r;generalize l.getD k 0=x at e d Hfail;generalize l.getD j 0=y at C d Hfail;by_cases hx0:0≤x
    ·by_cases hx1:x≤1099511627776
     ·by_cases z:y<x
      ·have d0:decide (x<0)=false:=by simp;omega
       have d1:decide (1099511627776<x)=false:=k41_;have B:decide (x≤y)=false:=k41_;go_wp2
       go_quiet (fail)
       go_wp2
       go_roundw
       case rel=>exact ⟨k+1,q+nq,z42_,q41_,by rw [Hwr.out,World.drewN_drewN],d.out ⟨hx0,hx1⟩ (.inr z)⟩
       case measure=>simp [intOf];omega
      ·have F:x≤y:=by omega
       have Hf:=hid (Hfail.out (.inr ⟨q41_,F⟩));have d0:decide (x<0)=false:=k41_;have d1:decide (1099511627776<x)=false:=k41_;clear z;exact k7_
     ·exact x34_
    ·exact q36_
  ·exact k13_
theorem Y8_ (v:Value) (l:List Int) (w:World) (c:Row w w.heap.size v l) (hl:l.length≤9223372036854775807) {x:Bool} (h:mayB l=x):Calls Tryz.prog 35 #[v] w (Says w x):=by
 subst h;exact K1_ v l w c hl
open Go.RowKit
theorem Yj8 {l:List Int} {x:Int} {k:Nat} (c:k<l.length) (h:x∉l.take k) (d:(l.getD k 0==x)=false):x∉l.take (k+1):=by
 rw [List.take_succ_eq_append_getElem c,List.mem_append,List.mem_singleton];rintro (e | e)
 ·exact h e
 ·simp [List.getD,c] at d
  exact d e.symm
theorem Vb9 {l:List Int} {x:Int} {k:Nat} (c:k<l.length) (d:l.getD k 0=x):l.contains x=true:=by
 rw [List.contains_iff_mem,← d];simp [List.getD,c]
theorem Yo2 {l:List Int} {x:Int} {k:Nat} (c:k=l.length) (h:x∉l.take k):l.contains x=false:=by
 subst c;rw [List.take_length] at h;rw [← Bool.not_eq_true,List.contains_iff_mem];exact h
theorem L5_ (v:Value) (l:List Int) (x:Int) (B:Nat) (w:World) (z:Row w B v l) (hl:l.length≤4194304) {b:Bool} (hb:l.contains x=b) :
  Calls Tryz.prog 62 #[v,.int .i64 x] w fun e w'=>e=.returned (.bool b)∧w'=w:=by
 obtain ⟨A,c,rfl,_,q⟩:=z;have s:=hid q;clear q;have Hb:=hid hb;clear hb;have H:(l.length:Int)≤4194304:=q41_
 go_enter Tryz.func62,Tryz.ntmps62
 go_wp2
 go_loopw [5] (fun m wr=>∃ k:Nat,m=.int .i64 k∧k≤l.length∧wr=w∧x∉l.take k) (fun m _=>l.length - (intOf m).toNat)
 case atStart=>exact ⟨0,rfl,Nat.zero_le _,rfl,j41_⟩
 case round =>
  obtain ⟨k,rfl,F,rfl,g⟩:=hrel;by_cases d:k<l.length
  ·obtain ⟨D,hA,E,u⟩:=s.out k d
   subst hA;have G:(k:Int)<(l.length:Int):=q41_;have p:=hid (fun h=>Yj8 d g h);have o:=hid (fun h=>Vb9 (x:=x) d h);clear g;generalize l.getD k 0=y at u p o;by_cases j:y=x
   ·have Hc:=hid (o.out j)
    subst j;exact z29_
   ·have C:(y==x)=false:=by simp [j]
    go_wp2
    go_roundw
    case rel=>exact ⟨k+1,z42_,q41_,trivial,p.out C⟩
    case measure=>simp [intOf];omega
  ·have r:k=l.length:=by omega
   have Hc:=hid (Yo2 r g);subst r;exact z29_
theorem Zs9 (v:Value) (l:List Int) (x:Int) (B:Nat) (w:World) (c:Row w B v l) (hl:l.length≤4194304) :
  Calls Tryz.prog 62 #[v,.int .i64 x] w fun e w'=>e=.returned (.bool (l.contains x))∧w'=w:=L5_ v l x B w c hl rfl
open Go.RowKit
theorem Yo3 (q r:Value) (a b:List Int) (w:World) (ha:Row w w.heap.size q a) (hb:Row w w.heap.size r b) (C:a.length≤1048576) (D:b.length≤1048576) (g:mayB a=true) (h:mayB b=true) :
  Calls Tryz.prog 111 #[q,r] w (Gives w (meetL a b)):=by
 have Ha:=hid ha;have Hb:=hid hb;obtain ⟨v,c1,rfl,_,o⟩:=ha;obtain ⟨y,c2,rfl,_⟩:=hb;have s:=hid o;clear o;have Hall:=hid (Zz3 a b true g h);change Hid (_=meetL a b) at Hall;have Hma:=hid g;have Hmb:=hid h;clear g h;have p:(w.alloc (.cells #[] 3)).ownsRow w.heap.size 3 1 (.slice (some ⟨w.heap.size,0,none⟩) 0 0) 0 [] :=
  World.ownsRow_made w #[] 0 (le_refl _) y42_ rfl
 have m:Below w.heap.size w (w.alloc (.cells #[] 3)):=(Below.refl _ w).alloc (le_refl _) _
 go_enter Tryz.func111,Tryz.ntmps111
 go_wp2
 go_loopw [5,6] (fun u j wr=>∃ k:Nat,j=.int .i64 k∧k≤a.length∧wr.ownsRow w.heap.size 3 1 u (B7_ a b true k).length (ints (B7_ a b true k))∧Below w.heap.size w wr) (fun _ j _=>a.length - (intOf j).toNat)
 case atStart=>exact ⟨0,rfl,Nat.zero_le _,p,m⟩
 case round =>
  obtain ⟨k,rfl,z,hown,hbr⟩:=hrel;by_cases d:k<a.length
  ·obtain ⟨ad,hA,hab,c⟩:=s.out k d
   subst hA;have B:(k:Int)<(a.length:Int):=q41_;have E:=L4_ a b true k;have Hyes:=hid (Zz2 a b true k d);have Hno:=hid (Za4 a b true k d);clear p m;generalize a.getD k 0=x at c Hyes Hno;have Hg:=hid c;clear c;rcases hc:b.contains x with _ | _
   ·exact j2_
   ·have Hc:=hid hc
    clear hc
    go_wp2_with fail
    refine (Y8_ _ a wr (Ha.out.below hbr |>.mono hbr.size) q41_ Hma.out).mono ?_;rintro e w2 ⟨rfl,hb2⟩;have hB2:=hbr.trans (hb2.mono hbr.size);have hown2:=hown.kept (row:=none) (Z7_ hb2 _) x48_;clear hb2
    go_wp2_with fail
    refine (Y8_ _ b w2 (Hb.out.below hB2 |>.mono hB2.size) q41_ Hmb.out).mono ?_;rintro e w3 ⟨rfl,hb3⟩;have hB3:=hB2.trans (hb3.mono hB2.size);have hown3:=hown2.kept (row:=none) (Z7_ hb3 _) x48_;clear hb3 hB2 hown2 hown hbr;have g1:w3.cell? (ad.add k)=some (.int .i64 x):=(hB3.cell q43_).trans Hg.out
    go_wp2_with fail
    refine (L5_ _ b x _ w3 (Hb.out.below hB3) q41_ Hc.out).mono ?_;rintro e w5 ⟨rfl,rfl⟩;have Hx:=hid (Hyes.out (by rw [Hc.out]));clear Hyes Hno
    go_wp2_with (at_builtin;refine Z6_ rfl _ _ rfl w.heap.size _ _ _ (B7_ a b true k) [x] rfl rfl (hown3.alloc _) (Row.lit1 _ x) q41_ j41_ (by have:=hB3.size;simp;omega) ?_)
    exact z7_
  ·exact z10_
theorem Za5 (p q:Value) (a b:List Int) (w:World) (ha:Row w w.heap.size p a) (hb:Row w w.heap.size q b) (y:a.length≤1048576) (z:b.length≤1048576) (h:mayB a=false∨(mayB a=true∧mayB b=false)) :
  Calls Tryz.prog 111 #[p,q] w (Gives w (meetL a b)):=by
 have Ha:=hid ha;have Hb:=hid hb;obtain ⟨u,c1,rfl,_,g⟩:=ha;obtain ⟨v,c2,rfl,_⟩:=hb;have x:=hid g;clear g;have o:meetL a b=[]:=by
  rcases h with h | h
  ·exact Zm9 h
  ·exact Zn0 h.2
 have m:∀ w':World,Below w.heap.size w w'→Gives w (meetL a b) (.returned (.slice (some ⟨w.heap.size,0,none⟩) 0 0)) w':=fun w' hb=>⟨_,rfl,by rw [o];exact ⟨_,0,rfl,⟨le_refl _,x42_,fun e=>by cases e⟩,fun k s=>absurd s j41_⟩,hb⟩;have Hout:=hid m;clear m o;have hB0:Below w.heap.size w (w.alloc (.cells #[] 3)):=(Below.refl _ w).alloc (le_refl _) _;by_cases d:0<a.length
 ·have r:(0:Int)<(a.length:Int):=by omega
  rcases h with c | ⟨c,j⟩
  ·have Hma:=hid c
   clear c d
   go_enter Tryz.func111,Tryz.ntmps111
   exact k9_
  ·have Hma:=hid c
   have Hmb:=hid j;clear c j d
   go_enter Tryz.func111,Tryz.ntmps111
   exact z5_
 ·have r:(a.length:Int)=0:=by omega
  clear h d
  go_enter Tryz.func111,Tryz.ntmps111
  exact x11_
theorem Yj9 (c d:Value) (a b:List Int) (w:World) (ha:Row w w.heap.size c a) (hb:Row w w.heap.size d b) (e:a.length≤1048576) (g:b.length≤1048576) :
  Calls Tryz.prog 111 #[c,d] w (Gives w (meetL a b)):=by
 rcases hma:mayB a with _ | _
 ·exact Za5 c d a b w ha hb e g (.inl hma)
 ·rcases hmb:mayB b with _ | _
  ·exact Za5 c d a b w ha hb e g (.inr ⟨hma,hmb⟩)
  ·exact Yo3 c d a b w ha hb e g hma hmb
open Go.RowKit
def A3_ (l:List Int) (k:Nat):List Int:=sortL (l.take k)
theorem Zz6 (l:List Int) (k:Nat) (h:k<l.length) (z:Int):z∈A3_ l (k+1)↔(z∈A3_ l k∨(z=l.getD k 0∧Fit z)):=by
 unfold A3_;have e:l[k]=l.getD k 0:=q50_;rw [B5_,B5_,List.take_succ_eq_append_getElem h,e,List.mem_append,List.mem_singleton];constructor
 ·rintro ⟨c | c,d⟩
  ·exact .inl ⟨c,d⟩
  ·exact .inr ⟨c,d⟩
 ·rintro (⟨c,d⟩ | ⟨c,d⟩)
  ·exact ⟨.inl c,d⟩
  ·exact ⟨.inr c,d⟩
theorem Xv3 (l:List Int) (k:Nat) (h:k<l.length) (e:¬ Fit (l.getD k 0)):A3_ l (k+1)=A3_ l k :=
 (V8_ _).ext (V8_ _) fun z=>by
  change z∈A3_ l (k+1)↔z∈A3_ l k;rw [Zz6 l k h];constructor
  ·rintro (c | ⟨c,d⟩)
   ·exact c
   ·rw [c] at d;exact absurd d e
  ·exact .inl
theorem Xv4 (l:List Int) (k:Nat) (h:k<l.length) (d:l.getD k 0∈A3_ l k):A3_ l (k+1)=A3_ l k :=
 (V8_ _).ext (V8_ _) fun z=>by
  change z∈A3_ l (k+1)↔z∈A3_ l k;rw [Zz6 l k h];constructor
  ·rintro (c | ⟨c,e⟩)
   ·exact c
   ·rw [c];exact d
  ·exact .inl
theorem Yo4 (l:List Int) (k:Nat) (h:k<l.length) (d:Fit (l.getD k 0)):A3_ l (k+1)=ins (l.getD k 0) (A3_ l k) :=
 (V8_ _).ext (Yj1 _ d _ (V8_ _)) fun z=>by
  change z∈A3_ l (k+1)↔_;rw [Zz6 l k h,Zm7];constructor
  ·rintro (c | ⟨c,e⟩)
   ·exact .inr c
   ·exact .inl c
  ·rintro (c | c)
   ·exact .inr ⟨c,by rw [c];exact d⟩
   ·exact .inl c
theorem Zn2 (l:List Int) (k:Nat):(A3_ l k).length≤l.length:=by
 unfold A3_;refine Nat.le_trans (F0_ _) ?_;simp;omega
theorem Yo5 (l:List Int):A3_ l l.length=sortL l:=by unfold A3_;rw [List.take_length]
theorem Yh1 (x y:Int):∀ a:List Int,a.Pairwise (·<·)→(∃ z∈a,x<z)→ins x (a ++ [y])=ins x a ++ [y]
 | [],_,h=>by obtain ⟨z,c,_⟩:=h;cases c
 | b :: a,hp,h=>by
  rw [List.cons_append];unfold ins;split
  ·rfl
  ·split
   ·rfl
   ·rw [List.pairwise_cons] at hp
    rw [Yh1 x y a hp.2 ?_]
    ·rfl
    ·obtain ⟨z,c,d⟩:=h
     rcases List.mem_cons.1 c with e | c
     ·omega
     ·exact ⟨z,c,d⟩
theorem Yh2 (x y:Int):∀ a:List Int,(∀ z∈a,z<x)→x<y→ins x (a ++ [y])=a ++ [x,y]
 | [],_,h=>by simp [ins,h]
 | b :: a,hb,h=>by
  have d:=hb b j41_;rw [List.cons_append];unfold ins;rw [if_neg q41_,if_neg q41_,Yh2 x y a (fun z c=>hb z (by simp [c])) h];rfl
theorem Xv5 (x:Int):∀ a:List Int,(∀ z∈a,z<x)→ins x a=a ++ [x]
 | [],_=>rfl
 | b :: a,hb=>by
  have d:=hb b j41_;unfold ins;rw [if_neg q41_,if_neg q41_,Xv5 x a (fun z c=>hb z (by simp [c]))];rfl
def Ins (x:Int) (out:List Int) (m:Nat) (laid:Bool) (next:List Int):Prop :=
 (laid=false∧(∀ z∈out.take m,z<x)∧next=out.take m)∨(laid=true∧(∃ z∈out.take m,x<z)∧next=ins x (out.take m))
theorem Xv6 (x:Int) (out:List Int):Ins x out 0 false []:=.inl ⟨rfl,j41_,rfl⟩
theorem P8_ {out:List Int} {m:Nat} (c:m<out.length):out.take (m+1)=out.take m ++ [out.getD m 0]:=by
 rw [List.take_succ_eq_append_getElem c];simp [List.getD,c]
theorem Vc0 {x:Int} {out next:List Int} {m:Nat} (c:m<out.length) (h:Ins x out m false next) (d:x<out.getD m 0):Ins x out (m+1) true (next ++ [x] ++ [out.getD m 0]):=by
 rcases h with ⟨_,e,f⟩ | ⟨h,_⟩
 ·refine .inr ⟨rfl,⟨_,by rw [P8_ c];simp,d⟩,?_⟩
  rw [P8_ c,Yh2 x _ _ e d,f,List.append_assoc];rfl
 ·cases h
theorem Xm6 {x:Int} {out next:List Int} {m:Nat} (d:m<out.length) (h:Ins x out m false next) (j:x∉out) (k:¬ x<out.getD m 0):Ins x out (m+1) false (next ++ [out.getD m 0]):=by
 rcases h with ⟨_,f,g⟩ | ⟨h,_⟩
 ·refine .inl ⟨rfl,fun z c=>?_,by rw [P8_ d,g]⟩
  rw [P8_ d,List.mem_append,List.mem_singleton] at c;rcases c with c | c
  ·exact f z c
  ·have:z≠x:=fun e=>j (by rw [← e,c];simp [List.getD,d])
   omega
 ·cases h
theorem Xm7 {x:Int} {out next:List Int} {m:Nat} (c:m<out.length) (hs:out.Pairwise (·<·)) (h:Ins x out m true next):Ins x out (m+1) true (next ++ [out.getD m 0]):=by
 rcases h with ⟨h,_⟩ | ⟨_,⟨z,e,d⟩,f⟩
 ·cases h
 ·refine .inr ⟨rfl,⟨z,by rw [P8_ c];simp [e],d⟩,?_⟩
  rw [P8_ c,Yh1 x _ _ (hs.sublist (List.take_sublist _ _)) ⟨z,e,d⟩,f]
theorem Xm8 {x:Int} {out next:List Int} (h:Ins x out out.length true next):next=ins x out:=by
 rcases h with ⟨h,_⟩ | ⟨_,_,c⟩
 ·cases h
 ·rw [c,List.take_length]
theorem Xm9 {x:Int} {out next:List Int} (h:Ins x out out.length false next):next ++ [x]=ins x out:=by
 rcases h with ⟨_,c,d⟩ | ⟨h,_⟩
 ·rw [List.take_length] at c d
  rw [d,Xv5 x out c]
 ·cases h
theorem Vc1 {x:Int} {out next:List Int} {m:Nat} {e:Bool} (h:Ins x out m e next):next.length≤out.length+1:=by
 have d:∀ (t:List Int),(ins x t).length≤t.length+1:=by
  intro t;exact x16_
 rcases h with ⟨_,_,c⟩ | ⟨_,_,c⟩
 ·rw [c,List.length_take];omega
 ·rw [c]
  have:=d (out.take m);rw [List.length_take] at this;omega
theorem L6_ (v:Value) (l:List Int) (w:World) (hr:Row w w.heap.size v l) (hl:l.length≤2097152):Calls Tryz.prog 36 #[v] w (Gives w (sortL l)):=by
 obtain ⟨A,c,rfl,_,x4⟩:=hr;have xa:=hid x4;clear x4;have xo:(l.length:Int)≤2097152:=q41_;have x1:Below w.heap.size w (w.alloc (.cells #[] 3)):=(Below.refl _ w).alloc (le_refl _) _;have x7:Row (w.alloc (.cells #[] 3)) (w.alloc (.cells #[] 3)).heap.size (.slice (some ⟨w.heap.size,0,none⟩) 0 0) (A3_ l 0):=(Row.lit0 w).here;have x9:=hid (Yo5 l)
 go_enter Tryz.func36,Tryz.ntmps36
 go_wp2
 go_loopw [3,4] (fun vo Z wr=>∃ k:Nat,Z=.int .i64 k∧k≤l.length∧Row wr wr.heap.size vo (A3_ l k)∧Below w.heap.size w wr) (fun _ Z _=>l.length - (intOf Z).toNat)
 case atStart=>exact ⟨0,rfl,Nat.zero_le _,x7,x1⟩
 case round =>
  obtain ⟨k,rfl,hk,hro,hbr⟩:=hrel;clear x7 x1;by_cases L:k<l.length
  ·obtain ⟨C,hA,hab,K⟩:=xa.out k L
   subst hA;have xn:(k:Int)<(l.length:Int):=q41_;have xg:=Zn2 l k;have B:=hid (Xv3 l k L);have D:=hid (Xv4 l k L);have E:=hid (Yo4 l k L);have S:=hid (V8_ (l.take k));change Hid (IsSet (A3_ l k)) at S;generalize A3_ l k=out at hro xg B D E S;generalize l.getD k 0=x at K B D E;have r:wr.cell? (C.add k)=some (.int .i64 x):=(hbr.cell q43_).trans K;have Hg:=hid K;clear K;by_cases V:x<0
   ·have Hx:=hid (B.out fun h=>by unfold Fit at h;omega)
    clear B D E;exact y10_
   ·have xl:decide (x<0)=false:=by simp;omega
    by_cases h1:1099511627776<x
    ·have Hx:=hid (B.out fun h=>by unfold Fit at h;omega)
     clear B D E V;exact y10_
    ·have xm:decide (1099511627776<x)=false:=by simp;omega
     rcases hc:out.contains x with _ | _
     ·have I:x∉out:=by rw [← List.contains_iff_mem,hc];simp
      have xb:=hid I;have Hx:=hid (E.out ⟨q41_,q41_⟩);have N:=hid hc;clear B D E V h1 I hc
      go_wp2_with fail
      refine (L5_ _ out x _ wr hro q41_ N.out).mono ?_;rintro e d ⟨rfl,rfl⟩;have xi:=hid hro;obtain ⟨Ao,co,rfl,_,x5⟩:=hro;have Hocell:=hid x5;clear x5;have x6:(d.alloc (.cells #[] 3)).ownsRow d.heap.size 3 1 (.slice (some ⟨d.heap.size,0,none⟩) 0 0) 0 [] :=
       World.ownsRow_made d #[] 0 (le_refl _) y42_ rfl
      have x3:Below d.heap.size d (d.alloc (.cells #[] 3)):=(Below.refl _ d).alloc (le_refl _) _;have W:C.block<d.heap.size:=Nat.lt_of_lt_of_le hab hbr.size;have O:=hid r;clear r;go_wp2
      go_loopw [5,6,7] (fun vn xh vk wr=>∃ (m:Nat) (J:Bool) (next:List Int),vk=.int .i64 m∧m≤out.length∧xh=.bool J∧Ins x out m J next∧wr.ownsRow d.heap.size 3 1 vn next.length (ints next)∧Below d.heap.size d wr) (fun _ _ vk _=>out.length - (intOf vk).toNat)
      case atStart=>exact ⟨0,false,[],rfl,Nat.zero_le _,rfl,Xv6 x out,x6,x3⟩
      case round =>
       obtain ⟨m,J,next,rfl,hm,rfl,hI,s,g⟩:=hrel;clear x6 x3;have xq:=Vc1 hI;by_cases M:m<out.length
       ·obtain ⟨H,xc,x2,X⟩:=Hocell.out m M
        subst xc;have xp:(m:Int)<(out.length:Int):=q41_;have F:wr.cell? (H.add m)=some (.int .i64 (out.getD m 0)):=(g.cell (by rw [Z2_];exact x2)).trans X;have r:wr.cell? (C.add k)=some (.int .i64 x):=(g.cell (by rw [Z2_];exact W)).trans O.out;have x0:=hid X;clear X;have P:=hid (fun next h=>Xm7 (x:=x) (next:=next) M S.out.1 h);have Q:=hid (fun next h=>Vc0 (x:=x) (out:=out) (next:=next) M h);have R:=hid (fun next h=>Xm6 (x:=x) (out:=out) (next:=next) M h xb.out);generalize out.getD m 0=y at F x0 P Q R;cases J
        ·have HI:=hid hI
         clear hI P;by_cases x8:x<y
         ·have u:=hid (Q.out next HI.out x8)
          go_wp2
          go_quiet (fail)
          have q:(wr.drewN nq).ownsRow d.heap.size 3 1 _ next.length (ints next):=s;have hbq:Below d.heap.size d (wr.drewN nq):=Y2_ g nq;have T:(wr.drewN nq).cell? (C.add k)=some (.int .i64 x):=r;have U:(wr.drewN nq).cell? (H.add m)=some (.int .i64 y):=F;clear s g r F;generalize wr.drewN nq=wq at *
          go_wp2_with (at_builtin;refine Z6_ rfl _ _ rfl d.heap.size _ _ _ next [x] rfl rfl (q.alloc _) (Row.lit1 _ x) q41_ j41_ z46_ ?_)
          intro G p hown6 j;have hown6:p.ownsRow d.heap.size 3 1 G (next ++ [x]).length (ints (next ++ [x])):=y48_;have o:Below d.heap.size d p:=(hbq.alloc hbq.size _).grown j z46_ (fun i z=>(q.lt i z).1);clear j q hbq;have xj:p.cell? (C.add k)=some (.int .i64 x):=(o.cell (by rw [Z2_];exact W)).trans O.out;have xk:p.cell? (H.add m)=some (.int .i64 y):=(o.cell (by rw [Z2_];exact x2)).trans x0.out;clear T U
          go_wp2_with (at_builtin;refine Z6_ rfl _ _ rfl d.heap.size _ _ _ (next ++ [x]) [y] rfl rfl (hown6.alloc _) (Row.lit1 _ y) (by rw [List.length_append];show next.length+1≤_;omega) j41_ (by have:=o.size;simp;omega) ?_)
          intro v7 w7 Y j;have Y:w7.ownsRow d.heap.size 3 1 v7 (next ++ [x] ++ [y]).length (ints (next ++ [x] ++ [y])):=by rw [show next ++ [x] ++ [y]=next ++ [x,y] from by simp,List.length_append];exact Y
          have xd:Below d.heap.size d w7:=(o.alloc o.size _).grown j (by have:=o.size;simp;omega) (fun i z=>(hown6.lt i z).1);clear j hown6 o;go_wp2
          go_roundw
          case rel=>exact ⟨m+1,true,next ++ [x] ++ [y],z42_,q41_,rfl,u.out,Y,xd⟩
          case measure=>simp [intOf];omega
         ·have xr:decide (x<y)=false:=by simp;omega
          have u:=hid (R.out next HI.out x8);go_wp2
          go_quiet (fail)
          have q:(wr.drewN nq).ownsRow d.heap.size 3 1 _ next.length (ints next):=s;have hbq:Below d.heap.size d (wr.drewN nq):=Y2_ g nq;have T:(wr.drewN nq).cell? (C.add k)=some (.int .i64 x):=r;have U:(wr.drewN nq).cell? (H.add m)=some (.int .i64 y):=F;clear s g r F;generalize wr.drewN nq=wq at *
          go_wp2_with (at_builtin;refine Z6_ rfl _ _ rfl d.heap.size _ _ _ next [y] rfl rfl (q.alloc _) (Row.lit1 _ y) q41_ j41_ z46_ ?_)
          intro G p hown6 j;have hown6:p.ownsRow d.heap.size 3 1 G (next ++ [y]).length (ints (next ++ [y])):=y48_;have o:Below d.heap.size d p:=(hbq.alloc hbq.size _).grown j z46_ (fun i z=>(q.lt i z).1);clear j q hbq;go_wp2
          go_roundw
          case rel=>exact ⟨m+1,false,next ++ [y],z42_,q41_,rfl,u.out,hown6,o⟩
          case measure=>simp [intOf];omega
        ·have u:=hid (P.out next hI)
         clear hI Q R;go_wp2
         go_quiet (fail)
         have q:(wr.drewN nq).ownsRow d.heap.size 3 1 _ next.length (ints next):=s;have hbq:Below d.heap.size d (wr.drewN nq):=Y2_ g nq;have T:(wr.drewN nq).cell? (C.add k)=some (.int .i64 x):=r;have U:(wr.drewN nq).cell? (H.add m)=some (.int .i64 y):=F;clear s g r F;generalize wr.drewN nq=wq at *
         go_wp2_with (at_builtin;refine Z6_ rfl _ _ rfl d.heap.size _ _ _ next [y] rfl rfl (q.alloc _) (Row.lit1 _ y) q41_ j41_ z46_ ?_)
         intro G p hown6 j;have hown6:p.ownsRow d.heap.size 3 1 G (next ++ [y]).length (ints (next ++ [y])):=y48_;have o:Below d.heap.size d p:=(hbq.alloc hbq.size _).grown j z46_ (fun i z=>(q.lt i z).1);clear j q hbq;go_wp2
         go_roundw
         case rel=>exact ⟨m+1,true,next ++ [y],z42_,q41_,rfl,u.out,hown6,o⟩
         case measure=>simp [intOf];omega
       ·have xf:m=out.length:=by omega
        subst xf;cases J
        ·have u:=hid (Xm9 hI)
         clear hI;have r:wr.cell? (C.add k)=some (.int .i64 x):=(g.cell (by rw [Z2_];exact W)).trans O.out
         go_wp2_with (at_builtin;refine Z6_ rfl _ _ rfl d.heap.size _ _ _ next [x] rfl rfl (s.alloc _) (Row.lit1 _ x) q41_ j41_ (by have:=g.size;simp;omega) ?_)
         intro G p hown6 j;have hown6:p.ownsRow d.heap.size 3 1 G (next ++ [x]).length (ints (next ++ [x])):=y48_;have o:Below d.heap.size d p:=(g.alloc g.size _).grown j (by have:=g.size;simp;omega) (fun i z=>(s.lt i z).1);clear j s g;go_wp2
         go_roundw
         case rel=>exact ⟨k+1,z42_,q41_,by rw [Hx.out,← u.out];exact Row.of_own hown6 rfl,hbr.trans (o.mono hbr.size)⟩
         case measure=>simp [intOf];omega
        ·have u:=hid (Xm8 hI)
         clear hI;go_wp2
         go_roundw
         case rel=>exact ⟨k+1,z42_,q41_,by rw [Hx.out,← u.out];exact Row.of_own s rfl,hbr.trans (g.mono hbr.size)⟩
         case measure=>simp [intOf];omega
     ·have I:x∈out:=by rw [← List.contains_iff_mem,hc]
      have Hx:=hid (D.out I);have N:=hid hc;clear B D E V h1 I hc
      go_wp2_with fail
      refine (L5_ _ out x _ wr hro q41_ N.out).mono ?_;rintro e d ⟨rfl,rfl⟩;exact y10_
  ·have xe:k=l.length:=by omega
   subst xe;rw [x9.out] at hro;go_wp2;go_ret;exact ⟨_,rfl,hro,hbr⟩
theorem A4_ (x y:Value) (a b:List Int) (w:World) (ha:Row w w.heap.size x a) (hb:Row w w.heap.size y b) (K:a.length≤1048576) (L:b.length≤1048576) :
  Calls Tryz.prog 13 #[x,y] w (Gives w (Z9_ a b)):=by
 have j:=hid ha;have m:=hid hb;obtain ⟨I,c1,rfl,_⟩:=ha;obtain ⟨J,c2,rfl,_⟩:=hb;rcases hma:mayB a with _ | _
 ·have Hr:=hid (Zs5 (b:=b) hma)
  have d:=hid hma;clear hma
  go_enter Tryz.func13,Tryz.ntmps13
  go_wp2_with fail
  refine (Y8_ _ a w j.out q41_ d.out).mono ?_;rintro e k ⟨rfl,hb1⟩;go_wp2;go_ret;exact F1_ w hb1 Hr.out
 ·rcases hmb:mayB b with _ | _
  ·have Hr:=hid (Zs6 (a:=a) hmb)
   have d:=hid hma;have o:=hid hmb;clear hma hmb
   go_enter Tryz.func13,Tryz.ntmps13
   go_wp2_with fail
   refine (Y8_ _ a w j.out q41_ d.out).mono ?_;rintro e k ⟨rfl,hb1⟩
   go_wp2_with fail
   refine (Y8_ _ b k ((m.out.below hb1).mono hb1.size) q41_ o.out).mono ?_;rintro e c ⟨rfl,hb2⟩;exact z19_
  ·have Hr:=hid (Zs4 hma hmb)
   have d:=hid hma;have o:=hid hmb;clear hma hmb
   go_enter Tryz.func13,Tryz.ntmps13
   go_wp2_with fail
   refine (Y8_ _ a w j.out q41_ d.out).mono ?_;rintro e k ⟨rfl,hb1⟩
   go_wp2_with fail
   refine (Y8_ _ b k ((m.out.below hb1).mono hb1.size) q41_ o.out).mono ?_;rintro e c ⟨rfl,hb2⟩;have hB2:Below w.heap.size w c:=hb1.trans (hb2.mono hb1.size);clear hb1 hb2;have q:(c.alloc (.cells #[] 3)).ownsRow w.heap.size 3 1 (.slice (some ⟨c.heap.size,0,none⟩) 0 0) ([]:List Int).length (ints []) :=
    World.ownsRow_made c #[] 0 hB2.size y42_ rfl
   have g:Below w.heap.size w (c.alloc (.cells #[] 3)):=hB2.alloc hB2.size _;have B:=hid (j.out.below g)
   go_wp2_with (at_builtin;refine Z6_ rfl _ _ rfl w.heap.size w.heap.size _ _ [] a rfl rfl q B.out j41_ q41_ g.size ?_)
   intro M H r u;have h:Below w.heap.size w H:=g.grown u g.size (fun i p=>(q.lt i p).1);have C:=hid (m.out.below h);clear u q g hB2
   go_wp2_with (at_builtin;refine Z6_ rfl _ _ rfl w.heap.size w.heap.size _ _ a b rfl rfl r C.out q41_ q41_ h.size ?_)
   intro G z E v;have s:Below w.heap.size w z:=h.grown v h.size (fun i p=>(r.lt i p).1);clear v r h
   go_wp2_with fail
   refine (L6_ G (a ++ b) z (Row.of_own E j41_) (by rw [List.length_append];omega)).mono ?_;rintro e O ⟨N,rfl,F,D⟩;go_wp2;go_ret;exact ⟨_,rfl,by rw [Hr.out];exact F,s.trans (D.mono s.size)⟩
end Wp
end Go.Proofs.YtnbcaibflhgdoaaGreatDoor
