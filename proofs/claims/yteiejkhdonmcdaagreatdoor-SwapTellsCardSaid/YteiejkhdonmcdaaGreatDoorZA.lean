/- Sets of numbers as lists, plain: what layer 2's calls answer, and that sets are an algebra. Nothing of the program here. Small laws of memory that the walks of this seat use: a block that is known whole; a list of integers in memory; what a call gives. Plain facts on sets as lists, for the walks: whether a list is a set, step by step; what both have, step by step. Whether a list is a set, as the program and as the document ask it, walked. Memory of this seat: a list of lists of integers; a family of rows that the call itself makes, no two in one block. Two sides that may be: the program's May, walked. The program's part (Meet, Minus), walked: both lists rise, and one goes along the other. The program's Has and All, walked. Whether a list is a set, as the document asks it, walked. The document's answer: is a number in a list: walked. The document's meet and union of sets, walked. -/
import Derived.Lib.SlicesCompact
import Derived.Test.YteiejkhdonmcdaaGreatDoorProg
import Derived.WalkKit
import Derived.OwnWalk
import Derived.Lib.Hide
import Derived.Laws.Cells
import Derived.Laws.Rows
import Derived.Deep.Draws
import Derived.BigQuiet
import Derived.Deep.QuietTactic
import Derived.Laws.AppendOwnNone
import Derived.Maps.AppendAt
import Derived.Lib.OwnBridge
import Derived.DataElems
import Derived.Test.YteiejkhdonmcdaaGreatDoorX0A
import Derived.Test.YteiejkhdonmcdaaGreatDoorX0B
set_option maxHeartbeats 8000000
set_option maxRecDepth 100000
open Go.Lib (hid)
open Nat (le_refl)
namespace Go.Proofs.YteiejkhdonmcdaaGreatDoor.Wp
def Fit (x:Int):Prop:=0≤x∧x≤1099511627776
instance (x:Int):Decidable (Fit x):=inferInstanceAs (Decidable (_∧_))
def IsSet (l:List Int):Prop:=l.Pairwise (·<·)∧∀ x∈l,Fit x
instance (l:List Int):Decidable (IsSet l):=inferInstanceAs (Decidable (_∧_))
def mayB (l:List Int):Bool:=decide (IsSet l)
theorem X3_:IsSet []:=⟨List.Pairwise.nil,fun _ h=>absurd h j39_⟩
theorem W7_:∀ {a b:List Int},a.Pairwise (·<·)→b.Pairwise (·<·)→(∀ x,x∈a↔x∈b)→a=b
 | [],[],_,_,_=>rfl
 | [],y :: b,_,_,h=>absurd ((h y).2 j39_) j39_
 | x :: a,[],_,_,h=>absurd ((h x).1 j39_) j39_
 | x :: a,y :: b,ha,hb,h=>by
  rw [List.pairwise_cons] at ha hb;have g:x=y:=by
   rcases List.mem_cons.1 ((h x).1 j39_) with e | f
   ·exact e
   ·rcases List.mem_cons.1 ((h y).2 j39_) with e | j
    ·exact e.symm
    ·have:=hb.1 x f
     have:=ha.1 y j;omega
  subst g;congr 1;refine W7_ ha.2 hb.2 fun z=>⟨fun c=>?_,fun c=>?_⟩
  ·rcases List.mem_cons.1 ((h z).1 (by simp [c])) with e | d
   ·have:=ha.1 z c;omega
   ·exact d
  ·rcases List.mem_cons.1 ((h z).2 (by simp [c])) with e | d
   ·have:=hb.1 z c;omega
   ·exact d
theorem IsSet.ext {a b:List Int} (ha:IsSet a) (hb:IsSet b) (h:∀ x,x∈a↔x∈b):a=b:=W7_ ha.1 hb.1 h
theorem IsSet.sub {a b:List Int} (h:IsSet b) (hs:a.Sublist b):IsSet a:=⟨h.1.sublist hs,fun x c=>h.2 x (hs.subset c)⟩
theorem IsSet.filter {a:List Int} (h:IsSet a) (p:Int→Bool):IsSet (a.filter p):=h.sub List.filter_sublist
theorem IsSet.tail {x:Int} {a:List Int} (h:IsSet (x :: a)):IsSet a:=h.sub (List.sublist_cons_self x a)
def ins (x:Int):List Int→List Int
 | []=>[x]
 | y :: r=>if x<y then x :: y :: r else if x=y then y :: r else y :: ins x r
theorem Zn1 (x z:Int):∀ l,z∈ins x l↔z=x∨z∈l
 | []=>by simp [ins]
 | y :: r=>by
  unfold ins;split
  ·simp
  ·split
   ·subst_vars;simp
   ·simp only [List.mem_cons,Zn1 x z r]
    constructor
    ·rintro (h | h | h)<;>simp [h]
    ·rintro (h | h | h)<;>simp [h]
theorem Yq1 (x:Int) (f:Fit x):∀ l,IsSet l→IsSet (ins x l)
 | [],_=>⟨by simp [ins],by simp [ins];exact f⟩
 | y :: r,h=>by
  have g:=List.pairwise_cons.1 h.1;unfold ins;split
  ·refine ⟨List.pairwise_cons.2 ⟨fun z c=>?_,h.1⟩,fun z c=>?_⟩
   ·rcases List.mem_cons.1 c with e | d
    ·omega
    ·have:=g.1 z d;omega
   ·rcases List.mem_cons.1 c with e | d
    ·rw [e];exact f
    ·exact h.2 z d
  ·split
   ·exact h
   ·have j:=Yq1 x f r h.tail
    refine ⟨List.pairwise_cons.2 ⟨fun z c=>?_,j.1⟩,fun z c=>?_⟩
    ·rcases (Zn1 x z r).1 c with e | d
     ·omega
     ·exact g.1 z d
    ·rcases List.mem_cons.1 c with e | d
     ·rw [e];exact h.2 y j39_
     ·exact j.2 z d
def sortL:List Int→List Int
 | []=>[]
 | x :: r=>if Fit x then ins x (sortL r) else sortL r
theorem V7_:∀ l,IsSet (sortL l)
 | []=>X3_
 | x :: r=>by
  unfold sortL;split
  ·exact Yq1 x (by assumption) _ (V7_ r)
  ·exact V7_ r
theorem C7_ (z:Int):∀ l,z∈sortL l↔z∈l∧Fit z
 | []=>by simp [sortL]
 | x :: r=>by
  unfold sortL;split
  ·next hx =>
   rw [Zn1,C7_ z r,List.mem_cons];constructor
   ·rintro (e | ⟨h,c⟩)
    ·subst e;exact ⟨.inl rfl,hx⟩
    ·exact ⟨.inr h,c⟩
   ·rintro ⟨e | h,c⟩
    ·exact .inl e
    ·exact .inr ⟨h,c⟩
  ·next hx =>
   rw [C7_ z r,List.mem_cons];constructor
   ·rintro ⟨h,c⟩;exact ⟨.inr h,c⟩
   ·rintro ⟨e | h,c⟩
    ·subst e;exact absurd c hx
    ·exact ⟨h,c⟩
theorem Yf9 {r l:List Int} (c:IsSet r) (h:∀ x,x∈r↔x∈l∧Fit x):r=sortL l :=
 c.ext (V7_ l) fun x=>by rw [h,C7_]
theorem Zj1 {l:List Int} (h:IsSet l):sortL l=l :=
 (Yf9 h fun x=>⟨fun c=>⟨c,h.2 x c⟩,fun c=>c.1⟩).symm
theorem E8_:∀ l,(sortL l).length≤l.length
 | []=>le_refl _
 | x :: r=>by
  unfold sortL;have c:∀ (y:Int) (t:List Int),(ins y t).length≤t.length+1:=by
   intro y t;exact q17_
  split
  ·have:=c x (sortL r)
   have:=E8_ r;simp;omega
  ·have:=E8_ r
   simp;omega
def hasB (l:List Int) (x:Int):Bool:=mayB l && l.contains x
def Y1_ (a b:List Int):List Int:=if mayB a && mayB b then sortL (a ++ b) else []
def partL (a b:List Int) (w:Bool):List Int:=if mayB a && mayB b then a.filter fun x=>b.contains x==w else []
def meetL (a b:List Int):List Int:=partL a b true
def Z5_ (a b:List Int):List Int:=partL a b false
def subB (a b:List Int):Bool:=mayB a && mayB b && decide (Z5_ a b=[])
def allL (n:Int):List Int:=if n<1∨100000<n then [] else (List.range n.toNat).map Int.ofNat
theorem mayB_iff {l:List Int}:mayB l=true↔IsSet l:=by simp [mayB]
theorem I8_ {l:List Int} (h:IsSet l):mayB l=true:=mayB_iff.2 h
theorem B0_ (a b:List Int):IsSet (Y1_ a b):=by
 unfold Y1_;split
 ·exact V7_ _
 ·exact X3_
theorem Yg0 (a b:List Int) (w:Bool):IsSet (partL a b w):=by
 unfold partL;split
 ·next h=>exact (mayB_iff.1 (by simp at h;exact h.1)).filter _
 ·exact X3_
theorem Yg1 (a b:List Int):IsSet (meetL a b):=Yg0 a b true
theorem J7_ (a b:List Int):IsSet (Z5_ a b):=Yg0 a b false
theorem I9_ (n:Int):IsSet (allL n):=by
 unfold allL;split
 ·exact X3_
 ·next h =>
  refine ⟨?_,fun x d=>?_⟩
  ·rw [List.pairwise_map]
   exact List.pairwise_lt_range.imp fun h=>by simpa using h
  ·obtain ⟨k,c,rfl⟩:=List.mem_map.1 d
   have:=List.mem_range.1 c;have e:Int.ofNat k=(k:Int):=rfl;unfold Fit;rw [e];omega
theorem V8_ {a b:List Int} (ha:IsSet a) (hb:IsSet b) (x:Int):x∈Y1_ a b↔x∈a∨x∈b:=by
 unfold Y1_;rw [if_pos (by rw [I8_ ha,I8_ hb];rfl),C7_,List.mem_append];constructor
 ·exact fun h=>h.1
 ·rintro (h | h)
  ·exact ⟨.inl h,ha.2 x h⟩
  ·exact ⟨.inr h,hb.2 x h⟩
theorem Yg2 {a b:List Int} (ha:IsSet a) (hb:IsSet b) (w:Bool) (x:Int):x∈partL a b w↔x∈a∧(b.contains x=w):=by
 unfold partL;rw [if_pos (by rw [I8_ ha,I8_ hb];rfl),List.mem_filter];simp
theorem I1_ {a b:List Int} (ha:IsSet a) (hb:IsSet b) (x:Int):x∈meetL a b↔x∈a∧x∈b:=by
 unfold meetL;rw [Yg2 ha hb,List.contains_iff_mem]
theorem Y6_ {a b:List Int} (ha:IsSet a) (hb:IsSet b) (x:Int):x∈Z5_ a b↔x∈a∧x∉b:=by
 unfold Z5_;rw [Yg2 ha hb,← Bool.not_eq_true,List.contains_iff_mem]
theorem Zn2 {a b:List Int} (ha:IsSet a) (hb:IsSet b):subB a b=true↔∀ x∈a,x∈b:=by
 unfold subB;rw [I8_ ha,I8_ hb];simp only [Bool.and_self,Bool.true_and,decide_eq_true_eq];constructor
 ·intro h x d
  rcases Decidable.em (x∈b) with c | c
  ·exact c
  ·have:=(Y6_ ha hb x).2 ⟨d,c⟩
   rw [h] at this;exact absurd this j39_
 ·intro h
  rcases hm:Z5_ a b with _ | ⟨x,r⟩
  ·rfl
  ·have:=(Y6_ ha hb x).1 (by rw [hm];simp)
   exact absurd (h x this.1) this.2
theorem B7_ {l:List Int} (h:IsSet l) (x:Int):hasB l x=true↔x∈l:=by
 unfold hasB;rw [I8_ h];simp
theorem Yq2 (a b:List Int) (w:Bool):(partL a b w).length≤a.length:=by
 unfold partL;split
 ·exact List.length_filter_le _ _
 ·simp
theorem Zx0 (a b:List Int):(Y1_ a b).length≤a.length+b.length:=by
 unfold Y1_;split
 ·have:=E8_ (a ++ b)
  simpa using this
 ·simp
theorem Yn7 (n:Int):((allL n).length:Int)≤100000∧(1≤n→n≤100000→((allL n).length:Int)=n):=by
 unfold allL;split
 ·next h=>exact ⟨j39_,fun c d=>by omega⟩
 ·next h=>exact ⟨by simp;omega,fun c d=>by simp;omega⟩
theorem L1_ {n:Int} (d:0≤n) (f:n≤100000) (x:Int):x∈allL n↔0≤x∧x<n:=by
 unfold allL;split
 ·next h =>
  simp;omega
 ·rw [List.mem_map]
  constructor
  ·rintro ⟨k,c,rfl⟩
   have:=List.mem_range.1 c;have e:Int.ofNat k=(k:Int):=rfl;rw [e];omega
  ·intro h
   exact ⟨x.toNat,List.mem_range.2 q39_,by simp;omega⟩
section
variable {a b c:List Int} (ha:IsSet a) (hb:IsSet b) (hc:IsSet c)
include ha hb
include hc
end
theorem Za6:∀ {a b r:List Int},IsSet a→IsSet b→IsSet r→(∀ x,x∈a→x∉b)→(∀ x,x∈r↔x∈a∨x∈b)→r.length=a.length+b.length:=by
 intro a b r ha hb g hd c;have d:(a ++ b).Nodup:=by
  rw [List.nodup_append];refine ⟨ha.1.imp fun h=>by omega,hb.1.imp fun h=>by omega,fun x k y m e=>hd x k (by rw [e];exact m)⟩
 have j:r.Nodup:=g.1.imp fun h=>by omega
 have f:r.Perm (a ++ b):=by
  rw [List.perm_ext_iff_of_nodup j d];intro x;rw [c,List.mem_append]
 rw [f.length_eq,List.length_append]
theorem Vq9 {a b:List Int} (ha:IsSet a) (hb:IsSet b):(Y1_ a b).length+(meetL a b).length=a.length+b.length:=by
 have f:a.length=(Z5_ a b).length+(meetL a b).length:=by
  refine Za6 (J7_ a b) (Yg1 a b) ha ?_ ?_
  ·intro x d e
   exact ((Y6_ ha hb x).1 d).2 ((I1_ ha hb x).1 e).2
  ·intro x
   rw [Y6_ ha hb,I1_ ha hb];constructor
   ·intro h
    rcases Decidable.em (x∈b) with c | c
    ·exact .inr ⟨h,c⟩
    ·exact .inl ⟨h,c⟩
   ·rintro (h | h)<;>exact h.1
 have g:(Y1_ a b).length=(Z5_ a b).length+b.length:=by
  refine Za6 (J7_ a b) hb (B0_ a b) ?_ ?_
  ·intro x d
   exact ((Y6_ ha hb x).1 d).2
  ·intro x
   rw [Y6_ ha hb,V8_ ha hb];constructor
   ·rintro (h | h)
    ·rcases Decidable.em (x∈b) with c | c
     ·exact .inr c
     ·exact .inl ⟨h,c⟩
    ·exact .inr h
   ·rintro (h | h)
    ·exact .inl h.1
    ·exact .inr h
 omega
theorem Yn8 (d:Array Int) (hs:∀ i j,i≤j→j<d.size→d[i]!≤d[j]!):∀ m,m≤d.size→(Lib.compactUpTo d m).Pairwise (·<·)∧∀ x,x∈Lib.compactUpTo d m↔∃ j,j<m∧d[j]! = x:=by
 intro m
 induction m with
 | zero=>intro _;exact ⟨by simp [Lib.compactUpTo],by simp [Lib.compactUpTo]⟩
 | succ m ih =>
  intro w;obtain ⟨o,g⟩:=ih q39_;rw [Lib.compactUpTo_succ];by_cases c:Lib.keeps d m=true
  ·rw [if_pos c]
   constructor
   ·rw [List.pairwise_append]
    refine ⟨o,j39_,fun x r y q=>?_⟩;rw [List.mem_singleton] at q;subst q;obtain ⟨j,f,rfl⟩:=(g x).1 r;simp only [Lib.keeps,decide_eq_true_eq] at c;have s:=hs j (m - 1) q39_ q39_;have u:=hs (m - 1) m q39_ q39_;have v:d[m]!≠d[m - 1]!:=by
     rcases c with h | h
     ·omega
     ·exact h
    omega
   ·intro x
    rw [List.mem_append,List.mem_singleton,g];constructor
    ·rintro (⟨j,f,e⟩ | e)
     ·exact ⟨j,q39_,e⟩
     ·exact ⟨m,q39_,e.symm⟩
    ·rintro ⟨j,f,e⟩
     by_cases k:j=m
     ·subst k;exact .inr e.symm
     ·exact .inl ⟨j,q39_,e⟩
  ·have p:Lib.keeps d m=false:=by simpa using c
   rw [if_neg c,List.append_nil];refine ⟨o,fun x=>?_⟩;rw [g];constructor
   ·rintro ⟨j,f,e⟩;exact ⟨j,q39_,e⟩
   ·rintro ⟨j,f,e⟩
    by_cases k:j=m
    ·subst k
     simp only [Lib.keeps,decide_eq_false_iff_not,not_or,Decidable.not_not] at p;exact ⟨j - 1,q39_,by rw [← e,p.2]⟩
    ·exact ⟨j,q39_,e⟩
theorem Zh3 (l:List Int) (h:l.Pairwise (·≤·)):(Lib.compact l).Pairwise (·<·)∧∀ x,x∈Lib.compact l↔x∈l:=by
 have d:∀ i,i<l.length→l.toArray[i]! = l.getD i 0:=by
  intro i hi;rw [getElem!_pos l.toArray i j48_];simp [List.getD,hi]
 have hs:∀ i j,i≤j→j<l.toArray.size→l.toArray[i]!≤l.toArray[j]!:=by
  intro i j m c;have e:j<l.length:=by simpa using c
  rw [d i q39_,d j e];rcases Nat.lt_or_ge i j with f | k
  ·have:=List.pairwise_iff_getElem.1 h i j q39_ e f
   simpa [List.getD,e,show i<l.length from by omega] using this
  ·have:i=j:=by omega
   subst this;exact Int.le_refl _
 have hc:=Yn8 l.toArray hs l.length j39_;refine ⟨hc.1,fun x=>?_⟩;unfold Lib.compact;rw [hc.2];constructor
 ·rintro ⟨j,c,rfl⟩
  rw [d j c];simp [List.getD,c]
 ·intro g
  obtain ⟨j,c,rfl⟩:=List.mem_iff_getElem.1 g;exact ⟨j,c,by rw [d j c];simp [List.getD,c]⟩
theorem Zn3 (l:List Int):Lib.compact ((l.filter fun x=>decide (Fit x)).mergeSort fun x y=>decide (x≤y))=sortL l:=by
 have g:((l.filter fun x=>decide (Fit x)).mergeSort fun x y=>decide (x≤y)).Pairwise (·≤·):=by
  have:=List.pairwise_mergeSort (le:=fun x y:Int=>decide (x≤y)) (fun a b c d e=>by simp at *;omega) (fun a b=>by simp;omega) (l.filter fun x=>decide (Fit x));exact this.imp fun h=>by simpa using h
 obtain ⟨d,e⟩:=Zh3 _ g;have f:∀ x,x∈Lib.compact ((l.filter fun x=>decide (Fit x)).mergeSort fun x y=>decide (x≤y))↔x∈l∧Fit x:=by
  intro x;rw [e,List.mem_mergeSort,List.mem_filter,decide_eq_true_eq]
 exact Yf9 ⟨d,fun x j=>((f x).1 j).2⟩ f
end Go.Proofs.YteiejkhdonmcdaaGreatDoor.Wp
namespace Go.Proofs.YteiejkhdonmcdaaGreatDoor.Wp
open Go Go.RowKit
theorem info3:(Tryz.prog.info? 3).map (fun i=>(i.zero,i.size,i.bytes))=some (some (.int .i64 0),1,8):=x39_
def Blk (w:World) (g:Nat) (t:TypeId) (cs:Array Value):Prop:=w.heap[g]?=some (.cells cs t (0,0))
section
variable {w w':World} {g:Nat} {t:TypeId} {cs:Array Value}
theorem Blk.lt (h:Blk w g t cs):g<w.heap.size:=by
 rcases Nat.lt_or_ge g w.heap.size with d | c
 ·exact d
 ·unfold Blk at h;rw [Array.getElem?_eq_none c] at h;cases h
theorem Blk.cell (h:Blk w g t cs) (i:Nat):w.cell? ⟨g,i,none⟩=cs[i]?:=cell_of_row w g i cs t (0,0) h
theorem Blk.frozen (h:Blk w g t cs) (i:Nat):w.frozen? ⟨g,i,none⟩=false:=by
 unfold Blk at h;simp [World.frozen?,h]
theorem Blk.new (w:World) (t:TypeId) (cs:Array Value):Blk (w.alloc (.cells cs t)) w.heap.size t cs:=heap_alloc_new w _
theorem Blk.drew (h:Blk w g t cs):Blk w.drew g t cs:=h
theorem Blk.drewN (h:Blk w g t cs) (n:Nat):Blk (w.drewN n) g t cs:=h
theorem Blk.alloc (h:Blk w g t cs) (o:Obj):Blk (w.alloc o) g t cs:=(Below.heap_alloc w o g h.lt).trans h
theorem Blk.set_ (h:Blk w g t cs) (i:Nat) (u:Value):Blk (w.setCell ⟨g,i,none⟩ u) g t (cs.setIfInBounds i u):=by
 unfold Blk at h ⊢;simp [World.setCell,Array.getElem?_modify,h]
theorem Blk.far (h:Blk w g t cs) {p:Addr} (c:g≠p.block) (u:Value):Blk (w.setCell p u) g t cs:=(Below.heap_setCell w p u g c).trans h
theorem Blk.below {B:Nat} (h:Blk w g t cs) (hb:Below B w w') (c:g<B):Blk w' g t cs:=(hb.block g c).trans h
theorem Blk.grown {row:Option Nat} (h:Blk w g t cs) (hb:w.grownBy w' row) (c:some g≠row):Blk w' g t cs:=(hb.block g h.lt c).trans h
end
theorem N3_ {a w:World} {g:Nat} (h:a.grownBy w (some g)) {p:Addr} (c:p.block=g∨a.heap.size≤p.block) (u:Value):a.grownBy (w.setCell p u) (some g) :=
 ⟨h.os,h.tape,h.output,by simpa [World.setCell] using h.size,fun i e d=>(Below.heap_setCell w p u i (by
  rintro rfl;rcases c with c | c
  ·exact d (by rw [c])
  ·omega)).trans (h.block i e d)⟩
theorem Z6_ {a w:World} (h:Below a.heap.size a w) (row:Option Nat):a.grownBy w row:=⟨h.os,h.tape,h.output,h.size,fun i c _=>h.block i c⟩
theorem V3_ {a b c:World} {row:Option Nat} (h:a.grownBy b row) (k:b.grownBy c row):a.grownBy c row :=
 ⟨k.os.trans h.os,k.tape.trans h.tape,k.output.trans h.output,Nat.le_trans h.size k.size,fun i d e=>(k.block i (Nat.lt_of_lt_of_le d h.size) e).trans (h.block i d e)⟩
theorem Y2_ {B:Nat} {a w:World} (h:Below B a w) (n:Nat):Below B a (w.drewN n):=⟨h.os,h.tape,h.output,h.size,h.block⟩
def Row (w:World) (B:Nat) (v:Value) (zs:List Int):Prop :=
 ∃ A c,v=.slice A zs.length c∧(zs.length≤c∧c≤maxLen∧(A=none→c=0))∧∀ k,k<zs.length→∃ ad:Addr,A=some ad∧ad.block<B∧w.cell? (ad.add k)=some (.int .i64 (zs.getD k 0))
theorem add_zero (a:Addr):a.add 0=a:=by unfold Addr.add;split<;>simp_all
theorem Z2_ (a:Addr) (n:Nat):(a.add n).block=a.block:=by unfold Addr.add;split<;>rfl
theorem Row.below {w w':World} {B:Nat} {v:Value} {zs:List Int} (h:Row w B v zs) (hb:Below B w w'):Row w' B v zs:=by
 obtain ⟨A,c,j,g,e⟩:=h;refine ⟨A,c,j,g,fun k f=>?_⟩;obtain ⟨d,hA,hB,hc⟩:=e k f;exact ⟨d,hA,hB,(hb.cell q46_).trans hc⟩
theorem Row.mono {w:World} {B d:Nat} {v:Value} {zs:List Int} (h:Row w B v zs) (hB:B≤d):Row w d v zs:=by
 obtain ⟨A,c,m,j,f⟩:=h;refine ⟨A,c,m,j,fun k g=>?_⟩;obtain ⟨e,hA,hb,hc⟩:=f k g;exact ⟨e,hA,q39_,hc⟩
theorem Row.of_own {w:World} {base:Nat} {v:Value} {n:Nat} {zs:List Int} (h:w.ownsRow base 3 1 v n (zs.map (Value.int .i64))) (j:n=zs.length):Row w w.heap.size v zs:=by
 subst j;rcases h.2 with ⟨rfl,d⟩ | ⟨g,c,m,rfl,hb,o,e,f,_⟩
 ·have:zs=[]:=List.eq_nil_of_length_eq_zero (by simpa using d)
  subst this;exact j11_
 ·refine ⟨_,c,rfl,⟨e,f,fun h=>k47_⟩,fun k hk=>⟨⟨g,0,none⟩,rfl,(h.lt g rfl).2,?_⟩⟩
  refine h.cells (g:=g) rfl k _ ?_;rw [List.getElem?_map,List.getElem?_eq_getElem hk];simp [List.getD,hk]
theorem Row.lit0 (W:World):Row (W.alloc (.cells #[] 3)) (W.heap.size+1) (.slice (some ⟨W.heap.size,0,none⟩) 0 0) []:=⟨_,0,rfl,⟨le_refl _,x40_,fun _=>rfl⟩,fun k c=>absurd c j39_⟩
theorem Row.nil_ (W:World) (B:Nat):Row W B (.slice none 0 0) []:=⟨none,0,rfl,⟨le_refl _,x40_,fun _=>rfl⟩,fun k c=>absurd c j39_⟩
theorem Row.lit1 (W:World) (x:Int):Row (W.alloc (.cells #[.int .i64 x] 3)) (W.heap.size+1) (.slice (some ⟨W.heap.size,0,none⟩) 1 1) [x]:=by
 refine ⟨_,1,rfl,⟨le_refl _,x40_,fun h=>k47_⟩,fun k c=>⟨⟨W.heap.size,0,none⟩,rfl,by show W.heap.size<_;omega,?_⟩⟩;have hb:=Blk.new W 3 #[.int .i64 x]
 match k,c with
 | 0,_=>exact hb.cell 0
theorem Row.lit2 (W:World) (x y:Int):Row (W.alloc (.cells #[.int .i64 x,.int .i64 y] 3)) (W.heap.size+1) (.slice (some ⟨W.heap.size,0,none⟩) 2 2) [x,y]:=by
 refine ⟨_,2,rfl,⟨le_refl _,x40_,fun h=>k47_⟩,fun k c=>⟨⟨W.heap.size,0,none⟩,rfl,by show W.heap.size<_;omega,?_⟩⟩;have hb:=Blk.new W 3 #[.int .i64 x,.int .i64 y]
 match k,c with
 | 0,_=>exact hb.cell 0
 | 1,_=>exact hb.cell 1
theorem Row.lit3 (W:World) (x y z:Int):Row (W.alloc (.cells #[.int .i64 x,.int .i64 y,.int .i64 z] 3)) (W.heap.size+1) (.slice (some ⟨W.heap.size,0,none⟩) 3 3) [x,y,z]:=by
 refine ⟨_,3,rfl,⟨le_refl _,x40_,fun h=>k47_⟩,fun k c=>⟨⟨W.heap.size,0,none⟩,rfl,by show W.heap.size<_;omega,?_⟩⟩;have hb:=Blk.new W 3 #[.int .i64 x,.int .i64 y,.int .i64 z]
 match k,c with
 | 0,_=>exact hb.cell 0
 | 1,_=>exact hb.cell 1
 | 2,_=>exact hb.cell 2
theorem Yg3 (w:World) (t:TypeId) (u:Value):∀ (j:Nat) (v:Value),[u][j]?=some v→(w.alloc (.cells #[u] t)).cell? ((⟨w.heap.size,0,none⟩:Addr).add j)=some v:=by
 intro j v c
 match j,c with
 | 0,c =>
  simp at c;subst c;rw [add_zero];exact (Blk.new w t #[u]).cell 0
theorem Va0 (x:Int):∀ u∈[Value.int .i64 x],u.oneCell'=true:=by
 intro u c;simp at c;subst c;rfl
def lenOf:Value→Nat
 | .slice _ n _=>n
 | _=>0
def Says (w:World) (b:Bool) (e:Ending) (w':World):Prop:=e=.returned (.bool b)∧Below w.heap.size w w'
def Gives (w:World) (r:List Int) (e:Ending) (w':World):Prop:=∃ v,e=.returned v∧Row w' w'.heap.size v r∧Below w.heap.size w w'
def ints (l:List Int):List Value:=l.map (Value.int .i64)
theorem J4_ (a b:List Int):ints (a ++ b)=ints a ++ ints b:=List.map_append
theorem Q8_ (l:List Int):(ints l).length=l.length:=List.length_map ..
theorem Z4_ {w:World} {ops:Array Oper} {rest:List Oper} {o:Oper} {a:Act} {Q:Exit→Act→World→Prop} (p:o.guard=none) (s x:Operand)
  (D:o.op=.call { callee:=.builtin .append,args:=#[s,x],argTypes:=#[26, 26] })
  (base B:Nat) (v G:Value) (zs ys:List Int) (hs:a.eval s=v) (E:a.eval x=G) (m:w.ownsRow base 3 1 v zs.length (ints zs)) (L:Row w B G ys)
  (V:zs.length≤4194304) (U:ys.length≤4194304) (hb:base≤w.heap.size)
  (h:∀ g w',w'.ownsRow base 3 1 g (zs ++ ys).length (ints (zs ++ ys))→w.grownBy w' v.ownBlock→wpList Tryz.prog ops Q rest (a.put o.dst g) w'):wpList Tryz.prog ops Q (o :: rest) a w:=by
 obtain ⟨F,q,O,P,R⟩:=info_parts info3;obtain ⟨A,c,rfl,K,C⟩:=L;have J:∀ d,A=some d→∀ j u,(ints ys)[j]?=some u→w.cell? (d.add j)=some u:=by
  intro d hA j u f;have k:j<ys.length:=by
   have:=(List.getElem?_eq_some_iff.1 f).1;simpa [ints] using this
  obtain ⟨T,e,_,hc⟩:=C j k;rw [hA] at e;have e:=Option.some.inj e;subst e;rw [hc];rw [ints,List.getElem?_map,List.getElem?_eq_getElem k] at f;simp at f;rw [← f];simp [List.getD,k]
 have S:∀ d,A=some d→wpList Tryz.prog ops Q (o :: rest) a w:=by
  intro d hA;refine wpList_append_own w p s x _ D base 3 F (.int .i64 0) 1 8 x39_ q O P R rfl x40_ v zs.length (ints zs) hs m d ys.length c (ints ys) (by rw [E,hA]) (by simp [ints]) (J d hA) ?_ ?_ ?_ hb ?_
  ·intro u M
   obtain ⟨z,_,rfl⟩:=List.mem_map.1 M;rfl
  ·unfold maxLen;omega
  ·omega
  ·intro g w' H I _
   refine h g w' ?_ I;rw [J4_,List.length_append];exact H
 cases A with
 | some d=>exact S d rfl
 | none =>
  have N:ys=[]:=by
   cases ys with
   | nil=>rfl
   | cons y r =>
    obtain ⟨_,hA,_⟩:=C 0 j39_;cases hA
  subst N;have hc:=K.2.2 rfl;subst hc;refine wpList_append_own_none p s x _ D base 3 F 1 x39_ q v zs.length (ints zs) hs m E ?_;exact h v w (by rw [List.append_nil];exact m) ⟨rfl,rfl,rfl,le_refl _,fun _ _ _=>rfl⟩
def Truly (w:World) (e:Ending) (w':World):Prop:=e=.returned (.bool true)∧Below w.heap.size w w'
theorem Row.up {w w':World} {v:Value} {l:List Int} (h:Row w w.heap.size v l) (hb:Below w.heap.size w w'):Row w' w'.heap.size v l:=(h.below hb).mono hb.size
theorem Z0_ {B:Nat} {a b c:World} (h:Below B a b) (hB:B≤a.heap.size) (k:Below b.heap.size b c):Below B a c:=h.trans (k.mono (Nat.le_trans hB h.size))
theorem Row.here {w:World} {o:Obj} {v:Value} {l:List Int} (h:Row (w.alloc o) (w.heap.size+1) v l):Row (w.alloc o) (w.alloc o).heap.size v l:=by
 have e:(w.alloc o).heap.size=w.heap.size+1:=j39_;rw [e];exact h
theorem Row.upA {w:World} {v:Value} {l:List Int} (h:Row w w.heap.size v l) (o:Obj):Row (w.alloc o) (w.alloc o).heap.size v l:=h.up ((Below.refl _ w).alloc (le_refl _) o)
end Go.Proofs.YteiejkhdonmcdaaGreatDoor.Wp
namespace Go.Proofs.YteiejkhdonmcdaaGreatDoor
open Go.RowKit
namespace Wp
theorem Y7_ {w w':World} {b c:Bool} {e:Ending} (hb:b=c) (d:e=.returned (.bool c)) (h:Below w.heap.size w w'):Says w b e w':=⟨by rw [hb];exact d,h⟩
theorem Yg4 (l:List Int) (k:Nat) (f:k<l.length) (h:IsSet (l.take k)) (m:Fit (l.getD k 0)) (d:k=0∨l.getD (k - 1) 0<l.getD k 0):IsSet (l.take (k+1)):=by
 have e:l.take (k+1)=l.take k ++ [l.getD k 0]:=by
  rw [List.take_succ_eq_append_getElem f];simp [List.getD,f]
 rw [e];refine ⟨?_,fun x c=>?_⟩
 ·rw [List.pairwise_append]
  refine ⟨h.1,j39_,fun x c y g=>?_⟩;rw [List.mem_singleton] at g;subst g;obtain ⟨j,o,rfl⟩:=List.mem_iff_getElem.1 c;rw [List.length_take] at o;rcases d with q | d
  ·omega
  ·have hl:l.getD (k - 1) 0=(l.take k)[k - 1]'y42_:=by
    simp [List.getD,show k - 1<l.length from by omega]
   rw [hl] at d;rcases Nat.lt_or_ge j (k - 1) with p | r
   ·have:=List.pairwise_iff_getElem.1 h.1 j (k - 1) y42_ y42_ p
    omega
   ·have:j=k - 1:=by omega
    subst this;exact d
 ·rw [List.mem_append,List.mem_singleton] at c
  rcases c with c | c
  ·exact h.2 x c
  ·subst c;exact m
theorem Zt6 (l:List Int) (k:Nat) (c:k<l.length) (h:¬ Fit (l.getD k 0)∨(0<k∧l.getD k 0≤l.getD (k - 1) 0)):mayB l=false:=by
 rw [← Bool.not_eq_true,mayB_iff];intro hs;have d:l.getD k 0∈l:=by simp [List.getD,c]
 rcases h with h | ⟨e,h⟩
 ·exact h (hs.2 _ d)
 ·have:=List.pairwise_iff_getElem.1 hs.1 (k - 1) k q39_ c q39_
  simp [List.getD,c,show k - 1<l.length from by omega] at h;omega
theorem Xx2 (l:List Int) (k:Nat) (c:k=l.length) (h:IsSet (l.take k)):mayB l=true:=by
 subst c;rw [List.take_length] at h;exact I8_ h
theorem E9_ (w:World) {w':World} (h:Below w.heap.size w w') {r:List Int} (c:r=[]):Gives w r (.returned (.slice none 0 0)) w':=⟨_,rfl,by rw [c];exact Row.nil_ _ _,h⟩
theorem Zt7 {a b:List Int} (ha:mayB a=true) (hb:mayB b=true):Y1_ a b=sortL (a ++ b):=by unfold Y1_;rw [ha,hb];rfl
theorem Zt8 {a b:List Int} (ha:mayB a=false):Y1_ a b=[]:=by unfold Y1_;rw [ha];rfl
theorem Zt9 {a b:List Int} (hb:mayB b=false):Y1_ a b=[]:=by unfold Y1_;rw [hb,Bool.and_false];rfl
def B1_ (a b:List Int) (w:Bool) (k:Nat):List Int:=(a.take k).filter fun x=>b.contains x==w
theorem W8_ (a b:List Int) (w:Bool) (k:Nat) (h:k<a.length) (c:b.contains (a.getD k 0)=w):B1_ a b w (k+1)=B1_ a b w k ++ [a.getD k 0]:=by
 unfold B1_;rw [List.take_succ_eq_append_getElem h,List.filter_append];have e:a[k]=a.getD k 0:=y48_;rw [e];congr 1;rw [List.filter_cons,if_pos (by simpa using c)];rfl
theorem Za7 (a b:List Int) (w:Bool) (k:Nat) (h:k<a.length) (c:¬ b.contains (a.getD k 0)=w):B1_ a b w (k+1)=B1_ a b w k:=by
 unfold B1_;rw [List.take_succ_eq_append_getElem h,List.filter_append];have e:a[k]=a.getD k 0:=y48_;rw [e,List.filter_cons,if_neg (by simpa using c)];simp
theorem L2_ (a b:List Int) (w:Bool) (k:Nat):(B1_ a b w k).length≤a.length:=by
 unfold B1_;refine Nat.le_trans (List.length_filter_le _ _) ?_;simp;omega
theorem W9_ (a b:List Int) (w:Bool) (ha:mayB a=true) (hb:mayB b=true):B1_ a b w a.length=partL a b w:=by
 unfold B1_ partL;rw [List.take_length,ha,hb];rfl
theorem Zn4 {a b:List Int} {w:Bool} (ha:mayB a=false):partL a b w=[]:=by unfold partL;rw [ha];rfl
theorem Zn5 {a b:List Int} {w:Bool} (hb:mayB b=false):partL a b w=[]:=by unfold partL;rw [hb,Bool.and_false];rfl
theorem Xx3 {a b:List Int} (ha:mayB a=false):subB a b=false:=by unfold subB;rw [ha];rfl
theorem Xx4 {a b:List Int} (hb:mayB b=false):subB a b=false:=by unfold subB;rw [hb,Bool.and_false];rfl
theorem Va1 {a b:List Int} (ha:mayB a=true) (hb:mayB b=true):subB a b=decide (Z5_ a b=[]):=by unfold subB;rw [ha,hb];rfl
open Go.RowKit
theorem Xl5 (x:Int) (w:World):Calls Tryz.prog 78 #[.int .i64 x] w fun e w'=>e=.returned (.bool (decide (Fit x)))∧w'=w:=by
 by_cases c:0≤x
 ·by_cases d:x≤1099511627776
  ·have hf:decide (Fit x)=true:=by simp [Fit,c,d]
   exact x33_
  ·have hf:decide (Fit x)=false:=by simp [Fit,d]
   exact x33_
 ·have hf:decide (Fit x)=false:=by simp [Fit,c]
  exact x33_
theorem Zz0 (x:Int) (b:Bool) (h:decide (Fit x)=b) (w:World):Calls Tryz.prog 78 #[.int .i64 x] w fun e w'=>e=.returned (.bool b)∧w'=w:=by
 subst h;exact Xl5 x w
theorem may_any (v:Value) (l:List Int) (w:World) (C:Row w w.heap.size v l) (hl:l.length≤9223372036854775807):Calls Tryz.prog 55 #[v] w (Says w (mayB l)):=by
 obtain ⟨A,c,rfl,_,p⟩:=C;have Hcell:=hid p;clear p;have L:(l.length:Int)≤9223372036854775807:=q39_
 go_enter Tryz.func55,Tryz.ntmps55
 go_wp2
 go_loopw [7] (fun m wr=>∃ k q:Nat,m=.int .i64 k∧k≤l.length∧wr=w.drewN q∧IsSet (l.take k)) (fun m _=>l.length - (intOf m).toNat)
 case atStart=>exact ⟨0,0,rfl,Nat.zero_le _,rfl,by simpa using X3_⟩
 case round =>
  obtain ⟨k,q,rfl,J,u,s⟩:=hrel;have Hwr:=hid u;have Hset:=hid s;clear u s;by_cases h:k<l.length
  ·obtain ⟨o,hA,G,hc⟩:=Hcell.out k h
   subst hA;have g:wr.cell? (o.add k)=some (.int .i64 (l.getD k 0)):=by rw [Hwr.out];exact hc
   clear hc;have d:=hid (Yg4 l k h Hset.out);have Hfail:=hid (Zt6 l k h);have Hq:Hid (Below w.heap.size w wr):=k29_;by_cases B:k=0
   ·subst B
    rw [add_zero] at g;generalize l.getD 0 0=x at g d Hfail;by_cases hx:Fit x
    ·have hfx:=Zz0 x true z42_
     go_wp2_with (go_at_call 78;refine (hfx _).mono ?_;rintro e w' ⟨rfl,rfl⟩)
     go_roundw
     case rel=>exact ⟨1,q,rfl,q39_,Hwr.out,d.out hx (.inl trivial)⟩
     case measure=>simp [intOf];omega
    ·exact q14_
   ·obtain ⟨j,r⟩:∃ j,j+1=k:=⟨k - 1,q39_⟩
    have H:(k:Int) - 1=(j:Int):=q39_;have I:(j:Int)<(l.length:Int):=q39_;have z:wr.cell? (o.add j)=some (.int .i64 (l.getD j 0)):=z20_;have F:=hid r;have K:0<(k:Int):=q39_;rw [show k - 1=j from by omega] at d Hfail;clear r;generalize l.getD k 0=x at g d Hfail;generalize l.getD j 0=y at z d Hfail;by_cases hx:Fit x
    ·have hfx:=Zz0 x true z42_
     by_cases E:y<x
     ·go_wp2_with (go_at_call 78;refine (hfx _).mono ?_;rintro e w' ⟨rfl,rfl⟩)
      go_roundw
      case rel=>exact ⟨k+1,q,j40_,q39_,Hwr.out,d.out hx (.inr E)⟩
      case measure=>simp [intOf];omega
     ·have D:x≤y:=by omega
      go_wp2_with (go_at_call 78;refine (hfx _).mono ?_;rintro e w' ⟨rfl,rfl⟩)
      go_ret;exact Y7_ (Hfail.out (.inr ⟨q39_,D⟩)) rfl Hq.out
    ·exact q14_
  ·exact y14_
open Go.RowKit
def Rows2 (w:World) (B:Nat) (v:Value) (pp:List (List Int)):Prop :=
 ∃ A c,v=.slice A pp.length c∧(pp.length≤c∧c≤maxLen∧(A=none→c=0)) ∧
  ∀ k,k<pp.length→∃ (ad:Addr) (u:Value),A=some ad∧ad.block<B∧w.cell? (ad.add k)=some u∧Row w B u (pp.getD k [])
theorem Rows2.below {w w':World} {B:Nat} {v:Value} {pp:List (List Int)} (h:Rows2 w B v pp) (hb:Below B w w'):Rows2 w' B v pp:=by
 obtain ⟨A,c,o,m,g⟩:=h;refine ⟨A,c,o,m,fun k j=>?_⟩;obtain ⟨d,u,hA,hB,e,f⟩:=g k j;exact ⟨d,u,hA,hB,(hb.cell q46_).trans e,f.below hb⟩
theorem Rows2.mono {w:World} {B d:Nat} {v:Value} {pp:List (List Int)} (h:Rows2 w B v pp) (hB:B≤d):Rows2 w d v pp:=by
 obtain ⟨A,c,p,o,j⟩:=h;refine ⟨A,c,p,o,fun k m=>?_⟩;obtain ⟨e,u,hA,hb,f,g⟩:=j k m;exact ⟨e,u,hA,q39_,f,g.mono hB⟩
theorem Rows2.up {w w':World} {v:Value} {pp:List (List Int)} (h:Rows2 w w.heap.size v pp) (hb:Below w.heap.size w w'):Rows2 w' w'.heap.size v pp:=(h.below hb).mono hb.size
theorem Zx1 {w:World} {j k:Nat} {e f:TypeId} {y z v x:Nat} {d h:Value} {A B:List Value} (o:w.ownsRow j e y d v A) (p:w.ownsRow k f z h x B) (u:e≠f) :
  d.ownBlock=none∨d.ownBlock≠h.ownBlock:=by
 rcases o.2 with ⟨rfl,_⟩ | ⟨g,C,E,rfl,_,s,_⟩
 ·exact .inl rfl
 ·right
  rcases p.2 with ⟨rfl,_⟩ | ⟨m,D,F,rfl,_,c,_⟩
  ·simp [Value.ownBlock]
  ·intro q
   have r:g=m:=by simpa [Value.ownBlock] using q
   subst r;rw [s] at c;injection c with c;injection c with _ ht;exact u ht
def Fam (w:World) (B:Nat) (vs:List Value) (pp:List (List Int)):Prop :=
 vs.length=pp.length∧(∀ (i:Nat) (v:Value) (p:List Int),vs[i]?=some v→pp[i]?=some p→w.ownsRow B 3 1 v p.length (ints p)) ∧
  ∀ (i j:Nat) (v u:Value),vs[i]?=some v→vs[j]?=some u→i≠j→v.ownBlock=none∨v.ownBlock≠u.ownBlock
theorem Yq3 (w:World) (B:Nat):Fam w B [] []:=⟨rfl,fun i v p h=>by simp at h,fun i j v u h=>by simp at h⟩
theorem Fam.kept {w w':World} {B:Nat} {c:List Value} {pp:List (List Int)} (h:Fam w B c pp) {row:Option Nat} (e:w.grownBy w' row) (g:∀ v∈c,v.ownBlock=none∨v.ownBlock≠row):Fam w' B c pp :=
 ⟨h.1,fun i v p d f=>(h.2.1 i v p d f).kept e (g v (List.mem_of_getElem? d)),h.2.2⟩
theorem Fam.apart {w w':World} {B:Nat} {c:List Value} {pp:List (List Int)} (h:Fam w B c pp) {g:Nat} (e:w.grownBy w' (some g)) (o:g<B):Fam w' B c pp:=by
 refine h.kept e fun v m=>?_;obtain ⟨i,hi,rfl⟩:=List.mem_iff_getElem.1 m;have f:i<pp.length:=j47_;have j:=h.2.1 i _ _ (List.getElem?_eq_getElem hi) (List.getElem?_eq_getElem f);rcases hb:c[i].ownBlock with _ | k
 ·exact .inl rfl
 ·right
  have:=j.lt k hb;intro d;injection d with d;omega
theorem Fam.new {w w':World} {B:Nat} {c:List Value} {pp:List (List Int)} (h:Fam w B c pp) (d:w.grownBy w' none):Fam w' B c pp :=
 h.kept d fun v _=>by
  rcases v.ownBlock with _ | k
  ·exact .inl rfl
  ·exact .inr j39_
theorem Fam.more {w:World} {B:Nat} {c:List Value} {pp:List (List Int)} (h:Fam w B c pp):Fam w B (c ++ [.slice none 0 0]) (pp ++ [[]]):=by
 have o:(Value.slice none 0 0).ownBlock=none:=rfl;refine ⟨by simp [h.1],fun i v p hv hp=>?_,fun i j v u hv d f=>?_⟩
 ·by_cases hi:i<c.length
  ·exact y19_
  ·have e:i=c.length:=x15_
   subst e;rw [List.getElem?_append_right (le_refl _)] at hv;rw [h.1,List.getElem?_append_right (le_refl _)] at hp;simp at hv hp;subst hv hp;exact World.ownsRow_nil _ _ _ _
 ·by_cases hi:i<c.length
  ·rw [List.getElem?_append_left hi] at hv
   by_cases g:j<c.length
   ·rw [List.getElem?_append_left g] at d
    exact h.2.2 i j v u hv d f
   ·have m:j=c.length:=by
     have:=(List.getElem?_eq_some_iff.1 d).1;simp at this;omega
    subst m;rw [List.getElem?_append_right (le_refl _)] at d;simp at d;subst d;rw [o];rcases v.ownBlock with _ | k
    ·exact .inl rfl
    ·exact .inr j39_
  ·have e:i=c.length:=x15_
   subst e;rw [List.getElem?_append_right (le_refl _)] at hv;simp at hv;subst hv;exact .inl rfl
theorem Fam.grow {w w':World} {B:Nat} {m:List Value} {pp:List (List Int)} (h:Fam w B m pp) {at_:Nat} {u u':Value} {q:List Int} (x:m[at_]?=some u) (C:w.grownBy w' u.ownBlock)
  (F:w'.ownsRow B 3 1 u' q.length (ints q)) (hl:u'.ownBlock=u.ownBlock∨u'.ownBlock=some w.heap.size):Fam w' B (m.set at_ u') (pp.set at_ q):=by
 have o:at_<m.length:=(List.getElem?_eq_some_iff.1 x).1;have A:∀ (j:Nat) (v:Value),m[j]?=some v→∀ k,v.ownBlock=some k→k<w.heap.size:=by
  intro j v c k E;have s:=(List.getElem?_eq_some_iff.1 c).1;have D:j<pp.length:=by rw [← h.1];exact s
  exact ((h.2.1 j v _ c (List.getElem?_eq_getElem D)).lt k E).2
 refine ⟨by simp [h.1],fun i v p c g=>?_,fun i j v z c d y=>?_⟩
 ·by_cases f:i=at_
  ·subst f
   rw [List.getElem?_set_self o] at c;rw [List.getElem?_set_self (by rw [← h.1];exact o)] at g;injection c with c;injection g with g;subst c g;exact F
  ·rw [List.getElem?_set_ne (fun e=>f e.symm)] at c g
   exact (h.2.1 i v p c g).kept C (h.2.2 i at_ v u c x f)
 ·by_cases f:i=at_
  ·subst f
   rw [List.getElem?_set_self o] at c;injection c with c;subst c;rw [List.getElem?_set_ne y] at d;rcases hl with hl | hl
   ·rw [hl]
    exact h.2.2 i j u z x d y
   ·right
    rw [hl];intro r;have:=A j z d _ r.symm;omega
  ·rw [List.getElem?_set_ne (fun e=>f e.symm)] at c
   by_cases s:j=at_
   ·subst s
    rw [List.getElem?_set_self o] at d;injection d with d;subst d;rcases hl with hl | hl
    ·rw [hl]
     exact h.2.2 i j v u c x f
    ·rcases hb:v.ownBlock with _ | k
     ·exact .inl rfl
     ·right
      rw [hl];intro r;injection r with r;have:=A i v c k hb;omega
   ·rw [List.getElem?_set_ne (fun e=>s e.symm)] at d
    exact h.2.2 i j v z c d y
theorem J2_ {w:World} {ops:Array Oper} {rest:List Oper} {o:Oper} {a:Act} {Q:Exit→Act→World→Prop} (r:o.guard=none) (s x:Operand) (T e:TypeId) (z:Value) (f:Nat)
  (D:o.op=.call { callee:=.builtin .append,args:=#[s,x],argTypes:=#[T,T] }) (F:Tryz.prog.underlying T=some (.slice e)) (C:(Tryz.prog.info? e).map (fun i=>(i.zero,i.size,i.bytes))=some (some z,1,f)) (K:z.cells.size=1)
  (base:Nat) (v u:Value) (c:List Value) (hs:a.eval s=v) (E:w.ownsRow base e 1 v c.length c) (g:Nat) (G:a.eval x=.slice (some ⟨g,0,none⟩) 1 1) (hc:w.cell? ⟨g,0,none⟩=some u) (p:u.oneCell'=true)
  (hl:c.length≤4194304) (q:f≤1024) (hb:base≤w.heap.size)
  (h:∀ d w',w'.ownsRow base e 1 d (c.length+1) (c ++ [u])→w.grownBy w' v.ownBlock→(d.ownBlock=v.ownBlock∨d.ownBlock=some w.heap.size)→wpList Tryz.prog ops Q rest (a.put o.dst d) w'):wpList Tryz.prog ops Q (o :: rest) a w:=by
 obtain ⟨L,B,H,I,J⟩:=info_parts C;refine wpList_append_own_at w r s x T D base e L z 1 f F B H I J K x40_ v c.length c hs E ⟨g,0,none⟩ 1 1 [u] G j39_ ?_ ?_ ?_ ?_ hb ?_
 ·intro j y k
  match j,k with
  | 0,k =>
   simp at k;subst k;rw [add_zero];exact hc
 ·intro y m
  simp at m;subst m;exact p
 ·unfold maxLen;omega
 ·have:(c.length+1) * f≤4194305 * 1024:=Nat.mul_le_mul q39_ q
  omega
 ·intro d w' M N _ O
  exact h d w' M N O
theorem I2_ {w:World} {B:Nat} {e:TypeId} {v:Value} {n:Nat} {f:List Value} (h:w.ownsRow B e 1 v n f) (j:0<n):∃ g c,v=.slice (some ⟨g,0,none⟩) n c∧B≤g:=by
 rcases h.2 with ⟨_,rfl⟩ | ⟨g,c,_,d,hb,_⟩
 ·omega
 ·exact ⟨g,c,d,hb⟩
theorem Q1_ {w:World} {B:Nat} {e:TypeId} {v:Value} {n:Nat} {f:List Value} (h:w.ownsRow B e 1 v n f):∃ A c,v=.slice A n c:=by
 rcases h.2 with ⟨rfl,rfl⟩ | ⟨g,c,_,d,_⟩
 ·exact ⟨none,0,rfl⟩
 ·exact ⟨_,c,d⟩
theorem Fam.rows {w:World} {B:Nat} {v:Value} {c:List Value} {pp:List (List Int)} (h:Fam w B c pp) (d:w.ownsRow B 26 1 v c.length c):Rows2 w w.heap.size v pp:=by
 have q:∀ k,k<pp.length→∃ u,c[k]?=some u∧Row w w.heap.size u (pp.getD k []):=by
  intro k hk;have f:k<c.length:=by rw [h.1];exact hk
  refine ⟨c[k],List.getElem?_eq_getElem f,?_⟩;have:=h.2.1 k _ _ (List.getElem?_eq_getElem f) (List.getElem?_eq_getElem hk);rw [show pp.getD k []=pp[k] from by simp [List.getD,hk]];exact Row.of_own this rfl
 rcases d.2 with ⟨rfl,m⟩ | ⟨g,j,x,rfl,hb,y,o,p,_⟩
 ·have hp0:pp.length=0:=by rw [← h.1];exact m
  exact k36_
 ·refine ⟨some ⟨g,0,none⟩,j,by rw [h.1],⟨by rw [← h.1];exact o,p,fun e=>by cases e⟩,fun k hk=>?_⟩
  obtain ⟨u,s,r⟩:=q k hk;exact ⟨_,u,rfl,(d.lt g rfl).2,d.cells (g:=g) rfl k u s,r⟩
open Go.RowKit
def okA (right:Int) (l:List Int):Bool:=mayB l && (decide (l.length=0) || decide (l.getD (l.length - 1) 0<right))
def mayM (right:Int) (adj:List (List Int)):Bool:=decide (0≤right∧right≤64) && decide (adj.length≤64) && adj.all (okA right)
theorem mayM_off {right:Int} {adj:List (List Int)} (h:right<0∨64<right∨64<(adj.length:Int)):mayM right adj=false:=y22_
theorem mayM_miss {right:Int} {adj:List (List Int)} {i:Nat} (hi:i<adj.length) (h:okA right (adj.getD i [])=false):mayM right adj=false:=by
 unfold mayM;exact z7_
theorem mayM_all {right:Int} {adj:List (List Int)} (c:¬ right<0) (d:¬ 64<right) (h3:¬ 64<(adj.length:Int)) (h:∀ i,i<adj.length→okA right (adj.getD i [])=true):mayM right adj=true:=k9_
theorem Xx5 {right:Int} {l:List Int} (h:mayB l=false):okA right l=false:=by simp [okA,h]
theorem Zn6 {right:Int} {l:List Int} (h:mayB l=true) (c:l.length=0):okA right l=true:=by simp [okA,h,c]
theorem Zj2 {right x:Int} {l:List Int} (h:mayB l=true) (c:0<l.length) (hx:l.getD (l.length - 1) 0=x):okA right l=decide (x<right):=by
 unfold okA;exact z22_
theorem mayset_is (v:Value) (l:List Int) (b:Bool) (h:mayB l=b) (w:World) (hr:Row w w.heap.size v l):Calls Tryz.prog 55 #[v] w (Says w b):=q23_
theorem kmay_any (right:Int) (v:Value) (adj:List (List Int)) (w:World) (O:Rows2 w w.heap.size v adj) :
  Calls Tryz.prog 145 #[.int .i64 right,v] w (Says w (mayM right adj)):=by
 obtain ⟨A,c,rfl,_,z⟩:=O;have H:=hid z;clear z;by_cases q:right<0
 ·rw [mayM_off (.inl q)]
  exact y5_
 by_cases r:64<right
 ·rw [mayM_off (.inr (.inl r))]
  exact y5_
 by_cases s:64<(adj.length:Int)
 ·rw [mayM_off (.inr (.inr s))]
  exact y5_
 have Hall:=hid (fun h=>mayM_all (adj:=adj) q r s h)
 go_enter Tryz.func145,Tryz.ntmps145
 go_wp2
 go_loopw [20] (fun o wr=>∃ i:Nat,o=.int .i64 i∧i≤adj.length∧Below w.heap.size w wr∧∀ j,j<i→okA right (adj.getD j [])=true) (fun o _=>adj.length - (intOf o).toNat)
 case atStart=>exact ⟨0,rfl,Nat.zero_le _,Below.refl _ _,fun j D=>absurd D (Nat.not_lt_zero _)⟩
 case round =>
  obtain ⟨i,rfl,S,y,F⟩:=hrel;have Hbr:=hid y;have Hok:=hid F;clear y F;by_cases E:i<adj.length
  ·have T:(i:Int)<(adj.length:Int):=by omega
   obtain ⟨J,u,hA,hab,C,k⟩:=H.out i E;subst hA;have M:=(Hbr.out.cell (p:=J.add i) x41_).trans C;have Hru:=hid ((k.below Hbr.out).mono Hbr.out.size);have Hmiss:=hid (fun h=>mayM_miss (right:=right) E h);have Hnext:Hid (okA right (adj.getD i [])=true→∀ j,j<i+1→okA right (adj.getD j [])=true):=fun h j D=>z14_;clear C hab Hok;generalize adj.getD i []=l at *
   rcases hm:mayB l with _ | _
   ·have Hm:=hid hm
    obtain ⟨G,K,rfl,_⟩:=k;clear hm;rw [Hmiss.out (Xx5 Hm.out)];exact k38_
   ·have Hm:=hid hm
    obtain ⟨G,K,rfl,hcap,B⟩:=k;have I:=hid B;obtain ⟨L,d⟩:∃ L,l.length=L:=⟨_,rfl⟩;have HL:=hid d;have R:(L:Int)≤9223372036854775807:=j8_;rw [d] at M Hru;clear hm B hcap d;by_cases h0:L=0
    ·have hok1:=hid (Zn6 (right:=right) Hm.out (HL.out.trans h0))
     exact y8_
    ·obtain ⟨x,m⟩:∃ x,l.getD (l.length - 1) 0=x:=⟨_,rfl⟩
     obtain ⟨al,N,halb,g⟩:=I.out (l.length - 1) q50_;have Hlast:=hid (Zj2 (right:=right) Hm.out q50_ m);rw [m,HL.out] at g;subst N;have Q:(0:Int)<(L:Int):=q39_;have U:IntKind.i64.wrap ((L:Int) - 1)=(L:Int) - 1:=q40_;have V:(0:Int)≤(L:Int) - 1:=q39_;have W:(L:Int) - 1<(L:Int):=q39_;have X:((L:Int) - 1).toNat=L - 1:=q39_;clear m h0
     go_wp2_with fail
     refine (mayset_is _ l true Hm.out _ Hru.out).mono ?_;rintro e w1 ⟨rfl,hb1⟩;have Hb1:=hid (Z0_ Hbr.out (le_refl _) hb1);have P:=(Hb1.out.cell (p:=al.add (L - 1)) j42_).trans g;clear hb1 g;by_cases hxr:x<right
     ·have hxr2:¬ right≤x:=by omega
      have Hok1:Hid (okA right l=true):=Hlast.out.trans (decide_eq_true hxr);exact q7_
     ·exact x34_
  ·exact z35_
open Go.RowKit
def from_ (x:Int):List Int→List Int
 | []=>[]
 | y :: r=>if y<x then from_ x r else y :: r
theorem Va2 {x y:Int} {r:List Int} (h:y<x):from_ x (y :: r)=from_ x r:=by rw [from_,if_pos h]
theorem Va3 {x y:Int} {r:List Int} (h:¬ y<x):from_ x (y :: r)=y :: r:=by rw [from_,if_neg h]
theorem Yg5 (x:Int):∀ l,(from_ x l).Sublist l
 | []=>List.Sublist.refl _
 | y :: r=>by
  unfold from_;split
  ·exact (Yg5 x r).cons y
  ·exact List.Sublist.refl _
theorem Yg6 (x z:Int) (c:x≤z):∀ l,(z∈from_ x l↔z∈l)
 | []=>Iff.rfl
 | y :: r=>by
  unfold from_;split
  ·rw [Yg6 x z c r,List.mem_cons]
   constructor
   ·exact .inr
   ·rintro (e | h)
    ·omega
    ·exact h
  ·exact Iff.rfl
theorem Xx6 (x:Int) (l:List Int) (h:l.Pairwise (·<·)) (y:Int) (r:List Int) (c:l=y :: r) (f:¬ y<x):(x∈l↔y=x):=by
 subst c;rw [List.pairwise_cons] at h;rw [List.mem_cons];constructor
 ·rintro (e | d)
  ·exact e.symm
  ·have:=h.1 x d;omega
 ·intro e;exact .inl e.symm
def Zx2 (a b b':List Int) (k:Nat):Prop:=b'.Pairwise (·<·)∧b'.length≤b.length∧∀ i,k≤i→i<a.length→(a.getD i 0∈b↔a.getD i 0∈b')
theorem Zu0 {a b:List Int} (hb:IsSet b):Zx2 a b b 0:=⟨hb.1,le_refl _,fun _ _ _=>Iff.rfl⟩
theorem Yq4 {a b c:List Int} {k:Nat} (ha:IsSet a) (e:k<a.length) (h:Zx2 a b c k):Zx2 a b (from_ (a.getD k 0) c) k:=by
 have hs:=Yg5 (a.getD k 0) c;refine ⟨h.1.sublist hs,Nat.le_trans hs.length_le h.2.1,fun i f d=>?_⟩;rw [h.2.2 i f d,Yg6 _ _ ?_];rcases Nat.lt_or_ge k i with g | j
 ·have:=List.pairwise_iff_getElem.1 ha.1 k i e d g
  simp [List.getD,e,d];omega
 ·have:i=k:=by omega
  subst this;exact Int.le_refl _
theorem D8_ {a b c:List Int} {k:Nat} (h:Zx2 a b c k):Zx2 a b c (k+1):=⟨h.1,h.2.1,fun i d=>h.2.2 i q39_⟩
theorem Yn9 {a b:List Int} {k:Nat} (c:k<a.length) (h:Zx2 a b [] k):b.contains (a.getD k 0)=false:=by
 have:=h.2.2 k (le_refl _) c;rw [← Bool.not_eq_true,List.contains_iff_mem,this];simp
theorem Yq5 {a b:List Int} {k:Nat} {y:Int} {r:List Int} (d:k<a.length) (h:Zx2 a b (y :: r) k) (e:¬ y<a.getD k 0):b.contains (a.getD k 0)=decide (y=a.getD k 0):=by
 have c:=h.2.2 k (le_refl _) d;rw [Xx6 _ _ h.1 y r rfl e] at c;rw [Bool.eq_iff_iff,List.contains_iff_mem,c,decide_eq_true_iff]
theorem Row.tail {w:World} {B:Nat} {v:Value} {y:Int} {r:List Int} (h:Row w B v (y :: r)):∃ d c,v=.slice (some d) (r.length+1) (c+1)∧w.cell? d=some (.int .i64 y)∧d.block<B∧r.length≤c∧c+1≤maxLen∧∀ f:Option Addr,(f=some (d.add 1)∨(c=0∧f=some d))→Row w B (.slice f r.length c) r:=by
 obtain ⟨A,c,rfl,⟨j,q,h3⟩,p⟩:=h;obtain ⟨d,rfl,o,hc⟩:=p 0 j39_;rw [add_zero] at hc;obtain ⟨g,rfl⟩:∃ g,c=g+1:=⟨c - 1,by simp at j;omega⟩;refine ⟨d,g,j39_,by simpa using hc,o,by simpa using j,q,fun f hA=>⟨f,g,rfl,⟨by simpa using j,q39_,fun e=>by rcases hA with h | ⟨_,h⟩<;>rw [e] at h<;>cases h⟩,fun k C=>?_⟩⟩;rcases hA with rfl | ⟨x,_⟩
 ·obtain ⟨u,m,z,s⟩:=p (k+1) k39_
  injection m with m;subst m;refine ⟨_,rfl,by rw [Z2_];exact o,?_⟩;have e:(d.add 1).add k=d.add (k+1):=by rw [Addr.add_add,Nat.add_comm]
  rw [e,s];simp
 ·simp at j;omega
theorem Va4 (N O:Value) (a b:List Int) (within:Bool) (w:World) (ha:Row w w.heap.size N a) (hb:Row w w.heap.size O b) (X:a.length≤1048576) (Y:b.length≤1048576) (p:mayB a=true) (q:mayB b=true) :
  Calls Tryz.prog 82 #[N,O,.bool within] w (Gives w (partL a b within)):=by
 have P:=hid ha;have D:=hid hb;obtain ⟨A1,c1,rfl,_,I⟩:=ha;obtain ⟨A2,c2,rfl,_⟩:=hb;have Q:=hid I;clear I;have Hall:=hid (W9_ a b within p q);have R:=hid (mayB_iff.1 p);have S:=hid (mayB_iff.1 q)
 go_enter Tryz.func82,Tryz.ntmps82
 go_wp2_with fail
 refine (may_any _ a w P.out (Nat.le_trans X x40_)).mono ?_;rintro e w1 ⟨rfl,g⟩;rw [p]
 go_wp2_with fail
 refine (may_any _ b w1 ((D.out.below g).mono g.size) (Nat.le_trans Y x40_)).mono ?_;rintro e w2 ⟨rfl,H⟩;rw [q];have G:Below w.heap.size w w2:=g.trans (H.mono g.size);clear g H p q;go_wp2
 go_loopw [1,7,21] (fun Z vl B wr=>∃ (k:Nat) (d:List Int),B=.int .i64 k∧k≤a.length∧Row wr w.heap.size Z d∧Zx2 a b d k∧wr.ownsRow w.heap.size 3 1 vl (B1_ a b within k).length (ints (B1_ a b within k))∧Below w.heap.size w wr) (fun _ _ B _=>a.length - (intOf B).toNat)
 case atStart=>exact ⟨0,b,rfl,Nat.zero_le _,D.out.below G,Zu0 S.out,World.ownsRow_nil _ _ _ _,G⟩
 case round =>
  obtain ⟨k,d,rfl,hk,J,K,hown,hbr⟩:=hrel;by_cases c:k<a.length
  ·obtain ⟨U,hA,hab,hc⟩:=Q.out k c
   subst hA;have V:wr.cell? (U.add k)=some (.int .i64 (a.getD k 0)):=(hbr.cell x41_).trans hc;clear hc;have x5:=L2_ a b within k;have Hyes:=hid (W8_ a b within k c);have Hno:=hid (Za7 a b within k c);have Hsv:=hid (Yq4 R.out c K);have F:=hid (fun h=>Yn9 (a:=a) (b:=b) c h);have E:=hid (fun y r h=>Yq5 (a:=a) (b:=b) (y:=y) (r:=r) c h);clear K;generalize a.getD k 0=x at V Hyes Hno Hsv F E;go_wp2
   go_loopw [1] (fun C x0=>∃ r:List Int,x0=wr∧Row wr w.heap.size C r∧from_ x d=from_ x r) (fun C _=>lenOf C)
   case atStart=>exact ⟨d,rfl,J,rfl⟩
   case round =>
    obtain ⟨r,rfl,j,v⟩:=hrel;have s:=Hsv;rw [v] at Hsv;have o:=hid v;clear v J;cases r with
    | nil =>
     clear s o;have Hc:=hid (F.out Hsv.out);have Hrr:=hid j;obtain ⟨A3,c3,rfl,_⟩:=j;cases within
     ·
      have Hx:=hid (Hyes.out (by rw [Hc.out]));clear Hyes Hno
      go_wp2_with (at_builtin;refine Z4_ rfl _ _ rfl w.heap.size _ _ _ (B1_ a b false k) [x] rfl rfl (hown.alloc _) (Row.lit1 _ x) q39_ j39_ q42_ ?_)
      intro v' w4 hown' hgrow;have hb4:Below w.heap.size wr w4:=((Below.refl _ wr).alloc hbr.size _).grown hgrow q42_ (fun i hi=>(hown.lt i hi).1);go_wp2
      go_roundw
      case rel=>exact ⟨k+1,[],j40_,q39_,Hrr.out.below hb4,D8_ Hsv.out,by rw [Hx.out,List.length_append];exact hown',hbr.trans hb4⟩
      case measure=>simp [intOf];omega
     ·
      have Hx:=hid (Hno.out (by rw [Hc.out];decide));clear Hyes Hno;go_wp2
      go_roundw
      case rel=>exact ⟨k+1,[],j40_,q39_,Hrr.out,D8_ Hsv.out,by rw [Hx.out];exact hown,hbr⟩
      case measure=>simp [intOf];omega
    | cons y r =>
     have Hrr:=hid j;obtain ⟨x1,c3,rfl,g2,x2,x3,W,L⟩:=j.tail;have T:=hid L;clear L j;have x6:(r.length:Int)≤(c3:Int):=q39_;have x4:(c3:Int)≤9223372036854775806:=by unfold maxLen at W;omega
     by_cases M:y<x
     ·rw [Va2 M] at o
      clear Hsv s;go_wp2
      go_roundw
      case rel =>
       refine ⟨r,trivial,T.out _ ?_,o.out⟩;by_cases u:c3=0
       ·rw [if_pos u];exact .inr ⟨u,rfl⟩
       ·rw [if_neg u];exact .inl (by simp [Addr.add])
      case measure=>simp [lenOf]
     ·rw [Va3 M] at Hsv
      clear s o;have m:=hid (E.out y r Hsv.out q39_);have x8:decide (y<x)=false:=k39_;by_cases z:y=x
      ·subst z
       have Hc:Hid (b.contains y=true):=by
        show b.contains y=true;rw [m.out];simp
       clear m;cases within
       ·
        exact z9_
       ·
        have Hx:=hid (Hyes.out (by rw [Hc.out]));clear Hyes Hno
        go_wp2_with (at_builtin;refine Z4_ rfl _ _ rfl w.heap.size _ _ _ (B1_ a b true k) [y] rfl rfl (hown.alloc _) (Row.lit1 _ y) q39_ j39_ q42_ ?_)
        exact y6_
      ·have Hc:Hid (b.contains x=false):=by
        show b.contains x=false;rw [m.out];simp [z]
       have x7:(y==x)=false:=by simp [z]
       clear m;cases within
       ·
        have Hx:=hid (Hyes.out (by rw [Hc.out]));clear Hyes Hno
        go_wp2_with (at_builtin;refine Z4_ rfl _ _ rfl w.heap.size _ _ _ (B1_ a b false k) [x] rfl rfl (hown.alloc _) (Row.lit1 _ x) q39_ j39_ q42_ ?_)
        exact y6_
       ·
        exact z9_
  ·exact q11_
theorem Xl6 (c d:Value) (a b:List Int) (within:Bool) (w:World) (ha:Row w w.heap.size c a) (hb:Row w w.heap.size d b) (h:a.length≤1048576) (j:b.length≤1048576) :
  Calls Tryz.prog 82 #[c,d,.bool within] w (Gives w (partL a b within)):=by
 rcases hma:mayB a with _ | _
 ·have g:=hid ha
  clear ha hb;have Hr:=hid (Zn4 (b:=b) (w:=within) hma)
  go_enter Tryz.func82,Tryz.ntmps82
  go_wp2_with fail
  refine (may_any c a w g.out (Nat.le_trans h x40_)).mono ?_;exact z27_
 ·rcases hmb:mayB b with _ | _
  ·have g:=hid ha
   have k:=hid hb;clear ha hb;have Hr:=hid (Zn5 (a:=a) (w:=within) hmb)
   go_enter Tryz.func82,Tryz.ntmps82
   go_wp2_with fail
   refine (may_any c a w g.out (Nat.le_trans h x40_)).mono ?_;rintro e w1 ⟨rfl,hb1⟩;rw [hma]
   go_wp2_with fail
   refine (may_any d b w1 ((k.out.below hb1).mono hb1.size) (Nat.le_trans j x40_)).mono ?_;rintro e m ⟨rfl,hb2⟩;rw [hmb];exact j20_
  ·exact Va4 c d a b within w ha hb h j hma hmb
theorem H5_ (c d:Value) (a b:List Int) (w:World) (ha:Row w w.heap.size c a) (hb:Row w w.heap.size d b) (j:a.length≤1048576) (k:b.length≤1048576) :
  Calls Tryz.prog 57 #[c,d] w (Gives w (Z5_ a b)):=by
 have g:=hid (Xl6 c d a b false w ha hb j k);clear ha hb
 go_enter Tryz.func57,Tryz.ntmps57
 go_wp2_with fail
 refine g.out.mono ?_;rintro e p ⟨o,rfl,m,h⟩;go_wp2;go_ret;exact ⟨_,rfl,m,h⟩
theorem Zz1 (h j:Value) (a b:List Int) (w:World) (ha:Row w w.heap.size h a) (hb:Row w w.heap.size j b) (p:a.length≤1048576) (u:b.length≤1048576) :
  Calls Tryz.prog 93 #[h,j] w (Says w (subB a b)):=by
 have k:=hid ha;have s:=hid hb;clear ha hb;rcases hma:mayB a with _ | _
 ·have d:=hid (Xx3 (b:=b) hma)
  go_enter Tryz.func93,Tryz.ntmps93
  go_wp2_with fail
  refine (may_any h a w k.out (Nat.le_trans p x40_)).mono ?_;rintro e q ⟨rfl,c⟩;rw [hma];go_wp2;go_ret;exact Y7_ d.out rfl c
 ·rcases hmb:mayB b with _ | _
  ·have d:=hid (Xx4 (a:=a) hmb)
   go_enter Tryz.func93,Tryz.ntmps93
   go_wp2_with fail
   refine (may_any h a w k.out (Nat.le_trans p x40_)).mono ?_;rintro e q ⟨rfl,c⟩;rw [hma]
   go_wp2_with fail
   refine (may_any j b q ((s.out.below c).mono c.size) (Nat.le_trans u x40_)).mono ?_;rintro e v ⟨rfl,o⟩;rw [hmb];go_wp2;go_ret;exact Y7_ d.out rfl (c.trans (o.mono c.size))
  ·have d:=hid (Va1 hma hmb)
   go_enter Tryz.func93,Tryz.ntmps93
   go_wp2_with fail
   refine (may_any h a w k.out (Nat.le_trans p x40_)).mono ?_;rintro e q ⟨rfl,c⟩;rw [hma]
   go_wp2_with fail
   refine (may_any j b q ((s.out.below c).mono c.size) (Nat.le_trans u x40_)).mono ?_;rintro e v ⟨rfl,o⟩;rw [hmb];have g:Below w.heap.size w v:=c.trans (o.mono c.size);clear c o
   go_wp2_with fail
   refine (H5_ h j a b v ((k.out.below g).mono g.size) ((s.out.below g).mono g.size) p u).mono ?_;rintro e G ⟨F,rfl,B,C⟩;have x:=g.trans (C.mono g.size);have z:=Yq2 a b false;change (Z5_ a b).length≤_ at z;generalize Z5_ a b=m at d B z;obtain ⟨D,c3,rfl,_⟩:=B;cases m with
   | nil =>
    go_wp2;go_ret;exact Y7_ d.out rfl x
   | cons y r =>
    have E:((r.length:Int)+1==0)=false:=k39_;go_wp2;go_ret;exact Y7_ d.out rfl x
open Go.RowKit
def upTo (k:Nat):List Int:=(List.range k).map Int.ofNat
theorem Zu1 (k:Nat):upTo (k+1)=upTo k ++ [(k:Int)]:=by
 unfold upTo;rw [List.range_succ,List.map_append];rfl
theorem Q9_ (k:Nat):(upTo k).length=k:=by simp [upTo]
theorem Xx7 {n:Int} (h:n<1∨100000<n):allL n=[]:=if_pos h
theorem Yq6 {n:Nat} (c:1≤n) (d:n≤100000):allL n=upTo n:=by
 unfold allL upTo;rw [if_neg q39_];rfl
def filled (n k:Nat):Array Value:=(ints (upTo k ++ List.replicate (n - k) 0)).toArray
theorem Yq7 {n k:Nat} (h:k≤n):(filled n k).size=n:=by
 simp [filled,Q8_,Q9_];omega
theorem Yo0 {n k:Nat} (h:k<n):(filled n k).setIfInBounds k (.int .i64 (k:Int))=filled n (k+1):=by
 unfold filled;rw [List.setIfInBounds_toArray];congr 1;rw [Zu1,J4_,J4_,J4_,List.append_assoc];have e:List.replicate (n - k) (0:Int)=0 :: List.replicate (n - (k+1)) 0:=by
  rw [show n - k=(n - (k+1))+1 from by omega,List.replicate_succ]
 rw [e,List.set_append_right _ _ (by rw [Q8_,Q9_];exact le_refl _),Q8_,Q9_,Nat.sub_self];rfl
theorem Yo1 (n:Nat):filled n n=(ints (upTo n)).toArray:=by
 unfold filled;rw [Nat.sub_self,List.replicate_zero,List.append_nil]
theorem Yo2 {w:World} {g n:Nat} (h:Blk w g 3 (filled n n)) (c:n≤maxLen):Row w w.heap.size (.slice (some ⟨g,0,none⟩) n n) (upTo n):=by
 rw [Yo1] at h;refine ⟨_,n,by rw [Q9_],⟨by rw [Q9_];exact le_refl _,c,fun e=>by cases e⟩,fun k hk=>⟨_,rfl,h.lt,?_⟩⟩;exact k18_
theorem R5_ (w:World) (g n:Nat) (h:w.ownsRow g 3 1 (.slice (some ⟨g,0,none⟩) n n) n (madeCells (Value.int .i64 0).cells (n * 1)).toList):Blk w g 3 (filled n 0):=by
 rcases h.2 with ⟨e,_⟩ | ⟨q,p,c,o,hb,k,d,f,h3,j⟩
 ·cases e
 ·injection o with e1 _ e3
  injection e1 with e1;injection e1 with e1;subst e1 e3;unfold Blk;rw [k];have m:(madeCells (Value.int IntKind.i64 0).cells (n * 1)).toList=(filled n 0).toList:=by
   unfold madeCells filled;simp only [upTo,List.range_zero,List.map_nil,List.nil_append,Nat.sub_zero,Nat.mul_one];apply List.ext_getElem
   ·simp [ints]
   ·intro i d f
    simp [ints,Value.cells,Nat.mod_one]
  have hc:c.toList=(filled n 0).toList:=by
   rw [← m,← j,List.take_of_length_le];rw [Array.length_toList,h3];exact le_refl _
  rw [Array.toList_inj.1 hc]
theorem Vl1 (n:Nat) (w:World) (r:1≤n) (s:n≤100000) :
  Calls Tryz.prog 76 #[.int .i64 n] w (Gives w (allL n)):=by
 have p:=hid (Yq6 r s);have E:¬ (n:Int)<1:=q39_;have F:¬ (100000:Int)<(n:Int):=q39_;obtain ⟨B,d,y,z,hz2⟩:=info_parts info3
 go_enter Tryz.func76,Tryz.ntmps76
 go_wp2_with (at_make;refine wpList_make_full w rfl _ _ 26 rfl w.heap.size 3 B (.int .i64 0) 1 x39_ d y z .i64 .i64 _ _ n rfl rfl k41_ k41_ x47_ z40_ (le_refl _) ?_)
 intro o m h;have c:=R5_ o w.heap.size n (by rw [Nat.mul_one];exact m);have u:Below w.heap.size w o:=(Below.refl _ w).grown h (le_refl _) (fun i d=>by cases d);clear m h;go_wp2
 go_loopw [15] (fun e wr=>∃ k:Nat,e=.int .i64 k∧k≤n∧Blk wr w.heap.size 3 (filled n k)∧Below w.heap.size w wr) (fun e _=>n - (intOf e).toNat)
 case atStart=>exact ⟨0,rfl,Nat.zero_le _,c,u⟩
 case round =>
  obtain ⟨k,rfl,v,c,g⟩:=hrel;by_cases j:k<n
  ·have hs:=Yq7 v
   have C:wr.cell? ⟨w.heap.size,k,none⟩=some ((filled n k)[k]'q39_):=by rw [c.cell];simp [hs,j]
   have D:=c.frozen k;have q:=hid c;clear c;go_wp2
   go_roundw
   case rel=>exact ⟨k+1,j40_,q39_,by rw [← Yo0 j];exact q.out.set_ k _,g.setCell (by exact le_refl _) _⟩
   case measure=>simp [intOf];omega
  ·have x:k=n:=by omega
   subst x;go_wp2;go_ret;exact ⟨_,rfl,by rw [p.out];exact Yo2 c z40_,g⟩
theorem L3_ (n:Int) (w:World):Calls Tryz.prog 76 #[.int .i64 n] w (Gives w (allL n)):=by
 by_cases c:n<1
 ·have Hf:=hid (Xx7 (.inl c))
  exact q21_
 ·by_cases d:100000<n
  ·have Hf:=hid (Xx7 (.inr d))
   exact q21_
  ·obtain ⟨m,rfl⟩:∃ m:Nat,n=(m:Int):=⟨n.toNat,q39_⟩
   exact Vl1 m w q39_ q39_
open Go.RowKit
theorem D9_ (v:Value) (l:List Int) (w:World) (E:Row w w.heap.size v l) (hl:l.length≤9223372036854775807):Calls Tryz.prog 34 #[v] w (Says w (mayB l)):=by
 obtain ⟨A,c,rfl,_,p⟩:=E;have Hcell:=hid p;clear p;have N:(l.length:Int)≤9223372036854775807:=q39_
 go_enter Tryz.func34,Tryz.ntmps34
 go_wp2
 go_loopw [3] (fun m wr=>∃ k q:Nat,m=.int .i64 k∧k≤l.length∧wr=w.drewN q∧IsSet (l.take k)) (fun m _=>l.length - (intOf m).toNat)
 case atStart=>exact ⟨0,0,rfl,Nat.zero_le _,rfl,by simpa using X3_⟩
 case round =>
  obtain ⟨k,q,rfl,K,u,s⟩:=hrel;have Hwr:=hid u;have Hset:=hid s;clear u s;by_cases g:k<l.length
  ·obtain ⟨o,hA,H,hc⟩:=Hcell.out k g
   subst hA;have e:wr.cell? (o.add k)=some (.int .i64 (l.getD k 0)):=by rw [Hwr.out];exact hc
   clear hc;have L:(k:Int)<(l.length:Int):=q39_;have d:=hid (Yg4 l k g Hset.out);have Hfail:=hid (Zt6 l k g);have Hq:Hid (Below w.heap.size w wr):=k29_;by_cases D:k=0
   ·subst D
    rw [add_zero] at e;generalize l.getD 0 0=x at e d Hfail;by_cases hx0:0≤x
    ·by_cases hx1:x≤1099511627776
     ·have d0:decide (x<0)=false:=by simp;omega
      have d1:decide (1099511627776<x)=false:=k39_;have B:decide ((0:Int)<0)=false:=rfl;go_wp2
      go_quiet (fail)
      go_wp2
      go_roundw
      case rel=>exact ⟨1,q+nq,rfl,q39_,by rw [Hwr.out,World.drewN_drewN],d.out ⟨hx0,hx1⟩ (.inl trivial)⟩
      case measure=>simp [intOf];omega
     ·exact y33_
    ·exact z34_
   ·obtain ⟨j,r⟩:∃ j,j+1=k:=⟨k - 1,q39_⟩
    have I:(k:Int) - 1=(j:Int):=q39_;have J:(j:Int)<(l.length:Int):=q39_;have C:wr.cell? (o.add j)=some (.int .i64 (l.getD j 0)):=z20_;have G:=hid r;have M:0<k:=q39_;rw [show k - 1=j from by omega] at d Hfail;clear r;generalize l.getD k 0=x at e d Hfail;generalize l.getD j 0=y at C d Hfail;by_cases hx0:0≤x
    ·by_cases hx1:x≤1099511627776
     ·by_cases z:y<x
      ·have d0:decide (x<0)=false:=by simp;omega
       have d1:decide (1099511627776<x)=false:=k39_;have B:decide (x≤y)=false:=k39_;go_wp2
       go_quiet (fail)
       go_wp2
       go_roundw
       case rel=>exact ⟨k+1,q+nq,j40_,q39_,by rw [Hwr.out,World.drewN_drewN],d.out ⟨hx0,hx1⟩ (.inr z)⟩
       case measure=>simp [intOf];omega
      ·have F:x≤y:=by omega
       have Hf:=hid (Hfail.out (.inr ⟨q39_,F⟩));have d0:decide (x<0)=false:=k39_;have d1:decide (1099511627776<x)=false:=k39_;clear z;exact z8_
     ·exact y33_
    ·exact z34_
  ·exact y14_
theorem Y5_ (v:Value) (l:List Int) (w:World) (c:Row w w.heap.size v l) (hl:l.length≤9223372036854775807) {x:Bool} (h:mayB l=x):Calls Tryz.prog 34 #[v] w (Says w x):=by
 subst h;exact D9_ v l w c hl
open Go.RowKit
theorem Yq8 {l:List Int} {x:Int} {k:Nat} (c:k<l.length) (h:x∉l.take k) (d:(l.getD k 0==x)=false):x∉l.take (k+1):=by
 rw [List.take_succ_eq_append_getElem c,List.mem_append,List.mem_singleton];rintro (e | e)
 ·exact h e
 ·simp [List.getD,c] at d
  exact d e.symm
theorem Va5 {l:List Int} {x:Int} {k:Nat} (c:k<l.length) (d:l.getD k 0=x):l.contains x=true:=by
 rw [List.contains_iff_mem,← d];simp [List.getD,c]
theorem Yo3 {l:List Int} {x:Int} {k:Nat} (c:k=l.length) (h:x∉l.take k):l.contains x=false:=by
 subst c;rw [List.take_length] at h;rw [← Bool.not_eq_true,List.contains_iff_mem];exact h
theorem L4_ (v:Value) (l:List Int) (x:Int) (B:Nat) (w:World) (z:Row w B v l) (hl:l.length≤4194304) {b:Bool} (hb:l.contains x=b) :
  Calls Tryz.prog 63 #[v,.int .i64 x] w fun e w'=>e=.returned (.bool b)∧w'=w:=by
 obtain ⟨A,c,rfl,_,q⟩:=z;have s:=hid q;clear q;have Hb:=hid hb;clear hb;have H:(l.length:Int)≤4194304:=q39_
 go_enter Tryz.func63,Tryz.ntmps63
 go_wp2
 go_loopw [5] (fun m wr=>∃ k:Nat,m=.int .i64 k∧k≤l.length∧wr=w∧x∉l.take k) (fun m _=>l.length - (intOf m).toNat)
 case atStart=>exact ⟨0,rfl,Nat.zero_le _,rfl,j39_⟩
 case round =>
  obtain ⟨k,rfl,F,rfl,g⟩:=hrel;by_cases d:k<l.length
  ·obtain ⟨D,hA,E,u⟩:=s.out k d
   subst hA;have G:(k:Int)<(l.length:Int):=q39_;have p:=hid (fun h=>Yq8 d g h);have o:=hid (fun h=>Va5 (x:=x) d h);clear g;generalize l.getD k 0=y at u p o;by_cases j:y=x
   ·have Hc:=hid (o.out j)
    subst j;exact q30_
   ·have C:(y==x)=false:=by simp [j]
    go_wp2
    go_roundw
    case rel=>exact ⟨k+1,j40_,q39_,trivial,p.out C⟩
    case measure=>simp [intOf];omega
  ·have r:k=l.length:=by omega
   have Hc:=hid (Yo3 r g);subst r;exact q30_
theorem Za8 (v:Value) (l:List Int) (x:Int) (B:Nat) (w:World) (c:Row w B v l) (hl:l.length≤4194304) :
  Calls Tryz.prog 63 #[v,.int .i64 x] w fun e w'=>e=.returned (.bool (l.contains x))∧w'=w:=L4_ v l x B w c hl rfl
open Go.RowKit
theorem Yo4 (q r:Value) (a b:List Int) (w:World) (ha:Row w w.heap.size q a) (hb:Row w w.heap.size r b) (C:a.length≤1048576) (D:b.length≤1048576) (g:mayB a=true) (h:mayB b=true) :
  Calls Tryz.prog 28 #[q,r] w (Gives w (meetL a b)):=by
 have Ha:=hid ha;have Hb:=hid hb;obtain ⟨v,c1,rfl,_,o⟩:=ha;obtain ⟨y,c2,rfl,_⟩:=hb;have s:=hid o;clear o;have Hall:=hid (W9_ a b true g h);change Hid (_=meetL a b) at Hall;have Hma:=hid g;have Hmb:=hid h;clear g h;have p:(w.alloc (.cells #[] 3)).ownsRow w.heap.size 3 1 (.slice (some ⟨w.heap.size,0,none⟩) 0 0) 0 [] :=
  World.ownsRow_made w #[] 0 (le_refl _) z40_ rfl
 have m:Below w.heap.size w (w.alloc (.cells #[] 3)):=(Below.refl _ w).alloc (le_refl _) _
 go_enter Tryz.func28,Tryz.ntmps28
 go_wp2
 go_loopw [5,6] (fun u j wr=>∃ k:Nat,j=.int .i64 k∧k≤a.length∧wr.ownsRow w.heap.size 3 1 u (B1_ a b true k).length (ints (B1_ a b true k))∧Below w.heap.size w wr) (fun _ j _=>a.length - (intOf j).toNat)
 case atStart=>exact ⟨0,rfl,Nat.zero_le _,p,m⟩
 case round =>
  obtain ⟨k,rfl,z,hown,hbr⟩:=hrel;by_cases d:k<a.length
  ·obtain ⟨ad,hA,hab,c⟩:=s.out k d
   subst hA;have B:(k:Int)<(a.length:Int):=q39_;have E:=L2_ a b true k;have Hyes:=hid (W8_ a b true k d);have Hno:=hid (Za7 a b true k d);clear p m;generalize a.getD k 0=x at c Hyes Hno;have Hg:=hid c;clear c;rcases hc:b.contains x with _ | _
   ·exact x3_
   ·have Hc:=hid hc
    clear hc
    go_wp2_with fail
    refine (Y5_ _ a wr (Ha.out.below hbr |>.mono hbr.size) q39_ Hma.out).mono ?_;rintro e w2 ⟨rfl,hb2⟩;have hB2:=hbr.trans (hb2.mono hbr.size);have hown2:=hown.kept (row:=none) (Z6_ hb2 _) y46_;clear hb2
    go_wp2_with fail
    refine (Y5_ _ b w2 (Hb.out.below hB2 |>.mono hB2.size) q39_ Hmb.out).mono ?_;rintro e w3 ⟨rfl,hb3⟩;have hB3:=hB2.trans (hb3.mono hB2.size);have hown3:=hown2.kept (row:=none) (Z6_ hb3 _) y46_;clear hb3 hB2 hown2 hown hbr;have g1:w3.cell? (ad.add k)=some (.int .i64 x):=(hB3.cell x41_).trans Hg.out
    go_wp2_with fail
    refine (L4_ _ b x _ w3 (Hb.out.below hB3) q39_ Hc.out).mono ?_;rintro e w5 ⟨rfl,rfl⟩;have Hx:=hid (Hyes.out (by rw [Hc.out]));clear Hyes Hno
    go_wp2_with (at_builtin;refine Z4_ rfl _ _ rfl w.heap.size _ _ _ (B1_ a b true k) [x] rfl rfl (hown3.alloc _) (Row.lit1 _ x) q39_ j39_ (by have:=hB3.size;simp;omega) ?_)
    exact x8_
  ·exact q11_
theorem Za9 (p q:Value) (a b:List Int) (w:World) (ha:Row w w.heap.size p a) (hb:Row w w.heap.size q b) (y:a.length≤1048576) (z:b.length≤1048576) (h:mayB a=false∨(mayB a=true∧mayB b=false)) :
  Calls Tryz.prog 28 #[p,q] w (Gives w (meetL a b)):=by
 have Ha:=hid ha;have Hb:=hid hb;obtain ⟨u,c1,rfl,_,g⟩:=ha;obtain ⟨v,c2,rfl,_⟩:=hb;have x:=hid g;clear g;have o:meetL a b=[]:=by
  rcases h with h | h
  ·exact Zn4 h
  ·exact Zn5 h.2
 have m:∀ w':World,Below w.heap.size w w'→Gives w (meetL a b) (.returned (.slice (some ⟨w.heap.size,0,none⟩) 0 0)) w':=fun w' hb=>⟨_,rfl,by rw [o];exact ⟨_,0,rfl,⟨le_refl _,x40_,fun e=>by cases e⟩,fun k s=>absurd s j39_⟩,hb⟩;have Hout:=hid m;clear m o;have hB0:Below w.heap.size w (w.alloc (.cells #[] 3)):=(Below.refl _ w).alloc (le_refl _) _;by_cases d:0<a.length
 ·have r:(0:Int)<(a.length:Int):=by omega
  rcases h with c | ⟨c,j⟩
  ·have Hma:=hid c
   clear c d
   go_enter Tryz.func28,Tryz.ntmps28
   exact y10_
  ·have Hma:=hid c
   have Hmb:=hid j;clear c j d
   go_enter Tryz.func28,Tryz.ntmps28
   exact q6_
 ·have r:(a.length:Int)=0:=by omega
  clear h d
  go_enter Tryz.func28,Tryz.ntmps28
  exact k11_
theorem Zb0 (c d:Value) (a b:List Int) (w:World) (ha:Row w w.heap.size c a) (hb:Row w w.heap.size d b) (e:a.length≤1048576) (g:b.length≤1048576) :
  Calls Tryz.prog 28 #[c,d] w (Gives w (meetL a b)):=by
 rcases hma:mayB a with _ | _
 ·exact Za9 c d a b w ha hb e g (.inl hma)
 ·rcases hmb:mayB b with _ | _
  ·exact Za9 c d a b w ha hb e g (.inr ⟨hma,hmb⟩)
  ·exact Yo4 c d a b w ha hb e g hma hmb
open Go.RowKit
def A0_ (l:List Int) (k:Nat):List Int:=sortL (l.take k)
theorem Zz2 (l:List Int) (k:Nat) (h:k<l.length) (z:Int):z∈A0_ l (k+1)↔(z∈A0_ l k∨(z=l.getD k 0∧Fit z)):=by
 unfold A0_;have e:l[k]=l.getD k 0:=y48_;rw [C7_,C7_,List.take_succ_eq_append_getElem h,e,List.mem_append,List.mem_singleton];constructor
 ·rintro ⟨c | c,d⟩
  ·exact .inl ⟨c,d⟩
  ·exact .inr ⟨c,d⟩
 ·rintro (⟨c,d⟩ | ⟨c,d⟩)
  ·exact ⟨.inl c,d⟩
  ·exact ⟨.inr c,d⟩
theorem Xx8 (l:List Int) (k:Nat) (h:k<l.length) (e:¬ Fit (l.getD k 0)):A0_ l (k+1)=A0_ l k :=
 (V7_ _).ext (V7_ _) fun z=>by
  change z∈A0_ l (k+1)↔z∈A0_ l k;rw [Zz2 l k h];constructor
  ·rintro (c | ⟨c,d⟩)
   ·exact c
   ·rw [c] at d;exact absurd d e
  ·exact .inl
theorem Xx9 (l:List Int) (k:Nat) (h:k<l.length) (d:l.getD k 0∈A0_ l k):A0_ l (k+1)=A0_ l k :=
 (V7_ _).ext (V7_ _) fun z=>by
  change z∈A0_ l (k+1)↔z∈A0_ l k;rw [Zz2 l k h];constructor
  ·rintro (c | ⟨c,e⟩)
   ·exact c
   ·rw [c];exact d
  ·exact .inl
theorem Yo5 (l:List Int) (k:Nat) (h:k<l.length) (d:Fit (l.getD k 0)):A0_ l (k+1)=ins (l.getD k 0) (A0_ l k) :=
 (V7_ _).ext (Yq1 _ d _ (V7_ _)) fun z=>by
  change z∈A0_ l (k+1)↔_;rw [Zz2 l k h,Zn1];constructor
  ·rintro (c | ⟨c,e⟩)
   ·exact .inr c
   ·exact .inl c
  ·rintro (c | c)
   ·exact .inr ⟨c,by rw [c];exact d⟩
   ·exact .inl c
theorem Zn7 (l:List Int) (k:Nat):(A0_ l k).length≤l.length:=by
 unfold A0_;refine Nat.le_trans (E8_ _) ?_;simp;omega
theorem Yo6 (l:List Int):A0_ l l.length=sortL l:=by unfold A0_;rw [List.take_length]
theorem Yg7 (x y:Int):∀ a:List Int,a.Pairwise (·<·)→(∃ z∈a,x<z)→ins x (a ++ [y])=ins x a ++ [y]
 | [],_,h=>by obtain ⟨z,c,_⟩:=h;cases c
 | b :: a,hp,h=>by
  rw [List.cons_append];unfold ins;split
  ·rfl
  ·split
   ·rfl
   ·rw [List.pairwise_cons] at hp
    rw [Yg7 x y a hp.2 ?_]
    ·rfl
    ·obtain ⟨z,c,d⟩:=h
     rcases List.mem_cons.1 c with e | c
     ·omega
     ·exact ⟨z,c,d⟩
theorem Yg8 (x y:Int):∀ a:List Int,(∀ z∈a,z<x)→x<y→ins x (a ++ [y])=a ++ [x,y]
 | [],_,h=>by simp [ins,h]
 | b :: a,hb,h=>by
  have d:=hb b j39_;rw [List.cons_append];unfold ins;rw [if_neg q39_,if_neg q39_,Yg8 x y a (fun z c=>hb z (by simp [c])) h];rfl
theorem Xv0 (x:Int):∀ a:List Int,(∀ z∈a,z<x)→ins x a=a ++ [x]
 | [],_=>rfl
 | b :: a,hb=>by
  have d:=hb b j39_;unfold ins;rw [if_neg q39_,if_neg q39_,Xv0 x a (fun z c=>hb z (by simp [c]))];rfl
def Ins (x:Int) (out:List Int) (m:Nat) (laid:Bool) (next:List Int):Prop :=
 (laid=false∧(∀ z∈out.take m,z<x)∧next=out.take m)∨(laid=true∧(∃ z∈out.take m,x<z)∧next=ins x (out.take m))
theorem Xv1 (x:Int) (out:List Int):Ins x out 0 false []:=.inl ⟨rfl,j39_,rfl⟩
theorem P6_ {out:List Int} {m:Nat} (c:m<out.length):out.take (m+1)=out.take m ++ [out.getD m 0]:=by
 rw [List.take_succ_eq_append_getElem c];simp [List.getD,c]
theorem Va6 {x:Int} {out next:List Int} {m:Nat} (c:m<out.length) (h:Ins x out m false next) (d:x<out.getD m 0):Ins x out (m+1) true (next ++ [x] ++ [out.getD m 0]):=by
 rcases h with ⟨_,e,f⟩ | ⟨h,_⟩
 ·refine .inr ⟨rfl,⟨_,by rw [P6_ c];simp,d⟩,?_⟩
  rw [P6_ c,Yg8 x _ _ e d,f,List.append_assoc];rfl
 ·cases h
theorem Xl7 {x:Int} {out next:List Int} {m:Nat} (d:m<out.length) (h:Ins x out m false next) (j:x∉out) (k:¬ x<out.getD m 0):Ins x out (m+1) false (next ++ [out.getD m 0]):=by
 rcases h with ⟨_,f,g⟩ | ⟨h,_⟩
 ·refine .inl ⟨rfl,fun z c=>?_,by rw [P6_ d,g]⟩
  rw [P6_ d,List.mem_append,List.mem_singleton] at c;rcases c with c | c
  ·exact f z c
  ·have:z≠x:=fun e=>j (by rw [← e,c];simp [List.getD,d])
   omega
 ·cases h
theorem Xl8 {x:Int} {out next:List Int} {m:Nat} (c:m<out.length) (hs:out.Pairwise (·<·)) (h:Ins x out m true next):Ins x out (m+1) true (next ++ [out.getD m 0]):=by
 rcases h with ⟨h,_⟩ | ⟨_,⟨z,e,d⟩,f⟩
 ·cases h
 ·refine .inr ⟨rfl,⟨z,by rw [P6_ c];simp [e],d⟩,?_⟩
  rw [P6_ c,Yg7 x _ _ (hs.sublist (List.take_sublist _ _)) ⟨z,e,d⟩,f]
theorem Xl9 {x:Int} {out next:List Int} (h:Ins x out out.length true next):next=ins x out:=by
 rcases h with ⟨h,_⟩ | ⟨_,_,c⟩
 ·cases h
 ·rw [c,List.take_length]
theorem Xm0 {x:Int} {out next:List Int} (h:Ins x out out.length false next):next ++ [x]=ins x out:=by
 rcases h with ⟨_,c,d⟩ | ⟨h,_⟩
 ·rw [List.take_length] at c d
  rw [d,Xv0 x out c]
 ·cases h
theorem Va7 {x:Int} {out next:List Int} {m:Nat} {e:Bool} (h:Ins x out m e next):next.length≤out.length+1:=by
 have d:∀ (t:List Int),(ins x t).length≤t.length+1:=by
  intro t;exact q17_
 rcases h with ⟨_,_,c⟩ | ⟨_,_,c⟩
 ·rw [c,List.length_take];omega
 ·rw [c]
  have:=d (out.take m);rw [List.length_take] at this;omega
theorem L5_ (v:Value) (l:List Int) (w:World) (hr:Row w w.heap.size v l) (hl:l.length≤2097152):Calls Tryz.prog 32 #[v] w (Gives w (sortL l)):=by
 obtain ⟨A,c,rfl,_,x4⟩:=hr;have xa:=hid x4;clear x4;have xo:(l.length:Int)≤2097152:=q39_;have x1:Below w.heap.size w (w.alloc (.cells #[] 3)):=(Below.refl _ w).alloc (le_refl _) _;have x7:Row (w.alloc (.cells #[] 3)) (w.alloc (.cells #[] 3)).heap.size (.slice (some ⟨w.heap.size,0,none⟩) 0 0) (A0_ l 0):=(Row.lit0 w).here;have x9:=hid (Yo6 l)
 go_enter Tryz.func32,Tryz.ntmps32
 go_wp2
 go_loopw [3,4] (fun vo vi wr=>∃ k:Nat,vi=.int .i64 k∧k≤l.length∧Row wr wr.heap.size vo (A0_ l k)∧Below w.heap.size w wr) (fun _ vi _=>l.length - (intOf vi).toNat)
 case atStart=>exact ⟨0,rfl,Nat.zero_le _,x7,x1⟩
 case round =>
  obtain ⟨k,rfl,hk,hro,hbr⟩:=hrel;clear x7 x1;by_cases M:k<l.length
  ·obtain ⟨D,hA,hab,L⟩:=xa.out k M
   subst hA;have xn:(k:Int)<(l.length:Int):=q39_;have xg:=Zn7 l k;have C:=hid (Xx8 l k M);have E:=hid (Xx9 l k M);have F:=hid (Yo5 l k M);have T:=hid (V7_ (l.take k));change Hid (IsSet (A0_ l k)) at T;generalize A0_ l k=out at hro xg C E F T;generalize l.getD k 0=x at L C E F;have r:wr.cell? (D.add k)=some (.int .i64 x):=(hbr.cell x41_).trans L;have Hg:=hid L;clear L;by_cases W:x<0
   ·have Hx:=hid (C.out fun h=>by unfold Fit at h;omega)
    clear C E F;exact k10_
   ·have xl:decide (x<0)=false:=by simp;omega
    by_cases h1:1099511627776<x
    ·have Hx:=hid (C.out fun h=>by unfold Fit at h;omega)
     clear C E F W;exact k10_
    ·have xm:decide (1099511627776<x)=false:=by simp;omega
     rcases hc:out.contains x with _ | _
     ·have J:x∉out:=by rw [← List.contains_iff_mem,hc];simp
      have xb:=hid J;have Hx:=hid (F.out ⟨q39_,q39_⟩);have O:=hid hc;clear C E F W h1 J hc
      go_wp2_with fail
      refine (L4_ _ out x _ wr hro q39_ O.out).mono ?_;rintro e d ⟨rfl,rfl⟩;have xi:=hid hro;obtain ⟨Ao,co,rfl,_,x5⟩:=hro;have Hocell:=hid x5;clear x5;have x6:(d.alloc (.cells #[] 3)).ownsRow d.heap.size 3 1 (.slice (some ⟨d.heap.size,0,none⟩) 0 0) 0 [] :=
       World.ownsRow_made d #[] 0 (le_refl _) z40_ rfl
      have x3:Below d.heap.size d (d.alloc (.cells #[] 3)):=(Below.refl _ d).alloc (le_refl _) _;have X:D.block<d.heap.size:=Nat.lt_of_lt_of_le hab hbr.size;have P:=hid r;clear r;go_wp2
      go_loopw [5,6,7] (fun vn xh vk wr=>∃ (m:Nat) (K:Bool) (next:List Int),vk=.int .i64 m∧m≤out.length∧xh=.bool K∧Ins x out m K next∧wr.ownsRow d.heap.size 3 1 vn next.length (ints next)∧Below d.heap.size d wr) (fun _ _ vk _=>out.length - (intOf vk).toNat)
      case atStart=>exact ⟨0,false,[],rfl,Nat.zero_le _,rfl,Xv1 x out,x6,x3⟩
      case round =>
       obtain ⟨m,K,next,rfl,hm,rfl,z,s,g⟩:=hrel;clear x6 x3;have xq:=Va7 z;by_cases N:m<out.length
       ·obtain ⟨I,xc,x2,Y⟩:=Hocell.out m N
        subst xc;have xp:(m:Int)<(out.length:Int):=q39_;have G:wr.cell? (I.add m)=some (.int .i64 (out.getD m 0)):=(g.cell (by rw [Z2_];exact x2)).trans Y;have r:wr.cell? (D.add k)=some (.int .i64 x):=(g.cell (by rw [Z2_];exact X)).trans P.out;have x0:=hid Y;clear Y;have Q:=hid (fun next h=>Xl8 (x:=x) (next:=next) N T.out.1 h);have R:=hid (fun next h=>Va6 (x:=x) (out:=out) (next:=next) N h);have S:=hid (fun next h=>Xl7 (x:=x) (out:=out) (next:=next) N h xb.out);generalize out.getD m 0=y at G x0 Q R S;cases K
        ·have HI:=hid z
         clear z Q;by_cases x8:x<y
         ·have u:=hid (R.out next HI.out x8)
          go_wp2
          go_quiet (fail)
          have q:(wr.drewN nq).ownsRow d.heap.size 3 1 _ next.length (ints next):=s;have hbq:Below d.heap.size d (wr.drewN nq):=Y2_ g nq;have U:(wr.drewN nq).cell? (D.add k)=some (.int .i64 x):=r;have V:(wr.drewN nq).cell? (I.add m)=some (.int .i64 y):=G;clear s g r G;generalize wr.drewN nq=wq at *
          go_wp2_with (at_builtin;refine Z4_ rfl _ _ rfl d.heap.size _ _ _ next [x] rfl rfl (q.alloc _) (Row.lit1 _ x) q39_ j39_ j44_ ?_)
          intro H p hown6 j;have hown6:p.ownsRow d.heap.size 3 1 H (next ++ [x]).length (ints (next ++ [x])):=z46_;have o:Below d.heap.size d p:=(hbq.alloc hbq.size _).grown j j44_ (fun i B=>(q.lt i B).1);clear j q hbq;have xj:p.cell? (D.add k)=some (.int .i64 x):=(o.cell (by rw [Z2_];exact X)).trans P.out;have xk:p.cell? (I.add m)=some (.int .i64 y):=(o.cell (by rw [Z2_];exact x2)).trans x0.out;clear U V
          go_wp2_with (at_builtin;refine Z4_ rfl _ _ rfl d.heap.size _ _ _ (next ++ [x]) [y] rfl rfl (hown6.alloc _) (Row.lit1 _ y) (by rw [List.length_append];show next.length+1≤_;omega) j39_ (by have:=o.size;simp;omega) ?_)
          intro v7 w7 Z j;have Z:w7.ownsRow d.heap.size 3 1 v7 (next ++ [x] ++ [y]).length (ints (next ++ [x] ++ [y])):=by rw [show next ++ [x] ++ [y]=next ++ [x,y] from by simp,List.length_append];exact Z
          have xd:Below d.heap.size d w7:=(o.alloc o.size _).grown j (by have:=o.size;simp;omega) (fun i B=>(hown6.lt i B).1);clear j hown6 o;go_wp2
          go_roundw
          case rel=>exact ⟨m+1,true,next ++ [x] ++ [y],j40_,q39_,rfl,u.out,Z,xd⟩
          case measure=>simp [intOf];omega
         ·have xr:decide (x<y)=false:=by simp;omega
          have u:=hid (S.out next HI.out x8);go_wp2
          go_quiet (fail)
          have q:(wr.drewN nq).ownsRow d.heap.size 3 1 _ next.length (ints next):=s;have hbq:Below d.heap.size d (wr.drewN nq):=Y2_ g nq;have U:(wr.drewN nq).cell? (D.add k)=some (.int .i64 x):=r;have V:(wr.drewN nq).cell? (I.add m)=some (.int .i64 y):=G;clear s g r G;generalize wr.drewN nq=wq at *
          go_wp2_with (at_builtin;refine Z4_ rfl _ _ rfl d.heap.size _ _ _ next [y] rfl rfl (q.alloc _) (Row.lit1 _ y) q39_ j39_ j44_ ?_)
          intro H p hown6 j;have hown6:p.ownsRow d.heap.size 3 1 H (next ++ [y]).length (ints (next ++ [y])):=z46_;have o:Below d.heap.size d p:=(hbq.alloc hbq.size _).grown j j44_ (fun i B=>(q.lt i B).1);clear j q hbq;go_wp2
          go_roundw
          case rel=>exact ⟨m+1,false,next ++ [y],j40_,q39_,rfl,u.out,hown6,o⟩
          case measure=>simp [intOf];omega
        ·have u:=hid (Q.out next z)
         clear z R S;go_wp2
         go_quiet (fail)
         have q:(wr.drewN nq).ownsRow d.heap.size 3 1 _ next.length (ints next):=s;have hbq:Below d.heap.size d (wr.drewN nq):=Y2_ g nq;have U:(wr.drewN nq).cell? (D.add k)=some (.int .i64 x):=r;have V:(wr.drewN nq).cell? (I.add m)=some (.int .i64 y):=G;clear s g r G;generalize wr.drewN nq=wq at *
         go_wp2_with (at_builtin;refine Z4_ rfl _ _ rfl d.heap.size _ _ _ next [y] rfl rfl (q.alloc _) (Row.lit1 _ y) q39_ j39_ j44_ ?_)
         intro H p hown6 j;have hown6:p.ownsRow d.heap.size 3 1 H (next ++ [y]).length (ints (next ++ [y])):=z46_;have o:Below d.heap.size d p:=(hbq.alloc hbq.size _).grown j j44_ (fun i B=>(q.lt i B).1);clear j q hbq;go_wp2
         go_roundw
         case rel=>exact ⟨m+1,true,next ++ [y],j40_,q39_,rfl,u.out,hown6,o⟩
         case measure=>simp [intOf];omega
       ·have xf:m=out.length:=by omega
        subst xf;cases K
        ·have u:=hid (Xm0 z)
         clear z;have r:wr.cell? (D.add k)=some (.int .i64 x):=(g.cell (by rw [Z2_];exact X)).trans P.out
         go_wp2_with (at_builtin;refine Z4_ rfl _ _ rfl d.heap.size _ _ _ next [x] rfl rfl (s.alloc _) (Row.lit1 _ x) q39_ j39_ (by have:=g.size;simp;omega) ?_)
         intro H p hown6 j;have hown6:p.ownsRow d.heap.size 3 1 H (next ++ [x]).length (ints (next ++ [x])):=z46_;have o:Below d.heap.size d p:=(g.alloc g.size _).grown j (by have:=g.size;simp;omega) (fun i B=>(s.lt i B).1);clear j s g;go_wp2
         go_roundw
         case rel=>exact ⟨k+1,j40_,q39_,by rw [Hx.out,← u.out];exact Row.of_own hown6 rfl,hbr.trans (o.mono hbr.size)⟩
         case measure=>simp [intOf];omega
        ·have u:=hid (Xl9 z)
         clear z;go_wp2
         go_roundw
         case rel=>exact ⟨k+1,j40_,q39_,by rw [Hx.out,← u.out];exact Row.of_own s rfl,hbr.trans (g.mono hbr.size)⟩
         case measure=>simp [intOf];omega
     ·have J:x∈out:=by rw [← List.contains_iff_mem,hc]
      have Hx:=hid (E.out J);have O:=hid hc;clear C E F W h1 J hc
      go_wp2_with fail
      refine (L4_ _ out x _ wr hro q39_ O.out).mono ?_;rintro e d ⟨rfl,rfl⟩;exact k10_
  ·have xe:k=l.length:=by omega
   subst xe;rw [x9.out] at hro;go_wp2;go_ret;exact ⟨_,rfl,hro,hbr⟩
theorem F0_ (y z:Value) (a b:List Int) (w:World) (ha:Row w w.heap.size y a) (hb:Row w w.heap.size z b) (L:a.length≤1048576) (M:b.length≤1048576) :
  Calls Tryz.prog 43 #[y,z] w (Gives w (Y1_ a b)):=by
 have j:=hid ha;have o:=hid hb;obtain ⟨J,c1,rfl,_⟩:=ha;obtain ⟨K,c2,rfl,_⟩:=hb;rcases hma:mayB a with _ | _
 ·have Hr:=hid (Zt8 (b:=b) hma)
  have d:=hid hma;clear hma
  go_enter Tryz.func43,Tryz.ntmps43
  go_wp2_with fail
  refine (Y5_ _ a w j.out q39_ d.out).mono ?_;rintro e m ⟨rfl,hb1⟩;go_wp2;go_ret;exact E9_ w hb1 Hr.out
 ·rcases hmb:mayB b with _ | _
  ·have Hr:=hid (Zt9 (a:=a) hmb)
   have d:=hid hma;have p:=hid hmb;clear hma hmb
   go_enter Tryz.func43,Tryz.ntmps43
   go_wp2_with fail
   refine (Y5_ _ a w j.out q39_ d.out).mono ?_;rintro e m ⟨rfl,hb1⟩
   go_wp2_with fail
   refine (Y5_ _ b m ((o.out.below hb1).mono hb1.size) q39_ p.out).mono ?_;rintro e c ⟨rfl,hb2⟩;exact j20_
  ·have Hr:=hid (Zt7 hma hmb)
   have d:=hid hma;have p:=hid hmb;clear hma hmb
   go_enter Tryz.func43,Tryz.ntmps43
   go_wp2_with fail
   refine (Y5_ _ a w j.out q39_ d.out).mono ?_;rintro e m ⟨rfl,hb1⟩
   go_wp2_with fail
   refine (Y5_ _ b m ((o.out.below hb1).mono hb1.size) q39_ p.out).mono ?_;rintro e c ⟨rfl,hb2⟩;have k:Below w.heap.size w c:=hb1.trans (hb2.mono hb1.size);clear hb1 hb2;have r:(c.alloc (.cells #[] 3)).ownsRow w.heap.size 3 1 (.slice (some ⟨c.heap.size,0,none⟩) 0 0) ([]:List Int).length (ints []) :=
    World.ownsRow_made c #[] 0 k.size z40_ rfl
   have g:Below w.heap.size w (c.alloc (.cells #[] 3)):=k.alloc k.size _;have C:=hid (j.out.below g)
   go_wp2_with (at_builtin;refine Z4_ rfl _ _ rfl w.heap.size w.heap.size _ _ [] a rfl rfl r C.out j39_ q39_ g.size ?_)
   intro N I s v;have h:Below w.heap.size w I:=g.grown v g.size (fun i q=>(r.lt i q).1);have D:=hid (o.out.below h);clear v r g k
   go_wp2_with (at_builtin;refine Z4_ rfl _ _ rfl w.heap.size w.heap.size _ _ a b rfl rfl s D.out q39_ q39_ h.size ?_)
   intro H B F x;have u:Below w.heap.size w B:=h.grown x h.size (fun i q=>(s.lt i q).1);clear x s h
   go_wp2_with fail
   refine (L5_ H (a ++ b) B (Row.of_own F j39_) (by rw [List.length_append];omega)).mono ?_;rintro e P ⟨O,rfl,G,E⟩;go_wp2;go_ret;exact ⟨_,rfl,by rw [Hr.out];exact G,u.trans (E.mono u.size)⟩
end Wp
end Go.Proofs.YteiejkhdonmcdaaGreatDoor
