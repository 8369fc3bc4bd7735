/- Sets of numbers as lists, plain: what layer 2's calls answer, and that sets are an algebra. Nothing of the program here. Small laws of memory that the walks of this seat use: a block that is known whole; a list of integers in memory; what a call gives. Memory of this seat: a list of lists of integers; a family of rows that the call itself makes, no two in one block. Plain facts on sets as lists, for the walks: whether a list is a set, step by step; what both have, step by step. Whether a list is a set, as the program and as the document ask it, walked. Two sides that may be: the program's May, walked. The program's part (Meet, Minus), walked: both lists rise, and one goes along the other. The program's Has and All, walked. Whether a list is a set, as the document asks it, walked. The document's answer: is a number in a list: walked. The document's meet and union of sets, walked. -/
import Derived.Lib.SlicesCompact
import Derived.Test.YtnbcaibflhgdoaaGreatDoorProg
import Derived.WalkKit
import Derived.OwnWalk
import Derived.Lib.Hide
import Derived.Laws.Cells
import Derived.Laws.Rows
import Derived.Deep.Draws
import Derived.BigQuiet
import Derived.Deep.QuietTactic
import Derived.Laws.AppendOwnNone
import Derived.Maps.AppendAt
import Derived.Lib.OwnBridge
import Derived.DataElems
import Derived.Test.YtnbcaibflhgdoaaGreatDoorX0A
import Derived.Test.YtnbcaibflhgdoaaGreatDoorX0B
set_option maxHeartbeats 8000000
set_option maxRecDepth 100000
open Go.Lib (hid)
open Nat (le_refl)
namespace Go.Proofs.YtnbcaibflhgdoaaGreatDoor.Wp
def Fit (x:Int):Prop:=0≤x∧x≤1099511627776
instance (x:Int):Decidable (Fit x):=inferInstanceAs (Decidable (_∧_))
def IsSet (l:List Int):Prop:=l.Pairwise (·<·)∧∀ x∈l,Fit x
instance (l:List Int):Decidable (IsSet l):=inferInstanceAs (Decidable (_∧_))
def mayB (l:List Int):Bool:=decide (IsSet l)
theorem V7_:IsSet []:=⟨List.Pairwise.nil,fun _ h=>absurd h x30_⟩
theorem O9_:∀ {a b:List Int},a.Pairwise (·<·)→b.Pairwise (·<·)→(∀ x,x∈a↔x∈b)→a=b
 | [],[],_,_,_=>rfl
 | [],y :: b,_,_,h=>absurd ((h y).2 x30_) x30_
 | x :: a,[],_,_,h=>absurd ((h x).1 x30_) x30_
 | x :: a,y :: b,ha,hb,h=>by
  rw [List.pairwise_cons] at ha hb;have g:x=y:=by
   rcases List.mem_cons.1 ((h x).1 x30_) with e | f
   ·exact e
   ·rcases List.mem_cons.1 ((h y).2 x30_) with e | j
    ·exact e.symm
    ·have:=hb.1 x f
     have:=ha.1 y j;omega
  subst g;congr 1;refine O9_ ha.2 hb.2 fun z=>⟨fun c=>?_,fun c=>?_⟩
  ·rcases List.mem_cons.1 ((h z).1 (by simp [c])) with e | d
   ·have:=ha.1 z c;omega
   ·exact d
  ·rcases List.mem_cons.1 ((h z).2 (by simp [c])) with e | d
   ·have:=hb.1 z c;omega
   ·exact d
theorem IsSet.ext {a b:List Int} (ha:IsSet a) (hb:IsSet b) (h:∀ x,x∈a↔x∈b):a=b:=O9_ ha.1 hb.1 h
theorem IsSet.sub {a b:List Int} (h:IsSet b) (hs:a.Sublist b):IsSet a:=⟨h.1.sublist hs,fun x c=>h.2 x (hs.subset c)⟩
theorem IsSet.filter {a:List Int} (h:IsSet a) (p:Int→Bool):IsSet (a.filter p):=h.sub List.filter_sublist
theorem IsSet.tail {x:Int} {a:List Int} (h:IsSet (x :: a)):IsSet a:=h.sub (List.sublist_cons_self x a)
def ins (x:Int):List Int→List Int
 | []=>[x]
 | y :: r=>if x<y then x :: y :: r else if x=y then y :: r else y :: ins x r
theorem Zm2 (x z:Int):∀ l,z∈ins x l↔z=x∨z∈l
 | []=>by simp [ins]
 | y :: r=>by
  unfold ins;split
  ·simp
  ·split
   ·subst_vars;simp
   ·simp only [List.mem_cons,Zm2 x z r]
    constructor
    ·rintro (h | h | h)<;>simp [h]
    ·rintro (h | h | h)<;>simp [h]
theorem Yg5 (x:Int) (f:Fit x):∀ l,IsSet l→IsSet (ins x l)
 | [],_=>⟨by simp [ins],by simp [ins];exact f⟩
 | y :: r,h=>by
  have g:=List.pairwise_cons.1 h.1;unfold ins;split
  ·refine ⟨List.pairwise_cons.2 ⟨fun z c=>?_,h.1⟩,fun z c=>?_⟩
   ·rcases List.mem_cons.1 c with e | d
    ·omega
    ·have:=g.1 z d;omega
   ·rcases List.mem_cons.1 c with e | d
    ·rw [e];exact f
    ·exact h.2 z d
  ·split
   ·exact h
   ·have j:=Yg5 x f r h.tail
    refine ⟨List.pairwise_cons.2 ⟨fun z c=>?_,j.1⟩,fun z c=>?_⟩
    ·rcases (Zm2 x z r).1 c with e | d
     ·omega
     ·exact g.1 z d
    ·rcases List.mem_cons.1 c with e | d
     ·rw [e];exact h.2 y x30_
     ·exact j.2 z d
def sortL:List Int→List Int
 | []=>[]
 | x :: r=>if Fit x then ins x (sortL r) else sortL r
theorem Q8_:∀ l,IsSet (sortL l)
 | []=>V7_
 | x :: r=>by
  unfold sortL;split
  ·exact Yg5 x (by assumption) _ (Q8_ r)
  ·exact Q8_ r
theorem B5_ (z:Int):∀ l,z∈sortL l↔z∈l∧Fit z
 | []=>by simp [sortL]
 | x :: r=>by
  unfold sortL;split
  ·next hx =>
   rw [Zm2,B5_ z r,List.mem_cons];constructor
   ·rintro (e | ⟨h,c⟩)
    ·subst e;exact ⟨.inl rfl,hx⟩
    ·exact ⟨.inr h,c⟩
   ·rintro ⟨e | h,c⟩
    ·exact .inl e
    ·exact .inr ⟨h,c⟩
  ·next hx =>
   rw [B5_ z r,List.mem_cons];constructor
   ·rintro ⟨h,c⟩;exact ⟨.inr h,c⟩
   ·rintro ⟨e | h,c⟩
    ·subst e;exact absurd c hx
    ·exact ⟨h,c⟩
theorem Zt6 {r l:List Int} (c:IsSet r) (h:∀ x,x∈r↔x∈l∧Fit x):r=sortL l :=
 c.ext (Q8_ l) fun x=>by rw [h,B5_]
theorem Zt7 {l:List Int} (h:IsSet l):sortL l=l :=
 (Zt6 h fun x=>⟨fun c=>⟨c,h.2 x c⟩,fun c=>c.1⟩).symm
theorem E4_:∀ l,(sortL l).length≤l.length
 | []=>le_refl _
 | x :: r=>by
  unfold sortL;have c:∀ (y:Int) (t:List Int),(ins y t).length≤t.length+1:=by
   intro y t
   induction t with
   | nil=>simp [ins]
   | cons a t ih =>
    unfold ins;split
    ·simp
    ·split
     ·simp
     ·simp;omega
  split
  ·have:=c x (sortL r)
   have:=E4_ r;simp;omega
  ·have:=E4_ r
   simp;omega
def hasB (l:List Int) (x:Int):Bool:=mayB l && l.contains x
def Y7_ (a b:List Int):List Int:=if mayB a && mayB b then sortL (a ++ b) else []
def partL (a b:List Int) (w:Bool):List Int:=if mayB a && mayB b then a.filter fun x=>b.contains x==w else []
def meetL (a b:List Int):List Int:=partL a b true
def Z4_ (a b:List Int):List Int:=partL a b false
def subB (a b:List Int):Bool:=mayB a && mayB b && decide (Z4_ a b=[])
def allL (n:Int):List Int:=if n<1∨100000<n then [] else (List.range n.toNat).map Int.ofNat
theorem mayB_iff {l:List Int}:mayB l=true↔IsSet l:=by simp [mayB]
theorem E9_ {l:List Int} (h:IsSet l):mayB l=true:=mayB_iff.2 h
theorem M7_ (a b:List Int):IsSet (Y7_ a b):=by
 unfold Y7_;split
 ·exact Q8_ _
 ·exact V7_
theorem Xz6 (a b:List Int) (w:Bool):IsSet (partL a b w):=by
 unfold partL;split
 ·next h=>exact (mayB_iff.1 (by simp at h;exact h.1)).filter _
 ·exact V7_
theorem V8_ (a b:List Int):IsSet (Z4_ a b):=Xz6 a b false
theorem J9_ (n:Int):IsSet (allL n):=by
 unfold allL;split
 ·exact V7_
 ·next h =>
  refine ⟨?_,fun x d=>?_⟩
  ·rw [List.pairwise_map]
   exact List.pairwise_lt_range.imp fun h=>by simpa using h
  ·obtain ⟨k,c,rfl⟩:=List.mem_map.1 d
   have:=List.mem_range.1 c;have e:Int.ofNat k=(k:Int):=rfl;unfold Fit;rw [e];omega
theorem Q9_ {a b:List Int} (ha:IsSet a) (hb:IsSet b) (x:Int):x∈Y7_ a b↔x∈a∨x∈b:=by
 unfold Y7_;rw [if_pos (by rw [E9_ ha,E9_ hb];rfl),B5_,List.mem_append];constructor
 ·exact fun h=>h.1
 ·rintro (h | h)
  ·exact ⟨.inl h,ha.2 x h⟩
  ·exact ⟨.inr h,hb.2 x h⟩
theorem Zt8 {a b:List Int} (ha:IsSet a) (hb:IsSet b) (w:Bool) (x:Int):x∈partL a b w↔x∈a∧(b.contains x=w):=by
 unfold partL;rw [if_pos (by rw [E9_ ha,E9_ hb];rfl),List.mem_filter];simp
theorem Zt9 {a b:List Int} (ha:IsSet a) (hb:IsSet b) (x:Int):x∈meetL a b↔x∈a∧x∈b:=by
 unfold meetL;rw [Zt8 ha hb,List.contains_iff_mem]
theorem Y3_ {a b:List Int} (ha:IsSet a) (hb:IsSet b) (x:Int):x∈Z4_ a b↔x∈a∧x∉b:=by
 unfold Z4_;rw [Zt8 ha hb,← Bool.not_eq_true,List.contains_iff_mem]
theorem Yg6 {a b:List Int} (ha:IsSet a) (hb:IsSet b):subB a b=true↔∀ x∈a,x∈b:=by
 unfold subB;rw [E9_ ha,E9_ hb];simp only [Bool.and_self,Bool.true_and,decide_eq_true_eq];constructor
 ·intro h x d
  rcases Decidable.em (x∈b) with c | c
  ·exact c
  ·have:=(Y3_ ha hb x).2 ⟨d,c⟩
   rw [h] at this;exact absurd this x30_
 ·intro h
  rcases hm:Z4_ a b with _ | ⟨x,r⟩
  ·rfl
  ·have:=(Y3_ ha hb x).1 (by rw [hm];simp)
   exact absurd (h x this.1) this.2
theorem D2_ {l:List Int} (h:IsSet l) (x:Int):hasB l x=true↔x∈l:=by
 unfold hasB;rw [E9_ h];simp
theorem Zm3 (a b:List Int) (w:Bool):(partL a b w).length≤a.length:=by
 unfold partL;split
 ·exact List.length_filter_le _ _
 ·simp
theorem Zf1 (a b:List Int):(Y7_ a b).length≤a.length+b.length:=by
 unfold Y7_;split
 ·have:=E4_ (a ++ b)
  simpa using this
 ·simp
theorem Yv8 (n:Int):((allL n).length:Int)≤100000∧(1≤n→n≤100000→((allL n).length:Int)=n):=by
 unfold allL;split
 ·next h=>exact ⟨x30_,fun c d=>by omega⟩
 ·next h=>exact ⟨by simp;omega,fun c d=>by simp;omega⟩
theorem A0_ {n:Int} (d:0≤n) (f:n≤100000) (x:Int):x∈allL n↔0≤x∧x<n:=by
 unfold allL;split
 ·next h =>
  simp;omega
 ·rw [List.mem_map]
  constructor
  ·rintro ⟨k,c,rfl⟩
   have:=List.mem_range.1 c;have e:Int.ofNat k=(k:Int):=rfl;rw [e];omega
  ·intro h
   exact ⟨x.toNat,List.mem_range.2 j29_,by simp;omega⟩
section
variable {a b c:List Int} (ha:IsSet a) (hb:IsSet b) (hc:IsSet c)
include ha hb
include hc
end
theorem Yg7:∀ {a b r:List Int},IsSet a→IsSet b→IsSet r→(∀ x,x∈a→x∉b)→(∀ x,x∈r↔x∈a∨x∈b)→r.length=a.length+b.length:=by
 intro a b r ha hb g hd c;have d:(a ++ b).Nodup:=by
  rw [List.nodup_append];refine ⟨ha.1.imp fun h=>by omega,hb.1.imp fun h=>by omega,fun x k y m e=>hd x k (by rw [e];exact m)⟩
 have j:r.Nodup:=g.1.imp fun h=>by omega
 have f:r.Perm (a ++ b):=by
  rw [List.perm_ext_iff_of_nodup j d];intro x;rw [c,List.mem_append]
 rw [f.length_eq,List.length_append]
theorem Yv9 (d:Array Int) (hs:∀ i j,i≤j→j<d.size→d[i]!≤d[j]!):∀ m,m≤d.size→(Lib.compactUpTo d m).Pairwise (·<·)∧∀ x,x∈Lib.compactUpTo d m↔∃ j,j<m∧d[j]! = x:=by
 intro m
 induction m with
 | zero=>intro _;exact ⟨by simp [Lib.compactUpTo],by simp [Lib.compactUpTo]⟩
 | succ m ih =>
  intro w;obtain ⟨o,g⟩:=ih j29_;rw [Lib.compactUpTo_succ];by_cases c:Lib.keeps d m=true
  ·rw [if_pos c]
   constructor
   ·rw [List.pairwise_append]
    refine ⟨o,x30_,fun x r y q=>?_⟩;rw [List.mem_singleton] at q;subst q;obtain ⟨j,f,rfl⟩:=(g x).1 r;simp only [Lib.keeps,decide_eq_true_eq] at c;have s:=hs j (m - 1) j29_ j29_;have u:=hs (m - 1) m j29_ j29_;have v:d[m]!≠d[m - 1]!:=by
     rcases c with h | h
     ·omega
     ·exact h
    omega
   ·intro x
    rw [List.mem_append,List.mem_singleton,g];constructor
    ·rintro (⟨j,f,e⟩ | e)
     ·exact ⟨j,j29_,e⟩
     ·exact ⟨m,j29_,e.symm⟩
    ·rintro ⟨j,f,e⟩
     by_cases k:j=m
     ·subst k;exact .inr e.symm
     ·exact .inl ⟨j,j29_,e⟩
  ·have p:Lib.keeps d m=false:=by simpa using c
   rw [if_neg c,List.append_nil];refine ⟨o,fun x=>?_⟩;rw [g];constructor
   ·rintro ⟨j,f,e⟩;exact ⟨j,j29_,e⟩
   ·rintro ⟨j,f,e⟩
    by_cases k:j=m
    ·subst k
     simp only [Lib.keeps,decide_eq_false_iff_not,not_or,Decidable.not_not] at p;exact ⟨j - 1,j29_,by rw [← e,p.2]⟩
    ·exact ⟨j,j29_,e⟩
theorem Zv0 (l:List Int) (h:l.Pairwise (·≤·)):(Lib.compact l).Pairwise (·<·)∧∀ x,x∈Lib.compact l↔x∈l:=by
 have d:∀ i,i<l.length→l.toArray[i]! = l.getD i 0:=by
  intro i hi;rw [getElem!_pos l.toArray i z36_];simp [List.getD,hi]
 have hs:∀ i j,i≤j→j<l.toArray.size→l.toArray[i]!≤l.toArray[j]!:=by
  intro i j m c;have e:j<l.length:=by simpa using c
  rw [d i j29_,d j e];rcases Nat.lt_or_ge i j with f | k
  ·have:=List.pairwise_iff_getElem.1 h i j j29_ e f
   simpa [List.getD,e,show i<l.length from by omega] using this
  ·have:i=j:=by omega
   subst this;exact Int.le_refl _
 have hc:=Yv9 l.toArray hs l.length x30_;refine ⟨hc.1,fun x=>?_⟩;unfold Lib.compact;rw [hc.2];constructor
 ·rintro ⟨j,c,rfl⟩
  rw [d j c];simp [List.getD,c]
 ·intro g
  obtain ⟨j,c,rfl⟩:=List.mem_iff_getElem.1 g;exact ⟨j,c,by rw [d j c];simp [List.getD,c]⟩
theorem Za6 (l:List Int):Lib.compact ((l.filter fun x=>decide (Fit x)).mergeSort fun x y=>decide (x≤y))=sortL l:=by
 have g:((l.filter fun x=>decide (Fit x)).mergeSort fun x y=>decide (x≤y)).Pairwise (·≤·):=by
  have:=List.pairwise_mergeSort (le:=fun x y:Int=>decide (x≤y)) (fun a b c d e=>by simp at *;omega) (fun a b=>by simp;omega) (l.filter fun x=>decide (Fit x));exact this.imp fun h=>by simpa using h
 obtain ⟨d,e⟩:=Zv0 _ g;have f:∀ x,x∈Lib.compact ((l.filter fun x=>decide (Fit x)).mergeSort fun x y=>decide (x≤y))↔x∈l∧Fit x:=by
  intro x;rw [e,List.mem_mergeSort,List.mem_filter,decide_eq_true_eq]
 exact Zt6 ⟨d,fun x j=>((f x).1 j).2⟩ f
open Go Go.RowKit
theorem info3:(Tryz.prog.info? 3).map (fun i=>(i.zero,i.size,i.bytes))=some (some (.int .i64 0),1,8):=k29_
def Blk (w:World) (g:Nat) (t:TypeId) (cs:Array Value):Prop:=w.heap[g]?=some (.cells cs t (0,0))
section
variable {w w':World} {g:Nat} {t:TypeId} {cs:Array Value}
theorem Blk.lt (h:Blk w g t cs):g<w.heap.size:=by
 rcases Nat.lt_or_ge g w.heap.size with d | c
 ·exact d
 ·unfold Blk at h;rw [Array.getElem?_eq_none c] at h;cases h
theorem Blk.cell (h:Blk w g t cs) (i:Nat):w.cell? ⟨g,i,none⟩=cs[i]?:=cell_of_row w g i cs t (0,0) h
theorem Blk.frozen (h:Blk w g t cs) (i:Nat):w.frozen? ⟨g,i,none⟩=false:=by
 unfold Blk at h;simp [World.frozen?,h]
theorem Blk.new (w:World) (t:TypeId) (cs:Array Value):Blk (w.alloc (.cells cs t)) w.heap.size t cs:=heap_alloc_new w _
theorem Blk.drew (h:Blk w g t cs):Blk w.drew g t cs:=h
theorem Blk.alloc (h:Blk w g t cs) (o:Obj):Blk (w.alloc o) g t cs:=(Below.heap_alloc w o g h.lt).trans h
theorem Blk.set_ (h:Blk w g t cs) (i:Nat) (u:Value):Blk (w.setCell ⟨g,i,none⟩ u) g t (cs.setIfInBounds i u):=by
 unfold Blk at h ⊢;simp [World.setCell,Array.getElem?_modify,h]
theorem Blk.far (h:Blk w g t cs) {p:Addr} (c:g≠p.block) (u:Value):Blk (w.setCell p u) g t cs:=(Below.heap_setCell w p u g c).trans h
theorem Blk.below {B:Nat} (h:Blk w g t cs) (hb:Below B w w') (c:g<B):Blk w' g t cs:=(hb.block g c).trans h
theorem Blk.grown {row:Option Nat} (h:Blk w g t cs) (hb:w.grownBy w' row) (c:some g≠row):Blk w' g t cs:=(hb.block g h.lt c).trans h
end
theorem H3_ {a w:World} {g:Nat} (h:a.grownBy w (some g)) {p:Addr} (c:p.block=g∨a.heap.size≤p.block) (u:Value):a.grownBy (w.setCell p u) (some g) :=
 ⟨h.os,h.tape,h.output,by simpa [World.setCell] using h.size,fun i e d=>(Below.heap_setCell w p u i (by
  rintro rfl;rcases c with c | c
  ·exact d (by rw [c])
  ·omega)).trans (h.block i e d)⟩
theorem Y6_ {a w:World} (h:Below a.heap.size a w) (row:Option Nat):a.grownBy w row:=⟨h.os,h.tape,h.output,h.size,fun i c _=>h.block i c⟩
theorem X0_ {a b c:World} {row:Option Nat} (h:a.grownBy b row) (k:b.grownBy c row):a.grownBy c row :=
 ⟨k.os.trans h.os,k.tape.trans h.tape,k.output.trans h.output,Nat.le_trans h.size k.size,fun i d e=>(k.block i (Nat.lt_of_lt_of_le d h.size) e).trans (h.block i d e)⟩
theorem Y4_ {B:Nat} {a w:World} (h:Below B a w) (n:Nat):Below B a (w.drewN n):=⟨h.os,h.tape,h.output,h.size,h.block⟩
def Row (w:World) (B:Nat) (v:Value) (zs:List Int):Prop :=
 ∃ A c,v=.slice A zs.length c∧(zs.length≤c∧c≤maxLen∧(A=none→c=0))∧∀ k,k<zs.length→∃ ad:Addr,A=some ad∧ad.block<B∧w.cell? (ad.add k)=some (.int .i64 (zs.getD k 0))
theorem add_zero (a:Addr):a.add 0=a:=k36_
theorem Z2_ (a:Addr) (n:Nat):(a.add n).block=a.block:=by unfold Addr.add;split<;>rfl
theorem Row.below {w w':World} {B:Nat} {v:Value} {zs:List Int} (h:Row w B v zs) (hb:Below B w w'):Row w' B v zs:=by
 obtain ⟨A,c,j,g,e⟩:=h;refine ⟨A,c,j,g,fun k f=>?_⟩;obtain ⟨d,hA,hB,hc⟩:=e k f;exact ⟨d,hA,hB,(hb.cell (by rw [Z2_];exact hB)).trans hc⟩
theorem Row.mono {w:World} {B d:Nat} {v:Value} {zs:List Int} (h:Row w B v zs) (hB:B≤d):Row w d v zs:=by
 obtain ⟨A,c,m,j,f⟩:=h;refine ⟨A,c,m,j,fun k g=>?_⟩;obtain ⟨e,hA,hb,hc⟩:=f k g;exact ⟨e,hA,j29_,hc⟩
theorem Row.of_own {w:World} {base:Nat} {v:Value} {n:Nat} {zs:List Int} (h:w.ownsRow base 3 1 v n (zs.map (Value.int .i64))) (j:n=zs.length):Row w w.heap.size v zs:=by
 subst j;rcases h.2 with ⟨rfl,d⟩ | ⟨g,c,m,rfl,hb,o,e,f,_⟩
 ·have:zs=[]:=List.eq_nil_of_length_eq_zero (by simpa using d)
  subst this;exact x10_
 ·refine ⟨_,c,rfl,⟨e,f,fun h=>q37_⟩,fun k hk=>⟨⟨g,0,none⟩,rfl,(h.lt g rfl).2,?_⟩⟩
  refine h.cells (g:=g) rfl k _ ?_;rw [List.getElem?_map,List.getElem?_eq_getElem hk];simp [List.getD,hk]
theorem Row.nil_ (W:World) (B:Nat):Row W B (.slice none 0 0) []:=⟨none,0,rfl,⟨le_refl _,y30_,fun _=>rfl⟩,fun k c=>absurd c x30_⟩
theorem Row.lit1 (W:World) (x:Int):Row (W.alloc (.cells #[.int .i64 x] 3)) (W.heap.size+1) (.slice (some ⟨W.heap.size,0,none⟩) 1 1) [x]:=by
 refine ⟨_,1,rfl,⟨le_refl _,y30_,fun h=>q37_⟩,fun k c=>⟨⟨W.heap.size,0,none⟩,rfl,by show W.heap.size<_;omega,?_⟩⟩;have hb:=Blk.new W 3 #[.int .i64 x]
 match k,c with
 | 0,_=>exact hb.cell 0
theorem Row.lit3 (W:World) (x y z:Int):Row (W.alloc (.cells #[.int .i64 x,.int .i64 y,.int .i64 z] 3)) (W.heap.size+1) (.slice (some ⟨W.heap.size,0,none⟩) 3 3) [x,y,z]:=by
 refine ⟨_,3,rfl,⟨le_refl _,y30_,fun h=>q37_⟩,fun k c=>⟨⟨W.heap.size,0,none⟩,rfl,by show W.heap.size<_;omega,?_⟩⟩;have hb:=Blk.new W 3 #[.int .i64 x,.int .i64 y,.int .i64 z]
 match k,c with
 | 0,_=>exact hb.cell 0
 | 1,_=>exact hb.cell 1
 | 2,_=>exact hb.cell 2
theorem Xz7 (w:World) (t:TypeId) (u:Value):∀ (j:Nat) (v:Value),[u][j]?=some v→(w.alloc (.cells #[u] t)).cell? ((⟨w.heap.size,0,none⟩:Addr).add j)=some v:=by
 intro j v c
 match j,c with
 | 0,c =>
  simp at c;subst c;rw [add_zero];exact (Blk.new w t #[u]).cell 0
theorem Xi0 (x:Int):∀ u∈[Value.int .i64 x],u.oneCell'=true:=by
 intro u c;simp at c;subst c;rfl
def lenOf:Value→Nat
 | .slice _ n _=>n
 | _=>0
def Says (w:World) (b:Bool) (e:Ending) (w':World):Prop:=e=.returned (.bool b)∧Below w.heap.size w w'
def Gives (w:World) (r:List Int) (e:Ending) (w':World):Prop:=∃ v,e=.returned v∧Row w' w'.heap.size v r∧Below w.heap.size w w'
def ints (l:List Int):List Value:=l.map (Value.int .i64)
theorem X8_ (a b:List Int):ints (a ++ b)=ints a ++ ints b:=List.map_append
theorem Z9_ (l:List Int):(ints l).length=l.length:=List.length_map ..
theorem Y8_ {w:World} {ops:Array Oper} {rest:List Oper} {o:Oper} {a:Act} {Q:Exit→Act→World→Prop} (p:o.guard=none) (s x:Operand)
  (D:o.op=.call { callee:=.builtin .append,args:=#[s,x],argTypes:=#[26, 26] })
  (base B:Nat) (v G:Value) (zs ys:List Int) (hs:a.eval s=v) (E:a.eval x=G) (m:w.ownsRow base 3 1 v zs.length (ints zs)) (L:Row w B G ys)
  (V:zs.length≤4194304) (U:ys.length≤4194304) (hb:base≤w.heap.size)
  (h:∀ g w',w'.ownsRow base 3 1 g (zs ++ ys).length (ints (zs ++ ys))→w.grownBy w' v.ownBlock→wpList Tryz.prog ops Q rest (a.put o.dst g) w'):wpList Tryz.prog ops Q (o :: rest) a w:=by
 obtain ⟨F,q,O,P,R⟩:=info_parts info3;obtain ⟨A,c,rfl,K,C⟩:=L;have J:∀ d,A=some d→∀ j u,(ints ys)[j]?=some u→w.cell? (d.add j)=some u:=by
  intro d hA j u f;have k:j<ys.length:=by
   have:=(List.getElem?_eq_some_iff.1 f).1;simpa [ints] using this
  obtain ⟨T,e,_,hc⟩:=C j k;rw [hA] at e;have e:=Option.some.inj e;subst e;rw [hc];rw [ints,List.getElem?_map,List.getElem?_eq_getElem k] at f;simp at f;rw [← f];simp [List.getD,k]
 have S:∀ d,A=some d→wpList Tryz.prog ops Q (o :: rest) a w:=by
  intro d hA;refine wpList_append_own w p s x _ D base 3 F (.int .i64 0) 1 8 k29_ q O P R rfl y30_ v zs.length (ints zs) hs m d ys.length c (ints ys) (by rw [E,hA]) (by simp [ints]) (J d hA) ?_ ?_ ?_ hb ?_
  ·intro u M
   obtain ⟨z,_,rfl⟩:=List.mem_map.1 M;rfl
  ·unfold maxLen;omega
  ·omega
  ·intro g w' H I _
   refine h g w' ?_ I;rw [X8_,List.length_append];exact H
 cases A with
 | some d=>exact S d rfl
 | none =>
  have N:ys=[]:=by
   cases ys with
   | nil=>rfl
   | cons y r =>
    obtain ⟨_,hA,_⟩:=C 0 x30_;cases hA
  subst N;have hc:=K.2.2 rfl;subst hc;refine wpList_append_own_none p s x _ D base 3 F 1 k29_ q v zs.length (ints zs) hs m E ?_;exact h v w (by rw [List.append_nil];exact m) ⟨rfl,rfl,rfl,le_refl _,fun _ _ _=>rfl⟩
def Truly (w:World) (e:Ending) (w':World):Prop:=e=.returned (.bool true)∧Below w.heap.size w w'
theorem Row.up {w w':World} {v:Value} {l:List Int} (h:Row w w.heap.size v l) (hb:Below w.heap.size w w'):Row w' w'.heap.size v l:=(h.below hb).mono hb.size
theorem Z0_ {B:Nat} {a b c:World} (h:Below B a b) (hB:B≤a.heap.size) (k:Below b.heap.size b c):Below B a c:=h.trans (k.mono (Nat.le_trans hB h.size))
theorem Row.here {w:World} {o:Obj} {v:Value} {l:List Int} (h:Row (w.alloc o) (w.heap.size+1) v l):Row (w.alloc o) (w.alloc o).heap.size v l:=by
 have e:(w.alloc o).heap.size=w.heap.size+1:=x30_;rw [e];exact h
theorem Row.upA {w:World} {v:Value} {l:List Int} (h:Row w w.heap.size v l) (o:Obj):Row (w.alloc o) (w.alloc o).heap.size v l:=h.up ((Below.refl _ w).alloc (le_refl _) o)
end Go.Proofs.YtnbcaibflhgdoaaGreatDoor.Wp
namespace Go.Proofs.YtnbcaibflhgdoaaGreatDoor
open Go.RowKit
namespace Wp
def Rows2 (w:World) (B:Nat) (v:Value) (pp:List (List Int)):Prop :=
 ∃ A c,v=.slice A pp.length c∧(pp.length≤c∧c≤maxLen∧(A=none→c=0)) ∧
  ∀ k,k<pp.length→∃ (ad:Addr) (u:Value),A=some ad∧ad.block<B∧w.cell? (ad.add k)=some u∧Row w B u (pp.getD k [])
theorem Rows2.below {w w':World} {B:Nat} {v:Value} {d:List (List Int)} (h:Rows2 w B v d) (hb:Below B w w'):Rows2 w' B v d:=by
 obtain ⟨A,c,p,o,j⟩:=h;refine ⟨A,c,p,o,fun k m=>?_⟩;obtain ⟨e,u,hA,hB,f,g⟩:=j k m;exact ⟨e,u,hA,hB,(hb.cell (by rw [Z2_];exact hB)).trans f,g.below hb⟩
theorem Rows2.mono {w:World} {B d:Nat} {v:Value} {e:List (List Int)} (h:Rows2 w B v e) (hB:B≤d):Rows2 w d v e:=by
 obtain ⟨A,c,q,p,m⟩:=h;refine ⟨A,c,q,p,fun k o=>?_⟩;obtain ⟨f,u,hA,hb,g,j⟩:=m k o;exact ⟨f,u,hA,j29_,g,j.mono hB⟩
theorem Rows2.up {w w':World} {v:Value} {c:List (List Int)} (h:Rows2 w w.heap.size v c) (hb:Below w.heap.size w w'):Rows2 w' w'.heap.size v c:=(h.below hb).mono hb.size
theorem Zu0 {w:World} {j k:Nat} {e f:TypeId} {y z v x:Nat} {d h:Value} {A B:List Value} (o:w.ownsRow j e y d v A) (p:w.ownsRow k f z h x B) (u:e≠f) :
  d.ownBlock=none∨d.ownBlock≠h.ownBlock:=by
 rcases o.2 with ⟨rfl,_⟩ | ⟨g,C,E,rfl,_,s,_⟩
 ·exact .inl rfl
 ·right
  rcases p.2 with ⟨rfl,_⟩ | ⟨m,D,F,rfl,_,c,_⟩
  ·simp [Value.ownBlock]
  ·intro q
   have r:g=m:=by simpa [Value.ownBlock] using q
   subst r;rw [s] at c;injection c with c;injection c with _ ht;exact u ht
def Fam (w:World) (B:Nat) (vs:List Value) (pp:List (List Int)):Prop :=
 vs.length=pp.length∧(∀ (i:Nat) (v:Value) (p:List Int),vs[i]?=some v→pp[i]?=some p→w.ownsRow B 3 1 v p.length (ints p)) ∧
  ∀ (i j:Nat) (v u:Value),vs[i]?=some v→vs[j]?=some u→i≠j→v.ownBlock=none∨v.ownBlock≠u.ownBlock
theorem Xi1 (w:World) (B:Nat):Fam w B [] []:=⟨rfl,fun i v p h=>by simp at h,fun i j v u h=>by simp at h⟩
theorem Fam.kept {w w':World} {B:Nat} {c:List Value} {e:List (List Int)} (h:Fam w B c e) {row:Option Nat} (f:w.grownBy w' row) (j:∀ v∈c,v.ownBlock=none∨v.ownBlock≠row):Fam w' B c e :=
 ⟨h.1,fun i v p d g=>(h.2.1 i v p d g).kept f (j v (List.mem_of_getElem? d)),h.2.2⟩
theorem Fam.apart {w w':World} {B:Nat} {d:List Value} {c:List (List Int)} (h:Fam w B d c) {g:Nat} (j:w.grownBy w' (some g)) (q:g<B):Fam w' B d c:=by
 refine h.kept j fun v p=>?_;obtain ⟨i,f,rfl⟩:=List.mem_iff_getElem.1 p;have m:i<c.length:=by rw [← h.1];exact f
 have o:=h.2.1 i _ _ (List.getElem?_eq_getElem f) (List.getElem?_eq_getElem m);rcases hb:d[i].ownBlock with _ | k
 ·exact .inl rfl
 ·right
  have:=o.lt k hb;intro e;injection e with e;omega
theorem Fam.new {w w':World} {B:Nat} {d:List Value} {c:List (List Int)} (h:Fam w B d c) (e:w.grownBy w' none):Fam w' B d c :=
 h.kept e fun v _=>by
  rcases v.ownBlock with _ | k
  ·exact .inl rfl
  ·exact .inr x30_
theorem Fam.more {w:World} {B:Nat} {c:List Value} {m:List (List Int)} (h:Fam w B c m):Fam w B (c ++ [.slice none 0 0]) (m ++ [[]]):=by
 have s:(Value.slice none 0 0).ownBlock=none:=rfl;refine ⟨by simp [h.1],fun i v p hv e=>?_,fun i j v u hv d o=>?_⟩
 ·by_cases f:i<c.length
  ·rw [List.getElem?_append_left f] at hv
   rw [List.getElem?_append_left (by rw [← h.1];exact f)] at e;exact h.2.1 i v p hv e
  ·have g:i=c.length:=x21_
   subst g;rw [List.getElem?_append_right (le_refl _)] at hv;rw [h.1,List.getElem?_append_right (le_refl _)] at e;simp at hv e;subst hv e;exact World.ownsRow_nil _ _ _ _
 ·by_cases f:i<c.length
  ·rw [List.getElem?_append_left f] at hv
   by_cases q:j<c.length
   ·rw [List.getElem?_append_left q] at d
    exact h.2.2 i j v u hv d o
   ·have r:j=c.length:=by
     have:=(List.getElem?_eq_some_iff.1 d).1;simp at this;omega
    subst r;rw [List.getElem?_append_right (le_refl _)] at d;simp at d;subst d;rw [s];rcases v.ownBlock with _ | k
    ·exact .inl rfl
    ·exact .inr x30_
  ·have g:i=c.length:=x21_
   subst g;rw [List.getElem?_append_right (le_refl _)] at hv;simp at hv;subst hv;exact .inl rfl
theorem Fam.grow {w w':World} {B:Nat} {m:List Value} {C:List (List Int)} (h:Fam w B m C) {at_:Nat} {u y:Value} {q:List Int} (x:m[at_]?=some u) (E:w.grownBy w' u.ownBlock)
  (H:w'.ownsRow B 3 1 y q.length (ints q)) (hl:y.ownBlock=u.ownBlock∨y.ownBlock=some w.heap.size):Fam w' B (m.set at_ y) (C.set at_ q):=by
 have o:at_<m.length:=(List.getElem?_eq_some_iff.1 x).1;have D:∀ (j:Nat) (v:Value),m[j]?=some v→∀ k,v.ownBlock=some k→k<w.heap.size:=by
  intro j v c k G;have s:=(List.getElem?_eq_some_iff.1 c).1;have F:j<C.length:=by rw [← h.1];exact s
  exact ((h.2.1 j v _ c (List.getElem?_eq_getElem F)).lt k G).2
 refine ⟨by simp [h.1],fun i v p c g=>?_,fun i j v z c d A=>?_⟩
 ·by_cases f:i=at_
  ·subst f
   rw [List.getElem?_set_self o] at c;rw [List.getElem?_set_self (by rw [← h.1];exact o)] at g;injection c with c;injection g with g;subst c g;exact H
  ·rw [List.getElem?_set_ne (fun e=>f e.symm)] at c g
   exact (h.2.1 i v p c g).kept E (h.2.2 i at_ v u c x f)
 ·by_cases f:i=at_
  ·subst f
   rw [List.getElem?_set_self o] at c;injection c with c;subst c;rw [List.getElem?_set_ne A] at d;rcases hl with hl | hl
   ·rw [hl]
    exact h.2.2 i j u z x d A
   ·right
    rw [hl];intro r;have:=D j z d _ r.symm;omega
  ·rw [List.getElem?_set_ne (fun e=>f e.symm)] at c
   by_cases s:j=at_
   ·subst s
    rw [List.getElem?_set_self o] at d;injection d with d;subst d;rcases hl with hl | hl
    ·rw [hl]
     exact h.2.2 i j v u c x f
    ·rcases hb:v.ownBlock with _ | k
     ·exact .inl rfl
     ·right
      rw [hl];intro r;injection r with r;have:=D i v c k hb;omega
   ·rw [List.getElem?_set_ne (fun e=>s e.symm)] at d
    exact h.2.2 i j v z c d A
theorem J2_ {w:World} {ops:Array Oper} {rest:List Oper} {o:Oper} {a:Act} {Q:Exit→Act→World→Prop} (r:o.guard=none) (s x:Operand) (T e:TypeId) (z:Value) (f:Nat)
  (D:o.op=.call { callee:=.builtin .append,args:=#[s,x],argTypes:=#[T,T] }) (F:Tryz.prog.underlying T=some (.slice e)) (C:(Tryz.prog.info? e).map (fun i=>(i.zero,i.size,i.bytes))=some (some z,1,f)) (K:z.cells.size=1)
  (base:Nat) (v u:Value) (c:List Value) (hs:a.eval s=v) (E:w.ownsRow base e 1 v c.length c) (g:Nat) (G:a.eval x=.slice (some ⟨g,0,none⟩) 1 1) (hc:w.cell? ⟨g,0,none⟩=some u) (p:u.oneCell'=true)
  (hl:c.length≤4194304) (q:f≤1024) (hb:base≤w.heap.size)
  (h:∀ d w',w'.ownsRow base e 1 d (c.length+1) (c ++ [u])→w.grownBy w' v.ownBlock→(d.ownBlock=v.ownBlock∨d.ownBlock=some w.heap.size)→wpList Tryz.prog ops Q rest (a.put o.dst d) w'):wpList Tryz.prog ops Q (o :: rest) a w:=by
 obtain ⟨L,B,H,I,J⟩:=info_parts C;refine wpList_append_own_at w r s x T D base e L z 1 f F B H I J K y30_ v c.length c hs E ⟨g,0,none⟩ 1 1 [u] G x30_ ?_ ?_ ?_ ?_ hb ?_
 ·intro j y k
  match j,k with
  | 0,k =>
   simp at k;subst k;rw [add_zero];exact hc
 ·intro y m
  simp at m;subst m;exact p
 ·unfold maxLen;omega
 ·have:(c.length+1) * f≤4194305 * 1024:=Nat.mul_le_mul j29_ q
  omega
 ·intro d w' M N _ O
  exact h d w' M N O
theorem M8_ {w:World} {B:Nat} {e:TypeId} {v:Value} {n:Nat} {f:List Value} (h:w.ownsRow B e 1 v n f) (j:0<n):∃ g c,v=.slice (some ⟨g,0,none⟩) n c∧B≤g:=by
 rcases h.2 with ⟨_,rfl⟩ | ⟨g,c,_,d,hb,_⟩
 ·omega
 ·exact ⟨g,c,d,hb⟩
theorem H4_ {w:World} {B:Nat} {e:TypeId} {v:Value} {n:Nat} {f:List Value} (h:w.ownsRow B e 1 v n f):∃ A c,v=.slice A n c:=by
 rcases h.2 with ⟨rfl,rfl⟩ | ⟨g,c,_,d,_⟩
 ·exact ⟨none,0,rfl⟩
 ·exact ⟨_,c,d⟩
theorem Fam.rows {w:World} {B:Nat} {v:Value} {d:List Value} {c:List (List Int)} (h:Fam w B d c) (f:w.ownsRow B 26 1 v d.length d):Rows2 w w.heap.size v c:=by
 have r:∀ k,k<c.length→∃ u,d[k]?=some u∧Row w w.heap.size u (c.getD k []):=by
  intro k hk;have j:k<d.length:=by rw [h.1];exact hk
  refine ⟨d[k],List.getElem?_eq_getElem j,?_⟩;have:=h.2.1 k _ _ (List.getElem?_eq_getElem j) (List.getElem?_eq_getElem hk);rw [show c.getD k []=c[k] from by simp [List.getD,hk]];exact Row.of_own this rfl
 rcases f.2 with ⟨rfl,o⟩ | ⟨g,m,z,rfl,hb,A,p,q,_⟩
 ·have s:c.length=0:=by rw [← h.1];exact o
  have:c=[]:=List.eq_nil_of_length_eq_zero s;subst this;exact x10_
 ·refine ⟨some ⟨g,0,none⟩,m,by rw [h.1],⟨by rw [← h.1];exact p,q,fun e=>by cases e⟩,fun k hk=>?_⟩
  obtain ⟨u,y,x⟩:=r k hk;exact ⟨_,u,rfl,(f.lt g rfl).2,f.cells (g:=g) rfl k u y,x⟩
open Go.RowKit
theorem X6_ {w w':World} {b c:Bool} {e:Ending} (hb:b=c) (d:e=.returned (.bool c)) (h:Below w.heap.size w w'):Says w b e w':=⟨by rw [hb];exact d,h⟩
theorem Zu1 (l:List Int) (k:Nat) (f:k<l.length) (h:IsSet (l.take k)) (m:Fit (l.getD k 0)) (d:k=0∨l.getD (k - 1) 0<l.getD k 0):IsSet (l.take (k+1)):=by
 have e:l.take (k+1)=l.take k ++ [l.getD k 0]:=by
  rw [List.take_succ_eq_append_getElem f];simp [List.getD,f]
 rw [e];refine ⟨?_,fun x c=>?_⟩
 ·rw [List.pairwise_append]
  refine ⟨h.1,x30_,fun x c y g=>?_⟩;rw [List.mem_singleton] at g;subst g;obtain ⟨j,o,rfl⟩:=List.mem_iff_getElem.1 c;rw [List.length_take] at o;rcases d with q | d
  ·omega
  ·have hl:l.getD (k - 1) 0=(l.take k)[k - 1]'k33_:=by
    simp [List.getD,show k - 1<l.length from by omega]
   rw [hl] at d;rcases Nat.lt_or_ge j (k - 1) with p | r
   ·have:=List.pairwise_iff_getElem.1 h.1 j (k - 1) k33_ k33_ p
    omega
   ·have:j=k - 1:=by omega
    subst this;exact d
 ·rw [List.mem_append,List.mem_singleton] at c
  rcases c with c | c
  ·exact h.2 x c
  ·subst c;exact m
theorem Zf2 (l:List Int) (k:Nat) (c:k<l.length) (h:¬ Fit (l.getD k 0)∨(0<k∧l.getD k 0≤l.getD (k - 1) 0)):mayB l=false:=by
 rw [← Bool.not_eq_true,mayB_iff];intro hs;have d:l.getD k 0∈l:=by simp [List.getD,c]
 rcases h with h | ⟨e,h⟩
 ·exact h (hs.2 _ d)
 ·have:=List.pairwise_iff_getElem.1 hs.1 (k - 1) k j29_ c j29_
  simp [List.getD,c,show k - 1<l.length from by omega] at h;omega
theorem Yg8 (l:List Int) (k:Nat) (c:k=l.length) (h:IsSet (l.take k)):mayB l=true:=by
 subst c;rw [List.take_length] at h;exact E9_ h
theorem F2_ (w:World) {w':World} (h:Below w.heap.size w w') {r:List Int} (c:r=[]):Gives w r (.returned (.slice none 0 0)) w':=⟨_,rfl,by rw [c];exact Row.nil_ _ _,h⟩
theorem Yg9 {a b:List Int} (ha:mayB a=true) (hb:mayB b=true):Y7_ a b=sortL (a ++ b):=by unfold Y7_;rw [ha,hb];rfl
theorem Yh0 {a b:List Int} (ha:mayB a=false):Y7_ a b=[]:=by unfold Y7_;rw [ha];rfl
theorem Yh1 {a b:List Int} (hb:mayB b=false):Y7_ a b=[]:=by unfold Y7_;rw [hb,Bool.and_false];rfl
def D3_ (a b:List Int) (w:Bool) (k:Nat):List Int:=(a.take k).filter fun x=>b.contains x==w
theorem Yj0 (a b:List Int) (w:Bool) (k:Nat) (h:k<a.length) (c:b.contains (a.getD k 0)=w):D3_ a b w (k+1)=D3_ a b w k ++ [a.getD k 0]:=by
 unfold D3_;rw [List.take_succ_eq_append_getElem h,List.filter_append];have e:a[k]=a.getD k 0:=by simp [List.getD,h]
 rw [e];congr 1;rw [List.filter_cons,if_pos (by simpa using c)];rfl
theorem Yh2 (a b:List Int) (w:Bool) (k:Nat) (h:k<a.length) (c:¬ b.contains (a.getD k 0)=w):D3_ a b w (k+1)=D3_ a b w k:=by
 unfold D3_;rw [List.take_succ_eq_append_getElem h,List.filter_append];have e:a[k]=a.getD k 0:=by simp [List.getD,h]
 rw [e,List.filter_cons,if_neg (by simpa using c)];simp
theorem Za7 (a b:List Int) (w:Bool) (k:Nat):(D3_ a b w k).length≤a.length:=by
 unfold D3_;refine Nat.le_trans (List.length_filter_le _ _) ?_;simp;omega
theorem Yj1 (a b:List Int) (w:Bool) (ha:mayB a=true) (hb:mayB b=true):D3_ a b w a.length=partL a b w:=by
 unfold D3_ partL;rw [List.take_length,ha,hb];rfl
theorem Xz8 {a b:List Int} {w:Bool} (ha:mayB a=false):partL a b w=[]:=by unfold partL;rw [ha];rfl
theorem Xz9 {a b:List Int} {w:Bool} (hb:mayB b=false):partL a b w=[]:=by unfold partL;rw [hb,Bool.and_false];rfl
theorem Xi2 {a b:List Int} (ha:mayB a=false):subB a b=false:=by unfold subB;rw [ha];rfl
theorem Xi3 {a b:List Int} (hb:mayB b=false):subB a b=false:=by unfold subB;rw [hb,Bool.and_false];rfl
theorem Xi4 {a b:List Int} (ha:mayB a=true) (hb:mayB b=true):subB a b=decide (Z4_ a b=[]):=by unfold subB;rw [ha,hb];rfl
open Go.RowKit
theorem Xy0 (x:Int) (w:World):Calls Tryz.prog 83 #[.int .i64 x] w fun e w'=>e=.returned (.bool (decide (Fit x)))∧w'=w:=by
 by_cases c:0≤x
 ·by_cases d:x≤1099511627776
  ·have hf:decide (Fit x)=true:=by simp [Fit,c,d]
   exact z24_
  ·have hf:decide (Fit x)=false:=by simp [Fit,d]
   exact z24_
 ·have hf:decide (Fit x)=false:=by simp [Fit,c]
  exact z24_
theorem P0_ (x:Int) (b:Bool) (h:decide (Fit x)=b) (w:World):Calls Tryz.prog 83 #[.int .i64 x] w fun e w'=>e=.returned (.bool b)∧w'=w:=by
 subst h;exact Xy0 x w
theorem may_any (v:Value) (l:List Int) (w:World) (C:Row w w.heap.size v l) (hl:l.length≤9223372036854775807):Calls Tryz.prog 53 #[v] w (Says w (mayB l)):=by
 obtain ⟨A,c,rfl,_,p⟩:=C;have Hcell:=hid p;clear p;have L:(l.length:Int)≤9223372036854775807:=j29_
 go_enter Tryz.func53,Tryz.ntmps53
 go_wp2
 go_loopw [7] (fun m wr=>∃ k q:Nat,m=.int .i64 k∧k≤l.length∧wr=w.drewN q∧IsSet (l.take k)) (fun m _=>l.length - (intOf m).toNat)
 case atStart=>exact ⟨0,0,rfl,Nat.zero_le _,rfl,by simpa using V7_⟩
 case round =>
  obtain ⟨k,q,rfl,J,u,s⟩:=hrel;have Hwr:=hid u;have Hset:=hid s;clear u s;by_cases h:k<l.length
  ·obtain ⟨o,hA,G,hc⟩:=Hcell.out k h
   subst hA;have g:wr.cell? (o.add k)=some (.int .i64 (l.getD k 0)):=by rw [Hwr.out];exact hc
   clear hc;have d:=hid (Zu1 l k h Hset.out);have Hfail:=hid (Zf2 l k h);have Hq:Hid (Below w.heap.size w wr):=q21_;by_cases B:k=0
   ·subst B
    rw [add_zero] at g;generalize l.getD 0 0=x at g d Hfail;by_cases hx:Fit x
    ·have hfx:=P0_ x true y34_
     go_wp2_with (go_at_call 83;refine (hfx _).mono ?_;rintro e w' ⟨rfl,rfl⟩)
     go_roundw
     case rel=>exact ⟨1,q,rfl,j29_,Hwr.out,d.out hx (.inl trivial)⟩
     case measure=>simp [intOf];omega
    ·exact q9_
   ·obtain ⟨j,r⟩:∃ j,j+1=k:=⟨k - 1,j29_⟩
    have H:(k:Int) - 1=(j:Int):=j29_;have I:(j:Int)<(l.length:Int):=j29_;have z:wr.cell? (o.add j)=some (.int .i64 (l.getD j 0)):=y14_;have F:=hid r;have K:0<(k:Int):=j29_;rw [show k - 1=j from by omega] at d Hfail;clear r;generalize l.getD k 0=x at g d Hfail;generalize l.getD j 0=y at z d Hfail;by_cases hx:Fit x
    ·have hfx:=P0_ x true y34_
     by_cases E:y<x
     ·go_wp2_with (go_at_call 83;refine (hfx _).mono ?_;rintro e w' ⟨rfl,rfl⟩)
      go_roundw
      case rel=>exact ⟨k+1,q,y31_,j29_,Hwr.out,d.out hx (.inr E)⟩
      case measure=>simp [intOf];omega
     ·have D:x≤y:=by omega
      go_wp2_with (go_at_call 83;refine (hfx _).mono ?_;rintro e w' ⟨rfl,rfl⟩)
      go_ret;exact X6_ (Hfail.out (.inr ⟨j29_,D⟩)) rfl Hq.out
    ·exact q9_
  ·exact z9_
open Go.RowKit
def okA (right:Int) (l:List Int):Bool:=mayB l && (decide (l.length=0) || decide (l.getD (l.length - 1) 0<right))
def mayM (right:Int) (adj:List (List Int)):Bool:=decide (0≤right∧right≤64) && decide (adj.length≤64) && adj.all (okA right)
theorem mayM_off {right:Int} {adj:List (List Int)} (h:right<0∨64<right∨64<(adj.length:Int)):mayM right adj=false:=k15_
theorem mayM_miss {right:Int} {adj:List (List Int)} {i:Nat} (hi:i<adj.length) (h:okA right (adj.getD i [])=false):mayM right adj=false:=by
 unfold mayM;exact y3_
theorem mayM_all {right:Int} {adj:List (List Int)} (c:¬ right<0) (d:¬ 64<right) (h3:¬ 64<(adj.length:Int)) (h:∀ i,i<adj.length→okA right (adj.getD i [])=true):mayM right adj=true:=k24_
theorem Yh3 {right:Int} {l:List Int} (h:mayB l=false):okA right l=false:=by simp [okA,h]
theorem Za8 {right:Int} {l:List Int} (h:mayB l=true) (c:l.length=0):okA right l=true:=by simp [okA,h,c]
theorem S6_ {right x:Int} {l:List Int} (h:mayB l=true) (d:0<l.length) (c:l.getD (l.length - 1) 0=x):okA right l=decide (x<right):=by
 unfold okA;rw [h,c,decide_eq_false (show ¬ l.length=0 by omega)];simp
theorem mayset_is (v:Value) (l:List Int) (b:Bool) (h:mayB l=b) (w:World) (hr:Row w w.heap.size v l):Calls Tryz.prog 53 #[v] w (Says w b):=y16_
theorem kmay_any (right:Int) (v:Value) (adj:List (List Int)) (w:World) (O:Rows2 w w.heap.size v adj) :
  Calls Tryz.prog 113 #[.int .i64 right,v] w (Says w (mayM right adj)):=by
 obtain ⟨A,c,rfl,_,z⟩:=O;have H:=hid z;clear z;by_cases q:right<0
 ·rw [mayM_off (.inl q)]
  exact z3_
 by_cases r:64<right
 ·rw [mayM_off (.inr (.inl r))]
  exact z3_
 by_cases s:64<(adj.length:Int)
 ·rw [mayM_off (.inr (.inr s))]
  exact z3_
 have Hall:=hid (fun h=>mayM_all (adj:=adj) q r s h)
 go_enter Tryz.func113,Tryz.ntmps113
 go_wp2
 go_loopw [20] (fun o wr=>∃ i:Nat,o=.int .i64 i∧i≤adj.length∧Below w.heap.size w wr∧∀ j,j<i→okA right (adj.getD j [])=true) (fun o _=>adj.length - (intOf o).toNat)
 case atStart=>exact ⟨0,rfl,Nat.zero_le _,Below.refl _ _,fun j D=>absurd D (Nat.not_lt_zero _)⟩
 case round =>
  obtain ⟨i,rfl,S,y,F⟩:=hrel;have Hbr:=hid y;have Hok:=hid F;clear y F;by_cases E:i<adj.length
  ·have T:(i:Int)<(adj.length:Int):=by omega
   obtain ⟨J,u,hA,hab,C,k⟩:=H.out i E;subst hA;have M:=(Hbr.out.cell (p:=J.add i) x31_).trans C;have Hru:=hid ((k.below Hbr.out).mono Hbr.out.size);have Hmiss:=hid (fun h=>mayM_miss (right:=right) E h);have Hnext:Hid (okA right (adj.getD i [])=true→∀ j,j<i+1→okA right (adj.getD j [])=true):=fun h j D=>j9_;clear C hab Hok;generalize adj.getD i []=l at *
   rcases hm:mayB l with _ | _
   ·have Hm:=hid hm
    obtain ⟨G,K,rfl,_⟩:=k;clear hm;rw [Hmiss.out (Yh3 Hm.out)];exact z29_
   ·have Hm:=hid hm
    obtain ⟨G,K,rfl,hcap,B⟩:=k;have I:=hid B;obtain ⟨L,d⟩:∃ L,l.length=L:=⟨_,rfl⟩;have HL:=hid d;have R:(L:Int)≤9223372036854775807:=j6_;rw [d] at M Hru;clear hm B hcap d;by_cases h0:L=0
    ·have hok1:=hid (Za8 (right:=right) Hm.out (HL.out.trans h0))
     exact y5_
    ·obtain ⟨x,m⟩:∃ x,l.getD (l.length - 1) 0=x:=⟨_,rfl⟩
     obtain ⟨al,N,halb,g⟩:=I.out (l.length - 1) z37_;have Hlast:=hid (S6_ (right:=right) Hm.out z37_ m);rw [m,HL.out] at g;subst N;have Q:(0:Int)<(L:Int):=j29_;have U:IntKind.i64.wrap ((L:Int) - 1)=(L:Int) - 1:=k30_;have V:(0:Int)≤(L:Int) - 1:=j29_;have W:(L:Int) - 1<(L:Int):=j29_;have X:((L:Int) - 1).toNat=L - 1:=j29_;clear m h0
     go_wp2_with fail
     refine (mayset_is _ l true Hm.out _ Hru.out).mono ?_;rintro e w1 ⟨rfl,hb1⟩;have Hb1:=hid (Z0_ Hbr.out (le_refl _) hb1);have P:=(Hb1.out.cell (p:=al.add (L - 1)) z33_).trans g;clear hb1 g;by_cases hxr:x<right
     ·have hxr2:¬ right≤x:=by omega
      have Hok1:Hid (okA right l=true):=Hlast.out.trans (decide_eq_true hxr);exact j4_
     ·exact j25_
  ·exact q5_
open Go.RowKit
def from_ (x:Int):List Int→List Int
 | []=>[]
 | y :: r=>if y<x then from_ x r else y :: r
theorem Xi5 {x y:Int} {r:List Int} (h:y<x):from_ x (y :: r)=from_ x r:=by rw [from_,if_pos h]
theorem Xi6 {x y:Int} {r:List Int} (h:¬ y<x):from_ x (y :: r)=y :: r:=by rw [from_,if_neg h]
theorem Zu2 (x:Int):∀ l,(from_ x l).Sublist l
 | []=>List.Sublist.refl _
 | y :: r=>by
  unfold from_;split
  ·exact (Zu2 x r).cons y
  ·exact List.Sublist.refl _
theorem Zu3 (x z:Int) (c:x≤z):∀ l,(z∈from_ x l↔z∈l)
 | []=>Iff.rfl
 | y :: r=>by
  unfold from_;split
  ·rw [Zu3 x z c r,List.mem_cons]
   constructor
   ·exact .inr
   ·rintro (e | h)
    ·omega
    ·exact h
  ·exact Iff.rfl
theorem Yh4 (x:Int) (l:List Int) (h:l.Pairwise (·<·)) (y:Int) (r:List Int) (c:l=y :: r) (f:¬ y<x):(x∈l↔y=x):=by
 subst c;rw [List.pairwise_cons] at h;rw [List.mem_cons];constructor
 ·rintro (e | d)
  ·exact e.symm
  ·have:=h.1 x d;omega
 ·intro e;exact .inl e.symm
def R2_ (a b b':List Int) (k:Nat):Prop:=b'.Pairwise (·<·)∧b'.length≤b.length∧∀ i,k≤i→i<a.length→(a.getD i 0∈b↔a.getD i 0∈b')
theorem Zf3 {a b:List Int} (hb:IsSet b):R2_ a b b 0:=⟨hb.1,le_refl _,fun _ _ _=>Iff.rfl⟩
theorem Zm4 {a b c:List Int} {k:Nat} (ha:IsSet a) (e:k<a.length) (h:R2_ a b c k):R2_ a b (from_ (a.getD k 0) c) k:=by
 have hs:=Zu2 (a.getD k 0) c;refine ⟨h.1.sublist hs,Nat.le_trans hs.length_le h.2.1,fun i f d=>?_⟩;rw [h.2.2 i f d,Zu3 _ _ ?_];rcases Nat.lt_or_ge k i with g | j
 ·have:=List.pairwise_iff_getElem.1 ha.1 k i e d g
  simp [List.getD,e,d];omega
 ·have:i=k:=by omega
  subst this;exact Int.le_refl _
theorem A8_ {a b c:List Int} {k:Nat} (h:R2_ a b c k):R2_ a b c (k+1):=⟨h.1,h.2.1,fun i d=>h.2.2 i j29_⟩
theorem Yj2 {a b:List Int} {k:Nat} (c:k<a.length) (h:R2_ a b [] k):b.contains (a.getD k 0)=false:=by
 have:=h.2.2 k (le_refl _) c;rw [← Bool.not_eq_true,List.contains_iff_mem,this];simp
theorem Zm5 {a b:List Int} {k:Nat} {y:Int} {r:List Int} (d:k<a.length) (h:R2_ a b (y :: r) k) (e:¬ y<a.getD k 0):b.contains (a.getD k 0)=decide (y=a.getD k 0):=by
 have c:=h.2.2 k (le_refl _) d;rw [Yh4 _ _ h.1 y r rfl e] at c;rw [Bool.eq_iff_iff,List.contains_iff_mem,c,decide_eq_true_iff]
theorem Row.tail {w:World} {B:Nat} {v:Value} {y:Int} {r:List Int} (h:Row w B v (y :: r)):∃ d c,v=.slice (some d) (r.length+1) (c+1)∧w.cell? d=some (.int .i64 y)∧d.block<B∧r.length≤c∧c+1≤maxLen∧∀ f:Option Addr,(f=some (d.add 1)∨(c=0∧f=some d))→Row w B (.slice f r.length c) r:=by
 obtain ⟨A,c,rfl,⟨j,q,h3⟩,p⟩:=h;obtain ⟨d,rfl,o,hc⟩:=p 0 x30_;rw [add_zero] at hc;obtain ⟨g,rfl⟩:∃ g,c=g+1:=⟨c - 1,by simp at j;omega⟩;refine ⟨d,g,x30_,by simpa using hc,o,by simpa using j,q,fun f hA=>⟨f,g,rfl,⟨by simpa using j,j29_,fun e=>by rcases hA with h | ⟨_,h⟩<;>rw [e] at h<;>cases h⟩,fun k C=>?_⟩⟩;rcases hA with rfl | ⟨x,_⟩
 ·obtain ⟨u,m,z,s⟩:=p (k+1) j30_
  injection m with m;subst m;refine ⟨_,rfl,by rw [Z2_];exact o,?_⟩;have e:(d.add 1).add k=d.add (k+1):=by rw [Addr.add_add,Nat.add_comm]
  rw [e,s];simp
 ·simp at j;omega
theorem Xi7 (N O:Value) (a b:List Int) (within:Bool) (w:World) (ha:Row w w.heap.size N a) (hb:Row w w.heap.size O b) (Z:a.length≤1048576) (x0:b.length≤1048576) (p:mayB a=true) (q:mayB b=true) :
  Calls Tryz.prog 82 #[N,O,.bool within] w (Gives w (partL a b within)):=by
 have P:=hid ha;have D:=hid hb;obtain ⟨A1,c1,rfl,_,I⟩:=ha;obtain ⟨A2,c2,rfl,_⟩:=hb;have R:=hid I;clear I;have Q:=hid (Yj1 a b within p q);have S:=hid (mayB_iff.1 p);have T:=hid (mayB_iff.1 q)
 go_enter Tryz.func82,Tryz.ntmps82
 go_wp2_with fail
 refine (may_any _ a w P.out (Nat.le_trans Z y30_)).mono ?_;rintro e w1 ⟨rfl,g⟩;rw [p]
 go_wp2_with fail
 refine (may_any _ b w1 ((D.out.below g).mono g.size) (Nat.le_trans x0 y30_)).mono ?_;rintro e w2 ⟨rfl,H⟩;rw [q];have G:Below w.heap.size w w2:=g.trans (H.mono g.size);clear g H p q;go_wp2
 go_loopw [1,7,21] (fun x1 vl B wr=>∃ (k:Nat) (d:List Int),B=.int .i64 k∧k≤a.length∧Row wr w.heap.size x1 d∧R2_ a b d k∧wr.ownsRow w.heap.size 3 1 vl (D3_ a b within k).length (ints (D3_ a b within k))∧Below w.heap.size w wr) (fun _ _ B _=>a.length - (intOf B).toNat)
 case atStart=>exact ⟨0,b,rfl,Nat.zero_le _,D.out.below G,Zf3 T.out,World.ownsRow_nil _ _ _ _,G⟩
 case round =>
  obtain ⟨k,d,rfl,hk,J,K,hown,hbr⟩:=hrel;by_cases c:k<a.length
  ·obtain ⟨V,hA,hab,hc⟩:=R.out k c
   subst hA;have W:wr.cell? (V.add k)=some (.int .i64 (a.getD k 0)):=(hbr.cell x31_).trans hc;clear hc;have x7:=Za7 a b within k;have Hyes:=hid (Yj0 a b within k c);have Hno:=hid (Yh2 a b within k c);have Hsv:=hid (Zm4 S.out c K);have F:=hid (fun h=>Yj2 (a:=a) (b:=b) c h);have E:=hid (fun y r h=>Zm5 (a:=a) (b:=b) (y:=y) (r:=r) c h);clear K;generalize a.getD k 0=x at W Hyes Hno Hsv F E;go_wp2
   go_loopw [1] (fun C x2=>∃ r:List Int,x2=wr∧Row wr w.heap.size C r∧from_ x d=from_ x r) (fun C _=>lenOf C)
   case atStart=>exact ⟨d,rfl,J,rfl⟩
   case round =>
    obtain ⟨r,rfl,j,v⟩:=hrel;have s:=Hsv;rw [v] at Hsv;have o:=hid v;clear v J;cases r with
    | nil =>
     clear s o;have Hc:=hid (F.out Hsv.out);have Hrr:=hid j;obtain ⟨A3,c3,rfl,_⟩:=j;cases within
     ·
      have Hx:=hid (Hyes.out (by rw [Hc.out]));clear Hyes Hno
      go_wp2_with (at_builtin;refine Y8_ rfl _ _ rfl w.heap.size _ _ _ (D3_ a b false k) [x] rfl rfl (hown.alloc _) (Row.lit1 _ x) j29_ x30_ k32_ ?_)
      intro v' w4 hown' hgrow;have hb4:Below w.heap.size wr w4:=((Below.refl _ wr).alloc hbr.size _).grown hgrow k32_ (fun i hi=>(hown.lt i hi).1);go_wp2
      go_roundw
      case rel=>exact ⟨k+1,[],y31_,j29_,Hrr.out.below hb4,A8_ Hsv.out,by rw [Hx.out,List.length_append];exact hown',hbr.trans hb4⟩
      case measure=>simp [intOf];omega
     ·
      have Hx:=hid (Hno.out (by rw [Hc.out];decide));clear Hyes Hno;go_wp2
      go_roundw
      case rel=>exact ⟨k+1,[],y31_,j29_,Hrr.out,A8_ Hsv.out,by rw [Hx.out];exact hown,hbr⟩
      case measure=>simp [intOf];omega
    | cons y r =>
     have Hrr:=hid j;obtain ⟨x3,c3,rfl,g2,x4,x5,X,L⟩:=j.tail;have U:=hid L;clear L j;have x8:(r.length:Int)≤(c3:Int):=j29_;have x6:(c3:Int)≤9223372036854775806:=by unfold maxLen at X;omega
     by_cases M:y<x
     ·rw [Xi5 M] at o
      clear Hsv s;go_wp2
      go_roundw
      case rel =>
       refine ⟨r,trivial,U.out _ ?_,o.out⟩;by_cases u:c3=0
       ·rw [if_pos u];exact .inr ⟨u,rfl⟩
       ·rw [if_neg u];exact .inl (by simp [Addr.add])
      case measure=>simp [lenOf]
     ·rw [Xi6 M] at Hsv
      clear s o;have m:=hid (E.out y r Hsv.out j29_);have xa:decide (y<x)=false:=j30_;by_cases z:y=x
      ·subst z
       have Hc:Hid (b.contains y=true):=by
        show b.contains y=true;rw [m.out];simp
       clear m;cases within
       ·
        exact y6_
       ·
        have Hx:=hid (Hyes.out (by rw [Hc.out]));clear Hyes Hno
        go_wp2_with (at_builtin;refine Y8_ rfl _ _ rfl w.heap.size _ _ _ (D3_ a b true k) [y] rfl rfl (hown.alloc _) (Row.lit1 _ y) j29_ x30_ k32_ ?_)
        exact x4_
      ·have Hc:Hid (b.contains x=false):=by
        show b.contains x=false;rw [m.out];simp [z]
       have x9:(y==x)=false:=by simp [z]
       clear m;cases within
       ·
        have Hx:=hid (Hyes.out (by rw [Hc.out]));clear Hyes Hno
        go_wp2_with (at_builtin;refine Y8_ rfl _ _ rfl w.heap.size _ _ _ (D3_ a b false k) [x] rfl rfl (hown.alloc _) (Row.lit1 _ x) j29_ x30_ k32_ ?_)
        exact x4_
       ·
        exact y6_
  ·have Y:k=a.length:=by omega
   subst Y;rw [Q.out] at hown;go_wp2;go_ret;exact ⟨_,rfl,Row.of_own hown rfl,hbr⟩
theorem Xy1 (c d:Value) (a b:List Int) (within:Bool) (w:World) (ha:Row w w.heap.size c a) (hb:Row w w.heap.size d b) (h:a.length≤1048576) (j:b.length≤1048576) :
  Calls Tryz.prog 82 #[c,d,.bool within] w (Gives w (partL a b within)):=by
 rcases hma:mayB a with _ | _
 ·have g:=hid ha
  clear ha hb;have Hr:=hid (Xz8 (b:=b) (w:=within) hma)
  go_enter Tryz.func82,Tryz.ntmps82
  go_wp2_with fail
  refine (may_any c a w g.out (Nat.le_trans h y30_)).mono ?_;exact y19_
 ·rcases hmb:mayB b with _ | _
  ·have g:=hid ha
   have k:=hid hb;clear ha hb;have Hr:=hid (Xz9 (a:=a) (w:=within) hmb)
   go_enter Tryz.func82,Tryz.ntmps82
   go_wp2_with fail
   refine (may_any c a w g.out (Nat.le_trans h y30_)).mono ?_;rintro e w1 ⟨rfl,hb1⟩;rw [hma]
   go_wp2_with fail
   refine (may_any d b w1 ((k.out.below hb1).mono hb1.size) (Nat.le_trans j y30_)).mono ?_;exact z15_
  ·exact Xi7 c d a b within w ha hb h j hma hmb
theorem B6_ (c d:Value) (a b:List Int) (w:World) (ha:Row w w.heap.size c a) (hb:Row w w.heap.size d b) (j:a.length≤1048576) (k:b.length≤1048576) :
  Calls Tryz.prog 50 #[c,d] w (Gives w (Z4_ a b)):=by
 have g:=hid (Xy1 c d a b false w ha hb j k);clear ha hb
 go_enter Tryz.func50,Tryz.ntmps50
 go_wp2_with fail
 refine g.out.mono ?_;rintro e p ⟨o,rfl,m,h⟩;go_wp2;go_ret;exact ⟨_,rfl,m,h⟩
theorem P1_ (h j:Value) (a b:List Int) (w:World) (ha:Row w w.heap.size h a) (hb:Row w w.heap.size j b) (p:a.length≤1048576) (u:b.length≤1048576) :
  Calls Tryz.prog 64 #[h,j] w (Says w (subB a b)):=by
 have k:=hid ha;have s:=hid hb;clear ha hb;rcases hma:mayB a with _ | _
 ·have d:=hid (Xi2 (b:=b) hma)
  go_enter Tryz.func64,Tryz.ntmps64
  go_wp2_with fail
  refine (may_any h a w k.out (Nat.le_trans p y30_)).mono ?_;rintro e q ⟨rfl,c⟩;rw [hma];go_wp2;go_ret;exact X6_ d.out rfl c
 ·rcases hmb:mayB b with _ | _
  ·have d:=hid (Xi3 (a:=a) hmb)
   go_enter Tryz.func64,Tryz.ntmps64
   go_wp2_with fail
   refine (may_any h a w k.out (Nat.le_trans p y30_)).mono ?_;rintro e q ⟨rfl,c⟩;rw [hma]
   go_wp2_with fail
   refine (may_any j b q ((s.out.below c).mono c.size) (Nat.le_trans u y30_)).mono ?_;rintro e v ⟨rfl,o⟩;rw [hmb];go_wp2;go_ret;exact X6_ d.out rfl (c.trans (o.mono c.size))
  ·have d:=hid (Xi4 hma hmb)
   go_enter Tryz.func64,Tryz.ntmps64
   go_wp2_with fail
   refine (may_any h a w k.out (Nat.le_trans p y30_)).mono ?_;rintro e q ⟨rfl,c⟩;rw [hma]
   go_wp2_with fail
   refine (may_any j b q ((s.out.below c).mono c.size) (Nat.le_trans u y30_)).mono ?_;rintro e v ⟨rfl,o⟩;rw [hmb];have g:Below w.heap.size w v:=c.trans (o.mono c.size);clear c o
   go_wp2_with fail
   refine (B6_ h j a b v ((k.out.below g).mono g.size) ((s.out.below g).mono g.size) p u).mono ?_;rintro e G ⟨F,rfl,B,C⟩;have x:=g.trans (C.mono g.size);have z:=Zm3 a b false;change (Z4_ a b).length≤_ at z;generalize Z4_ a b=m at d B z;obtain ⟨D,c3,rfl,_⟩:=B;cases m with
   | nil =>
    go_wp2;go_ret;exact X6_ d.out rfl x
   | cons y r =>
    have E:((r.length:Int)+1==0)=false:=j30_;go_wp2;go_ret;exact X6_ d.out rfl x
open Go.RowKit
def upTo (k:Nat):List Int:=(List.range k).map Int.ofNat
theorem Yh5 (k:Nat):upTo (k+1)=upTo k ++ [(k:Int)]:=by
 unfold upTo;rw [List.range_succ,List.map_append];rfl
theorem A9_ (k:Nat):(upTo k).length=k:=by simp [upTo]
theorem Xe9 {n:Int} (h:n<1∨100000<n):allL n=[]:=if_pos h
theorem Yh6 {n:Nat} (c:1≤n) (d:n≤100000):allL n=upTo n:=by
 unfold allL upTo;rw [if_neg j29_];rfl
def filled (n k:Nat):Array Value:=(ints (upTo k ++ List.replicate (n - k) 0)).toArray
theorem Zm6 {n k:Nat} (h:k≤n):(filled n k).size=n:=by
 simp [filled,Z9_,A9_];omega
theorem Yj3 {n k:Nat} (h:k<n):(filled n k).setIfInBounds k (.int .i64 (k:Int))=filled n (k+1):=by
 unfold filled;rw [List.setIfInBounds_toArray];congr 1;rw [Yh5,X8_,X8_,X8_,List.append_assoc];have e:List.replicate (n - k) (0:Int)=0 :: List.replicate (n - (k+1)) 0:=by
  rw [show n - k=(n - (k+1))+1 from by omega,List.replicate_succ]
 rw [e,List.set_append_right _ _ (by rw [Z9_,A9_];exact le_refl _),Z9_,A9_,Nat.sub_self];rfl
theorem Yj4 (n:Nat):filled n n=(ints (upTo n)).toArray:=by
 unfold filled;rw [Nat.sub_self,List.replicate_zero,List.append_nil]
theorem Yj5 {w:World} {g n:Nat} (h:Blk w g 3 (filled n n)) (c:n≤maxLen):Row w w.heap.size (.slice (some ⟨g,0,none⟩) n n) (upTo n):=by
 rw [Yj4] at h;refine ⟨_,n,by rw [A9_],⟨by rw [A9_];exact le_refl _,c,fun e=>by cases e⟩,fun k hk=>⟨_,rfl,h.lt,?_⟩⟩;exact y13_
theorem L1_ (w:World) (g n:Nat) (h:w.ownsRow g 3 1 (.slice (some ⟨g,0,none⟩) n n) n (madeCells (Value.int .i64 0).cells (n * 1)).toList):Blk w g 3 (filled n 0):=by
 rcases h.2 with ⟨e,_⟩ | ⟨q,p,c,o,hb,k,d,f,h3,j⟩
 ·cases e
 ·injection o with e1 _ e3
  injection e1 with e1;injection e1 with e1;subst e1 e3;unfold Blk;rw [k];have m:(madeCells (Value.int IntKind.i64 0).cells (n * 1)).toList=(filled n 0).toList:=by
   unfold madeCells filled;simp only [upTo,List.range_zero,List.map_nil,List.nil_append,Nat.sub_zero,Nat.mul_one];apply List.ext_getElem
   ·simp [ints]
   ·intro i d f
    simp [ints,Value.cells,Nat.mod_one]
  have hc:c.toList=(filled n 0).toList:=by
   rw [← m,← j,List.take_of_length_le];rw [Array.length_toList,h3];exact le_refl _
  rw [Array.toList_inj.1 hc]
theorem Xt9 (n:Nat) (w:World) (r:1≤n) (s:n≤100000) :
  Calls Tryz.prog 51 #[.int .i64 n] w (Gives w (allL n)):=by
 have p:=hid (Yh6 r s);have E:¬ (n:Int)<1:=j29_;have F:¬ (100000:Int)<(n:Int):=j29_;obtain ⟨B,d,y,z,hz2⟩:=info_parts info3
 go_enter Tryz.func51,Tryz.ntmps51
 go_wp2_with (at_make;refine wpList_make_full w rfl _ _ 26 rfl w.heap.size 3 B (.int .i64 0) 1 k29_ d y z .i64 .i64 _ _ n rfl rfl z31_ z31_ j35_ k31_ (le_refl _) ?_)
 intro o m h;have c:=L1_ o w.heap.size n (by rw [Nat.mul_one];exact m);have u:Below w.heap.size w o:=(Below.refl _ w).grown h (le_refl _) (fun i d=>by cases d);clear m h;go_wp2
 go_loopw [15] (fun e wr=>∃ k:Nat,e=.int .i64 k∧k≤n∧Blk wr w.heap.size 3 (filled n k)∧Below w.heap.size w wr) (fun e _=>n - (intOf e).toNat)
 case atStart=>exact ⟨0,rfl,Nat.zero_le _,c,u⟩
 case round =>
  obtain ⟨k,rfl,v,c,g⟩:=hrel;by_cases j:k<n
  ·have hs:=Zm6 v
   have C:wr.cell? ⟨w.heap.size,k,none⟩=some ((filled n k)[k]'j29_):=by rw [c.cell];simp [hs,j]
   have D:=c.frozen k;have q:=hid c;clear c;go_wp2
   go_roundw
   case rel=>exact ⟨k+1,y31_,j29_,by rw [← Yj3 j];exact q.out.set_ k _,g.setCell (by exact le_refl _) _⟩
   case measure=>simp [intOf];omega
  ·have x:k=n:=by omega
   subst x;go_wp2;go_ret;exact ⟨_,rfl,by rw [p.out];exact Yj5 c k31_,g⟩
theorem F0_ (n:Int) (w:World):Calls Tryz.prog 51 #[.int .i64 n] w (Gives w (allL n)):=by
 by_cases c:n<1
 ·have Hf:=hid (Xe9 (.inl c))
  exact j14_
 ·by_cases d:100000<n
  ·have Hf:=hid (Xe9 (.inr d))
   exact j14_
  ·obtain ⟨m,rfl⟩:∃ m:Nat,n=(m:Int):=⟨n.toNat,j29_⟩
   exact Xt9 m w j29_ j29_
open Go.RowKit
theorem Yj6 (v:Value) (l:List Int) (w:World) (E:Row w w.heap.size v l) (hl:l.length≤9223372036854775807):Calls Tryz.prog 35 #[v] w (Says w (mayB l)):=by
 obtain ⟨A,c,rfl,_,p⟩:=E;have Hcell:=hid p;clear p;have N:(l.length:Int)≤9223372036854775807:=j29_
 go_enter Tryz.func35,Tryz.ntmps35
 go_wp2
 go_loopw [3] (fun m wr=>∃ k q:Nat,m=.int .i64 k∧k≤l.length∧wr=w.drewN q∧IsSet (l.take k)) (fun m _=>l.length - (intOf m).toNat)
 case atStart=>exact ⟨0,0,rfl,Nat.zero_le _,rfl,by simpa using V7_⟩
 case round =>
  obtain ⟨k,q,rfl,K,u,s⟩:=hrel;have Hwr:=hid u;have Hset:=hid s;clear u s;by_cases g:k<l.length
  ·obtain ⟨o,hA,H,hc⟩:=Hcell.out k g
   subst hA;have e:wr.cell? (o.add k)=some (.int .i64 (l.getD k 0)):=by rw [Hwr.out];exact hc
   clear hc;have L:(k:Int)<(l.length:Int):=j29_;have d:=hid (Zu1 l k g Hset.out);have Hfail:=hid (Zf2 l k g);have Hq:Hid (Below w.heap.size w wr):=q21_;by_cases D:k=0
   ·subst D
    rw [add_zero] at e;generalize l.getD 0 0=x at e d Hfail;by_cases hx0:0≤x
    ·by_cases hx1:x≤1099511627776
     ·have d0:decide (x<0)=false:=by simp;omega
      have d1:decide (1099511627776<x)=false:=j30_;have B:decide ((0:Int)<0)=false:=rfl;go_wp2
      go_quiet (fail)
      go_wp2
      go_roundw
      case rel=>exact ⟨1,q+nq,rfl,j29_,by rw [Hwr.out,World.drewN_drewN],d.out ⟨hx0,hx1⟩ (.inl trivial)⟩
      case measure=>simp [intOf];omega
     ·exact j24_
    ·exact q26_
   ·obtain ⟨j,r⟩:∃ j,j+1=k:=⟨k - 1,j29_⟩
    have I:(k:Int) - 1=(j:Int):=j29_;have J:(j:Int)<(l.length:Int):=j29_;have C:wr.cell? (o.add j)=some (.int .i64 (l.getD j 0)):=y14_;have G:=hid r;have M:0<k:=j29_;rw [show k - 1=j from by omega] at d Hfail;clear r;generalize l.getD k 0=x at e d Hfail;generalize l.getD j 0=y at C d Hfail;by_cases hx0:0≤x
    ·by_cases hx1:x≤1099511627776
     ·by_cases z:y<x
      ·have d0:decide (x<0)=false:=by simp;omega
       have d1:decide (1099511627776<x)=false:=j30_;have B:decide (x≤y)=false:=j30_;go_wp2
       go_quiet (fail)
       go_wp2
       go_roundw
       case rel=>exact ⟨k+1,q+nq,y31_,j29_,by rw [Hwr.out,World.drewN_drewN],d.out ⟨hx0,hx1⟩ (.inr z)⟩
       case measure=>simp [intOf];omega
      ·have F:x≤y:=by omega
       have Hf:=hid (Hfail.out (.inr ⟨j29_,F⟩));have d0:decide (x<0)=false:=j30_;have d1:decide (1099511627776<x)=false:=j30_;clear z;exact z5_
     ·exact j24_
    ·exact q26_
  ·exact z9_
theorem M9_ (v:Value) (l:List Int) (w:World) (c:Row w w.heap.size v l) (hl:l.length≤9223372036854775807) {x:Bool} (h:mayB l=x):Calls Tryz.prog 35 #[v] w (Says w x):=by
 subst h;exact Yj6 v l w c hl
open Go.RowKit
open Go.RowKit
open Go.RowKit
end Wp
end Go.Proofs.YtnbcaibflhgdoaaGreatDoor
