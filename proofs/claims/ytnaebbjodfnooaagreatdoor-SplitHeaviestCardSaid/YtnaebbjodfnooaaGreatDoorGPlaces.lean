/- Sets of numbers as lists, plain: what layer 2's calls answer, and that sets are an algebra. Nothing of the program here. Small laws of memory that the walks of this seat use: a block that is known whole; a list of integers in memory; what a call gives. Memory of this seat: a list of lists of integers; a family of rows that the call itself makes, no two in one block. Plain facts on sets as lists, for the walks: whether a list is a set, step by step; what both have, step by step. Whether a list is a set, as the program and as the document ask it, walked. Two sides that may be: the program's May, walked. The program's part (Meet, Minus), walked: both lists rise, and one goes along the other. The program's Has and All, walked. Whether a list is a set, as the document asks it, walked. The document's answer: is a number in a list: walked. The document's meet and union of sets, walked. -/
import Derived.Lib.SlicesCompact
import Derived.Test.YtnaebbjodfnooaaGreatDoorProg
import Derived.WalkKit
import Derived.OwnWalk
import Derived.Lib.Hide
import Derived.Laws.Cells
import Derived.Laws.Rows
import Derived.Deep.Draws
import Derived.BigQuiet
import Derived.Deep.QuietTactic
import Derived.Laws.AppendOwnNone
import Derived.Maps.AppendAt
import Derived.Lib.OwnBridge
import Derived.DataElems
import Derived.Test.YtnaebbjodfnooaaGreatDoorX0A
import Derived.Test.YtnaebbjodfnooaaGreatDoorX0C
set_option maxHeartbeats 8000000
set_option maxRecDepth 100000
open Go.Lib (hid)
open Nat (le_refl)
namespace Go.Proofs.YtnaebbjodfnooaaGreatDoor.Wp
def Fit (x:Int):Prop:=0≤x∧x≤1099511627776
instance (x:Int):Decidable (Fit x):=inferInstanceAs (Decidable (_∧_))
def IsSet (l:List Int):Prop:=l.Pairwise (·<·)∧∀ x∈l,Fit x
instance (l:List Int):Decidable (IsSet l):=inferInstanceAs (Decidable (_∧_))
def mayB (l:List Int):Bool:=decide (IsSet l)
theorem J1_:IsSet []:=⟨List.Pairwise.nil,fun _ h=>absurd h j37_⟩
theorem Zz8:∀ {a b:List Int},a.Pairwise (·<·)→b.Pairwise (·<·)→(∀ x,x∈a↔x∈b)→a=b
 | [],[],_,_,_=>rfl
 | [],y :: b,_,_,h=>absurd ((h y).2 j37_) j37_
 | x :: a,[],_,_,h=>absurd ((h x).1 j37_) j37_
 | x :: a,y :: b,ha,hb,h=>by
  rw [List.pairwise_cons] at ha hb;have g:x=y:=by
   rcases List.mem_cons.1 ((h x).1 j37_) with e | f
   ·exact e
   ·rcases List.mem_cons.1 ((h y).2 j37_) with e | j
    ·exact e.symm
    ·have:=hb.1 x f
     have:=ha.1 y j;omega
  subst g;congr 1;refine Zz8 ha.2 hb.2 fun z=>⟨fun c=>?_,fun c=>?_⟩
  ·rcases List.mem_cons.1 ((h z).1 (by simp [c])) with e | d
   ·have:=ha.1 z c;omega
   ·exact d
  ·rcases List.mem_cons.1 ((h z).2 (by simp [c])) with e | d
   ·have:=hb.1 z c;omega
   ·exact d
theorem IsSet.ext {a b:List Int} (ha:IsSet a) (hb:IsSet b) (h:∀ x,x∈a↔x∈b):a=b:=Zz8 ha.1 hb.1 h
theorem IsSet.sub {a b:List Int} (h:IsSet b) (hs:a.Sublist b):IsSet a:=⟨h.1.sublist hs,fun x c=>h.2 x (hs.subset c)⟩
theorem IsSet.filter {a:List Int} (h:IsSet a) (p:Int→Bool):IsSet (a.filter p):=h.sub List.filter_sublist
theorem IsSet.tail {x:Int} {a:List Int} (h:IsSet (x :: a)):IsSet a:=h.sub (List.sublist_cons_self x a)
def ins (x:Int):List Int→List Int
 | []=>[x]
 | y :: r=>if x<y then x :: y :: r else if x=y then y :: r else y :: ins x r
theorem Zo4 (x z:Int):∀ l,z∈ins x l↔z=x∨z∈l
 | []=>by simp [ins]
 | y :: r=>by
  unfold ins;split
  ·simp
  ·split
   ·subst_vars;simp
   ·simp only [List.mem_cons,Zo4 x z r]
    constructor
    ·rintro (h | h | h)<;>simp [h]
    ·rintro (h | h | h)<;>simp [h]
theorem Ye0 (x:Int) (f:Fit x):∀ l,IsSet l→IsSet (ins x l)
 | [],_=>⟨by simp [ins],by simp [ins];exact f⟩
 | y :: r,h=>by
  have g:=List.pairwise_cons.1 h.1;unfold ins;split
  ·refine ⟨List.pairwise_cons.2 ⟨fun z c=>?_,h.1⟩,fun z c=>?_⟩
   ·rcases List.mem_cons.1 c with e | d
    ·omega
    ·have:=g.1 z d;omega
   ·rcases List.mem_cons.1 c with e | d
    ·rw [e];exact f
    ·exact h.2 z d
  ·split
   ·exact h
   ·have j:=Ye0 x f r h.tail
    refine ⟨List.pairwise_cons.2 ⟨fun z c=>?_,j.1⟩,fun z c=>?_⟩
    ·rcases (Zo4 x z r).1 c with e | d
     ·omega
     ·exact g.1 z d
    ·rcases List.mem_cons.1 c with e | d
     ·rw [e];exact h.2 y j37_
     ·exact j.2 z d
def sortL:List Int→List Int
 | []=>[]
 | x :: r=>if Fit x then ins x (sortL r) else sortL r
theorem J8_:∀ l,IsSet (sortL l)
 | []=>J1_
 | x :: r=>by
  unfold sortL;split
  ·exact Ye0 x (by assumption) _ (J8_ r)
  ·exact J8_ r
theorem B4_ (z:Int):∀ l,z∈sortL l↔z∈l∧Fit z
 | []=>by simp [sortL]
 | x :: r=>by
  unfold sortL;split
  ·next hx =>
   rw [Zo4,B4_ z r,List.mem_cons];constructor
   ·rintro (e | ⟨h,c⟩)
    ·subst e;exact ⟨.inl rfl,hx⟩
    ·exact ⟨.inr h,c⟩
   ·rintro ⟨e | h,c⟩
    ·exact .inl e
    ·exact .inr ⟨h,c⟩
  ·next hx =>
   rw [B4_ z r,List.mem_cons];constructor
   ·rintro ⟨h,c⟩;exact ⟨.inr h,c⟩
   ·rintro ⟨e | h,c⟩
    ·subst e;exact absurd c hx
    ·exact ⟨h,c⟩
theorem Vx1 {r l:List Int} (c:IsSet r) (h:∀ x,x∈r↔x∈l∧Fit x):r=sortL l :=
 c.ext (J8_ l) fun x=>by rw [h,B4_]
theorem E7_:∀ l,(sortL l).length≤l.length
 | []=>le_refl _
 | x :: r=>by
  unfold sortL;have c:∀ (y:Int) (t:List Int),(ins y t).length≤t.length+1:=by
   intro y t;exact q15_
  split
  ·have:=c x (sortL r)
   have:=E7_ r;simp;omega
  ·have:=E7_ r
   simp;omega
def hasB (l:List Int) (x:Int):Bool:=mayB l && l.contains x
def Y3_ (a b:List Int):List Int:=if mayB a && mayB b then sortL (a ++ b) else []
def partL (a b:List Int) (w:Bool):List Int:=if mayB a && mayB b then a.filter fun x=>b.contains x==w else []
def meetL (a b:List Int):List Int:=partL a b true
def Z5_ (a b:List Int):List Int:=partL a b false
def subB (a b:List Int):Bool:=mayB a && mayB b && decide (Z5_ a b=[])
def allL (n:Int):List Int:=if n<1∨100000<n then [] else (List.range n.toNat).map Int.ofNat
theorem mayB_iff {l:List Int}:mayB l=true↔IsSet l:=by simp [mayB]
theorem I9_ {l:List Int} (h:IsSet l):mayB l=true:=mayB_iff.2 h
theorem E8_ (a b:List Int):IsSet (Y3_ a b):=by
 unfold Y3_;split
 ·exact J8_ _
 ·exact J1_
theorem Ym8 (a b:List Int) (w:Bool):IsSet (partL a b w):=by
 unfold partL;split
 ·next h=>exact (mayB_iff.1 (by simp at h;exact h.1)).filter _
 ·exact J1_
theorem Vx2 (a b:List Int):IsSet (meetL a b):=Ym8 a b true
theorem Q1_ (a b:List Int):IsSet (Z5_ a b):=Ym8 a b false
theorem F7_ (n:Int):IsSet (allL n):=by
 unfold allL;split
 ·exact J1_
 ·next h =>
  refine ⟨?_,fun x d=>?_⟩
  ·rw [List.pairwise_map]
   exact List.pairwise_lt_range.imp fun h=>by simpa using h
  ·obtain ⟨k,c,rfl⟩:=List.mem_map.1 d
   have:=List.mem_range.1 c;have e:Int.ofNat k=(k:Int):=rfl;unfold Fit;rw [e];omega
theorem Q2_ {a b:List Int} (ha:IsSet a) (hb:IsSet b) (x:Int):x∈Y3_ a b↔x∈a∨x∈b:=by
 unfold Y3_;rw [if_pos (by rw [I9_ ha,I9_ hb];rfl),B4_,List.mem_append];constructor
 ·exact fun h=>h.1
 ·rintro (h | h)
  ·exact ⟨.inl h,ha.2 x h⟩
  ·exact ⟨.inr h,hb.2 x h⟩
theorem Ym9 {a b:List Int} (ha:IsSet a) (hb:IsSet b) (w:Bool) (x:Int):x∈partL a b w↔x∈a∧(b.contains x=w):=by
 unfold partL;rw [if_pos (by rw [I9_ ha,I9_ hb];rfl),List.mem_filter];simp
theorem G4_ {a b:List Int} (ha:IsSet a) (hb:IsSet b) (x:Int):x∈meetL a b↔x∈a∧x∈b:=by
 unfold meetL;rw [Ym9 ha hb,List.contains_iff_mem]
theorem Y4_ {a b:List Int} (ha:IsSet a) (hb:IsSet b) (x:Int):x∈Z5_ a b↔x∈a∧x∉b:=by
 unfold Z5_;rw [Ym9 ha hb,← Bool.not_eq_true,List.contains_iff_mem]
theorem Xf8 {a b:List Int} (ha:IsSet a) (hb:IsSet b):subB a b=true↔∀ x∈a,x∈b:=by
 unfold subB;rw [I9_ ha,I9_ hb];simp only [Bool.and_self,Bool.true_and,decide_eq_true_eq];constructor
 ·intro h x d
  rcases Decidable.em (x∈b) with c | c
  ·exact c
  ·have:=(Y4_ ha hb x).2 ⟨d,c⟩
   rw [h] at this;exact absurd this j37_
 ·intro h
  rcases hm:Z5_ a b with _ | ⟨x,r⟩
  ·rfl
  ·have:=(Y4_ ha hb x).1 (by rw [hm];simp)
   exact absurd (h x this.1) this.2
theorem O2_ {l:List Int} (h:IsSet l) (x:Int):hasB l x=true↔x∈l:=by
 unfold hasB;rw [I9_ h];simp
theorem Ye1 (a b:List Int) (w:Bool):(partL a b w).length≤a.length:=by
 unfold partL;split
 ·exact List.length_filter_le _ _
 ·simp
theorem Zv2 (a b:List Int):(Y3_ a b).length≤a.length+b.length:=by
 unfold Y3_;split
 ·have:=E7_ (a ++ b)
  simpa using this
 ·simp
theorem Yw5 (n:Int):((allL n).length:Int)≤100000∧(1≤n→n≤100000→((allL n).length:Int)=n):=by
 unfold allL;split
 ·next h=>exact ⟨j37_,fun c d=>by omega⟩
 ·next h=>exact ⟨by simp;omega,fun c d=>by simp;omega⟩
theorem K0_ {n:Int} (d:0≤n) (f:n≤100000) (x:Int):x∈allL n↔0≤x∧x<n:=by
 unfold allL;split
 ·next h =>
  simp;omega
 ·rw [List.mem_map]
  constructor
  ·rintro ⟨k,c,rfl⟩
   have:=List.mem_range.1 c;have e:Int.ofNat k=(k:Int):=rfl;rw [e];omega
  ·intro h
   exact ⟨x.toNat,List.mem_range.2 x37_,by simp;omega⟩
section
variable {a b c:List Int} (ha:IsSet a) (hb:IsSet b) (hc:IsSet c)
include ha hb
include hc
end
theorem Zd2:∀ {a b r:List Int},IsSet a→IsSet b→IsSet r→(∀ x,x∈a→x∉b)→(∀ x,x∈r↔x∈a∨x∈b)→r.length=a.length+b.length:=by
 intro a b r ha hb g hd c;have d:(a ++ b).Nodup:=by
  rw [List.nodup_append];refine ⟨ha.1.imp fun h=>by omega,hb.1.imp fun h=>by omega,fun x k y m e=>hd x k (by rw [e];exact m)⟩
 have j:r.Nodup:=g.1.imp fun h=>by omega
 have f:r.Perm (a ++ b):=by
  rw [List.perm_ext_iff_of_nodup j d];intro x;rw [c,List.mem_append]
 rw [f.length_eq,List.length_append]
theorem Vm4 {a b:List Int} (ha:IsSet a) (hb:IsSet b):(Y3_ a b).length+(meetL a b).length=a.length+b.length:=by
 have f:a.length=(Z5_ a b).length+(meetL a b).length:=by
  refine Zd2 (Q1_ a b) (Vx2 a b) ha ?_ ?_
  ·intro x d e
   exact ((Y4_ ha hb x).1 d).2 ((G4_ ha hb x).1 e).2
  ·intro x
   rw [Y4_ ha hb,G4_ ha hb];constructor
   ·intro h
    rcases Decidable.em (x∈b) with c | c
    ·exact .inr ⟨h,c⟩
    ·exact .inl ⟨h,c⟩
   ·rintro (h | h)<;>exact h.1
 have g:(Y3_ a b).length=(Z5_ a b).length+b.length:=by
  refine Zd2 (Q1_ a b) hb (E8_ a b) ?_ ?_
  ·intro x d
   exact ((Y4_ ha hb x).1 d).2
  ·intro x
   rw [Y4_ ha hb,Q2_ ha hb];constructor
   ·rintro (h | h)
    ·rcases Decidable.em (x∈b) with c | c
     ·exact .inr c
     ·exact .inl ⟨h,c⟩
    ·exact .inr h
   ·rintro (h | h)
    ·exact .inl h.1
    ·exact .inr h
 omega
theorem Yw6 (d:Array Int) (hs:∀ i j,i≤j→j<d.size→d[i]!≤d[j]!):∀ m,m≤d.size→(Lib.compactUpTo d m).Pairwise (·<·)∧∀ x,x∈Lib.compactUpTo d m↔∃ j,j<m∧d[j]! = x:=by
 intro m
 induction m with
 | zero=>intro _;exact ⟨by simp [Lib.compactUpTo],by simp [Lib.compactUpTo]⟩
 | succ m ih =>
  intro w;obtain ⟨o,g⟩:=ih x37_;rw [Lib.compactUpTo_succ];by_cases c:Lib.keeps d m=true
  ·rw [if_pos c]
   constructor
   ·rw [List.pairwise_append]
    refine ⟨o,j37_,fun x r y q=>?_⟩;rw [List.mem_singleton] at q;subst q;obtain ⟨j,f,rfl⟩:=(g x).1 r;simp only [Lib.keeps,decide_eq_true_eq] at c;have s:=hs j (m - 1) x37_ x37_;have u:=hs (m - 1) m x37_ x37_;have v:d[m]!≠d[m - 1]!:=by
     rcases c with h | h
     ·omega
     ·exact h
    omega
   ·intro x
    rw [List.mem_append,List.mem_singleton,g];constructor
    ·rintro (⟨j,f,e⟩ | e)
     ·exact ⟨j,x37_,e⟩
     ·exact ⟨m,x37_,e.symm⟩
    ·rintro ⟨j,f,e⟩
     by_cases k:j=m
     ·subst k;exact .inr e.symm
     ·exact .inl ⟨j,x37_,e⟩
  ·have p:Lib.keeps d m=false:=by simpa using c
   rw [if_neg c,List.append_nil];refine ⟨o,fun x=>?_⟩;rw [g];constructor
   ·rintro ⟨j,f,e⟩;exact ⟨j,x37_,e⟩
   ·rintro ⟨j,f,e⟩
    by_cases k:j=m
    ·subst k
     simp only [Lib.keeps,decide_eq_false_iff_not,not_or,Decidable.not_not] at p;exact ⟨j - 1,x37_,by rw [← e,p.2]⟩
    ·exact ⟨j,x37_,e⟩
theorem Zg7 (l:List Int) (h:l.Pairwise (·≤·)):(Lib.compact l).Pairwise (·<·)∧∀ x,x∈Lib.compact l↔x∈l:=by
 have d:∀ i,i<l.length→l.toArray[i]! = l.getD i 0:=by
  intro i hi;rw [getElem!_pos l.toArray i j46_];simp [List.getD,hi]
 have hs:∀ i j,i≤j→j<l.toArray.size→l.toArray[i]!≤l.toArray[j]!:=by
  intro i j m c;have e:j<l.length:=by simpa using c
  rw [d i x37_,d j e];rcases Nat.lt_or_ge i j with f | k
  ·have:=List.pairwise_iff_getElem.1 h i j x37_ e f
   simpa [List.getD,e,show i<l.length from by omega] using this
  ·have:i=j:=by omega
   subst this;exact Int.le_refl _
 have hc:=Yw6 l.toArray hs l.length j37_;refine ⟨hc.1,fun x=>?_⟩;unfold Lib.compact;rw [hc.2];constructor
 ·rintro ⟨j,c,rfl⟩
  rw [d j c];simp [List.getD,c]
 ·intro g
  obtain ⟨j,c,rfl⟩:=List.mem_iff_getElem.1 g;exact ⟨j,c,by rw [d j c];simp [List.getD,c]⟩
theorem Zo5 (l:List Int):Lib.compact ((l.filter fun x=>decide (Fit x)).mergeSort fun x y=>decide (x≤y))=sortL l:=by
 have g:((l.filter fun x=>decide (Fit x)).mergeSort fun x y=>decide (x≤y)).Pairwise (·≤·):=by
  have:=List.pairwise_mergeSort (le:=fun x y:Int=>decide (x≤y)) (fun a b c d e=>by simp at *;omega) (fun a b=>by simp;omega) (l.filter fun x=>decide (Fit x));exact this.imp fun h=>by simpa using h
 obtain ⟨d,e⟩:=Zg7 _ g;have f:∀ x,x∈Lib.compact ((l.filter fun x=>decide (Fit x)).mergeSort fun x y=>decide (x≤y))↔x∈l∧Fit x:=by
  intro x;rw [e,List.mem_mergeSort,List.mem_filter,decide_eq_true_eq]
 exact Vx1 ⟨d,fun x j=>((f x).1 j).2⟩ f
open Go Go.RowKit
theorem info3:(Tryz.prog.info? 3).map (fun i=>(i.zero,i.size,i.bytes))=some (some (.int .i64 0),1,8):=y37_
def Blk (w:World) (g:Nat) (t:TypeId) (cs:Array Value):Prop:=w.heap[g]?=some (.cells cs t (0,0))
section
variable {w w':World} {g:Nat} {t:TypeId} {cs:Array Value}
theorem Blk.lt (h:Blk w g t cs):g<w.heap.size:=by
 rcases Nat.lt_or_ge g w.heap.size with d | c
 ·exact d
 ·unfold Blk at h;rw [Array.getElem?_eq_none c] at h;cases h
theorem Blk.cell (h:Blk w g t cs) (i:Nat):w.cell? ⟨g,i,none⟩=cs[i]?:=cell_of_row w g i cs t (0,0) h
theorem Blk.frozen (h:Blk w g t cs) (i:Nat):w.frozen? ⟨g,i,none⟩=false:=by
 unfold Blk at h;simp [World.frozen?,h]
theorem Blk.new (w:World) (t:TypeId) (cs:Array Value):Blk (w.alloc (.cells cs t)) w.heap.size t cs:=heap_alloc_new w _
theorem Blk.drew (h:Blk w g t cs):Blk w.drew g t cs:=h
theorem Blk.alloc (h:Blk w g t cs) (o:Obj):Blk (w.alloc o) g t cs:=(Below.heap_alloc w o g h.lt).trans h
theorem Blk.set_ (h:Blk w g t cs) (i:Nat) (u:Value):Blk (w.setCell ⟨g,i,none⟩ u) g t (cs.setIfInBounds i u):=by
 unfold Blk at h ⊢;simp [World.setCell,Array.getElem?_modify,h]
theorem Blk.far (h:Blk w g t cs) {p:Addr} (c:g≠p.block) (u:Value):Blk (w.setCell p u) g t cs:=(Below.heap_setCell w p u g c).trans h
theorem Blk.below {B:Nat} (h:Blk w g t cs) (hb:Below B w w') (c:g<B):Blk w' g t cs:=(hb.block g c).trans h
theorem Blk.grown {row:Option Nat} (h:Blk w g t cs) (hb:w.grownBy w' row) (c:some g≠row):Blk w' g t cs:=(hb.block g h.lt c).trans h
end
theorem O3_ {a w:World} {g:Nat} (h:a.grownBy w (some g)) {p:Addr} (c:p.block=g∨a.heap.size≤p.block) (u:Value):a.grownBy (w.setCell p u) (some g) :=
 ⟨h.os,h.tape,h.output,by simpa [World.setCell] using h.size,fun i hi d=>(Below.heap_setCell w p u i (by
  rintro rfl;rcases c with c | c
  ·exact d (by rw [c])
  ·omega)).trans (h.block i hi d)⟩
theorem Z8_ {a w:World} (h:Below a.heap.size a w) (row:Option Nat):a.grownBy w row:=⟨h.os,h.tape,h.output,h.size,fun i hi _=>h.block i hi⟩
theorem V0_ {a b c:World} {row:Option Nat} (h:a.grownBy b row) (k:b.grownBy c row):a.grownBy c row :=
 ⟨k.os.trans h.os,k.tape.trans h.tape,k.output.trans h.output,Nat.le_trans h.size k.size,fun i hi d=>(k.block i (Nat.lt_of_lt_of_le hi h.size) d).trans (h.block i hi d)⟩
theorem Y2_ {B:Nat} {a w:World} (h:Below B a w) (n:Nat):Below B a (w.drewN n):=⟨h.os,h.tape,h.output,h.size,h.block⟩
def Row (w:World) (B:Nat) (v:Value) (zs:List Int):Prop :=
 ∃ A c,v=.slice A zs.length c∧(zs.length≤c∧c≤maxLen∧(A=none→c=0))∧∀ k,k<zs.length→∃ ad:Addr,A=some ad∧ad.block<B∧w.cell? (ad.add k)=some (.int .i64 (zs.getD k 0))
theorem add_zero (a:Addr):a.add 0=a:=j47_
theorem Z2_ (a:Addr) (n:Nat):(a.add n).block=a.block:=by unfold Addr.add;split<;>rfl
theorem Row.below {w w':World} {B:Nat} {v:Value} {zs:List Int} (h:Row w B v zs) (hb:Below B w w'):Row w' B v zs:=by
 obtain ⟨A,c,j,g,e⟩:=h;refine ⟨A,c,j,g,fun k f=>?_⟩;obtain ⟨d,hA,hB,hc⟩:=e k f;exact ⟨d,hA,hB,(hb.cell (by rw [Z2_];exact hB)).trans hc⟩
theorem Row.mono {w:World} {B B':Nat} {v:Value} {zs:List Int} (h:Row w B v zs) (hB:B≤B'):Row w B' v zs:=by
 obtain ⟨A,c,j,g,e⟩:=h;refine ⟨A,c,j,g,fun k f=>?_⟩;obtain ⟨d,hA,hb,hc⟩:=e k f;exact ⟨d,hA,x37_,hc⟩
theorem Row.of_own {w:World} {base:Nat} {v:Value} {n:Nat} {zs:List Int} (h:w.ownsRow base 3 1 v n (zs.map (Value.int .i64))) (j:n=zs.length):Row w w.heap.size v zs:=by
 subst j;rcases h.2 with ⟨rfl,d⟩ | ⟨g,c,m,rfl,hb,o,e,f,_⟩
 ·have:zs=[]:=List.eq_nil_of_length_eq_zero (by simpa using d)
  subst this;exact j6_
 ·refine ⟨_,c,rfl,⟨e,f,fun h=>z46_⟩,fun k hk=>⟨⟨g,0,none⟩,rfl,(h.lt g rfl).2,?_⟩⟩
  refine h.cells (g:=g) rfl k _ ?_;rw [List.getElem?_map,List.getElem?_eq_getElem hk];simp [List.getD,hk]
theorem Row.lit0 (W:World):Row (W.alloc (.cells #[] 3)) (W.heap.size+1) (.slice (some ⟨W.heap.size,0,none⟩) 0 0) []:=⟨_,0,rfl,⟨le_refl _,q38_,fun _=>rfl⟩,fun k c=>absurd c j37_⟩
theorem Row.nil_ (W:World) (B:Nat):Row W B (.slice none 0 0) []:=⟨none,0,rfl,⟨le_refl _,q38_,fun _=>rfl⟩,fun k c=>absurd c j37_⟩
theorem Row.lit1 (W:World) (x:Int):Row (W.alloc (.cells #[.int .i64 x] 3)) (W.heap.size+1) (.slice (some ⟨W.heap.size,0,none⟩) 1 1) [x]:=by
 refine ⟨_,1,rfl,⟨le_refl _,q38_,fun h=>z46_⟩,fun k c=>⟨⟨W.heap.size,0,none⟩,rfl,by show W.heap.size<_;omega,?_⟩⟩;have hb:=Blk.new W 3 #[.int .i64 x]
 match k,c with
 | 0,_=>exact hb.cell 0
theorem Row.lit2 (W:World) (x y:Int):Row (W.alloc (.cells #[.int .i64 x,.int .i64 y] 3)) (W.heap.size+1) (.slice (some ⟨W.heap.size,0,none⟩) 2 2) [x,y]:=by
 refine ⟨_,2,rfl,⟨le_refl _,q38_,fun h=>z46_⟩,fun k c=>⟨⟨W.heap.size,0,none⟩,rfl,by show W.heap.size<_;omega,?_⟩⟩;have hb:=Blk.new W 3 #[.int .i64 x,.int .i64 y]
 match k,c with
 | 0,_=>exact hb.cell 0
 | 1,_=>exact hb.cell 1
theorem P7_ (w:World) (t:TypeId) (u:Value):∀ (j:Nat) (v:Value),[u][j]?=some v→(w.alloc (.cells #[u] t)).cell? ((⟨w.heap.size,0,none⟩:Addr).add j)=some v:=by
 intro j v c
 match j,c with
 | 0,c =>
  simp at c;subst c;rw [add_zero];exact (Blk.new w t #[u]).cell 0
theorem Zd3 (x:Int):∀ u∈[Value.int .i64 x],u.oneCell'=true:=by
 intro u c;simp at c;subst c;rfl
def lenOf:Value→Nat
 | .slice _ n _=>n
 | _=>0
def Says (w:World) (b:Bool) (e:Ending) (w':World):Prop:=e=.returned (.bool b)∧Below w.heap.size w w'
def Gives (w:World) (r:List Int) (e:Ending) (w':World):Prop:=∃ v,e=.returned v∧Row w' w'.heap.size v r∧Below w.heap.size w w'
def GivesF (w:World) (r:List Int) (e:Ending) (w':World):Prop:=∃ v,e=.returned v∧Row w' w'.heap.size v r∧Below w.heap.size w w'∧∀ g,v.ownBlock=some g→w.heap.size≤g
theorem GivesF.gives {w w':World} {r:List Int} {e:Ending} (h:GivesF w r e w'):Gives w r e w':=by
 obtain ⟨v,c,d,h3,_⟩:=h;exact ⟨v,c,d,h3⟩
def ints (l:List Int):List Value:=l.map (Value.int .i64)
theorem X5_ (a b:List Int):ints (a ++ b)=ints a ++ ints b:=List.map_append
theorem Z9_ (l:List Int):(ints l).length=l.length:=List.length_map ..
theorem Z4_ {w:World} {ops:Array Oper} {rest:List Oper} {o:Oper} {a:Act} {Q:Exit→Act→World→Prop} (p:o.guard=none) (s x:Operand)
  (C:o.op=.call { callee:=.builtin .append,args:=#[s,x],argTypes:=#[26, 26] })
  (base B:Nat) (v F:Value) (zs ys:List Int) (hs:a.eval s=v) (D:a.eval x=F) (m:w.ownsRow base 3 1 v zs.length (ints zs)) (K:Row w B F ys)
  (U:zs.length≤4194304) (T:ys.length≤4194304) (hb:base≤w.heap.size)
  (h:∀ g w',w'.ownsRow base 3 1 g (zs ++ ys).length (ints (zs ++ ys))→w.grownBy w' v.ownBlock→wpList Tryz.prog ops Q rest (a.put o.dst g) w'):wpList Tryz.prog ops Q (o :: rest) a w:=by
 obtain ⟨E,hi,N,O,P⟩:=info_parts info3;obtain ⟨A,c,rfl,J,q⟩:=K;have I:∀ d,A=some d→∀ j u,(ints ys)[j]?=some u→w.cell? (d.add j)=some u:=by
  intro d hA j u f;have k:j<ys.length:=by
   have:=(List.getElem?_eq_some_iff.1 f).1;simpa [ints] using this
  obtain ⟨S,e,_,hc⟩:=q j k;rw [hA] at e;have e:=Option.some.inj e;subst e;rw [hc];rw [ints,List.getElem?_map,List.getElem?_eq_getElem k] at f;simp at f;rw [← f];simp [List.getD,k]
 have R:∀ d,A=some d→wpList Tryz.prog ops Q (o :: rest) a w:=by
  intro d hA;refine wpList_append_own w p s x _ C base 3 E (.int .i64 0) 1 8 y37_ hi N O P rfl q38_ v zs.length (ints zs) hs m d ys.length c (ints ys) (by rw [D,hA]) (by simp [ints]) (I d hA) ?_ ?_ ?_ hb ?_
  ·intro u L
   obtain ⟨z,_,rfl⟩:=List.mem_map.1 L;rfl
  ·unfold maxLen;omega
  ·omega
  ·intro g w' G H _
   refine h g w' ?_ H;rw [X5_,List.length_append];exact G
 cases A with
 | some d=>exact R d rfl
 | none =>
  have M:ys=[]:=by
   cases ys with
   | nil=>rfl
   | cons y r =>
    obtain ⟨_,hA,_⟩:=q 0 j37_;cases hA
  subst M;have hc:=J.2.2 rfl;subst hc;refine wpList_append_own_none p s x _ C base 3 E 1 y37_ hi v zs.length (ints zs) hs m D ?_;exact h v w (by rw [List.append_nil];exact m) ⟨rfl,rfl,rfl,le_refl _,fun _ _ _=>rfl⟩
def Truly (w:World) (e:Ending) (w':World):Prop:=e=.returned (.bool true)∧Below w.heap.size w w'
theorem Row.up {w w':World} {v:Value} {l:List Int} (h:Row w w.heap.size v l) (hb:Below w.heap.size w w'):Row w' w'.heap.size v l:=(h.below hb).mono hb.size
theorem Z0_ {B:Nat} {a b c:World} (h:Below B a b) (hB:B≤a.heap.size) (k:Below b.heap.size b c):Below B a c:=h.trans (k.mono (Nat.le_trans hB h.size))
theorem Row.here {w:World} {o:Obj} {v:Value} {l:List Int} (h:Row (w.alloc o) (w.heap.size+1) v l):Row (w.alloc o) (w.alloc o).heap.size v l:=by
 have e:(w.alloc o).heap.size=w.heap.size+1:=j37_;rw [e];exact h
theorem Row.upA {w:World} {v:Value} {l:List Int} (h:Row w w.heap.size v l) (o:Obj):Row (w.alloc o) (w.alloc o).heap.size v l:=h.up ((Below.refl _ w).alloc (le_refl _) o)
open Go.RowKit
def Rows2 (w:World) (B:Nat) (v:Value) (pp:List (List Int)):Prop :=
 ∃ A c,v=.slice A pp.length c∧(pp.length≤c∧c≤maxLen∧(A=none→c=0)) ∧
  ∀ k,k<pp.length→∃ (ad:Addr) (u:Value),A=some ad∧ad.block<B∧w.cell? (ad.add k)=some u∧Row w B u (pp.getD k [])
theorem Rows2.below {w w':World} {B:Nat} {v:Value} {pp:List (List Int)} (h:Rows2 w B v pp) (hb:Below B w w'):Rows2 w' B v pp:=by
 obtain ⟨A,c,o,m,g⟩:=h;refine ⟨A,c,o,m,fun k j=>?_⟩;obtain ⟨d,u,hA,hB,e,f⟩:=g k j;exact ⟨d,u,hA,hB,(hb.cell (by rw [Z2_];exact hB)).trans e,f.below hb⟩
theorem Rows2.mono {w:World} {B B':Nat} {v:Value} {pp:List (List Int)} (h:Rows2 w B v pp) (hB:B≤B'):Rows2 w B' v pp:=by
 obtain ⟨A,c,o,m,g⟩:=h;refine ⟨A,c,o,m,fun k j=>?_⟩;obtain ⟨d,u,hA,hb,e,f⟩:=g k j;exact ⟨d,u,hA,x37_,e,f.mono hB⟩
theorem Rows2.up {w w':World} {v:Value} {pp:List (List Int)} (h:Rows2 w w.heap.size v pp) (hb:Below w.heap.size w w'):Rows2 w' w'.heap.size v pp:=(h.below hb).mono hb.size
theorem Zv3 {w:World} {j k:Nat} {e f:TypeId} {y z v x:Nat} {d h:Value} {A B:List Value} (o:w.ownsRow j e y d v A) (p:w.ownsRow k f z h x B) (u:e≠f) :
  d.ownBlock=none∨d.ownBlock≠h.ownBlock:=by
 rcases o.2 with ⟨rfl,_⟩ | ⟨g,C,E,rfl,_,s,_⟩
 ·exact .inl rfl
 ·right
  rcases p.2 with ⟨rfl,_⟩ | ⟨m,D,F,rfl,_,c,_⟩
  ·simp [Value.ownBlock]
  ·intro q
   have r:g=m:=by simpa [Value.ownBlock] using q
   subst r;rw [s] at c;injection c with c;injection c with _ ht;exact u ht
def Fam (w:World) (B:Nat) (vs:List Value) (pp:List (List Int)):Prop :=
 vs.length=pp.length∧(∀ (i:Nat) (v:Value) (p:List Int),vs[i]?=some v→pp[i]?=some p→w.ownsRow B 3 1 v p.length (ints p)) ∧
  ∀ (i j:Nat) (v u:Value),vs[i]?=some v→vs[j]?=some u→i≠j→v.ownBlock=none∨v.ownBlock≠u.ownBlock
theorem Ye2 (w:World) (B:Nat):Fam w B [] []:=⟨rfl,fun i v p h=>by simp at h,fun i j v u h=>by simp at h⟩
theorem Fam.kept {w w':World} {B:Nat} {c:List Value} {pp:List (List Int)} (h:Fam w B c pp) {row:Option Nat} (e:w.grownBy w' row) (g:∀ v∈c,v.ownBlock=none∨v.ownBlock≠row):Fam w' B c pp :=
 ⟨h.1,fun i v p d f=>(h.2.1 i v p d f).kept e (g v (List.mem_of_getElem? d)),h.2.2⟩
theorem Fam.apart {w w':World} {B:Nat} {c:List Value} {pp:List (List Int)} (h:Fam w B c pp) {g:Nat} (e:w.grownBy w' (some g)) (o:g<B):Fam w' B c pp:=by
 refine h.kept e fun v m=>?_;obtain ⟨i,hi,rfl⟩:=List.mem_iff_getElem.1 m;have f:i<pp.length:=by rw [← h.1];exact hi
 have j:=h.2.1 i _ _ (List.getElem?_eq_getElem hi) (List.getElem?_eq_getElem f);rcases hb:c[i].ownBlock with _ | k
 ·exact .inl rfl
 ·right
  have:=j.lt k hb;intro d;injection d with d;omega
theorem Fam.new {w w':World} {B:Nat} {c:List Value} {pp:List (List Int)} (h:Fam w B c pp) (d:w.grownBy w' none):Fam w' B c pp :=
 h.kept d fun v _=>by
  rcases v.ownBlock with _ | k
  ·exact .inl rfl
  ·exact .inr j37_
theorem Fam.more {w:World} {B:Nat} {c:List Value} {pp:List (List Int)} (h:Fam w B c pp):Fam w B (c ++ [.slice none 0 0]) (pp ++ [[]]):=by
 have o:(Value.slice none 0 0).ownBlock=none:=rfl;refine ⟨by simp [h.1],fun i v p hv hp=>?_,fun i j v u hv d f=>?_⟩
 ·by_cases hi:i<c.length
  ·exact y17_
  ·have e:i=c.length:=x18_
   subst e;rw [List.getElem?_append_right (le_refl _)] at hv;rw [h.1,List.getElem?_append_right (le_refl _)] at hp;simp at hv hp;subst hv hp;exact World.ownsRow_nil _ _ _ _
 ·by_cases hi:i<c.length
  ·rw [List.getElem?_append_left hi] at hv
   by_cases g:j<c.length
   ·rw [List.getElem?_append_left g] at d
    exact h.2.2 i j v u hv d f
   ·have m:j=c.length:=by
     have:=(List.getElem?_eq_some_iff.1 d).1;simp at this;omega
    subst m;rw [List.getElem?_append_right (le_refl _)] at d;simp at d;subst d;rw [o];rcases v.ownBlock with _ | k
    ·exact .inl rfl
    ·exact .inr j37_
  ·have e:i=c.length:=x18_
   subst e;rw [List.getElem?_append_right (le_refl _)] at hv;simp at hv;subst hv;exact .inl rfl
theorem Fam.grow {w w':World} {B:Nat} {g:List Value} {pp:List (List Int)} (h:Fam w B g pp) {at_:Nat} {u u':Value} {q:List Int} (s:g[at_]?=some u) (A:w.grownBy w' u.ownBlock)
  (E:w'.ownsRow B 3 1 u' q.length (ints q)) (hl:u'.ownBlock=u.ownBlock∨u'.ownBlock=some w.heap.size):Fam w' B (g.set at_ u') (pp.set at_ q):=by
 have m:at_<g.length:=(List.getElem?_eq_some_iff.1 s).1;have y:∀ (j:Nat) (v:Value),g[j]?=some v→∀ k,v.ownBlock=some k→k<w.heap.size:=by
  intro j v c k D;have r:=(List.getElem?_eq_some_iff.1 c).1;have C:j<pp.length:=by rw [← h.1];exact r
  exact ((h.2.1 j v _ c (List.getElem?_eq_getElem C)).lt k D).2
 refine ⟨by simp [h.1],fun i v p c f=>?_,fun i j v z c d x=>?_⟩
 ·by_cases hi:i=at_
  ·subst hi
   rw [List.getElem?_set_self m] at c;rw [List.getElem?_set_self (by rw [← h.1];exact m)] at f;injection c with c;injection f with f;subst c f;exact E
  ·rw [List.getElem?_set_ne (fun e=>hi e.symm)] at c f
   exact (h.2.1 i v p c f).kept A (h.2.2 i at_ v u c s hi)
 ·by_cases hi:i=at_
  ·subst hi
   rw [List.getElem?_set_self m] at c;injection c with c;subst c;rw [List.getElem?_set_ne x] at d;rcases hl with hl | hl
   ·rw [hl]
    exact h.2.2 i j u z s d x
   ·right
    rw [hl];intro o;have:=y j z d _ o.symm;omega
  ·rw [List.getElem?_set_ne (fun e=>hi e.symm)] at c
   by_cases r:j=at_
   ·subst r
    rw [List.getElem?_set_self m] at d;injection d with d;subst d;rcases hl with hl | hl
    ·rw [hl]
     exact h.2.2 i j v u c s hi
    ·rcases hb:v.ownBlock with _ | k
     ·exact .inl rfl
     ·right
      rw [hl];intro o;injection o with o;have:=y i v c k hb;omega
   ·rw [List.getElem?_set_ne (fun e=>r e.symm)] at d
    exact h.2.2 i j v z c d x
theorem X7_ {w:World} {ops:Array Oper} {rest:List Oper} {o:Oper} {a:Act} {Q:Exit→Act→World→Prop} (r:o.guard=none) (s x:Operand) (T e:TypeId) (z:Value) (f:Nat)
  (C:o.op=.call { callee:=.builtin .append,args:=#[s,x],argTypes:=#[T,T] }) (E:Tryz.prog.underlying T=some (.slice e)) (B:(Tryz.prog.info? e).map (fun i=>(i.zero,i.size,i.bytes))=some (some z,1,f)) (J:z.cells.size=1)
  (base:Nat) (v u:Value) (c:List Value) (hs:a.eval s=v) (D:w.ownsRow base e 1 v c.length c) (g:Nat) (F:a.eval x=.slice (some ⟨g,0,none⟩) 1 1) (hc:w.cell? ⟨g,0,none⟩=some u) (p:u.oneCell'=true)
  (hl:c.length≤4194304) (q:f≤1024) (hb:base≤w.heap.size)
  (h:∀ d w',w'.ownsRow base e 1 d (c.length+1) (c ++ [u])→w.grownBy w' v.ownBlock→(d.ownBlock=v.ownBlock∨d.ownBlock=some w.heap.size)→wpList Tryz.prog ops Q rest (a.put o.dst d) w'):wpList Tryz.prog ops Q (o :: rest) a w:=by
 obtain ⟨K,hi,G,H,I⟩:=info_parts B;refine wpList_append_own_at w r s x T C base e K z 1 f E hi G H I J q38_ v c.length c hs D ⟨g,0,none⟩ 1 1 [u] F j37_ ?_ ?_ ?_ ?_ hb ?_
 ·intro j y k
  match j,k with
  | 0,k =>
   simp at k;subst k;rw [add_zero];exact hc
 ·intro y m
  simp at m;subst m;exact p
 ·unfold maxLen;omega
 ·have:(c.length+1) * f≤4194305 * 1024:=Nat.mul_le_mul x37_ q
  omega
 ·intro d w' L M _ N
  exact h d w' L M N
theorem M1_ {w:World} {B:Nat} {e:TypeId} {v:Value} {n:Nat} {f:List Value} (h:w.ownsRow B e 1 v n f) (j:0<n):∃ g c,v=.slice (some ⟨g,0,none⟩) n c∧B≤g:=by
 rcases h.2 with ⟨_,rfl⟩ | ⟨g,c,_,d,hb,_⟩
 ·omega
 ·exact ⟨g,c,d,hb⟩
theorem Q6_ {w:World} {B:Nat} {e:TypeId} {v:Value} {n:Nat} {f:List Value} (h:w.ownsRow B e 1 v n f):∃ A c,v=.slice A n c:=by
 rcases h.2 with ⟨rfl,rfl⟩ | ⟨g,c,_,d,_⟩
 ·exact ⟨none,0,rfl⟩
 ·exact ⟨_,c,d⟩
theorem Fam.rows {w:World} {B:Nat} {v:Value} {c:List Value} {pp:List (List Int)} (h:Fam w B c pp) (d:w.ownsRow B 26 1 v c.length c):Rows2 w w.heap.size v pp:=by
 have q:∀ k,k<pp.length→∃ u,c[k]?=some u∧Row w w.heap.size u (pp.getD k []):=by
  intro k hk;have f:k<c.length:=by rw [h.1];exact hk
  refine ⟨c[k],List.getElem?_eq_getElem f,?_⟩;have:=h.2.1 k _ _ (List.getElem?_eq_getElem f) (List.getElem?_eq_getElem hk);rw [show pp.getD k []=pp[k] from by simp [List.getD,hk]];exact Row.of_own this rfl
 rcases d.2 with ⟨rfl,m⟩ | ⟨g,j,x,rfl,hb,y,o,p,_⟩
 ·have hp0:pp.length=0:=by rw [← h.1];exact m
  exact x35_
 ·refine ⟨some ⟨g,0,none⟩,j,by rw [h.1],⟨by rw [← h.1];exact o,p,fun e=>by cases e⟩,fun k hk=>?_⟩
  obtain ⟨u,s,r⟩:=q k hk;exact ⟨_,u,rfl,(d.lt g rfl).2,d.cells (g:=g) rfl k u s,r⟩
open Go.RowKit
theorem X8_ {w w':World} {b c:Bool} {e:Ending} (hb:b=c) (d:e=.returned (.bool c)) (h:Below w.heap.size w w'):Says w b e w':=⟨by rw [hb];exact d,h⟩
theorem Yn0 (l:List Int) (k:Nat) (f:k<l.length) (h:IsSet (l.take k)) (m:Fit (l.getD k 0)) (d:k=0∨l.getD (k - 1) 0<l.getD k 0):IsSet (l.take (k+1)):=by
 have e:l.take (k+1)=l.take k ++ [l.getD k 0]:=by
  rw [List.take_succ_eq_append_getElem f];simp [List.getD,f]
 rw [e];refine ⟨?_,fun x c=>?_⟩
 ·rw [List.pairwise_append]
  refine ⟨h.1,j37_,fun x c y g=>?_⟩;rw [List.mem_singleton] at g;subst g;obtain ⟨j,o,rfl⟩:=List.mem_iff_getElem.1 c;rw [List.length_take] at o;rcases d with q | d
  ·omega
  ·have hl:l.getD (k - 1) 0=(l.take k)[k - 1]'k39_:=by
    simp [List.getD,show k - 1<l.length from by omega]
   rw [hl] at d;rcases Nat.lt_or_ge j (k - 1) with p | r
   ·have:=List.pairwise_iff_getElem.1 h.1 j (k - 1) k39_ k39_ p
    omega
   ·have:j=k - 1:=by omega
    subst this;exact d
 ·rw [List.mem_append,List.mem_singleton] at c
  rcases c with c | c
  ·exact h.2 x c
  ·subst c;exact m
theorem Yy5 (l:List Int) (k:Nat) (c:k<l.length) (h:¬ Fit (l.getD k 0)∨(0<k∧l.getD k 0≤l.getD (k - 1) 0)):mayB l=false:=by
 rw [← Bool.not_eq_true,mayB_iff];intro hs;have d:l.getD k 0∈l:=by simp [List.getD,c]
 rcases h with h | ⟨e,h⟩
 ·exact h (hs.2 _ d)
 ·have:=List.pairwise_iff_getElem.1 hs.1 (k - 1) k x37_ c x37_
  simp [List.getD,c,show k - 1<l.length from by omega] at h;omega
theorem Xf9 (l:List Int) (k:Nat) (c:k=l.length) (h:IsSet (l.take k)):mayB l=true:=by
 subst c;rw [List.take_length] at h;exact I9_ h
theorem U5_ (w:World) {w':World} (h:Below w.heap.size w w') {r:List Int} (c:r=[]):Gives w r (.returned (.slice none 0 0)) w':=⟨_,rfl,by rw [c];exact Row.nil_ _ _,h⟩
theorem Yy6 {a b:List Int} (ha:mayB a=true) (hb:mayB b=true):Y3_ a b=sortL (a ++ b):=by unfold Y3_;rw [ha,hb];rfl
theorem Yy7 {a b:List Int} (ha:mayB a=false):Y3_ a b=[]:=by unfold Y3_;rw [ha];rfl
theorem Yy8 {a b:List Int} (hb:mayB b=false):Y3_ a b=[]:=by unfold Y3_;rw [hb,Bool.and_false];rfl
def D5_ (a b:List Int) (w:Bool) (k:Nat):List Int:=(a.take k).filter fun x=>b.contains x==w
theorem Zi8 (a b:List Int) (w:Bool) (k:Nat) (h:k<a.length) (c:b.contains (a.getD k 0)=w):D5_ a b w (k+1)=D5_ a b w k ++ [a.getD k 0]:=by
 unfold D5_;rw [List.take_succ_eq_append_getElem h,List.filter_append];have e:a[k]=a.getD k 0:=y46_;rw [e];congr 1;rw [List.filter_cons,if_pos (by simpa using c)];rfl
theorem Yy9 (a b:List Int) (w:Bool) (k:Nat) (h:k<a.length) (c:¬ b.contains (a.getD k 0)=w):D5_ a b w (k+1)=D5_ a b w k:=by
 unfold D5_;rw [List.take_succ_eq_append_getElem h,List.filter_append];have e:a[k]=a.getD k 0:=y46_;rw [e,List.filter_cons,if_neg (by simpa using c)];simp
theorem U6_ (a b:List Int) (w:Bool) (k:Nat):(D5_ a b w k).length≤a.length:=by
 unfold D5_;refine Nat.le_trans (List.length_filter_le _ _) ?_;simp;omega
theorem Zi9 (a b:List Int) (w:Bool) (ha:mayB a=true) (hb:mayB b=true):D5_ a b w a.length=partL a b w:=by
 unfold D5_ partL;rw [List.take_length,ha,hb];rfl
theorem Yn1 {a b:List Int} {w:Bool} (ha:mayB a=false):partL a b w=[]:=by unfold partL;rw [ha];rfl
theorem Yn2 {a b:List Int} {w:Bool} (hb:mayB b=false):partL a b w=[]:=by unfold partL;rw [hb,Bool.and_false];rfl
theorem Vm5 {a b:List Int} (ha:mayB a=false):subB a b=false:=by unfold subB;rw [ha];rfl
theorem Vm6 {a b:List Int} (hb:mayB b=false):subB a b=false:=by unfold subB;rw [hb,Bool.and_false];rfl
theorem Vm7 {a b:List Int} (ha:mayB a=true) (hb:mayB b=true):subB a b=decide (Z5_ a b=[]):=by unfold subB;rw [ha,hb];rfl
open Go.RowKit
theorem Vx3 (x:Int) (w:World):Calls Tryz.prog 66 #[.int .i64 x] w fun e w'=>e=.returned (.bool (decide (Fit x)))∧w'=w:=by
 by_cases c:0≤x
 ·by_cases d:x≤1099511627776
  ·have hf:decide (Fit x)=true:=by simp [Fit,c,d]
   exact y31_
  ·have hf:decide (Fit x)=false:=by simp [Fit,d]
   exact y31_
 ·have hf:decide (Fit x)=false:=by simp [Fit,c]
  exact y31_
theorem Zz9 (x:Int) (b:Bool) (h:decide (Fit x)=b) (w:World):Calls Tryz.prog 66 #[.int .i64 x] w fun e w'=>e=.returned (.bool b)∧w'=w:=by
 subst h;exact Vx3 x w
theorem may_any (v:Value) (l:List Int) (w:World) (C:Row w w.heap.size v l) (hl:l.length≤9223372036854775807):Calls Tryz.prog 38 #[v] w (Says w (mayB l)):=by
 obtain ⟨A,c,rfl,_,p⟩:=C;have Hcell:=hid p;clear p;have L:(l.length:Int)≤9223372036854775807:=x37_
 go_enter Tryz.func38,Tryz.ntmps38
 go_wp2
 go_loopw [7] (fun m wr=>∃ k q:Nat,m=.int .i64 k∧k≤l.length∧wr=w.drewN q∧IsSet (l.take k)) (fun m _=>l.length - (intOf m).toNat)
 case atStart=>exact ⟨0,0,rfl,Nat.zero_le _,rfl,by simpa using J1_⟩
 case round =>
  obtain ⟨k,q,rfl,J,u,s⟩:=hrel;have Hwr:=hid u;have Hset:=hid s;clear u s;by_cases h:k<l.length
  ·obtain ⟨o,hA,G,hc⟩:=Hcell.out k h
   subst hA;have g:wr.cell? (o.add k)=some (.int .i64 (l.getD k 0)):=by rw [Hwr.out];exact hc
   clear hc;have d:=hid (Yn0 l k h Hset.out);have Hfail:=hid (Yy5 l k h);have Hq:Hid (Below w.heap.size w wr):=j27_;by_cases B:k=0
   ·subst B
    rw [add_zero] at g;generalize l.getD 0 0=x at g d Hfail;by_cases hx:Fit x
    ·have hfx:=Zz9 x true x41_
     go_wp2_with (go_at_call 66;refine (hfx _).mono ?_;rintro e w' ⟨rfl,rfl⟩)
     go_roundw
     case rel=>exact ⟨1,q,rfl,x37_,Hwr.out,d.out hx (.inl trivial)⟩
     exact mz_
    ·exact z11_
   ·obtain ⟨j,r⟩:∃ j,j+1=k:=⟨k - 1,x37_⟩
    have H:(k:Int) - 1=(j:Int):=x37_;have I:(j:Int)<(l.length:Int):=x37_;have z:wr.cell? (o.add j)=some (.int .i64 (l.getD j 0)):=y18_;have F:=hid r;have K:0<(k:Int):=x37_;rw [show k - 1=j from by omega] at d Hfail;clear r;generalize l.getD k 0=x at g d Hfail;generalize l.getD j 0=y at z d Hfail;by_cases hx:Fit x
    ·have hfx:=Zz9 x true x41_
     by_cases E:y<x
     ·go_wp2_with (go_at_call 66;refine (hfx _).mono ?_;rintro e w' ⟨rfl,rfl⟩)
      go_roundw
      case rel=>exact ⟨k+1,q,y38_,x37_,Hwr.out,d.out hx (.inr E)⟩
      exact mz_
     ·have D:x≤y:=by omega
      go_wp2_with (go_at_call 66;refine (hfx _).mono ?_;rintro e w' ⟨rfl,rfl⟩)
      go_ret;exact X8_ (Hfail.out (.inr ⟨x37_,D⟩)) rfl Hq.out
    ·exact z11_
  ·exact x12_
open Go.RowKit
def okA (right:Int) (l:List Int):Bool:=mayB l && (decide (l.length=0) || decide (l.getD (l.length - 1) 0<right))
def mayM (right:Int) (adj:List (List Int)):Bool:=decide (0≤right∧right≤64) && decide (adj.length≤64) && adj.all (okA right)
theorem mayM_off {right:Int} {adj:List (List Int)} (h:right<0∨64<right∨64<(adj.length:Int)):mayM right adj=false:=q20_
theorem mayM_miss {right:Int} {adj:List (List Int)} {i:Nat} (hi:i<adj.length) (h:okA right (adj.getD i [])=false):mayM right adj=false:=by
 unfold mayM;exact j3_
theorem mayM_all {right:Int} {adj:List (List Int)} (c:¬ right<0) (d:¬ 64<right) (h3:¬ 64<(adj.length:Int)) (h:∀ i,i<adj.length→okA right (adj.getD i [])=true):mayM right adj=true:=q32_
theorem Xg0 {right:Int} {l:List Int} (h:mayB l=false):okA right l=false:=by simp [okA,h]
theorem Zo6 {right:Int} {l:List Int} (h:mayB l=true) (c:l.length=0):okA right l=true:=by simp [okA,h,c]
theorem Zj8 {right x:Int} {l:List Int} (h:mayB l=true) (d:0<l.length) (c:l.getD (l.length - 1) 0=x):okA right l=decide (x<right):=by
 unfold okA;rw [h,c,decide_eq_false (show ¬ l.length=0 by omega)];simp
theorem mayset_is (v:Value) (l:List Int) (b:Bool) (h:mayB l=b) (w:World) (hr:Row w w.heap.size v l):Calls Tryz.prog 38 #[v] w (Says w b):=y20_
theorem kmay_any (right:Int) (v:Value) (adj:List (List Int)) (w:World) (O:Rows2 w w.heap.size v adj) :
  Calls Tryz.prog 123 #[.int .i64 right,v] w (Says w (mayM right adj)):=by
 obtain ⟨A,c,rfl,_,z⟩:=O;have H:=hid z;clear z;by_cases q:right<0
 ·rw [mayM_off (.inl q)]
  exact q30_
 by_cases r:64<right
 ·rw [mayM_off (.inr (.inl r))]
  exact q30_
 by_cases s:64<(adj.length:Int)
 ·rw [mayM_off (.inr (.inr s))]
  exact q30_
 have Hall:=hid (fun h=>mayM_all (adj:=adj) q r s h)
 go_enter Tryz.func123,Tryz.ntmps123
 go_wp2
 go_loopw [20] (fun o wr=>∃ i:Nat,o=.int .i64 i∧i≤adj.length∧Below w.heap.size w wr∧∀ j,j<i→okA right (adj.getD j [])=true) (fun o _=>adj.length - (intOf o).toNat)
 case atStart=>exact ⟨0,rfl,Nat.zero_le _,Below.refl _ _,fun j D=>absurd D (Nat.not_lt_zero _)⟩
 case round =>
  obtain ⟨i,rfl,hi,y,F⟩:=hrel;have Hbr:=hid y;have Hok:=hid F;clear y F;by_cases E:i<adj.length
  ·have S:(i:Int)<(adj.length:Int):=by omega
   obtain ⟨J,u,hA,hab,C,k⟩:=H.out i E;subst hA;have M:=(Hbr.out.cell (p:=J.add i) j38_).trans C;have Hru:=hid ((k.below Hbr.out).mono Hbr.out.size);have Hmiss:=hid (fun h=>mayM_miss (right:=right) E h);have Hnext:Hid (okA right (adj.getD i [])=true→∀ j,j<i+1→okA right (adj.getD j [])=true):=fun h j D=>y12_;clear C hab Hok;generalize adj.getD i []=l at *
   rcases hm:mayB l with _ | _
   ·have Hm:=hid hm
    obtain ⟨G,K,rfl,_⟩:=k;clear hm;rw [Hmiss.out (Xg0 Hm.out)];exact q37_
   ·have Hm:=hid hm
    obtain ⟨G,K,rfl,hcap,B⟩:=k;have I:=hid B;obtain ⟨L,d⟩:∃ L,l.length=L:=⟨_,rfl⟩;have HL:=hid d;have R:(L:Int)≤9223372036854775807:=y8_;rw [d] at M Hru;clear hm B hcap d;by_cases h0:L=0
    ·have hok1:=hid (Zo6 (right:=right) Hm.out (HL.out.trans h0))
     exact y6_
    ·obtain ⟨x,m⟩:∃ x,l.getD (l.length - 1) 0=x:=⟨_,rfl⟩
     obtain ⟨al,N,halb,g⟩:=I.out (l.length - 1) y48_;have Hlast:=hid (Zj8 (right:=right) Hm.out y48_ m);rw [m,HL.out] at g;subst N;have Q:(0:Int)<(L:Int):=x37_;have T:IntKind.i64.wrap ((L:Int) - 1)=(L:Int) - 1:=x38_;have U:(0:Int)≤(L:Int) - 1:=x37_;have V:(L:Int) - 1<(L:Int):=x37_;have W:((L:Int) - 1).toNat=L - 1:=x37_;clear m h0
     go_wp2_with fail
     refine (mayset_is _ l true Hm.out _ Hru.out).mono ?_;rintro e w1 ⟨rfl,hb1⟩;have Hb1:=hid (Z0_ Hbr.out (le_refl _) hb1);have P:=(Hb1.out.cell (p:=al.add (L - 1)) x42_).trans g;clear hb1 g;by_cases hxr:x<right
     ·have hxr2:¬ right≤x:=by omega
      have Hok1:Hid (okA right l=true):=Hlast.out.trans (decide_eq_true hxr);exact y5_
     ·exact z32_
  ·exact k5_
open Go.RowKit
def from_ (x:Int):List Int→List Int
 | []=>[]
 | y :: r=>if y<x then from_ x r else y :: r
theorem Vm8 {x y:Int} {r:List Int} (h:y<x):from_ x (y :: r)=from_ x r:=by rw [from_,if_pos h]
theorem Vm9 {x y:Int} {r:List Int} (h:¬ y<x):from_ x (y :: r)=y :: r:=by rw [from_,if_neg h]
theorem Yn3 (x:Int):∀ l,(from_ x l).Sublist l
 | []=>List.Sublist.refl _
 | y :: r=>by
  unfold from_;split
  ·exact (Yn3 x r).cons y
  ·exact List.Sublist.refl _
theorem Yn4 (x z:Int) (c:x≤z):∀ l,(z∈from_ x l↔z∈l)
 | []=>Iff.rfl
 | y :: r=>by
  unfold from_;split
  ·rw [Yn4 x z c r,List.mem_cons]
   constructor
   ·exact .inr
   ·rintro (e | h)
    ·omega
    ·exact h
  ·exact Iff.rfl
theorem Xg1 (x:Int) (l:List Int) (h:l.Pairwise (·<·)) (y:Int) (r:List Int) (c:l=y :: r) (f:¬ y<x):(x∈l↔y=x):=by
 subst c;rw [List.pairwise_cons] at h;rw [List.mem_cons];constructor
 ·rintro (e | d)
  ·exact e.symm
  ·have:=h.1 x d;omega
 ·intro e;exact .inl e.symm
def Zv4 (a b b':List Int) (k:Nat):Prop:=b'.Pairwise (·<·)∧b'.length≤b.length∧∀ i,k≤i→i<a.length→(a.getD i 0∈b↔a.getD i 0∈b')
theorem Yx0 {a b:List Int} (hb:IsSet b):Zv4 a b b 0:=⟨hb.1,le_refl _,fun _ _ _=>Iff.rfl⟩
theorem Ye3 {a b c:List Int} {k:Nat} (ha:IsSet a) (e:k<a.length) (h:Zv4 a b c k):Zv4 a b (from_ (a.getD k 0) c) k:=by
 have hs:=Yn3 (a.getD k 0) c;refine ⟨h.1.sublist hs,Nat.le_trans hs.length_le h.2.1,fun i hi d=>?_⟩;rw [h.2.2 i hi d,Yn4 _ _ ?_];rcases Nat.lt_or_ge k i with f | g
 ·have:=List.pairwise_iff_getElem.1 ha.1 k i e d f
  simp [List.getD,e,d];omega
 ·have:i=k:=by omega
  subst this;exact Int.le_refl _
theorem D9_ {a b c:List Int} {k:Nat} (h:Zv4 a b c k):Zv4 a b c (k+1):=⟨h.1,h.2.1,fun i hi=>h.2.2 i x37_⟩
theorem Yw7 {a b:List Int} {k:Nat} (c:k<a.length) (h:Zv4 a b [] k):b.contains (a.getD k 0)=false:=by
 have:=h.2.2 k (le_refl _) c;rw [← Bool.not_eq_true,List.contains_iff_mem,this];simp
theorem Ye4 {a b:List Int} {k:Nat} {y:Int} {r:List Int} (d:k<a.length) (h:Zv4 a b (y :: r) k) (e:¬ y<a.getD k 0):b.contains (a.getD k 0)=decide (y=a.getD k 0):=by
 have c:=h.2.2 k (le_refl _) d;rw [Xg1 _ _ h.1 y r rfl e] at c;rw [Bool.eq_iff_iff,List.contains_iff_mem,c,decide_eq_true_iff]
theorem Row.tail {w:World} {B:Nat} {v:Value} {y:Int} {r:List Int} (h:Row w B v (y :: r)):∃ d c,v=.slice (some d) (r.length+1) (c+1)∧w.cell? d=some (.int .i64 y)∧d.block<B∧r.length≤c∧c+1≤maxLen∧∀ A':Option Addr,(A'=some (d.add 1)∨(c=0∧A'=some d))→Row w B (.slice A' r.length c) r:=by
 obtain ⟨A,c,rfl,⟨g,p,h3⟩,o⟩:=h;obtain ⟨d,rfl,m,hc⟩:=o 0 j37_;rw [add_zero] at hc;obtain ⟨f,rfl⟩:∃ f,c=f+1:=⟨c - 1,by simp at g;omega⟩;refine ⟨d,f,j37_,by simpa using hc,m,by simpa using g,p,fun A' hA=>⟨A',f,rfl,⟨by simpa using g,x37_,fun e=>by rcases hA with h | ⟨_,h⟩<;>rw [e] at h<;>cases h⟩,fun k z=>?_⟩⟩;rcases hA with rfl | ⟨u,_⟩
 ·obtain ⟨s,j,x,q⟩:=o (k+1) k37_
  injection j with j;subst j;refine ⟨_,rfl,by rw [Z2_];exact m,?_⟩;have e:(d.add 1).add k=d.add (k+1):=by rw [Addr.add_add,Nat.add_comm]
  rw [e,q];simp
 ·simp at g;omega
theorem Vx4 (O P:Value) (a b:List Int) (within:Bool) (w:World) (ha:Row w w.heap.size O a) (hb:Row w w.heap.size P b) (x1:a.length≤1048576) (x2:b.length≤1048576) (q:mayB a=true) (s:mayB b=true) :
  Calls Tryz.prog 91 #[O,P,.bool within] w (GivesF w (partL a b within)):=by
 have Q:=hid ha;have E:=hid hb;obtain ⟨A1,c1,rfl,_,J⟩:=ha;obtain ⟨A2,c2,rfl,_⟩:=hb;have S:=hid J;clear J;have R:=hid (Zi9 a b within q s);have T:=hid (mayB_iff.1 q);have U:=hid (mayB_iff.1 s)
 go_enter Tryz.func91,Tryz.ntmps91
 go_wp2_with fail
 refine (may_any _ a w Q.out (Nat.le_trans x1 q38_)).mono ?_;rintro e w1 ⟨rfl,j⟩;rw [q]
 go_wp2_with fail
 refine (may_any _ b w1 ((E.out.below j).mono j.size) (Nat.le_trans x2 q38_)).mono ?_;rintro e w2 ⟨rfl,I⟩;rw [s];have H:Below w.heap.size w w2:=j.trans (I.mono j.size);clear j I q s;go_wp2
 go_loopw [1,7,21] (fun x3 vl C wr=>∃ (k:Nat) (d:List Int),C=.int .i64 k∧k≤a.length∧Row wr w.heap.size x3 d∧Zv4 a b d k∧wr.ownsRow w.heap.size 3 1 vl (D5_ a b within k).length (ints (D5_ a b within k))∧Below w.heap.size w wr) (fun _ _ C _=>a.length - (intOf C).toNat)
 case atStart=>exact ⟨0,b,rfl,Nat.zero_le _,E.out.below H,Yx0 U.out,World.ownsRow_nil _ _ _ _,H⟩
 case round =>
  obtain ⟨k,d,rfl,hk,K,L,hown,hbr⟩:=hrel;by_cases c:k<a.length
  ·obtain ⟨W,hA,hab,hc⟩:=S.out k c
   subst hA;have X:wr.cell? (W.add k)=some (.int .i64 (a.getD k 0)):=(hbr.cell j38_).trans hc;clear hc;have x9:=U6_ a b within k;have Hyes:=hid (Zi8 a b within k c);have Hno:=hid (Yy9 a b within k c);have Hsv:=hid (Ye3 T.out c L);have G:=hid (fun h=>Yw7 (a:=a) (b:=b) c h);have F:=hid (fun y r h=>Ye4 (a:=a) (b:=b) (y:=y) (r:=r) c h);clear L;generalize a.getD k 0=x at X Hyes Hno Hsv G F;go_wp2
   go_loopw [1] (fun D x4=>∃ r:List Int,x4=wr∧Row wr w.heap.size D r∧from_ x d=from_ x r) (fun D _=>lenOf D)
   case atStart=>exact ⟨d,rfl,K,rfl⟩
   case round =>
    obtain ⟨r,rfl,m,z⟩:=hrel;have u:=Hsv;rw [z] at Hsv;have p:=hid z;clear z K;cases r with
    | nil =>
     clear u p;have Hc:=hid (G.out Hsv.out);have Hrr:=hid m;obtain ⟨A3,c3,rfl,_⟩:=m;cases within
     ·
      have Hx:=hid (Hyes.out (by rw [Hc.out]));clear Hyes Hno
      go_wp2_with (at_builtin;refine Z4_ rfl _ _ rfl w.heap.size _ _ _ (D5_ a b false k) [x] rfl rfl (hown.alloc _) (Row.lit1 _ x) x37_ j37_ z39_ ?_)
      intro v' w4 hown' hgrow;have hb4:Below w.heap.size wr w4:=((Below.refl _ wr).alloc hbr.size _).grown hgrow z39_ (fun i hi=>(hown.lt i hi).1);go_wp2
      go_roundw
      case rel=>exact ⟨k+1,[],y38_,x37_,Hrr.out.below hb4,D9_ Hsv.out,by rw [Hx.out,List.length_append];exact hown',hbr.trans hb4⟩
      exact mz_
     ·
      have Hx:=hid (Hno.out (by rw [Hc.out];decide));clear Hyes Hno;go_wp2
      go_roundw
      case rel=>exact ⟨k+1,[],y38_,x37_,Hrr.out,D9_ Hsv.out,by rw [Hx.out];exact hown,hbr⟩
      exact mz_
    | cons y r =>
     have Hrr:=hid m;obtain ⟨x5,c3,rfl,g2,x6,x7,Y,M⟩:=m.tail;have V:=hid M;clear M m;have xa:(r.length:Int)≤(c3:Int):=x37_;have x8:(c3:Int)≤9223372036854775806:=by unfold maxLen at Y;omega
     by_cases N:y<x
     ·rw [Vm8 N] at p
      clear Hsv u;go_wp2
      go_roundw
      case rel =>
       refine ⟨r,trivial,V.out _ ?_,p.out⟩;by_cases v:c3=0
       ·rw [if_pos v];exact .inr ⟨v,rfl⟩
       ·rw [if_neg v];exact .inl (by simp [Addr.add])
      case measure=>simp [lenOf]
     ·rw [Vm9 N] at Hsv
      clear u p;have o:=hid (F.out y r Hsv.out x37_);have xc:decide (y<x)=false:=k37_;by_cases B:y=x
      ·subst B
       have Hc:Hid (b.contains y=true):=by
        show b.contains y=true;rw [o.out];simp
       clear o;cases within
       ·
        exact z7_
       ·
        have Hx:=hid (Hyes.out (by rw [Hc.out]));clear Hyes Hno
        go_wp2_with (at_builtin;refine Z4_ rfl _ _ rfl w.heap.size _ _ _ (D5_ a b true k) [y] rfl rfl (hown.alloc _) (Row.lit1 _ y) x37_ j37_ z39_ ?_)
        exact k4_
      ·have Hc:Hid (b.contains x=false):=by
        show b.contains x=false;rw [o.out];simp [B]
       have xb:(y==x)=false:=by simp [B]
       clear o;cases within
       ·
        have Hx:=hid (Hyes.out (by rw [Hc.out]));clear Hyes Hno
        go_wp2_with (at_builtin;refine Z4_ rfl _ _ rfl w.heap.size _ _ _ (D5_ a b false k) [x] rfl rfl (hown.alloc _) (Row.lit1 _ x) x37_ j37_ z39_ ?_)
        exact k4_
       ·
        exact z7_
  ·have x0:k=a.length:=by omega
   subst x0;rw [R.out] at hown;go_wp2;go_ret;exact ⟨_,rfl,Row.of_own hown rfl,hbr,fun g Z=>(hown.lt g Z).1⟩
theorem Yn5 (c d:Value) (a b:List Int) (within:Bool) (w:World) (ha:Row w w.heap.size c a) (hb:Row w w.heap.size d b) (j:a.length≤1048576) (k:b.length≤1048576) :
  Calls Tryz.prog 91 #[c,d,.bool within] w (GivesF w (partL a b within)):=by
 rcases hma:mayB a with _ | _
 ·have h:=hid ha
  clear ha hb;have Hr:=hid (Yn1 (b:=b) (w:=within) hma)
  go_enter Tryz.func91,Tryz.ntmps91
  go_wp2_with fail
  refine (may_any c a w h.out (Nat.le_trans j q38_)).mono ?_;exact x16_
 ·rcases hmb:mayB b with _ | _
  ·have h:=hid ha
   have m:=hid hb;clear ha hb;have Hr:=hid (Yn2 (a:=a) (w:=within) hmb)
   go_enter Tryz.func91,Tryz.ntmps91
   go_wp2_with fail
   refine (may_any c a w h.out (Nat.le_trans j q38_)).mono ?_;rintro e w1 ⟨rfl,hb1⟩;rw [hma]
   go_wp2_with fail
   refine (may_any d b w1 ((m.out.below hb1).mono hb1.size) (Nat.le_trans k q38_)).mono ?_;exact y13_
  ·exact Vx4 c d a b within w ha hb j k hma hmb
theorem Zd4 (c d:Value) (a b:List Int) (w:World) (ha:Row w w.heap.size c a) (hb:Row w w.heap.size d b) (k:a.length≤1048576) (m:b.length≤1048576) :
  Calls Tryz.prog 64 #[c,d] w (GivesF w (Z5_ a b)):=by
 have g:=hid (Yn5 c d a b false w ha hb k m);clear ha hb
 go_enter Tryz.func64,Tryz.ntmps64
 go_wp2_with fail
 refine g.out.mono ?_;rintro e q ⟨p,rfl,o,h,j⟩;go_wp2;go_ret;exact ⟨_,rfl,o,h,j⟩
theorem H5_ (c d:Value) (a b:List Int) (w:World) (ha:Row w w.heap.size c a) (hb:Row w w.heap.size d b) (e:a.length≤1048576) (g:b.length≤1048576) :
  Calls Tryz.prog 64 #[c,d] w (Gives w (Z5_ a b)):=(Zd4 c d a b w ha hb e g).mono fun _ _ h=>h.gives
theorem Zy0 (h j:Value) (a b:List Int) (w:World) (ha:Row w w.heap.size h a) (hb:Row w w.heap.size j b) (p:a.length≤1048576) (u:b.length≤1048576) :
  Calls Tryz.prog 150 #[h,j] w (Says w (subB a b)):=by
 have k:=hid ha;have s:=hid hb;clear ha hb;rcases hma:mayB a with _ | _
 ·have d:=hid (Vm5 (b:=b) hma)
  go_enter Tryz.func150,Tryz.ntmps150
  go_wp2_with fail
  refine (may_any h a w k.out (Nat.le_trans p q38_)).mono ?_;rintro e q ⟨rfl,c⟩;rw [hma];go_wp2;go_ret;exact X8_ d.out rfl c
 ·rcases hmb:mayB b with _ | _
  ·have d:=hid (Vm6 (a:=a) hmb)
   go_enter Tryz.func150,Tryz.ntmps150
   go_wp2_with fail
   refine (may_any h a w k.out (Nat.le_trans p q38_)).mono ?_;rintro e q ⟨rfl,c⟩;rw [hma]
   go_wp2_with fail
   refine (may_any j b q ((s.out.below c).mono c.size) (Nat.le_trans u q38_)).mono ?_;rintro e v ⟨rfl,o⟩;rw [hmb];go_wp2;go_ret;exact X8_ d.out rfl (c.trans (o.mono c.size))
  ·have d:=hid (Vm7 hma hmb)
   go_enter Tryz.func150,Tryz.ntmps150
   go_wp2_with fail
   refine (may_any h a w k.out (Nat.le_trans p q38_)).mono ?_;rintro e q ⟨rfl,c⟩;rw [hma]
   go_wp2_with fail
   refine (may_any j b q ((s.out.below c).mono c.size) (Nat.le_trans u q38_)).mono ?_;rintro e v ⟨rfl,o⟩;rw [hmb];have g:Below w.heap.size w v:=c.trans (o.mono c.size);clear c o
   go_wp2_with fail
   refine (H5_ h j a b v ((k.out.below g).mono g.size) ((s.out.below g).mono g.size) p u).mono ?_;rintro e G ⟨F,rfl,B,C⟩;have x:=g.trans (C.mono g.size);have z:=Ye1 a b false;change (Z5_ a b).length≤_ at z;generalize Z5_ a b=m at d B z;obtain ⟨D,c3,rfl,_⟩:=B;cases m with
   | nil =>
    go_wp2;go_ret;exact X8_ d.out rfl x
   | cons y r =>
    have E:((r.length:Int)+1==0)=false:=k37_;go_wp2;go_ret;exact X8_ d.out rfl x
open Go.RowKit
def upTo (k:Nat):List Int:=(List.range k).map Int.ofNat
theorem Yx1 (k:Nat):upTo (k+1)=upTo k ++ [(k:Int)]:=by
 unfold upTo;rw [List.range_succ,List.map_append];rfl
theorem Q3_ (k:Nat):(upTo k).length=k:=by simp [upTo]
theorem Xg2 {n:Int} (h:n<1∨100000<n):allL n=[]:=if_pos h
theorem Ye5 {n:Nat} (c:1≤n) (d:n≤100000):allL n=upTo n:=by
 unfold allL upTo;rw [if_neg x37_];rfl
def filled (n k:Nat):Array Value:=(ints (upTo k ++ List.replicate (n - k) 0)).toArray
theorem Ye6 {n k:Nat} (h:k≤n):(filled n k).size=n:=by
 simp [filled,Z9_,Q3_];omega
theorem Yw8 {n k:Nat} (h:k<n):(filled n k).setIfInBounds k (.int .i64 (k:Int))=filled n (k+1):=by
 unfold filled;rw [List.setIfInBounds_toArray];congr 1;rw [Yx1,X5_,X5_,X5_,List.append_assoc];have e:List.replicate (n - k) (0:Int)=0 :: List.replicate (n - (k+1)) 0:=by
  rw [show n - k=(n - (k+1))+1 from by omega,List.replicate_succ]
 rw [e,List.set_append_right _ _ (by rw [Z9_,Q3_];exact le_refl _),Z9_,Q3_,Nat.sub_self];rfl
theorem Yw9 (n:Nat):filled n n=(ints (upTo n)).toArray:=by
 unfold filled;rw [Nat.sub_self,List.replicate_zero,List.append_nil]
theorem Xz0 {w:World} {g n:Nat} (h:Blk w g 3 (filled n n)) (c:n≤maxLen):Row w w.heap.size (.slice (some ⟨g,0,none⟩) n n) (upTo n):=by
 rw [Yw9] at h;refine ⟨_,n,by rw [Q3_],⟨by rw [Q3_];exact le_refl _,c,fun e=>by cases e⟩,fun k hk=>⟨_,rfl,h.lt,?_⟩⟩;exact k16_
theorem S5_ (w:World) (g n:Nat) (h:w.ownsRow g 3 1 (.slice (some ⟨g,0,none⟩) n n) n (madeCells (Value.int .i64 0).cells (n * 1)).toList):Blk w g 3 (filled n 0):=by
 rcases h.2 with ⟨e,_⟩ | ⟨q,p,c,o,hb,k,d,f,h3,j⟩
 ·cases e
 ·injection o with e1 _ e3
  injection e1 with e1;injection e1 with e1;subst e1 e3;unfold Blk;rw [k];have m:(madeCells (Value.int IntKind.i64 0).cells (n * 1)).toList=(filled n 0).toList:=by
   unfold madeCells filled;simp only [upTo,List.range_zero,List.map_nil,List.nil_append,Nat.sub_zero,Nat.mul_one];apply List.ext_getElem
   ·simp [ints]
   ·intro i d f
    simp [ints,Value.cells,Nat.mod_one]
  have hc:c.toList=(filled n 0).toList:=by
   rw [← m,← j,List.take_of_length_le];rw [Array.length_toList,h3];exact le_refl _
  rw [Array.toList_inj.1 hc]
theorem Jy4 (n:Nat) (w:World) (q:1≤n) (r:n≤100000) :
  Calls Tryz.prog 82 #[.int .i64 n] w (Gives w (allL n)):=by
 have o:=hid (Ye5 q r);have D:¬ (n:Int)<1:=x37_;have E:¬ (100000:Int)<(n:Int):=x37_;obtain ⟨z,hi,x,y,hz2⟩:=info_parts info3
 go_enter Tryz.func82,Tryz.ntmps82
 go_wp2_with (at_make;refine wpList_make_full w rfl _ _ 26 rfl w.heap.size 3 z (.int .i64 0) 1 y37_ hi x y .i64 .i64 _ _ n rfl rfl (by rfl) (by rfl) y45_ z38_ (le_refl _) ?_)
 intro m j g;have c:=S5_ m w.heap.size n (by rw [Nat.mul_one];exact j);have s:Below w.heap.size w m:=(Below.refl _ w).grown g (le_refl _) (fun i hi=>by cases hi);clear j g;go_wp2
 go_loopw [15] (fun d wr=>∃ k:Nat,d=.int .i64 k∧k≤n∧Blk wr w.heap.size 3 (filled n k)∧Below w.heap.size w wr) (fun d _=>n - (intOf d).toNat)
 case atStart=>exact ⟨0,rfl,Nat.zero_le _,c,s⟩
 case round =>
  obtain ⟨k,rfl,u,c,e⟩:=hrel;by_cases h:k<n
  ·have hs:=Ye6 u
   have B:wr.cell? ⟨w.heap.size,k,none⟩=some ((filled n k)[k]'x37_):=by rw [c.cell];simp [hs,h]
   have C:=c.frozen k;have p:=hid c;clear c;go_wp2
   go_roundw
   case rel=>exact ⟨k+1,y38_,x37_,by rw [← Yw8 h];exact p.out.set_ k _,e.setCell (by exact le_refl _) _⟩
   exact mz_
  ·have v:k=n:=by omega
   subst v;go_wp2;go_ret;exact ⟨_,rfl,by rw [o.out];exact Xz0 c z38_,e⟩
theorem M2_ (n:Int) (w:World):Calls Tryz.prog 82 #[.int .i64 n] w (Gives w (allL n)):=by
 by_cases c:n<1
 ·have Hf:=hid (Xg2 (.inl c))
  exact j18_
 ·by_cases d:100000<n
  ·have Hf:=hid (Xg2 (.inr d))
   exact j18_
  ·obtain ⟨m,rfl⟩:∃ m:Nat,n=(m:Int):=⟨n.toNat,x37_⟩
   exact Jy4 m w x37_ x37_
open Go.RowKit
theorem Xz1 (v:Value) (l:List Int) (w:World) (E:Row w w.heap.size v l) (hl:l.length≤9223372036854775807):Calls Tryz.prog 41 #[v] w (Says w (mayB l)):=by
 obtain ⟨A,c,rfl,_,p⟩:=E;have Hcell:=hid p;clear p;have N:(l.length:Int)≤9223372036854775807:=x37_
 go_enter Tryz.func41,Tryz.ntmps41
 go_wp2
 go_loopw [3] (fun m wr=>∃ k q:Nat,m=.int .i64 k∧k≤l.length∧wr=w.drewN q∧IsSet (l.take k)) (fun m _=>l.length - (intOf m).toNat)
 case atStart=>exact ⟨0,0,rfl,Nat.zero_le _,rfl,by simpa using J1_⟩
 case round =>
  obtain ⟨k,q,rfl,K,u,s⟩:=hrel;have Hwr:=hid u;have Hset:=hid s;clear u s;by_cases g:k<l.length
  ·obtain ⟨o,hA,H,hc⟩:=Hcell.out k g
   subst hA;have e:wr.cell? (o.add k)=some (.int .i64 (l.getD k 0)):=by rw [Hwr.out];exact hc
   clear hc;have L:(k:Int)<(l.length:Int):=x37_;have d:=hid (Yn0 l k g Hset.out);have Hfail:=hid (Yy5 l k g);have Hq:Hid (Below w.heap.size w wr):=j27_;by_cases D:k=0
   ·subst D
    rw [add_zero] at e;generalize l.getD 0 0=x at e d Hfail;by_cases hx0:0≤x
    ·by_cases hx1:x≤1099511627776
     ·have d0:decide (x<0)=false:=by simp;omega
      have d1:decide (1099511627776<x)=false:=k37_;have B:decide ((0:Int)<0)=false:=rfl;go_wp2
      go_quiet (fail)
      go_wp2
      go_roundw
      case rel=>exact ⟨1,q+nq,rfl,x37_,by rw [Hwr.out,World.drewN_drewN],d.out ⟨hx0,hx1⟩ (.inl trivial)⟩
      exact mz_
     ·exact z31_
    ·exact k32_
   ·obtain ⟨j,r⟩:∃ j,j+1=k:=⟨k - 1,x37_⟩
    have I:(k:Int) - 1=(j:Int):=x37_;have J:(j:Int)<(l.length:Int):=x37_;have C:wr.cell? (o.add j)=some (.int .i64 (l.getD j 0)):=y18_;have G:=hid r;have M:0<k:=x37_;rw [show k - 1=j from by omega] at d Hfail;clear r;generalize l.getD k 0=x at e d Hfail;generalize l.getD j 0=y at C d Hfail;by_cases hx0:0≤x
    ·by_cases hx1:x≤1099511627776
     ·by_cases z:y<x
      ·have d0:decide (x<0)=false:=by simp;omega
       have d1:decide (1099511627776<x)=false:=k37_;have B:decide (x≤y)=false:=k37_;go_wp2
       go_quiet (fail)
       go_wp2
       go_roundw
       case rel=>exact ⟨k+1,q+nq,y38_,x37_,by rw [Hwr.out,World.drewN_drewN],d.out ⟨hx0,hx1⟩ (.inr z)⟩
       exact mz_
      ·have F:x≤y:=by omega
       have Hf:=hid (Hfail.out (.inr ⟨x37_,F⟩));have d0:decide (x<0)=false:=k37_;have d1:decide (1099511627776<x)=false:=k37_;clear z;exact z6_
     ·exact z31_
    ·exact k32_
  ·exact x12_
theorem V7_ (v:Value) (l:List Int) (w:World) (c:Row w w.heap.size v l) (hl:l.length≤9223372036854775807) {x:Bool} (h:mayB l=x):Calls Tryz.prog 41 #[v] w (Says w x):=by
 subst h;exact Xz1 v l w c hl
open Go.RowKit
theorem Ye7 {l:List Int} {x:Int} {k:Nat} (c:k<l.length) (h:x∉l.take k) (d:(l.getD k 0==x)=false):x∉l.take (k+1):=by
 rw [List.take_succ_eq_append_getElem c,List.mem_append,List.mem_singleton];rintro (e | e)
 ·exact h e
 ·simp [List.getD,c] at d
  exact d e.symm
theorem Vn0 {l:List Int} {x:Int} {k:Nat} (c:k<l.length) (d:l.getD k 0=x):l.contains x=true:=by
 rw [List.contains_iff_mem,← d];simp [List.getD,c]
theorem Xz2 {l:List Int} {x:Int} {k:Nat} (c:k=l.length) (h:x∉l.take k):l.contains x=false:=by
 subst c;rw [List.take_length] at h;rw [← Bool.not_eq_true,List.contains_iff_mem];exact h
theorem Zj9 (v:Value) (l:List Int) (x:Int) (B:Nat) (w:World) (z:Row w B v l) (hl:l.length≤4194304) {b:Bool} (hb:l.contains x=b) :
  Calls Tryz.prog 97 #[v,.int .i64 x] w fun e w'=>e=.returned (.bool b)∧w'=w:=by
 obtain ⟨A,c,rfl,_,q⟩:=z;have s:=hid q;clear q;have Hb:=hid hb;clear hb;have H:(l.length:Int)≤4194304:=x37_
 go_enter Tryz.func97,Tryz.ntmps97
 go_wp2
 go_loopw [5] (fun m wr=>∃ k:Nat,m=.int .i64 k∧k≤l.length∧wr=w∧x∉l.take k) (fun m _=>l.length - (intOf m).toNat)
 case atStart=>exact ⟨0,rfl,Nat.zero_le _,rfl,j37_⟩
 case round =>
  obtain ⟨k,rfl,F,rfl,g⟩:=hrel;by_cases d:k<l.length
  ·obtain ⟨D,hA,E,u⟩:=s.out k d
   subst hA;have G:(k:Int)<(l.length:Int):=x37_;have p:=hid (fun h=>Ye7 d g h);have o:=hid (fun h=>Vn0 (x:=x) d h);clear g;generalize l.getD k 0=y at u p o;by_cases j:y=x
   ·have Hc:=hid (o.out j)
    subst j;exact k27_
   ·have C:(y==x)=false:=by simp [j]
    go_wp2
    go_roundw
    case rel=>exact ⟨k+1,y38_,x37_,trivial,p.out C⟩
    exact mz_
  ·have r:k=l.length:=by omega
   have Hc:=hid (Xz2 r g);subst r;exact k27_
open Go.RowKit
open Go.RowKit
def A4_ (l:List Int) (k:Nat):List Int:=sortL (l.take k)
theorem Zy1 (l:List Int) (k:Nat) (h:k<l.length) (z:Int):z∈A4_ l (k+1)↔(z∈A4_ l k∨(z=l.getD k 0∧Fit z)):=by
 unfold A4_;have e:l[k]=l.getD k 0:=y46_;rw [B4_,B4_,List.take_succ_eq_append_getElem h,e,List.mem_append,List.mem_singleton];constructor
 ·rintro ⟨c | c,d⟩
  ·exact .inl ⟨c,d⟩
  ·exact .inr ⟨c,d⟩
 ·rintro (⟨c,d⟩ | ⟨c,d⟩)
  ·exact ⟨.inl c,d⟩
  ·exact ⟨.inr c,d⟩
theorem Xg3 (l:List Int) (k:Nat) (h:k<l.length) (e:¬ Fit (l.getD k 0)):A4_ l (k+1)=A4_ l k :=
 (J8_ _).ext (J8_ _) fun z=>by
  change z∈A4_ l (k+1)↔z∈A4_ l k;rw [Zy1 l k h];constructor
  ·rintro (c | ⟨c,d⟩)
   ·exact c
   ·rw [c] at d;exact absurd d e
  ·exact .inl
theorem Xg4 (l:List Int) (k:Nat) (h:k<l.length) (d:l.getD k 0∈A4_ l k):A4_ l (k+1)=A4_ l k :=
 (J8_ _).ext (J8_ _) fun z=>by
  change z∈A4_ l (k+1)↔z∈A4_ l k;rw [Zy1 l k h];constructor
  ·rintro (c | ⟨c,e⟩)
   ·exact c
   ·rw [c];exact d
  ·exact .inl
theorem Xz3 (l:List Int) (k:Nat) (h:k<l.length) (d:Fit (l.getD k 0)):A4_ l (k+1)=ins (l.getD k 0) (A4_ l k) :=
 (J8_ _).ext (Ye0 _ d _ (J8_ _)) fun z=>by
  change z∈A4_ l (k+1)↔_;rw [Zy1 l k h,Zo4];constructor
  ·rintro (c | ⟨c,e⟩)
   ·exact .inr c
   ·exact .inl c
  ·rintro (c | c)
   ·exact .inr ⟨c,by rw [c];exact d⟩
   ·exact .inl c
theorem Zo7 (l:List Int) (k:Nat):(A4_ l k).length≤l.length:=by
 unfold A4_;refine Nat.le_trans (E7_ _) ?_;simp;omega
theorem Xz4 (l:List Int):A4_ l l.length=sortL l:=by unfold A4_;rw [List.take_length]
theorem Yn6 (x y:Int):∀ a:List Int,a.Pairwise (·<·)→(∃ z∈a,x<z)→ins x (a ++ [y])=ins x a ++ [y]
 | [],_,h=>by obtain ⟨z,c,_⟩:=h;cases c
 | b :: a,hp,h=>by
  rw [List.cons_append];unfold ins;split
  ·rfl
  ·split
   ·rfl
   ·rw [List.pairwise_cons] at hp
    rw [Yn6 x y a hp.2 ?_]
    ·rfl
    ·obtain ⟨z,c,d⟩:=h
     rcases List.mem_cons.1 c with e | c
     ·omega
     ·exact ⟨z,c,d⟩
theorem Yn7 (x y:Int):∀ a:List Int,(∀ z∈a,z<x)→x<y→ins x (a ++ [y])=a ++ [x,y]
 | [],_,h=>by simp [ins,h]
 | b :: a,hb,h=>by
  have d:=hb b j37_;rw [List.cons_append];unfold ins;rw [if_neg x37_,if_neg x37_,Yn7 x y a (fun z c=>hb z (by simp [c])) h];rfl
theorem Xg5 (x:Int):∀ a:List Int,(∀ z∈a,z<x)→ins x a=a ++ [x]
 | [],_=>rfl
 | b :: a,hb=>by
  have d:=hb b j37_;unfold ins;rw [if_neg x37_,if_neg x37_,Xg5 x a (fun z c=>hb z (by simp [c]))];rfl
def Ins (x:Int) (out:List Int) (m:Nat) (laid:Bool) (next:List Int):Prop :=
 (laid=false∧(∀ z∈out.take m,z<x)∧next=out.take m)∨(laid=true∧(∃ z∈out.take m,x<z)∧next=ins x (out.take m))
theorem Xg6 (x:Int) (out:List Int):Ins x out 0 false []:=.inl ⟨rfl,j37_,rfl⟩
theorem P8_ {out:List Int} {m:Nat} (c:m<out.length):out.take (m+1)=out.take m ++ [out.getD m 0]:=by
 rw [List.take_succ_eq_append_getElem c];simp [List.getD,c]
theorem Vn1 {x:Int} {out next:List Int} {m:Nat} (c:m<out.length) (h:Ins x out m false next) (d:x<out.getD m 0):Ins x out (m+1) true (next ++ [x] ++ [out.getD m 0]):=by
 rcases h with ⟨_,e,f⟩ | ⟨h,_⟩
 ·refine .inr ⟨rfl,⟨_,by rw [P8_ c];simp,d⟩,?_⟩
  rw [P8_ c,Yn7 x _ _ e d,f,List.append_assoc];rfl
 ·cases h
theorem Vx5 {x:Int} {out next:List Int} {m:Nat} (d:m<out.length) (h:Ins x out m false next) (j:x∉out) (k:¬ x<out.getD m 0):Ins x out (m+1) false (next ++ [out.getD m 0]):=by
 rcases h with ⟨_,f,g⟩ | ⟨h,_⟩
 ·refine .inl ⟨rfl,fun z c=>?_,by rw [P8_ d,g]⟩
  rw [P8_ d,List.mem_append,List.mem_singleton] at c;rcases c with c | c
  ·exact f z c
  ·have:z≠x:=fun e=>j (by rw [← e,c];simp [List.getD,d])
   omega
 ·cases h
theorem Vx6 {x:Int} {out next:List Int} {m:Nat} (c:m<out.length) (hs:out.Pairwise (·<·)) (h:Ins x out m true next):Ins x out (m+1) true (next ++ [out.getD m 0]):=by
 rcases h with ⟨h,_⟩ | ⟨_,⟨z,e,d⟩,f⟩
 ·cases h
 ·refine .inr ⟨rfl,⟨z,by rw [P8_ c];simp [e],d⟩,?_⟩
  rw [P8_ c,Yn6 x _ _ (hs.sublist (List.take_sublist _ _)) ⟨z,e,d⟩,f]
theorem Vx7 {x:Int} {out next:List Int} (h:Ins x out out.length true next):next=ins x out:=by
 rcases h with ⟨h,_⟩ | ⟨_,_,c⟩
 ·cases h
 ·rw [c,List.take_length]
theorem Vx8 {x:Int} {out next:List Int} (h:Ins x out out.length false next):next ++ [x]=ins x out:=by
 rcases h with ⟨_,c,d⟩ | ⟨h,_⟩
 ·rw [List.take_length] at c d
  rw [d,Xg5 x out c]
 ·cases h
theorem Vn2 {x:Int} {out next:List Int} {m:Nat} {e:Bool} (h:Ins x out m e next):next.length≤out.length+1:=by
 have d:∀ (t:List Int),(ins x t).length≤t.length+1:=by
  intro t;exact q15_
 rcases h with ⟨_,_,c⟩ | ⟨_,_,c⟩
 ·rw [c,List.length_take];omega
 ·rw [c]
  have:=d (out.take m);rw [List.length_take] at this;omega
theorem Ye8 (v:Value) (l:List Int) (w:World) (hr:Row w w.heap.size v l) (hl:l.length≤2097152):Calls Tryz.prog 96 #[v] w (Gives w (sortL l)):=by
 obtain ⟨A,c,rfl,_,x4⟩:=hr;have xa:=hid x4;clear x4;have xo:(l.length:Int)≤2097152:=x37_;have x1:Below w.heap.size w (w.alloc (.cells #[] 3)):=(Below.refl _ w).alloc (le_refl _) _;have x7:Row (w.alloc (.cells #[] 3)) (w.alloc (.cells #[] 3)).heap.size (.slice (some ⟨w.heap.size,0,none⟩) 0 0) (A4_ l 0):=(Row.lit0 w).here;have x9:=hid (Xz4 l)
 go_enter Tryz.func96,Tryz.ntmps96
 go_wp2
 go_loopw [3,4] (fun vo Z wr=>∃ k:Nat,Z=.int .i64 k∧k≤l.length∧Row wr wr.heap.size vo (A4_ l k)∧Below w.heap.size w wr) (fun _ Z _=>l.length - (intOf Z).toNat)
 case atStart=>exact ⟨0,rfl,Nat.zero_le _,x7,x1⟩
 case round =>
  obtain ⟨k,rfl,hk,hro,hbr⟩:=hrel;clear x7 x1;by_cases L:k<l.length
  ·obtain ⟨C,hA,hab,K⟩:=xa.out k L
   subst hA;have xn:(k:Int)<(l.length:Int):=x37_;have xg:=Zo7 l k;have B:=hid (Xg3 l k L);have D:=hid (Xg4 l k L);have E:=hid (Xz3 l k L);have S:=hid (J8_ (l.take k));change Hid (IsSet (A4_ l k)) at S;generalize A4_ l k=out at hro xg B D E S;generalize l.getD k 0=x at K B D E;have r:wr.cell? (C.add k)=some (.int .i64 x):=(hbr.cell j38_).trans K;have Hg:=hid K;clear K;by_cases V:x<0
   ·have Hx:=hid (B.out fun h=>by unfold Fit at h;omega)
    clear B D E;exact z8_
   ·have xl:decide (x<0)=false:=by simp;omega
    by_cases h1:1099511627776<x
    ·have Hx:=hid (B.out fun h=>by unfold Fit at h;omega)
     clear B D E V;exact z8_
    ·have xm:decide (1099511627776<x)=false:=by simp;omega
     rcases hc:out.contains x with _ | _
     ·have I:x∉out:=by rw [← List.contains_iff_mem,hc];simp
      have xb:=hid I;have Hx:=hid (E.out ⟨x37_,x37_⟩);have N:=hid hc;clear B D E V h1 I hc
      go_wp2_with fail
      refine (Zj9 _ out x _ wr hro x37_ N.out).mono ?_;rintro e d ⟨rfl,rfl⟩;have xi:=hid hro;obtain ⟨Ao,co,rfl,_,x5⟩:=hro;have Hocell:=hid x5;clear x5;have x6:(d.alloc (.cells #[] 3)).ownsRow d.heap.size 3 1 (.slice (some ⟨d.heap.size,0,none⟩) 0 0) 0 [] :=
       World.ownsRow_made d #[] 0 (le_refl _) z38_ rfl
      have x3:Below d.heap.size d (d.alloc (.cells #[] 3)):=(Below.refl _ d).alloc (le_refl _) _;have W:C.block<d.heap.size:=Nat.lt_of_lt_of_le hab hbr.size;have O:=hid r;clear r;go_wp2
      go_loopw [5,6,7] (fun vn xh vk wr=>∃ (m:Nat) (J:Bool) (next:List Int),vk=.int .i64 m∧m≤out.length∧xh=.bool J∧Ins x out m J next∧wr.ownsRow d.heap.size 3 1 vn next.length (ints next)∧Below d.heap.size d wr) (fun _ _ vk _=>out.length - (intOf vk).toNat)
      case atStart=>exact ⟨0,false,[],rfl,Nat.zero_le _,rfl,Xg6 x out,x6,x3⟩
      case round =>
       obtain ⟨m,J,next,rfl,hm,rfl,z,s,g⟩:=hrel;clear x6 x3;have xq:=Vn2 z;by_cases M:m<out.length
       ·obtain ⟨H,xc,x2,X⟩:=Hocell.out m M
        subst xc;have xp:(m:Int)<(out.length:Int):=x37_;have F:wr.cell? (H.add m)=some (.int .i64 (out.getD m 0)):=(g.cell (by rw [Z2_];exact x2)).trans X;have r:wr.cell? (C.add k)=some (.int .i64 x):=(g.cell (by rw [Z2_];exact W)).trans O.out;have x0:=hid X;clear X;have P:=hid (fun next h=>Vx6 (x:=x) (next:=next) M S.out.1 h);have Q:=hid (fun next h=>Vn1 (x:=x) (out:=out) (next:=next) M h);have R:=hid (fun next h=>Vx5 (x:=x) (out:=out) (next:=next) M h xb.out);generalize out.getD m 0=y at F x0 P Q R;cases J
        ·have HI:=hid z
         clear z P;by_cases x8:x<y
         ·have u:=hid (Q.out next HI.out x8)
          go_wp2
          go_quiet (fail)
          have q:(wr.drewN nq).ownsRow d.heap.size 3 1 _ next.length (ints next):=s;have hbq:Below d.heap.size d (wr.drewN nq):=Y2_ g nq;have T:(wr.drewN nq).cell? (C.add k)=some (.int .i64 x):=r;have U:(wr.drewN nq).cell? (H.add m)=some (.int .i64 y):=F;clear s g r F;generalize wr.drewN nq=wq at *
          go_wp2_with (at_builtin;refine Z4_ rfl _ _ rfl d.heap.size _ _ _ next [x] rfl rfl (q.alloc _) (Row.lit1 _ x) x37_ j37_ q42_ ?_)
          intro G p hown6 j;have hown6:p.ownsRow d.heap.size 3 1 G (next ++ [x]).length (ints (next ++ [x])):=x44_;have o:Below d.heap.size d p:=(hbq.alloc hbq.size _).grown j q42_ (fun i hi=>(q.lt i hi).1);clear j q hbq;have xj:p.cell? (C.add k)=some (.int .i64 x):=(o.cell (by rw [Z2_];exact W)).trans O.out;have xk:p.cell? (H.add m)=some (.int .i64 y):=(o.cell (by rw [Z2_];exact x2)).trans x0.out;clear T U
          go_wp2_with (at_builtin;refine Z4_ rfl _ _ rfl d.heap.size _ _ _ (next ++ [x]) [y] rfl rfl (hown6.alloc _) (Row.lit1 _ y) (by rw [List.length_append];show next.length+1≤_;omega) j37_ (by have:=o.size;simp;omega) ?_)
          intro v7 w7 Y j;have Y:w7.ownsRow d.heap.size 3 1 v7 (next ++ [x] ++ [y]).length (ints (next ++ [x] ++ [y])):=by rw [show next ++ [x] ++ [y]=next ++ [x,y] from by simp,List.length_append];exact Y
          have xd:Below d.heap.size d w7:=(o.alloc o.size _).grown j (by have:=o.size;simp;omega) (fun i hi=>(hown6.lt i hi).1);clear j hown6 o;go_wp2
          go_roundw
          case rel=>exact ⟨m+1,true,next ++ [x] ++ [y],y38_,x37_,rfl,u.out,Y,xd⟩
          exact mz_
         ·have xr:decide (x<y)=false:=by simp;omega
          have u:=hid (R.out next HI.out x8);go_wp2
          go_quiet (fail)
          have q:(wr.drewN nq).ownsRow d.heap.size 3 1 _ next.length (ints next):=s;have hbq:Below d.heap.size d (wr.drewN nq):=Y2_ g nq;have T:(wr.drewN nq).cell? (C.add k)=some (.int .i64 x):=r;have U:(wr.drewN nq).cell? (H.add m)=some (.int .i64 y):=F;clear s g r F;generalize wr.drewN nq=wq at *
          go_wp2_with (at_builtin;refine Z4_ rfl _ _ rfl d.heap.size _ _ _ next [y] rfl rfl (q.alloc _) (Row.lit1 _ y) x37_ j37_ q42_ ?_)
          intro G p hown6 j;have hown6:p.ownsRow d.heap.size 3 1 G (next ++ [y]).length (ints (next ++ [y])):=x44_;have o:Below d.heap.size d p:=(hbq.alloc hbq.size _).grown j q42_ (fun i hi=>(q.lt i hi).1);clear j q hbq;go_wp2
          go_roundw
          case rel=>exact ⟨m+1,false,next ++ [y],y38_,x37_,rfl,u.out,hown6,o⟩
          exact mz_
        ·have u:=hid (P.out next z)
         clear z Q R;go_wp2
         go_quiet (fail)
         have q:(wr.drewN nq).ownsRow d.heap.size 3 1 _ next.length (ints next):=s;have hbq:Below d.heap.size d (wr.drewN nq):=Y2_ g nq;have T:(wr.drewN nq).cell? (C.add k)=some (.int .i64 x):=r;have U:(wr.drewN nq).cell? (H.add m)=some (.int .i64 y):=F;clear s g r F;generalize wr.drewN nq=wq at *
         go_wp2_with (at_builtin;refine Z4_ rfl _ _ rfl d.heap.size _ _ _ next [y] rfl rfl (q.alloc _) (Row.lit1 _ y) x37_ j37_ q42_ ?_)
         intro G p hown6 j;have hown6:p.ownsRow d.heap.size 3 1 G (next ++ [y]).length (ints (next ++ [y])):=x44_;have o:Below d.heap.size d p:=(hbq.alloc hbq.size _).grown j q42_ (fun i hi=>(q.lt i hi).1);clear j q hbq;go_wp2
         go_roundw
         case rel=>exact ⟨m+1,true,next ++ [y],y38_,x37_,rfl,u.out,hown6,o⟩
         exact mz_
       ·have xf:m=out.length:=by omega
        subst xf;cases J
        ·have u:=hid (Vx8 z)
         clear z;have r:wr.cell? (C.add k)=some (.int .i64 x):=(g.cell (by rw [Z2_];exact W)).trans O.out
         go_wp2_with (at_builtin;refine Z4_ rfl _ _ rfl d.heap.size _ _ _ next [x] rfl rfl (s.alloc _) (Row.lit1 _ x) x37_ j37_ (by have:=g.size;simp;omega) ?_)
         intro G p hown6 j;have hown6:p.ownsRow d.heap.size 3 1 G (next ++ [x]).length (ints (next ++ [x])):=x44_;have o:Below d.heap.size d p:=(g.alloc g.size _).grown j (by have:=g.size;simp;omega) (fun i hi=>(s.lt i hi).1);clear j s g;go_wp2
         go_roundw
         case rel=>exact ⟨k+1,y38_,x37_,by rw [Hx.out,← u.out];exact Row.of_own hown6 rfl,hbr.trans (o.mono hbr.size)⟩
         exact mz_
        ·have u:=hid (Vx7 z)
         clear z;go_wp2
         go_roundw
         case rel=>exact ⟨k+1,y38_,x37_,by rw [Hx.out,← u.out];exact Row.of_own s rfl,hbr.trans (g.mono hbr.size)⟩
         exact mz_
     ·have I:x∈out:=by rw [← List.contains_iff_mem,hc]
      have Hx:=hid (D.out I);have N:=hid hc;clear B D E V h1 I hc
      go_wp2_with fail
      refine (Zj9 _ out x _ wr hro x37_ N.out).mono ?_;rintro e d ⟨rfl,rfl⟩;exact z8_
  ·have xe:k=l.length:=by omega
   subst xe;rw [x9.out] at hro;go_wp2;go_ret;exact ⟨_,rfl,hro,hbr⟩
theorem O4_ (B C:Value) (a b:List Int) (w:World) (ha:Row w w.heap.size B a) (hb:Row w w.heap.size C b) (N:a.length≤1048576) (O:b.length≤1048576) :
  Calls Tryz.prog 69 #[B,C] w (Gives w (Y3_ a b)):=by
 have m:=hid ha;have r:=hid hb;obtain ⟨L,c1,rfl,_⟩:=ha;obtain ⟨M,c2,rfl,_⟩:=hb;rcases hma:mayB a with _ | _
 ·have h:=hid (Yy7 (b:=b) hma)
  have g:=hid hma;clear hma
  go_enter Tryz.func69,Tryz.ntmps69
  go_wp2_with fail
  refine (V7_ _ a w m.out x37_ g.out).mono ?_;rintro e q ⟨rfl,c⟩;go_wp2;go_ret;exact U5_ w c h.out
 ·rcases hmb:mayB b with _ | _
  ·have h:=hid (Yy8 (a:=a) hmb)
   have g:=hid hma;have s:=hid hmb;clear hma hmb
   go_enter Tryz.func69,Tryz.ntmps69
   go_wp2_with fail
   refine (V7_ _ a w m.out x37_ g.out).mono ?_;rintro e q ⟨rfl,c⟩
   go_wp2_with fail
   refine (V7_ _ b q ((r.out.below c).mono c.size) x37_ s.out).mono ?_;rintro e d ⟨rfl,p⟩;go_wp2;go_ret;exact U5_ w (c.trans (p.mono c.size)) h.out
  ·have h:=hid (Yy6 hma hmb)
   have g:=hid hma;have s:=hid hmb;clear hma hmb
   go_enter Tryz.func69,Tryz.ntmps69
   go_wp2_with fail
   refine (V7_ _ a w m.out x37_ g.out).mono ?_;rintro e q ⟨rfl,c⟩
   go_wp2_with fail
   refine (V7_ _ b q ((r.out.below c).mono c.size) x37_ s.out).mono ?_;rintro e d ⟨rfl,p⟩;have o:Below w.heap.size w d:=c.trans (p.mono c.size);clear c p;have u:(d.alloc (.cells #[] 3)).ownsRow w.heap.size 3 1 (.slice (some ⟨d.heap.size,0,none⟩) 0 0) ([]:List Int).length (ints []) :=
    World.ownsRow_made d #[] 0 o.size z38_ rfl
   have j:Below w.heap.size w (d.alloc (.cells #[] 3)):=o.alloc o.size _;have E:=hid (m.out.below j)
   go_wp2_with (at_builtin;refine Z4_ rfl _ _ rfl w.heap.size w.heap.size _ _ [] a rfl rfl u E.out j37_ x37_ j.size ?_)
   intro P K v y;have k:Below w.heap.size w K:=j.grown y j.size (fun i hi=>(u.lt i hi).1);have F:=hid (r.out.below k);clear y u j o
   go_wp2_with (at_builtin;refine Z4_ rfl _ _ rfl w.heap.size w.heap.size _ _ a b rfl rfl v F.out x37_ x37_ k.size ?_)
   intro J D H z;have x:Below w.heap.size w D:=k.grown z k.size (fun i hi=>(v.lt i hi).1);clear z v k
   go_wp2_with fail
   refine (Ye8 J (a ++ b) D (Row.of_own H j37_) (by rw [List.length_append];omega)).mono ?_;rintro e R ⟨Q,rfl,I,G⟩;go_wp2;go_ret;exact ⟨_,rfl,by rw [h.out];exact I,x.trans (G.mono x.size)⟩
def bef (l:List Int) (i j:Int):Prop:=l.getD j.toNat 0<l.getD i.toNat 0∨(l.getD i.toNat 0=l.getD j.toNat 0∧i<j)
instance (l:List Int) (i j:Int):Decidable (bef l i j):=by unfold bef;infer_instance
def idxs (n:Nat):List Int:=(List.range n).map Int.ofNat
structure Places (l r:List Int):Prop where
 perm:r.Perm (idxs l.length)
 sorted:r.Pairwise (bef l)
def layB (l:List Int) (i:Int):List Int→List Int
 | []=>[i]
 | k :: r=>if l.getD k.toNat 0<l.getD i.toNat 0 then i :: k :: r else k :: layB l i r
def Xg7 (l:List Int):Nat→List Int
 | 0=>[]
 | n+1=>layB l (n:Int) (Xg7 l n)
def Jy5 (l:List Int):List Int:=Xg7 l l.length
end Go.Proofs.YtnaebbjodfnooaaGreatDoor.Wp
