/- Sets of numbers as lists, plain: what layer 2's calls answer, and that sets are an algebra. Nothing of the program here. Small laws of memory that the walks of this seat use: a block that is known whole; a list of integers in memory; what a call gives. Memory of this seat: a list of lists of integers; a family of rows that the call itself makes, no two in one block. Plain facts on sets as lists, for the walks: whether a list is a set, step by step; what both have, step by step. Whether a list is a set, as the program and as the document ask it, walked. Two sides that may be: the program's May, walked. The program's part (Meet, Minus), walked: both lists rise, and one goes along the other. The program's Has and All, walked. Whether a list is a set, as the document asks it, walked. The document's answer: is a number in a list: walked. The document's meet and union of sets, walked. -/
import Derived.Lib.SlicesCompact
import Derived.Test.YtgpljiijjnaofaaGreatDoorProg
import Derived.WalkKit
import Derived.OwnWalk
import Derived.Lib.Hide
import Derived.Laws.Cells
import Derived.Laws.Rows
import Derived.Deep.Draws
import Derived.BigQuiet
import Derived.Deep.QuietTactic
import Derived.Laws.AppendOwnNone
import Derived.Maps.AppendAt
import Derived.Lib.OwnBridge
import Derived.DataElems
import Derived.Test.YtgpljiijjnaofaaGreatDoorX0A
import Derived.Test.YtgpljiijjnaofaaGreatDoorX0C
set_option maxHeartbeats 8000000
set_option maxRecDepth 100000
open Go.Lib (hid)
open Nat (le_refl)
namespace Go.Proofs.YtgpljiijjnaofaaGreatDoor.Wp
def Fit (x:Int):Prop:=0≤x∧x≤1099511627776
instance (x:Int):Decidable (Fit x):=inferInstanceAs (Decidable (_∧_))
def IsSet (l:List Int):Prop:=l.Pairwise (·<·)∧∀ x∈l,Fit x
instance (l:List Int):Decidable (IsSet l):=inferInstanceAs (Decidable (_∧_))
def mayB (l:List Int):Bool:=decide (IsSet l)
theorem A2_:IsSet []:=⟨List.Pairwise.nil,fun _ h=>absurd h y31_⟩
theorem S4_:∀ {a b:List Int},a.Pairwise (·<·)→b.Pairwise (·<·)→(∀ x,x∈a↔x∈b)→a=b
 | [],[],_,_,_=>rfl
 | [],y :: b,_,_,h=>absurd ((h y).2 y31_) y31_
 | x :: a,[],_,_,h=>absurd ((h x).1 y31_) y31_
 | x :: a,y :: b,ha,hb,h=>by
  rw [List.pairwise_cons] at ha hb;have g:x=y:=by
   rcases List.mem_cons.1 ((h x).1 y31_) with e | f
   ·exact e
   ·rcases List.mem_cons.1 ((h y).2 y31_) with e | j
    ·exact e.symm
    ·have:=hb.1 x f
     have:=ha.1 y j;omega
  subst g;congr 1;refine S4_ ha.2 hb.2 fun z=>⟨fun c=>?_,fun c=>?_⟩
  ·rcases List.mem_cons.1 ((h z).1 (by simp [c])) with e | d
   ·have:=ha.1 z c;omega
   ·exact d
  ·rcases List.mem_cons.1 ((h z).2 (by simp [c])) with e | d
   ·have:=hb.1 z c;omega
   ·exact d
theorem IsSet.ext {a b:List Int} (ha:IsSet a) (hb:IsSet b) (h:∀ x,x∈a↔x∈b):a=b:=S4_ ha.1 hb.1 h
theorem IsSet.sub {a b:List Int} (h:IsSet b) (hs:a.Sublist b):IsSet a:=⟨h.1.sublist hs,fun x c=>h.2 x (hs.subset c)⟩
theorem IsSet.filter {a:List Int} (h:IsSet a) (p:Int→Bool):IsSet (a.filter p):=h.sub List.filter_sublist
theorem IsSet.tail {x:Int} {a:List Int} (h:IsSet (x :: a)):IsSet a:=h.sub (List.sublist_cons_self x a)
def ins (x:Int):List Int→List Int
 | []=>[x]
 | y :: r=>if x<y then x :: y :: r else if x=y then y :: r else y :: ins x r
theorem Yy0 (x z:Int):∀ l,z∈ins x l↔z=x∨z∈l
 | []=>by simp [ins]
 | y :: r=>by
  unfold ins;split
  ·simp
  ·split
   ·subst_vars;simp
   ·simp only [List.mem_cons,Yy0 x z r]
    constructor
    ·rintro (h | h | h)<;>simp [h]
    ·rintro (h | h | h)<;>simp [h]
theorem Xx0 (x:Int) (f:Fit x):∀ l,IsSet l→IsSet (ins x l)
 | [],_=>⟨by simp [ins],by simp [ins];exact f⟩
 | y :: r,h=>by
  have g:=List.pairwise_cons.1 h.1;unfold ins;split
  ·refine ⟨List.pairwise_cons.2 ⟨fun z c=>?_,h.1⟩,fun z c=>?_⟩
   ·rcases List.mem_cons.1 c with e | d
    ·omega
    ·have:=g.1 z d;omega
   ·rcases List.mem_cons.1 c with e | d
    ·rw [e];exact f
    ·exact h.2 z d
  ·split
   ·exact h
   ·have j:=Xx0 x f r h.tail
    refine ⟨List.pairwise_cons.2 ⟨fun z c=>?_,j.1⟩,fun z c=>?_⟩
    ·rcases (Yy0 x z r).1 c with e | d
     ·omega
     ·exact g.1 z d
    ·rcases List.mem_cons.1 c with e | d
     ·rw [e];exact h.2 y y31_
     ·exact j.2 z d
def sortL:List Int→List Int
 | []=>[]
 | x :: r=>if Fit x then ins x (sortL r) else sortL r
theorem E2_:∀ l,IsSet (sortL l)
 | []=>A2_
 | x :: r=>by
  unfold sortL;split
  ·exact Xx0 x (by assumption) _ (E2_ r)
  ·exact E2_ r
theorem B6_ (z:Int):∀ l,z∈sortL l↔z∈l∧Fit z
 | []=>by simp [sortL]
 | x :: r=>by
  unfold sortL;split
  ·next hx =>
   rw [Yy0,B6_ z r,List.mem_cons];constructor
   ·rintro (e | ⟨h,c⟩)
    ·subst e;exact ⟨.inl rfl,hx⟩
    ·exact ⟨.inr h,c⟩
   ·rintro ⟨e | h,c⟩
    ·exact .inl e
    ·exact .inr ⟨h,c⟩
  ·next hx =>
   rw [B6_ z r,List.mem_cons];constructor
   ·rintro ⟨h,c⟩;exact ⟨.inr h,c⟩
   ·rintro ⟨e | h,c⟩
    ·subst e;exact absurd c hx
    ·exact ⟨h,c⟩
theorem Xl9 {r l:List Int} (c:IsSet r) (h:∀ x,x∈r↔x∈l∧Fit x):r=sortL l :=
 c.ext (E2_ l) fun x=>by rw [h,B6_]
theorem F4_:∀ l,(sortL l).length≤l.length
 | []=>le_refl _
 | x :: r=>by
  unfold sortL;have c:∀ (y:Int) (t:List Int),(ins y t).length≤t.length+1:=by
   intro y t
   induction t with
   | nil=>simp [ins]
   | cons a t ih =>
    unfold ins;split
    ·simp
    ·split
     ·simp
     ·simp;omega
  split
  ·have:=c x (sortL r)
   have:=F4_ r;simp;omega
  ·have:=F4_ r
   simp;omega
def hasB (l:List Int) (x:Int):Bool:=mayB l && l.contains x
def X2_ (a b:List Int):List Int:=if mayB a && mayB b then sortL (a ++ b) else []
def partL (a b:List Int) (w:Bool):List Int:=if mayB a && mayB b then a.filter fun x=>b.contains x==w else []
def meetL (a b:List Int):List Int:=partL a b true
def Z4_ (a b:List Int):List Int:=partL a b false
def subB (a b:List Int):Bool:=mayB a && mayB b && decide (Z4_ a b=[])
def allL (n:Int):List Int:=if n<1∨100000<n then [] else (List.range n.toNat).map Int.ofNat
theorem mayB_iff {l:List Int}:mayB l=true↔IsSet l:=by simp [mayB]
theorem I3_ {l:List Int} (h:IsSet l):mayB l=true:=mayB_iff.2 h
theorem Zo5 (a b:List Int):IsSet (X2_ a b):=by
 unfold X2_;split
 ·exact E2_ _
 ·exact A2_
theorem Xm0 (a b:List Int) (w:Bool):IsSet (partL a b w):=by
 unfold partL;split
 ·next h=>exact (mayB_iff.1 (by simp at h;exact h.1)).filter _
 ·exact A2_
theorem Q2_ (a b:List Int):IsSet (Z4_ a b):=Xm0 a b false
theorem C3_ (n:Int):IsSet (allL n):=by
 unfold allL;split
 ·exact A2_
 ·next h =>
  refine ⟨?_,fun x d=>?_⟩
  ·rw [List.pairwise_map]
   exact List.pairwise_lt_range.imp fun h=>by simpa using h
  ·obtain ⟨k,c,rfl⟩:=List.mem_map.1 d
   have:=List.mem_range.1 c;have e:Int.ofNat k=(k:Int):=rfl;unfold Fit;rw [e];omega
theorem E3_ {a b:List Int} (ha:IsSet a) (hb:IsSet b) (x:Int):x∈X2_ a b↔x∈a∨x∈b:=by
 unfold X2_;rw [if_pos (by rw [I3_ ha,I3_ hb];rfl),B6_,List.mem_append];constructor
 ·exact fun h=>h.1
 ·rintro (h | h)
  ·exact ⟨.inl h,ha.2 x h⟩
  ·exact ⟨.inr h,hb.2 x h⟩
theorem Yb1 {a b:List Int} (ha:IsSet a) (hb:IsSet b) (w:Bool) (x:Int):x∈partL a b w↔x∈a∧(b.contains x=w):=by
 unfold partL;rw [if_pos (by rw [I3_ ha,I3_ hb];rfl),List.mem_filter];simp
theorem M3_ {a b:List Int} (ha:IsSet a) (hb:IsSet b) (x:Int):x∈meetL a b↔x∈a∧x∈b:=by
 unfold meetL;rw [Yb1 ha hb,List.contains_iff_mem]
theorem Y2_ {a b:List Int} (ha:IsSet a) (hb:IsSet b) (x:Int):x∈Z4_ a b↔x∈a∧x∉b:=by
 unfold Z4_;rw [Yb1 ha hb,← Bool.not_eq_true,List.contains_iff_mem]
theorem Xx1 {a b:List Int} (ha:IsSet a) (hb:IsSet b):subB a b=true↔∀ x∈a,x∈b:=by
 unfold subB;rw [I3_ ha,I3_ hb];simp only [Bool.and_self,Bool.true_and,decide_eq_true_eq];constructor
 ·intro h x d
  rcases Decidable.em (x∈b) with c | c
  ·exact c
  ·have:=(Y2_ ha hb x).2 ⟨d,c⟩
   rw [h] at this;exact absurd this y31_
 ·intro h
  rcases hm:Z4_ a b with _ | ⟨x,r⟩
  ·rfl
  ·have:=(Y2_ ha hb x).1 (by rw [hm];simp)
   exact absurd (h x this.1) this.2
theorem L1_ {l:List Int} (h:IsSet l) (x:Int):hasB l x=true↔x∈l:=by
 unfold hasB;rw [I3_ h];simp
theorem Yy1 (a b:List Int) (w:Bool):(partL a b w).length≤a.length:=by
 unfold partL;split
 ·exact List.length_filter_le _ _
 ·simp
theorem Zo6 (a b:List Int):(X2_ a b).length≤a.length+b.length:=by
 unfold X2_;split
 ·have:=F4_ (a ++ b)
  simpa using this
 ·simp
theorem Yk0 (n:Int):((allL n).length:Int)≤100000∧(1≤n→n≤100000→((allL n).length:Int)=n):=by
 unfold allL;split
 ·next h=>exact ⟨y31_,fun c d=>by omega⟩
 ·next h=>exact ⟨by simp;omega,fun c d=>by simp;omega⟩
theorem G2_ {n:Int} (d:0≤n) (f:n≤100000) (x:Int):x∈allL n↔0≤x∧x<n:=by
 unfold allL;split
 ·next h =>
  simp;omega
 ·rw [List.mem_map]
  constructor
  ·rintro ⟨k,c,rfl⟩
   have:=List.mem_range.1 c;have e:Int.ofNat k=(k:Int):=rfl;rw [e];omega
  ·intro h
   exact ⟨x.toNat,List.mem_range.2 k30_,by simp;omega⟩
section
variable {a b c:List Int} (ha:IsSet a) (hb:IsSet b) (hc:IsSet c)
include ha hb
include hc
end
theorem Xx2:∀ {a b r:List Int},IsSet a→IsSet b→IsSet r→(∀ x,x∈a→x∉b)→(∀ x,x∈r↔x∈a∨x∈b)→r.length=a.length+b.length:=by
 intro a b r ha hb g hd c;have d:(a ++ b).Nodup:=by
  rw [List.nodup_append];refine ⟨ha.1.imp fun h=>by omega,hb.1.imp fun h=>by omega,fun x k y m e=>hd x k (by rw [e];exact m)⟩
 have j:r.Nodup:=g.1.imp fun h=>by omega
 have f:r.Perm (a ++ b):=by
  rw [List.perm_ext_iff_of_nodup j d];intro x;rw [c,List.mem_append]
 rw [f.length_eq,List.length_append]
theorem Yk1 (d:Array Int) (hs:∀ i j,i≤j→j<d.size→d[i]!≤d[j]!):∀ m,m≤d.size→(Lib.compactUpTo d m).Pairwise (·<·)∧∀ x,x∈Lib.compactUpTo d m↔∃ j,j<m∧d[j]! = x:=by
 intro m
 induction m with
 | zero=>intro _;exact ⟨by simp [Lib.compactUpTo],by simp [Lib.compactUpTo]⟩
 | succ m ih =>
  intro w;obtain ⟨o,g⟩:=ih k30_;rw [Lib.compactUpTo_succ];by_cases c:Lib.keeps d m=true
  ·rw [if_pos c]
   constructor
   ·rw [List.pairwise_append]
    refine ⟨o,y31_,fun x r y q=>?_⟩;rw [List.mem_singleton] at q;subst q;obtain ⟨j,f,rfl⟩:=(g x).1 r;simp only [Lib.keeps,decide_eq_true_eq] at c;have s:=hs j (m - 1) k30_ k30_;have u:=hs (m - 1) m k30_ k30_;have v:d[m]!≠d[m - 1]!:=by
     rcases c with h | h
     ·omega
     ·exact h
    omega
   ·intro x
    rw [List.mem_append,List.mem_singleton,g];constructor
    ·rintro (⟨j,f,e⟩ | e)
     ·exact ⟨j,k30_,e⟩
     ·exact ⟨m,k30_,e.symm⟩
    ·rintro ⟨j,f,e⟩
     by_cases k:j=m
     ·subst k;exact .inr e.symm
     ·exact .inl ⟨j,k30_,e⟩
  ·have p:Lib.keeps d m=false:=by simpa using c
   rw [if_neg c,List.append_nil];refine ⟨o,fun x=>?_⟩;rw [g];constructor
   ·rintro ⟨j,f,e⟩;exact ⟨j,k30_,e⟩
   ·rintro ⟨j,f,e⟩
    by_cases k:j=m
    ·subst k
     simp only [Lib.keeps,decide_eq_false_iff_not,not_or,Decidable.not_not] at p;exact ⟨j - 1,k30_,by rw [← e,p.2]⟩
    ·exact ⟨j,k30_,e⟩
theorem Za0 (l:List Int) (h:l.Pairwise (·≤·)):(Lib.compact l).Pairwise (·<·)∧∀ x,x∈Lib.compact l↔x∈l:=by
 have d:∀ i,i<l.length→l.toArray[i]! = l.getD i 0:=by
  intro i hi;rw [getElem!_pos l.toArray i x39_];simp [List.getD,hi]
 have hs:∀ i j,i≤j→j<l.toArray.size→l.toArray[i]!≤l.toArray[j]!:=by
  intro i j m c;have e:j<l.length:=by simpa using c
  rw [d i k30_,d j e];rcases Nat.lt_or_ge i j with f | k
  ·have:=List.pairwise_iff_getElem.1 h i j k30_ e f
   simpa [List.getD,e,show i<l.length from by omega] using this
  ·have:i=j:=by omega
   subst this;exact Int.le_refl _
 have hc:=Yk1 l.toArray hs l.length y31_;refine ⟨hc.1,fun x=>?_⟩;unfold Lib.compact;rw [hc.2];constructor
 ·rintro ⟨j,c,rfl⟩
  rw [d j c];simp [List.getD,c]
 ·intro g
  obtain ⟨j,c,rfl⟩:=List.mem_iff_getElem.1 g;exact ⟨j,c,by rw [d j c];simp [List.getD,c]⟩
theorem Zg3 (l:List Int):Lib.compact ((l.filter fun x=>decide (Fit x)).mergeSort fun x y=>decide (x≤y))=sortL l:=by
 have g:((l.filter fun x=>decide (Fit x)).mergeSort fun x y=>decide (x≤y)).Pairwise (·≤·):=by
  have:=List.pairwise_mergeSort (le:=fun x y:Int=>decide (x≤y)) (fun a b c d e=>by simp at *;omega) (fun a b=>by simp;omega) (l.filter fun x=>decide (Fit x));exact this.imp fun h=>by simpa using h
 obtain ⟨d,e⟩:=Za0 _ g;have f:∀ x,x∈Lib.compact ((l.filter fun x=>decide (Fit x)).mergeSort fun x y=>decide (x≤y))↔x∈l∧Fit x:=by
  intro x;rw [e,List.mem_mergeSort,List.mem_filter,decide_eq_true_eq]
 exact Xl9 ⟨d,fun x j=>((f x).1 j).2⟩ f
open Go Go.RowKit
theorem info3:(Tryz.prog.info? 3).map (fun i=>(i.zero,i.size,i.bytes))=some (some (.int .i64 0),1,8):=q31_
def Blk (w:World) (g:Nat) (t:TypeId) (cs:Array Value):Prop:=w.heap[g]?=some (.cells cs t (0,0))
section
variable {w w':World} {g:Nat} {t:TypeId} {cs:Array Value}
theorem Blk.lt (h:Blk w g t cs):g<w.heap.size:=by
 rcases Nat.lt_or_ge g w.heap.size with d | c
 ·exact d
 ·unfold Blk at h;rw [Array.getElem?_eq_none c] at h;cases h
theorem Blk.cell (h:Blk w g t cs) (i:Nat):w.cell? ⟨g,i,none⟩=cs[i]?:=cell_of_row w g i cs t (0,0) h
theorem Blk.frozen (h:Blk w g t cs) (i:Nat):w.frozen? ⟨g,i,none⟩=false:=by
 unfold Blk at h;simp [World.frozen?,h]
theorem Blk.new (w:World) (t:TypeId) (cs:Array Value):Blk (w.alloc (.cells cs t)) w.heap.size t cs:=heap_alloc_new w _
theorem Blk.drew (h:Blk w g t cs):Blk w.drew g t cs:=h
theorem Blk.alloc (h:Blk w g t cs) (o:Obj):Blk (w.alloc o) g t cs:=(Below.heap_alloc w o g h.lt).trans h
theorem Blk.set_ (h:Blk w g t cs) (i:Nat) (u:Value):Blk (w.setCell ⟨g,i,none⟩ u) g t (cs.setIfInBounds i u):=by
 unfold Blk at h ⊢;simp [World.setCell,Array.getElem?_modify,h]
theorem Blk.far (h:Blk w g t cs) {p:Addr} (c:g≠p.block) (u:Value):Blk (w.setCell p u) g t cs:=(Below.heap_setCell w p u g c).trans h
theorem Blk.below {B:Nat} (h:Blk w g t cs) (hb:Below B w w') (c:g<B):Blk w' g t cs:=(hb.block g c).trans h
theorem Blk.grown {row:Option Nat} (h:Blk w g t cs) (hb:w.grownBy w' row) (c:some g≠row):Blk w' g t cs:=(hb.block g h.lt c).trans h
end
theorem L2_ {a w:World} {g:Nat} (h:a.grownBy w (some g)) {p:Addr} (c:p.block=g∨a.heap.size≤p.block) (u:Value):a.grownBy (w.setCell p u) (some g) :=
 ⟨h.os,h.tape,h.output,by simpa [World.setCell] using h.size,fun i hi d=>(Below.heap_setCell w p u i (by
  rintro rfl;rcases c with c | c
  ·exact d (by rw [c])
  ·omega)).trans (h.block i hi d)⟩
theorem Y5_ {a w:World} (h:Below a.heap.size a w) (row:Option Nat):a.grownBy w row:=⟨h.os,h.tape,h.output,h.size,fun i hi _=>h.block i hi⟩
theorem X6_ {a b c:World} {row:Option Nat} (h:a.grownBy b row) (k:b.grownBy c row):a.grownBy c row :=
 ⟨k.os.trans h.os,k.tape.trans h.tape,k.output.trans h.output,Nat.le_trans h.size k.size,fun i hi d=>(k.block i (Nat.lt_of_lt_of_le hi h.size) d).trans (h.block i hi d)⟩
theorem Y8_ {B:Nat} {a w:World} (h:Below B a w) (n:Nat):Below B a (w.drewN n):=⟨h.os,h.tape,h.output,h.size,h.block⟩
def Row (w:World) (B:Nat) (v:Value) (zs:List Int):Prop :=
 ∃ A c,v=.slice A zs.length c∧(zs.length≤c∧c≤maxLen∧(A=none→c=0))∧∀ k,k<zs.length→∃ ad:Addr,A=some ad∧ad.block<B∧w.cell? (ad.add k)=some (.int .i64 (zs.getD k 0))
theorem add_zero (a:Addr):a.add 0=a:=j39_
theorem Z2_ (a:Addr) (n:Nat):(a.add n).block=a.block:=by unfold Addr.add;split<;>rfl
theorem Row.below {w w':World} {B:Nat} {v:Value} {zs:List Int} (h:Row w B v zs) (hb:Below B w w'):Row w' B v zs:=by
 obtain ⟨A,c,j,g,e⟩:=h;refine ⟨A,c,j,g,fun k f=>?_⟩;obtain ⟨d,hA,hB,hc⟩:=e k f;exact ⟨d,hA,hB,(hb.cell (by rw [Z2_];exact hB)).trans hc⟩
theorem Row.mono {w:World} {B B':Nat} {v:Value} {zs:List Int} (h:Row w B v zs) (hB:B≤B'):Row w B' v zs:=by
 obtain ⟨A,c,j,g,e⟩:=h;refine ⟨A,c,j,g,fun k f=>?_⟩;obtain ⟨d,hA,hb,hc⟩:=e k f;exact ⟨d,hA,k30_,hc⟩
theorem Row.of_own {w:World} {base:Nat} {v:Value} {n:Nat} {zs:List Int} (h:w.ownsRow base 3 1 v n (zs.map (Value.int .i64))) (j:n=zs.length):Row w w.heap.size v zs:=by
 subst j;rcases h.2 with ⟨rfl,d⟩ | ⟨g,c,m,rfl,hb,o,e,f,_⟩
 ·have:zs=[]:=List.eq_nil_of_length_eq_zero (by simpa using d)
  subst this;exact q7_
 ·refine ⟨_,c,rfl,⟨e,f,fun h=>q39_⟩,fun k hk=>⟨⟨g,0,none⟩,rfl,(h.lt g rfl).2,?_⟩⟩
  refine h.cells (g:=g) rfl k _ ?_;rw [List.getElem?_map,List.getElem?_eq_getElem hk];simp [List.getD,hk]
theorem Row.nil_ (W:World) (B:Nat):Row W B (.slice none 0 0) []:=⟨none,0,rfl,⟨le_refl _,z31_,fun _=>rfl⟩,fun k c=>absurd c y31_⟩
theorem Row.lit1 (W:World) (x:Int):Row (W.alloc (.cells #[.int .i64 x] 3)) (W.heap.size+1) (.slice (some ⟨W.heap.size,0,none⟩) 1 1) [x]:=by
 refine ⟨_,1,rfl,⟨le_refl _,z31_,fun h=>q39_⟩,fun k c=>⟨⟨W.heap.size,0,none⟩,rfl,by show W.heap.size<_;omega,?_⟩⟩;have hb:=Blk.new W 3 #[.int .i64 x]
 match k,c with
 | 0,_=>exact hb.cell 0
theorem Row.lit2 (W:World) (x y:Int):Row (W.alloc (.cells #[.int .i64 x,.int .i64 y] 3)) (W.heap.size+1) (.slice (some ⟨W.heap.size,0,none⟩) 2 2) [x,y]:=by
 refine ⟨_,2,rfl,⟨le_refl _,z31_,fun h=>q39_⟩,fun k c=>⟨⟨W.heap.size,0,none⟩,rfl,by show W.heap.size<_;omega,?_⟩⟩;have hb:=Blk.new W 3 #[.int .i64 x,.int .i64 y]
 match k,c with
 | 0,_=>exact hb.cell 0
 | 1,_=>exact hb.cell 1
theorem M4_ (w:World) (t:TypeId) (u:Value):∀ (j:Nat) (v:Value),[u][j]?=some v→(w.alloc (.cells #[u] t)).cell? ((⟨w.heap.size,0,none⟩:Addr).add j)=some v:=by
 intro j v c
 match j,c with
 | 0,c =>
  simp at c;subst c;rw [add_zero];exact (Blk.new w t #[u]).cell 0
theorem Zv8 (x:Int):∀ u∈[Value.int .i64 x],u.oneCell'=true:=by
 intro u c;simp at c;subst c;rfl
def lenOf:Value→Nat
 | .slice _ n _=>n
 | _=>0
def Says (w:World) (b:Bool) (e:Ending) (w':World):Prop:=e=.returned (.bool b)∧Below w.heap.size w w'
def Gives (w:World) (r:List Int) (e:Ending) (w':World):Prop:=∃ v,e=.returned v∧Row w' w'.heap.size v r∧Below w.heap.size w w'
def GivesF (w:World) (r:List Int) (e:Ending) (w':World):Prop:=∃ v,e=.returned v∧Row w' w'.heap.size v r∧Below w.heap.size w w'∧∀ g,v.ownBlock=some g→w.heap.size≤g
theorem GivesF.gives {w w':World} {r:List Int} {e:Ending} (h:GivesF w r e w'):Gives w r e w':=by
 obtain ⟨v,c,d,h3,_⟩:=h;exact ⟨v,c,d,h3⟩
def ints (l:List Int):List Value:=l.map (Value.int .i64)
theorem X3_ (a b:List Int):ints (a ++ b)=ints a ++ ints b:=List.map_append
theorem Z7_ (l:List Int):(ints l).length=l.length:=List.length_map ..
theorem Y6_ {w:World} {ops:Array Oper} {rest:List Oper} {o:Oper} {a:Act} {Q:Exit→Act→World→Prop} (p:o.guard=none) (s x:Operand)
  (C:o.op=.call { callee:=.builtin .append,args:=#[s,x],argTypes:=#[26, 26] })
  (base B:Nat) (v F:Value) (zs ys:List Int) (hs:a.eval s=v) (D:a.eval x=F) (m:w.ownsRow base 3 1 v zs.length (ints zs)) (K:Row w B F ys)
  (U:zs.length≤4194304) (T:ys.length≤4194304) (hb:base≤w.heap.size)
  (h:∀ g w',w'.ownsRow base 3 1 g (zs ++ ys).length (ints (zs ++ ys))→w.grownBy w' v.ownBlock→wpList Tryz.prog ops Q rest (a.put o.dst g) w'):wpList Tryz.prog ops Q (o :: rest) a w:=by
 obtain ⟨E,hi,N,O,P⟩:=info_parts info3;obtain ⟨A,c,rfl,J,q⟩:=K;have I:∀ d,A=some d→∀ j u,(ints ys)[j]?=some u→w.cell? (d.add j)=some u:=by
  intro d hA j u f;have k:j<ys.length:=by
   have:=(List.getElem?_eq_some_iff.1 f).1;simpa [ints] using this
  obtain ⟨S,e,_,hc⟩:=q j k;rw [hA] at e;have e:=Option.some.inj e;subst e;rw [hc];rw [ints,List.getElem?_map,List.getElem?_eq_getElem k] at f;simp at f;rw [← f];simp [List.getD,k]
 have R:∀ d,A=some d→wpList Tryz.prog ops Q (o :: rest) a w:=by
  intro d hA;refine wpList_append_own w p s x _ C base 3 E (.int .i64 0) 1 8 q31_ hi N O P rfl z31_ v zs.length (ints zs) hs m d ys.length c (ints ys) (by rw [D,hA]) (by simp [ints]) (I d hA) ?_ ?_ ?_ hb ?_
  ·intro u L
   obtain ⟨z,_,rfl⟩:=List.mem_map.1 L;rfl
  ·unfold maxLen;omega
  ·omega
  ·intro g w' G H _
   refine h g w' ?_ H;rw [X3_,List.length_append];exact G
 cases A with
 | some d=>exact R d rfl
 | none =>
  have M:ys=[]:=by
   cases ys with
   | nil=>rfl
   | cons y r =>
    obtain ⟨_,hA,_⟩:=q 0 y31_;cases hA
  subst M;have hc:=J.2.2 rfl;subst hc;refine wpList_append_own_none p s x _ C base 3 E 1 q31_ hi v zs.length (ints zs) hs m D ?_;exact h v w (by rw [List.append_nil];exact m) ⟨rfl,rfl,rfl,le_refl _,fun _ _ _=>rfl⟩
def Truly (w:World) (e:Ending) (w':World):Prop:=e=.returned (.bool true)∧Below w.heap.size w w'
theorem Row.up {w w':World} {v:Value} {l:List Int} (h:Row w w.heap.size v l) (hb:Below w.heap.size w w'):Row w' w'.heap.size v l:=(h.below hb).mono hb.size
theorem Z0_ {B:Nat} {a b c:World} (h:Below B a b) (hB:B≤a.heap.size) (k:Below b.heap.size b c):Below B a c:=h.trans (k.mono (Nat.le_trans hB h.size))
theorem Row.here {w:World} {o:Obj} {v:Value} {l:List Int} (h:Row (w.alloc o) (w.heap.size+1) v l):Row (w.alloc o) (w.alloc o).heap.size v l:=by
 have e:(w.alloc o).heap.size=w.heap.size+1:=y31_;rw [e];exact h
theorem Row.upA {w:World} {v:Value} {l:List Int} (h:Row w w.heap.size v l) (o:Obj):Row (w.alloc o) (w.alloc o).heap.size v l:=h.up ((Below.refl _ w).alloc (le_refl _) o)
end Go.Proofs.YtgpljiijjnaofaaGreatDoor.Wp
namespace Go.Proofs.YtgpljiijjnaofaaGreatDoor
open Go.RowKit
namespace Wp
def Rows2 (w:World) (B:Nat) (v:Value) (pp:List (List Int)):Prop :=
 ∃ A c,v=.slice A pp.length c∧(pp.length≤c∧c≤maxLen∧(A=none→c=0)) ∧
  ∀ k,k<pp.length→∃ (ad:Addr) (u:Value),A=some ad∧ad.block<B∧w.cell? (ad.add k)=some u∧Row w B u (pp.getD k [])
theorem Rows2.below {w w':World} {B:Nat} {v:Value} {d:List (List Int)} (h:Rows2 w B v d) (hb:Below B w w'):Rows2 w' B v d:=by
 obtain ⟨A,c,p,o,j⟩:=h;refine ⟨A,c,p,o,fun k m=>?_⟩;obtain ⟨e,u,hA,hB,f,g⟩:=j k m;exact ⟨e,u,hA,hB,(hb.cell (by rw [Z2_];exact hB)).trans f,g.below hb⟩
theorem Rows2.mono {w:World} {B B':Nat} {v:Value} {d:List (List Int)} (h:Rows2 w B v d) (hB:B≤B'):Rows2 w B' v d:=by
 obtain ⟨A,c,p,o,j⟩:=h;refine ⟨A,c,p,o,fun k m=>?_⟩;obtain ⟨e,u,hA,hb,f,g⟩:=j k m;exact ⟨e,u,hA,k30_,f,g.mono hB⟩
theorem Rows2.up {w w':World} {v:Value} {c:List (List Int)} (h:Rows2 w w.heap.size v c) (hb:Below w.heap.size w w'):Rows2 w' w'.heap.size v c:=(h.below hb).mono hb.size
theorem Yb2 {w:World} {j k:Nat} {e f:TypeId} {y z v x:Nat} {d h:Value} {A B:List Value} (o:w.ownsRow j e y d v A) (p:w.ownsRow k f z h x B) (u:e≠f) :
  d.ownBlock=none∨d.ownBlock≠h.ownBlock:=by
 rcases o.2 with ⟨rfl,_⟩ | ⟨g,C,E,rfl,_,s,_⟩
 ·exact .inl rfl
 ·right
  rcases p.2 with ⟨rfl,_⟩ | ⟨m,D,F,rfl,_,c,_⟩
  ·simp [Value.ownBlock]
  ·intro q
   have r:g=m:=by simpa [Value.ownBlock] using q
   subst r;rw [s] at c;injection c with c;injection c with _ ht;exact u ht
def Fam (w:World) (B:Nat) (vs:List Value) (pp:List (List Int)):Prop :=
 vs.length=pp.length∧(∀ (i:Nat) (v:Value) (p:List Int),vs[i]?=some v→pp[i]?=some p→w.ownsRow B 3 1 v p.length (ints p)) ∧
  ∀ (i j:Nat) (v u:Value),vs[i]?=some v→vs[j]?=some u→i≠j→v.ownBlock=none∨v.ownBlock≠u.ownBlock
theorem Vv6 (w:World) (B:Nat):Fam w B [] []:=⟨rfl,fun i v p h=>by simp at h,fun i j v u h=>by simp at h⟩
theorem Fam.kept {w w':World} {B:Nat} {vs:List Value} {d:List (List Int)} (h:Fam w B vs d) {row:Option Nat} (e:w.grownBy w' row) (g:∀ v∈vs,v.ownBlock=none∨v.ownBlock≠row):Fam w' B vs d :=
 ⟨h.1,fun i v p c f=>(h.2.1 i v p c f).kept e (g v (List.mem_of_getElem? c)),h.2.2⟩
theorem Fam.apart {w w':World} {B:Nat} {vs:List Value} {c:List (List Int)} (h:Fam w B vs c) {g:Nat} (e:w.grownBy w' (some g)) (o:g<B):Fam w' B vs c:=by
 refine h.kept e fun v m=>?_;obtain ⟨i,hi,rfl⟩:=List.mem_iff_getElem.1 m;have f:i<c.length:=by rw [← h.1];exact hi
 have j:=h.2.1 i _ _ (List.getElem?_eq_getElem hi) (List.getElem?_eq_getElem f);rcases hb:vs[i].ownBlock with _ | k
 ·exact .inl rfl
 ·right
  have:=j.lt k hb;intro d;injection d with d;omega
theorem Fam.new {w w':World} {B:Nat} {vs:List Value} {c:List (List Int)} (h:Fam w B vs c) (d:w.grownBy w' none):Fam w' B vs c :=
 h.kept d fun v _=>by
  rcases v.ownBlock with _ | k
  ·exact .inl rfl
  ·exact .inr y31_
theorem Fam.more {w:World} {B:Nat} {vs:List Value} {f:List (List Int)} (h:Fam w B vs f):Fam w B (vs ++ [.slice none 0 0]) (f ++ [[]]):=by
 have q:(Value.slice none 0 0).ownBlock=none:=rfl;refine ⟨by simp [h.1],fun i v p hv d=>?_,fun i j v u hv c g=>?_⟩
 ·by_cases hi:i<vs.length
  ·rw [List.getElem?_append_left hi] at hv
   rw [List.getElem?_append_left (by rw [← h.1];exact hi)] at d;exact h.2.1 i v p hv d
  ·have e:i=vs.length:=k22_
   subst e;rw [List.getElem?_append_right (le_refl _)] at hv;rw [h.1,List.getElem?_append_right (le_refl _)] at d;simp at hv d;subst hv d;exact World.ownsRow_nil _ _ _ _
 ·by_cases hi:i<vs.length
  ·rw [List.getElem?_append_left hi] at hv
   by_cases m:j<vs.length
   ·rw [List.getElem?_append_left m] at c
    exact h.2.2 i j v u hv c g
   ·have o:j=vs.length:=by
     have:=(List.getElem?_eq_some_iff.1 c).1;simp at this;omega
    subst o;rw [List.getElem?_append_right (le_refl _)] at c;simp at c;subst c;rw [q];rcases v.ownBlock with _ | k
    ·exact .inl rfl
    ·exact .inr y31_
  ·have e:i=vs.length:=k22_
   subst e;rw [List.getElem?_append_right (le_refl _)] at hv;simp at hv;subst hv;exact .inl rfl
theorem Fam.grow {w w':World} {B:Nat} {vs:List Value} {y:List (List Int)} (h:Fam w B vs y) {at_:Nat} {u s:Value} {q:List Int} (r:vs[at_]?=some u) (C:w.grownBy w' u.ownBlock)
  (F:w'.ownsRow B 3 1 s q.length (ints q)) (hl:s.ownBlock=u.ownBlock∨s.ownBlock=some w.heap.size):Fam w' B (vs.set at_ s) (y.set at_ q):=by
 have g:at_<vs.length:=(List.getElem?_eq_some_iff.1 r).1;have A:∀ (j:Nat) (v:Value),vs[j]?=some v→∀ k,v.ownBlock=some k→k<w.heap.size:=by
  intro j v c k E;have o:=(List.getElem?_eq_some_iff.1 c).1;have D:j<y.length:=by rw [← h.1];exact o
  exact ((h.2.1 j v _ c (List.getElem?_eq_getElem D)).lt k E).2
 refine ⟨by simp [h.1],fun i v p c f=>?_,fun i j v z c d x=>?_⟩
 ·by_cases hi:i=at_
  ·subst hi
   rw [List.getElem?_set_self g] at c;rw [List.getElem?_set_self (by rw [← h.1];exact g)] at f;injection c with c;injection f with f;subst c f;exact F
  ·rw [List.getElem?_set_ne (fun e=>hi e.symm)] at c f
   exact (h.2.1 i v p c f).kept C (h.2.2 i at_ v u c r hi)
 ·by_cases hi:i=at_
  ·subst hi
   rw [List.getElem?_set_self g] at c;injection c with c;subst c;rw [List.getElem?_set_ne x] at d;rcases hl with hl | hl
   ·rw [hl]
    exact h.2.2 i j u z r d x
   ·right
    rw [hl];intro m;have:=A j z d _ m.symm;omega
  ·rw [List.getElem?_set_ne (fun e=>hi e.symm)] at c
   by_cases o:j=at_
   ·subst o
    rw [List.getElem?_set_self g] at d;injection d with d;subst d;rcases hl with hl | hl
    ·rw [hl]
     exact h.2.2 i j v u c r hi
    ·rcases hb:v.ownBlock with _ | k
     ·exact .inl rfl
     ·right
      rw [hl];intro m;injection m with m;have:=A i v c k hb;omega
   ·rw [List.getElem?_set_ne (fun e=>o e.symm)] at d
    exact h.2.2 i j v z c d x
theorem J2_ {w:World} {ops:Array Oper} {rest:List Oper} {o:Oper} {a:Act} {Q:Exit→Act→World→Prop} (r:o.guard=none) (s x:Operand) (T e:TypeId) (z:Value) (f:Nat)
  (C:o.op=.call { callee:=.builtin .append,args:=#[s,x],argTypes:=#[T,T] }) (E:Tryz.prog.underlying T=some (.slice e)) (B:(Tryz.prog.info? e).map (fun i=>(i.zero,i.size,i.bytes))=some (some z,1,f)) (J:z.cells.size=1)
  (base:Nat) (v u:Value) (c:List Value) (hs:a.eval s=v) (D:w.ownsRow base e 1 v c.length c) (g:Nat) (F:a.eval x=.slice (some ⟨g,0,none⟩) 1 1) (hc:w.cell? ⟨g,0,none⟩=some u) (p:u.oneCell'=true)
  (hl:c.length≤4194304) (q:f≤1024) (hb:base≤w.heap.size)
  (h:∀ d w',w'.ownsRow base e 1 d (c.length+1) (c ++ [u])→w.grownBy w' v.ownBlock→(d.ownBlock=v.ownBlock∨d.ownBlock=some w.heap.size)→wpList Tryz.prog ops Q rest (a.put o.dst d) w'):wpList Tryz.prog ops Q (o :: rest) a w:=by
 obtain ⟨K,hi,G,H,I⟩:=info_parts B;refine wpList_append_own_at w r s x T C base e K z 1 f E hi G H I J z31_ v c.length c hs D ⟨g,0,none⟩ 1 1 [u] F y31_ ?_ ?_ ?_ ?_ hb ?_
 ·intro j y k
  match j,k with
  | 0,k =>
   simp at k;subst k;rw [add_zero];exact hc
 ·intro y m
  simp at m;subst m;exact p
 ·unfold maxLen;omega
 ·have:(c.length+1) * f≤4194305 * 1024:=Nat.mul_le_mul k30_ q
  omega
 ·intro d w' L M _ N
  exact h d w' L M N
theorem P5_ {w:World} {B:Nat} {e:TypeId} {v:Value} {n:Nat} {f:List Value} (h:w.ownsRow B e 1 v n f) (j:0<n):∃ g c,v=.slice (some ⟨g,0,none⟩) n c∧B≤g:=by
 rcases h.2 with ⟨_,rfl⟩ | ⟨g,c,_,d,hb,_⟩
 ·omega
 ·exact ⟨g,c,d,hb⟩
theorem L3_ {w:World} {B:Nat} {e:TypeId} {v:Value} {n:Nat} {f:List Value} (h:w.ownsRow B e 1 v n f):∃ A c,v=.slice A n c:=by
 rcases h.2 with ⟨rfl,rfl⟩ | ⟨g,c,_,d,_⟩
 ·exact ⟨none,0,rfl⟩
 ·exact ⟨_,c,d⟩
theorem Fam.rows {w:World} {B:Nat} {v:Value} {vs:List Value} {c:List (List Int)} (h:Fam w B vs c) (d:w.ownsRow B 26 1 v vs.length vs):Rows2 w w.heap.size v c:=by
 have q:∀ k,k<c.length→∃ u,vs[k]?=some u∧Row w w.heap.size u (c.getD k []):=by
  intro k hk;have f:k<vs.length:=by rw [h.1];exact hk
  refine ⟨vs[k],List.getElem?_eq_getElem f,?_⟩;have:=h.2.1 k _ _ (List.getElem?_eq_getElem f) (List.getElem?_eq_getElem hk);rw [show c.getD k []=c[k] from by simp [List.getD,hk]];exact Row.of_own this rfl
 rcases d.2 with ⟨rfl,m⟩ | ⟨g,j,y,rfl,hb,z,o,p,_⟩
 ·have r:c.length=0:=by rw [← h.1];exact m
  have:c=[]:=List.eq_nil_of_length_eq_zero r;subst this;exact q7_
 ·refine ⟨some ⟨g,0,none⟩,j,by rw [h.1],⟨by rw [← h.1];exact o,p,fun e=>by cases e⟩,fun k hk=>?_⟩
  obtain ⟨u,x,s⟩:=q k hk;exact ⟨_,u,rfl,(d.lt g rfl).2,d.cells (g:=g) rfl k u x,s⟩
open Go.RowKit
theorem V3_ {w w':World} {b c:Bool} {e:Ending} (hb:b=c) (d:e=.returned (.bool c)) (h:Below w.heap.size w w'):Says w b e w':=⟨by rw [hb];exact d,h⟩
theorem Yb3 (l:List Int) (k:Nat) (f:k<l.length) (h:IsSet (l.take k)) (m:Fit (l.getD k 0)) (d:k=0∨l.getD (k - 1) 0<l.getD k 0):IsSet (l.take (k+1)):=by
 have e:l.take (k+1)=l.take k ++ [l.getD k 0]:=by
  rw [List.take_succ_eq_append_getElem f];simp [List.getD,f]
 rw [e];refine ⟨?_,fun x c=>?_⟩
 ·rw [List.pairwise_append]
  refine ⟨h.1,y31_,fun x c y g=>?_⟩;rw [List.mem_singleton] at g;subst g;obtain ⟨j,o,rfl⟩:=List.mem_iff_getElem.1 c;rw [List.length_take] at o;rcases d with q | d
  ·omega
  ·have hl:l.getD (k - 1) 0=(l.take k)[k - 1]'x35_:=by
    simp [List.getD,show k - 1<l.length from by omega]
   rw [hl] at d;rcases Nat.lt_or_ge j (k - 1) with p | r
   ·have:=List.pairwise_iff_getElem.1 h.1 j (k - 1) x35_ x35_ p
    omega
   ·have:j=k - 1:=by omega
    subst this;exact d
 ·rw [List.mem_append,List.mem_singleton] at c
  rcases c with c | c
  ·exact h.2 x c
  ·subst c;exact m
theorem Zo7 (l:List Int) (k:Nat) (c:k<l.length) (h:¬ Fit (l.getD k 0)∨(0<k∧l.getD k 0≤l.getD (k - 1) 0)):mayB l=false:=by
 rw [← Bool.not_eq_true,mayB_iff];intro hs;have d:l.getD k 0∈l:=by simp [List.getD,c]
 rcases h with h | ⟨e,h⟩
 ·exact h (hs.2 _ d)
 ·have:=List.pairwise_iff_getElem.1 hs.1 (k - 1) k k30_ c k30_
  simp [List.getD,c,show k - 1<l.length from by omega] at h;omega
theorem Xx3 (l:List Int) (k:Nat) (c:k=l.length) (h:IsSet (l.take k)):mayB l=true:=by
 subst c;rw [List.take_length] at h;exact I3_ h
theorem Zo8 (w:World) {w':World} (h:Below w.heap.size w w') {r:List Int} (c:r=[]):Gives w r (.returned (.slice none 0 0)) w':=⟨_,rfl,by rw [c];exact Row.nil_ _ _,h⟩
theorem Xx4 {a b:List Int} (ha:mayB a=true) (hb:mayB b=true):X2_ a b=sortL (a ++ b):=by unfold X2_;rw [ha,hb];rfl
theorem Xx5 {a b:List Int} (ha:mayB a=false):X2_ a b=[]:=by unfold X2_;rw [ha];rfl
theorem Xx6 {a b:List Int} (hb:mayB b=false):X2_ a b=[]:=by unfold X2_;rw [hb,Bool.and_false];rfl
def E4_ (a b:List Int) (w:Bool) (k:Nat):List Int:=(a.take k).filter fun x=>b.contains x==w
theorem Yk2 (a b:List Int) (w:Bool) (k:Nat) (h:k<a.length) (c:b.contains (a.getD k 0)=w):E4_ a b w (k+1)=E4_ a b w k ++ [a.getD k 0]:=by
 unfold E4_;rw [List.take_succ_eq_append_getElem h,List.filter_append];have e:a[k]=a.getD k 0:=by simp [List.getD,h]
 rw [e];congr 1;rw [List.filter_cons,if_pos (by simpa using c)];rfl
theorem Xx7 (a b:List Int) (w:Bool) (k:Nat) (h:k<a.length) (c:¬ b.contains (a.getD k 0)=w):E4_ a b w (k+1)=E4_ a b w k:=by
 unfold E4_;rw [List.take_succ_eq_append_getElem h,List.filter_append];have e:a[k]=a.getD k 0:=by simp [List.getD,h]
 rw [e,List.filter_cons,if_neg (by simpa using c)];simp
theorem Zg4 (a b:List Int) (w:Bool) (k:Nat):(E4_ a b w k).length≤a.length:=by
 unfold E4_;refine Nat.le_trans (List.length_filter_le _ _) ?_;simp;omega
theorem Yk3 (a b:List Int) (w:Bool) (ha:mayB a=true) (hb:mayB b=true):E4_ a b w a.length=partL a b w:=by
 unfold E4_ partL;rw [List.take_length,ha,hb];rfl
theorem Xm1 {a b:List Int} {w:Bool} (ha:mayB a=false):partL a b w=[]:=by unfold partL;rw [ha];rfl
theorem Xm2 {a b:List Int} {w:Bool} (hb:mayB b=false):partL a b w=[]:=by unfold partL;rw [hb,Bool.and_false];rfl
theorem Vv7 {a b:List Int} (ha:mayB a=false):subB a b=false:=by unfold subB;rw [ha];rfl
theorem Vv8 {a b:List Int} (hb:mayB b=false):subB a b=false:=by unfold subB;rw [hb,Bool.and_false];rfl
theorem Vv9 {a b:List Int} (ha:mayB a=true) (hb:mayB b=true):subB a b=decide (Z4_ a b=[]):=by unfold subB;rw [ha,hb];rfl
open Go.RowKit
theorem Xm3 (x:Int) (w:World):Calls Tryz.prog 69 #[.int .i64 x] w fun e w'=>e=.returned (.bool (decide (Fit x)))∧w'=w:=by
 by_cases c:0≤x
 ·by_cases d:x≤1099511627776
  ·have hf:decide (Fit x)=true:=by simp [Fit,c,d]
   exact y26_
  ·have hf:decide (Fit x)=false:=by simp [Fit,d]
   exact y26_
 ·have hf:decide (Fit x)=false:=by simp [Fit,c]
  exact y26_
theorem S5_ (x:Int) (b:Bool) (h:decide (Fit x)=b) (w:World):Calls Tryz.prog 69 #[.int .i64 x] w fun e w'=>e=.returned (.bool b)∧w'=w:=by
 subst h;exact Xm3 x w
theorem may_any (v:Value) (l:List Int) (w:World) (C:Row w w.heap.size v l) (hl:l.length≤9223372036854775807):Calls Tryz.prog 41 #[v] w (Says w (mayB l)):=by
 obtain ⟨A,c,rfl,_,p⟩:=C;have Hcell:=hid p;clear p;have L:(l.length:Int)≤9223372036854775807:=k30_
 go_enter Tryz.func41,Tryz.ntmps41
 go_wp2
 go_loopw [7] (fun m wr=>∃ k q:Nat,m=.int .i64 k∧k≤l.length∧wr=w.drewN q∧IsSet (l.take k)) (fun m _=>l.length - (intOf m).toNat)
 case atStart=>exact ⟨0,0,rfl,Nat.zero_le _,rfl,by simpa using A2_⟩
 case round =>
  obtain ⟨k,q,rfl,J,u,s⟩:=hrel;have Hwr:=hid u;have Hset:=hid s;clear u s;by_cases h:k<l.length
  ·obtain ⟨o,hA,G,hc⟩:=Hcell.out k h
   subst hA;have g:wr.cell? (o.add k)=some (.int .i64 (l.getD k 0)):=by rw [Hwr.out];exact hc
   clear hc;have d:=hid (Yb3 l k h Hset.out);have Hfail:=hid (Zo7 l k h);have Hq:Hid (Below w.heap.size w wr):=j22_;by_cases B:k=0
   ·subst B
    rw [add_zero] at g;generalize l.getD 0 0=x at g d Hfail;by_cases hx:Fit x
    ·have hfx:=S5_ x true q34_
     go_wp2_with (go_at_call 69;refine (hfx _).mono ?_;rintro e w' ⟨rfl,rfl⟩)
     go_roundw
     case rel=>exact ⟨1,q,rfl,k30_,Hwr.out,d.out hx (.inl trivial)⟩
     case measure=>simp [intOf];omega
    ·exact j9_
   ·obtain ⟨j,r⟩:∃ j,j+1=k:=⟨k - 1,k30_⟩
    have H:(k:Int) - 1=(j:Int):=k30_;have I:(j:Int)<(l.length:Int):=k30_;have z:wr.cell? (o.add j)=some (.int .i64 (l.getD j 0)):=y15_;have F:=hid r;have K:0<(k:Int):=k30_;rw [show k - 1=j from by omega] at d Hfail;clear r;generalize l.getD k 0=x at g d Hfail;generalize l.getD j 0=y at z d Hfail;by_cases hx:Fit x
    ·have hfx:=S5_ x true q34_
     by_cases E:y<x
     ·go_wp2_with (go_at_call 69;refine (hfx _).mono ?_;rintro e w' ⟨rfl,rfl⟩)
      go_roundw
      case rel=>exact ⟨k+1,q,z32_,k30_,Hwr.out,d.out hx (.inr E)⟩
      case measure=>simp [intOf];omega
     ·have D:x≤y:=by omega
      go_wp2_with (go_at_call 69;refine (hfx _).mono ?_;rintro e w' ⟨rfl,rfl⟩)
      go_ret;exact V3_ (Hfail.out (.inr ⟨k30_,D⟩)) rfl Hq.out
    ·exact j9_
  ·exact x10_
open Go.RowKit
def okA (right:Int) (l:List Int):Bool:=mayB l && (decide (l.length=0) || decide (l.getD (l.length - 1) 0<right))
def mayM (right:Int) (adj:List (List Int)):Bool:=decide (0≤right∧right≤64) && decide (adj.length≤64) && adj.all (okA right)
theorem mayM_off {right:Int} {adj:List (List Int)} (h:right<0∨64<right∨64<(adj.length:Int)):mayM right adj=false:=j16_
theorem mayM_miss {right:Int} {adj:List (List Int)} {i:Nat} (hi:i<adj.length) (h:okA right (adj.getD i [])=false):mayM right adj=false:=by
 unfold mayM;exact j4_
theorem mayM_all {right:Int} {adj:List (List Int)} (c:¬ right<0) (d:¬ 64<right) (h3:¬ 64<(adj.length:Int)) (h:∀ i,i<adj.length→okA right (adj.getD i [])=true):mayM right adj=true:=x6_
theorem Xx8 {right:Int} {l:List Int} (h:mayB l=false):okA right l=false:=by simp [okA,h]
theorem Zg5 {right:Int} {l:List Int} (h:mayB l=true) (c:l.length=0):okA right l=true:=by simp [okA,h,c]
theorem W6_ {right x:Int} {l:List Int} (h:mayB l=true) (d:0<l.length) (c:l.getD (l.length - 1) 0=x):okA right l=decide (x<right):=by
 unfold okA;rw [h,c,decide_eq_false (show ¬ l.length=0 by omega)];simp
theorem mayset_is (v:Value) (l:List Int) (b:Bool) (h:mayB l=b) (w:World) (hr:Row w w.heap.size v l):Calls Tryz.prog 41 #[v] w (Says w b):=x17_
theorem kmay_any (right:Int) (v:Value) (adj:List (List Int)) (w:World) (O:Rows2 w w.heap.size v adj) :
  Calls Tryz.prog 127 #[.int .i64 right,v] w (Says w (mayM right adj)):=by
 obtain ⟨A,c,rfl,_,z⟩:=O;have H:=hid z;clear z;by_cases q:right<0
 ·rw [mayM_off (.inl q)]
  exact k24_
 by_cases r:64<right
 ·rw [mayM_off (.inr (.inl r))]
  exact k24_
 by_cases s:64<(adj.length:Int)
 ·rw [mayM_off (.inr (.inr s))]
  exact k24_
 have Hall:=hid (fun h=>mayM_all (adj:=adj) q r s h)
 go_enter Tryz.func127,Tryz.ntmps127
 go_wp2
 go_loopw [20] (fun o wr=>∃ i:Nat,o=.int .i64 i∧i≤adj.length∧Below w.heap.size w wr∧∀ j,j<i→okA right (adj.getD j [])=true) (fun o _=>adj.length - (intOf o).toNat)
 case atStart=>exact ⟨0,rfl,Nat.zero_le _,Below.refl _ _,fun j D=>absurd D (Nat.not_lt_zero _)⟩
 case round =>
  obtain ⟨i,rfl,hi,y,F⟩:=hrel;have Hbr:=hid y;have Hok:=hid F;clear y F;by_cases E:i<adj.length
  ·have S:(i:Int)<(adj.length:Int):=by omega
   obtain ⟨J,u,hA,hab,C,k⟩:=H.out i E;subst hA;have M:=(Hbr.out.cell (p:=J.add i) y32_).trans C;have Hru:=hid ((k.below Hbr.out).mono Hbr.out.size);have Hmiss:=hid (fun h=>mayM_miss (right:=right) E h);have Hnext:Hid (okA right (adj.getD i [])=true→∀ j,j<i+1→okA right (adj.getD j [])=true):=fun h j D=>y10_;clear C hab Hok;generalize adj.getD i []=l at *
   rcases hm:mayB l with _ | _
   ·have Hm:=hid hm
    obtain ⟨G,K,rfl,_⟩:=k;clear hm;rw [Hmiss.out (Xx8 Hm.out)];exact j30_
   ·have Hm:=hid hm
    obtain ⟨G,K,rfl,hcap,B⟩:=k;have I:=hid B;obtain ⟨L,d⟩:∃ L,l.length=L:=⟨_,rfl⟩;have HL:=hid d;have R:(L:Int)≤9223372036854775807:=z6_;rw [d] at M Hru;clear hm B hcap d;by_cases h0:L=0
    ·have hok1:=hid (Zg5 (right:=right) Hm.out (HL.out.trans h0))
     exact x5_
    ·obtain ⟨x,m⟩:∃ x,l.getD (l.length - 1) 0=x:=⟨_,rfl⟩
     obtain ⟨al,N,halb,g⟩:=I.out (l.length - 1) x40_;have Hlast:=hid (W6_ (right:=right) Hm.out x40_ m);rw [m,HL.out] at g;subst N;have Q:(0:Int)<(L:Int):=k30_;have T:IntKind.i64.wrap ((L:Int) - 1)=(L:Int) - 1:=k31_;have U:(0:Int)≤(L:Int) - 1:=k30_;have V:(L:Int) - 1<(L:Int):=k30_;have W:((L:Int) - 1).toNat=L - 1:=k30_;clear m h0
     go_wp2_with fail
     refine (mayset_is _ l true Hm.out _ Hru.out).mono ?_;rintro e w1 ⟨rfl,hb1⟩;have Hb1:=hid (Z0_ Hbr.out (le_refl _) hb1);have P:=(Hb1.out.cell (p:=al.add (L - 1)) j34_).trans g;clear hb1 g;by_cases hxr:x<right
     ·have hxr2:¬ right≤x:=by omega
      have Hok1:Hid (okA right l=true):=Hlast.out.trans (decide_eq_true hxr);exact y4_
     ·exact q27_
  ·exact q5_
open Go.RowKit
def from_ (x:Int):List Int→List Int
 | []=>[]
 | y :: r=>if y<x then from_ x r else y :: r
theorem Vj0 {x y:Int} {r:List Int} (h:y<x):from_ x (y :: r)=from_ x r:=by rw [from_,if_pos h]
theorem Vj1 {x y:Int} {r:List Int} (h:¬ y<x):from_ x (y :: r)=y :: r:=by rw [from_,if_neg h]
theorem Yb4 (x:Int):∀ l,(from_ x l).Sublist l
 | []=>List.Sublist.refl _
 | y :: r=>by
  unfold from_;split
  ·exact (Yb4 x r).cons y
  ·exact List.Sublist.refl _
theorem Yb5 (x z:Int) (c:x≤z):∀ l,(z∈from_ x l↔z∈l)
 | []=>Iff.rfl
 | y :: r=>by
  unfold from_;split
  ·rw [Yb5 x z c r,List.mem_cons]
   constructor
   ·exact .inr
   ·rintro (e | h)
    ·omega
    ·exact h
  ·exact Iff.rfl
theorem Xx9 (x:Int) (l:List Int) (h:l.Pairwise (·<·)) (y:Int) (r:List Int) (c:l=y :: r) (f:¬ y<x):(x∈l↔y=x):=by
 subst c;rw [List.pairwise_cons] at h;rw [List.mem_cons];constructor
 ·rintro (e | d)
  ·exact e.symm
  ·have:=h.1 x d;omega
 ·intro e;exact .inl e.symm
def U3_ (a b b':List Int) (k:Nat):Prop:=b'.Pairwise (·<·)∧b'.length≤b.length∧∀ i,k≤i→i<a.length→(a.getD i 0∈b↔a.getD i 0∈b')
theorem Zo9 {a b:List Int} (hb:IsSet b):U3_ a b b 0:=⟨hb.1,le_refl _,fun _ _ _=>Iff.rfl⟩
theorem Yy2 {a b c:List Int} {k:Nat} (ha:IsSet a) (e:k<a.length) (h:U3_ a b c k):U3_ a b (from_ (a.getD k 0) c) k:=by
 have hs:=Yb4 (a.getD k 0) c;refine ⟨h.1.sublist hs,Nat.le_trans hs.length_le h.2.1,fun i hi d=>?_⟩;rw [h.2.2 i hi d,Yb5 _ _ ?_];rcases Nat.lt_or_ge k i with f | g
 ·have:=List.pairwise_iff_getElem.1 ha.1 k i e d f
  simp [List.getD,e,d];omega
 ·have:i=k:=by omega
  subst this;exact Int.le_refl _
theorem B0_ {a b c:List Int} {k:Nat} (h:U3_ a b c k):U3_ a b c (k+1):=⟨h.1,h.2.1,fun i hi=>h.2.2 i k30_⟩
theorem Yk4 {a b:List Int} {k:Nat} (c:k<a.length) (h:U3_ a b [] k):b.contains (a.getD k 0)=false:=by
 have:=h.2.2 k (le_refl _) c;rw [← Bool.not_eq_true,List.contains_iff_mem,this];simp
theorem Yy3 {a b:List Int} {k:Nat} {y:Int} {r:List Int} (d:k<a.length) (h:U3_ a b (y :: r) k) (e:¬ y<a.getD k 0):b.contains (a.getD k 0)=decide (y=a.getD k 0):=by
 have c:=h.2.2 k (le_refl _) d;rw [Xx9 _ _ h.1 y r rfl e] at c;rw [Bool.eq_iff_iff,List.contains_iff_mem,c,decide_eq_true_iff]
theorem Row.tail {w:World} {B:Nat} {v:Value} {y:Int} {r:List Int} (h:Row w B v (y :: r)):∃ d c,v=.slice (some d) (r.length+1) (c+1)∧w.cell? d=some (.int .i64 y)∧d.block<B∧r.length≤c∧c+1≤maxLen∧∀ A':Option Addr,(A'=some (d.add 1)∨(c=0∧A'=some d))→Row w B (.slice A' r.length c) r:=by
 obtain ⟨A,c,rfl,⟨g,p,h3⟩,o⟩:=h;obtain ⟨d,rfl,m,hc⟩:=o 0 y31_;rw [add_zero] at hc;obtain ⟨f,rfl⟩:∃ f,c=f+1:=⟨c - 1,by simp at g;omega⟩;refine ⟨d,f,y31_,by simpa using hc,m,by simpa using g,p,fun A' hA=>⟨A',f,rfl,⟨by simpa using g,k30_,fun e=>by rcases hA with h | ⟨_,h⟩<;>rw [e] at h<;>cases h⟩,fun k z=>?_⟩⟩;rcases hA with rfl | ⟨u,_⟩
 ·obtain ⟨s,j,x,q⟩:=o (k+1) j31_
  injection j with j;subst j;refine ⟨_,rfl,by rw [Z2_];exact m,?_⟩;have e:(d.add 1).add k=d.add (k+1):=by rw [Addr.add_add,Nat.add_comm]
  rw [e,q];simp
 ·simp at g;omega
theorem Xm4 (O P:Value) (a b:List Int) (within:Bool) (w:World) (ha:Row w w.heap.size O a) (hb:Row w w.heap.size P b) (x1:a.length≤1048576) (x2:b.length≤1048576) (q:mayB a=true) (s:mayB b=true) :
  Calls Tryz.prog 94 #[O,P,.bool within] w (GivesF w (partL a b within)):=by
 have Q:=hid ha;have E:=hid hb;obtain ⟨A1,c1,rfl,_,J⟩:=ha;obtain ⟨A2,c2,rfl,_⟩:=hb;have S:=hid J;clear J;have R:=hid (Yk3 a b within q s);have T:=hid (mayB_iff.1 q);have U:=hid (mayB_iff.1 s)
 go_enter Tryz.func94,Tryz.ntmps94
 go_wp2_with fail
 refine (may_any _ a w Q.out (Nat.le_trans x1 z31_)).mono ?_;rintro e w1 ⟨rfl,j⟩;rw [q]
 go_wp2_with fail
 refine (may_any _ b w1 ((E.out.below j).mono j.size) (Nat.le_trans x2 z31_)).mono ?_;rintro e w2 ⟨rfl,I⟩;rw [s];have H:Below w.heap.size w w2:=j.trans (I.mono j.size);clear j I q s;go_wp2
 go_loopw [1,7,21] (fun x3 vl C wr=>∃ (k:Nat) (d:List Int),C=.int .i64 k∧k≤a.length∧Row wr w.heap.size x3 d∧U3_ a b d k∧wr.ownsRow w.heap.size 3 1 vl (E4_ a b within k).length (ints (E4_ a b within k))∧Below w.heap.size w wr) (fun _ _ C _=>a.length - (intOf C).toNat)
 case atStart=>exact ⟨0,b,rfl,Nat.zero_le _,E.out.below H,Zo9 U.out,World.ownsRow_nil _ _ _ _,H⟩
 case round =>
  obtain ⟨k,d,rfl,hk,K,L,hown,hbr⟩:=hrel;by_cases c:k<a.length
  ·obtain ⟨W,hA,hab,hc⟩:=S.out k c
   subst hA;have X:wr.cell? (W.add k)=some (.int .i64 (a.getD k 0)):=(hbr.cell y32_).trans hc;clear hc;have x9:=Zg4 a b within k;have Hyes:=hid (Yk2 a b within k c);have Hno:=hid (Xx7 a b within k c);have Hsv:=hid (Yy2 T.out c L);have G:=hid (fun h=>Yk4 (a:=a) (b:=b) c h);have F:=hid (fun y r h=>Yy3 (a:=a) (b:=b) (y:=y) (r:=r) c h);clear L;generalize a.getD k 0=x at X Hyes Hno Hsv G F;go_wp2
   go_loopw [1] (fun D x4=>∃ r:List Int,x4=wr∧Row wr w.heap.size D r∧from_ x d=from_ x r) (fun D _=>lenOf D)
   case atStart=>exact ⟨d,rfl,K,rfl⟩
   case round =>
    obtain ⟨r,rfl,m,z⟩:=hrel;have u:=Hsv;rw [z] at Hsv;have p:=hid z;clear z K;cases r with
    | nil =>
     clear u p;have Hc:=hid (G.out Hsv.out);have Hrr:=hid m;obtain ⟨A3,c3,rfl,_⟩:=m;cases within
     ·
      have Hx:=hid (Hyes.out (by rw [Hc.out]));clear Hyes Hno
      go_wp2_with (at_builtin;refine Y6_ rfl _ _ rfl w.heap.size _ _ _ (E4_ a b false k) [x] rfl rfl (hown.alloc _) (Row.lit1 _ x) k30_ y31_ x34_ ?_)
      intro v' w4 hown' hgrow;have hb4:Below w.heap.size wr w4:=((Below.refl _ wr).alloc hbr.size _).grown hgrow x34_ (fun i hi=>(hown.lt i hi).1);go_wp2
      go_roundw
      case rel=>exact ⟨k+1,[],z32_,k30_,Hrr.out.below hb4,B0_ Hsv.out,by rw [Hx.out,List.length_append];exact hown',hbr.trans hb4⟩
      case measure=>simp [intOf];omega
     ·
      have Hx:=hid (Hno.out (by rw [Hc.out];decide));clear Hyes Hno;go_wp2
      go_roundw
      case rel=>exact ⟨k+1,[],z32_,k30_,Hrr.out,B0_ Hsv.out,by rw [Hx.out];exact hown,hbr⟩
      case measure=>simp [intOf];omega
    | cons y r =>
     have Hrr:=hid m;obtain ⟨x5,c3,rfl,g2,x6,x7,Y,M⟩:=m.tail;have V:=hid M;clear M m;have xa:(r.length:Int)≤(c3:Int):=k30_;have x8:(c3:Int)≤9223372036854775806:=by unfold maxLen at Y;omega
     by_cases N:y<x
     ·rw [Vj0 N] at p
      clear Hsv u;go_wp2
      go_roundw
      case rel =>
       refine ⟨r,trivial,V.out _ ?_,p.out⟩;by_cases v:c3=0
       ·rw [if_pos v];exact .inr ⟨v,rfl⟩
       ·rw [if_neg v];exact .inl (by simp [Addr.add])
      case measure=>simp [lenOf]
     ·rw [Vj1 N] at Hsv
      clear u p;have o:=hid (F.out y r Hsv.out k30_);have xc:decide (y<x)=false:=j31_;by_cases B:y=x
      ·subst B
       have Hc:Hid (b.contains y=true):=by
        show b.contains y=true;rw [o.out];simp
       clear o;cases within
       ·
        exact q6_
       ·
        have Hx:=hid (Hyes.out (by rw [Hc.out]));clear Hyes Hno
        go_wp2_with (at_builtin;refine Y6_ rfl _ _ rfl w.heap.size _ _ _ (E4_ a b true k) [y] rfl rfl (hown.alloc _) (Row.lit1 _ y) k30_ y31_ x34_ ?_)
        exact k3_
      ·have Hc:Hid (b.contains x=false):=by
        show b.contains x=false;rw [o.out];simp [B]
       have xb:(y==x)=false:=by simp [B]
       clear o;cases within
       ·
        have Hx:=hid (Hyes.out (by rw [Hc.out]));clear Hyes Hno
        go_wp2_with (at_builtin;refine Y6_ rfl _ _ rfl w.heap.size _ _ _ (E4_ a b false k) [x] rfl rfl (hown.alloc _) (Row.lit1 _ x) k30_ y31_ x34_ ?_)
        exact k3_
       ·
        exact q6_
  ·have x0:k=a.length:=by omega
   subst x0;rw [R.out] at hown;go_wp2;go_ret;exact ⟨_,rfl,Row.of_own hown rfl,hbr,fun g Z=>(hown.lt g Z).1⟩
theorem Yb6 (c d:Value) (a b:List Int) (within:Bool) (w:World) (ha:Row w w.heap.size c a) (hb:Row w w.heap.size d b) (j:a.length≤1048576) (k:b.length≤1048576) :
  Calls Tryz.prog 94 #[c,d,.bool within] w (GivesF w (partL a b within)):=by
 rcases hma:mayB a with _ | _
 ·have h:=hid ha
  clear ha hb;have Hr:=hid (Xm1 (b:=b) (w:=within) hma)
  go_enter Tryz.func94,Tryz.ntmps94
  go_wp2_with fail
  refine (may_any c a w h.out (Nat.le_trans j z31_)).mono ?_;exact z13_
 ·rcases hmb:mayB b with _ | _
  ·have h:=hid ha
   have m:=hid hb;clear ha hb;have Hr:=hid (Xm2 (a:=a) (w:=within) hmb)
   go_enter Tryz.func94,Tryz.ntmps94
   go_wp2_with fail
   refine (may_any c a w h.out (Nat.le_trans j z31_)).mono ?_;rintro e w1 ⟨rfl,hb1⟩;rw [hma]
   go_wp2_with fail
   refine (may_any d b w1 ((m.out.below hb1).mono hb1.size) (Nat.le_trans k z31_)).mono ?_;exact y11_
  ·exact Xm4 c d a b within w ha hb j k hma hmb
theorem Zv9 (c d:Value) (a b:List Int) (w:World) (ha:Row w w.heap.size c a) (hb:Row w w.heap.size d b) (k:a.length≤1048576) (m:b.length≤1048576) :
  Calls Tryz.prog 67 #[c,d] w (GivesF w (Z4_ a b)):=by
 have g:=hid (Yb6 c d a b false w ha hb k m);clear ha hb
 go_enter Tryz.func67,Tryz.ntmps67
 go_wp2_with fail
 refine g.out.mono ?_;rintro e q ⟨p,rfl,o,h,j⟩;go_wp2;go_ret;exact ⟨_,rfl,o,h,j⟩
theorem E5_ (c d:Value) (a b:List Int) (w:World) (ha:Row w w.heap.size c a) (hb:Row w w.heap.size d b) (e:a.length≤1048576) (g:b.length≤1048576) :
  Calls Tryz.prog 67 #[c,d] w (Gives w (Z4_ a b)):=(Zv9 c d a b w ha hb e g).mono fun _ _ h=>h.gives
theorem S6_ (h j:Value) (a b:List Int) (w:World) (ha:Row w w.heap.size h a) (hb:Row w w.heap.size j b) (p:a.length≤1048576) (u:b.length≤1048576) :
  Calls Tryz.prog 153 #[h,j] w (Says w (subB a b)):=by
 have k:=hid ha;have s:=hid hb;clear ha hb;rcases hma:mayB a with _ | _
 ·have d:=hid (Vv7 (b:=b) hma)
  go_enter Tryz.func153,Tryz.ntmps153
  go_wp2_with fail
  refine (may_any h a w k.out (Nat.le_trans p z31_)).mono ?_;rintro e q ⟨rfl,c⟩;rw [hma];go_wp2;go_ret;exact V3_ d.out rfl c
 ·rcases hmb:mayB b with _ | _
  ·have d:=hid (Vv8 (a:=a) hmb)
   go_enter Tryz.func153,Tryz.ntmps153
   go_wp2_with fail
   refine (may_any h a w k.out (Nat.le_trans p z31_)).mono ?_;rintro e q ⟨rfl,c⟩;rw [hma]
   go_wp2_with fail
   refine (may_any j b q ((s.out.below c).mono c.size) (Nat.le_trans u z31_)).mono ?_;rintro e v ⟨rfl,o⟩;rw [hmb];go_wp2;go_ret;exact V3_ d.out rfl (c.trans (o.mono c.size))
  ·have d:=hid (Vv9 hma hmb)
   go_enter Tryz.func153,Tryz.ntmps153
   go_wp2_with fail
   refine (may_any h a w k.out (Nat.le_trans p z31_)).mono ?_;rintro e q ⟨rfl,c⟩;rw [hma]
   go_wp2_with fail
   refine (may_any j b q ((s.out.below c).mono c.size) (Nat.le_trans u z31_)).mono ?_;rintro e v ⟨rfl,o⟩;rw [hmb];have g:Below w.heap.size w v:=c.trans (o.mono c.size);clear c o
   go_wp2_with fail
   refine (E5_ h j a b v ((k.out.below g).mono g.size) ((s.out.below g).mono g.size) p u).mono ?_;rintro e G ⟨F,rfl,B,C⟩;have x:=g.trans (C.mono g.size);have z:=Yy1 a b false;change (Z4_ a b).length≤_ at z;generalize Z4_ a b=m at d B z;obtain ⟨D,c3,rfl,_⟩:=B;cases m with
   | nil =>
    go_wp2;go_ret;exact V3_ d.out rfl x
   | cons y r =>
    have E:((r.length:Int)+1==0)=false:=j31_;go_wp2;go_ret;exact V3_ d.out rfl x
open Go.RowKit
def upTo (k:Nat):List Int:=(List.range k).map Int.ofNat
theorem Xv0 (k:Nat):upTo (k+1)=upTo k ++ [(k:Int)]:=by
 unfold upTo;rw [List.range_succ,List.map_append];rfl
theorem Q4_ (k:Nat):(upTo k).length=k:=by simp [upTo]
theorem Xs7 {n:Int} (h:n<1∨100000<n):allL n=[]:=if_pos h
theorem Xv1 {n:Nat} (c:1≤n) (d:n≤100000):allL n=upTo n:=by
 unfold allL upTo;rw [if_neg k30_];rfl
def filled (n k:Nat):Array Value:=(ints (upTo k ++ List.replicate (n - k) 0)).toArray
theorem Yy4 {n k:Nat} (h:k≤n):(filled n k).size=n:=by
 simp [filled,Z7_,Q4_];omega
theorem Yk5 {n k:Nat} (h:k<n):(filled n k).setIfInBounds k (.int .i64 (k:Int))=filled n (k+1):=by
 unfold filled;rw [List.setIfInBounds_toArray];congr 1;rw [Xv0,X3_,X3_,X3_,List.append_assoc];have e:List.replicate (n - k) (0:Int)=0 :: List.replicate (n - (k+1)) 0:=by
  rw [show n - k=(n - (k+1))+1 from by omega,List.replicate_succ]
 rw [e,List.set_append_right _ _ (by rw [Z7_,Q4_];exact le_refl _),Z7_,Q4_,Nat.sub_self];rfl
theorem Yk6 (n:Nat):filled n n=(ints (upTo n)).toArray:=by
 unfold filled;rw [Nat.sub_self,List.replicate_zero,List.append_nil]
theorem Yk7 {w:World} {g n:Nat} (h:Blk w g 3 (filled n n)) (c:n≤maxLen):Row w w.heap.size (.slice (some ⟨g,0,none⟩) n n) (upTo n):=by
 rw [Yk6] at h;refine ⟨_,n,by rw [Q4_],⟨by rw [Q4_];exact le_refl _,c,fun e=>by cases e⟩,fun k hk=>⟨_,rfl,h.lt,?_⟩⟩;exact x14_
theorem N7_ (w:World) (g n:Nat) (h:w.ownsRow g 3 1 (.slice (some ⟨g,0,none⟩) n n) n (madeCells (Value.int .i64 0).cells (n * 1)).toList):Blk w g 3 (filled n 0):=by
 rcases h.2 with ⟨e,_⟩ | ⟨q,p,c,o,hb,k,d,f,h3,j⟩
 ·cases e
 ·injection o with e1 _ e3
  injection e1 with e1;injection e1 with e1;subst e1 e3;unfold Blk;rw [k];have m:(madeCells (Value.int IntKind.i64 0).cells (n * 1)).toList=(filled n 0).toList:=by
   unfold madeCells filled;simp only [upTo,List.range_zero,List.map_nil,List.nil_append,Nat.sub_zero,Nat.mul_one];apply List.ext_getElem
   ·simp [ints]
   ·intro i d f
    simp [ints,Value.cells,Nat.mod_one]
  have hc:c.toList=(filled n 0).toList:=by
   rw [← m,← j,List.take_of_length_le];rw [Array.length_toList,h3];exact le_refl _
  rw [Array.toList_inj.1 hc]
theorem Vg2 (n:Nat) (w:World) (q:1≤n) (r:n≤100000) :
  Calls Tryz.prog 85 #[.int .i64 n] w (Gives w (allL n)):=by
 have o:=hid (Xv1 q r);have D:¬ (n:Int)<1:=k30_;have E:¬ (100000:Int)<(n:Int):=k30_;obtain ⟨z,hi,x,y,hz2⟩:=info_parts info3
 go_enter Tryz.func85,Tryz.ntmps85
 go_wp2_with (at_make;refine wpList_make_full w rfl _ _ 26 rfl w.heap.size 3 z (.int .i64 0) 1 q31_ hi x y .i64 .i64 _ _ n rfl rfl k32_ k32_ x38_ j32_ (le_refl _) ?_)
 intro m j g;have c:=N7_ m w.heap.size n (by rw [Nat.mul_one];exact j);have s:Below w.heap.size w m:=(Below.refl _ w).grown g (le_refl _) (fun i hi=>by cases hi);clear j g;go_wp2
 go_loopw [15] (fun d wr=>∃ k:Nat,d=.int .i64 k∧k≤n∧Blk wr w.heap.size 3 (filled n k)∧Below w.heap.size w wr) (fun d _=>n - (intOf d).toNat)
 case atStart=>exact ⟨0,rfl,Nat.zero_le _,c,s⟩
 case round =>
  obtain ⟨k,rfl,u,c,e⟩:=hrel;by_cases h:k<n
  ·have hs:=Yy4 u
   have B:wr.cell? ⟨w.heap.size,k,none⟩=some ((filled n k)[k]'k30_):=by rw [c.cell];simp [hs,h]
   have C:=c.frozen k;have p:=hid c;clear c;go_wp2
   go_roundw
   case rel=>exact ⟨k+1,z32_,k30_,by rw [← Yk5 h];exact p.out.set_ k _,e.setCell (by exact le_refl _) _⟩
   case measure=>simp [intOf];omega
  ·have v:k=n:=by omega
   subst v;go_wp2;go_ret;exact ⟨_,rfl,by rw [o.out];exact Yk7 c j32_,e⟩
theorem I4_ (n:Int) (w:World):Calls Tryz.prog 85 #[.int .i64 n] w (Gives w (allL n)):=by
 by_cases c:n<1
 ·have Hf:=hid (Xs7 (.inl c))
  exact j15_
 ·by_cases d:100000<n
  ·have Hf:=hid (Xs7 (.inr d))
   exact j15_
  ·obtain ⟨m,rfl⟩:∃ m:Nat,n=(m:Int):=⟨n.toNat,k30_⟩
   exact Vg2 m w k30_ k30_
open Go.RowKit
theorem Yk8 (v:Value) (l:List Int) (w:World) (E:Row w w.heap.size v l) (hl:l.length≤9223372036854775807):Calls Tryz.prog 44 #[v] w (Says w (mayB l)):=by
 obtain ⟨A,c,rfl,_,p⟩:=E;have Hcell:=hid p;clear p;have N:(l.length:Int)≤9223372036854775807:=k30_
 go_enter Tryz.func44,Tryz.ntmps44
 go_wp2
 go_loopw [3] (fun m wr=>∃ k q:Nat,m=.int .i64 k∧k≤l.length∧wr=w.drewN q∧IsSet (l.take k)) (fun m _=>l.length - (intOf m).toNat)
 case atStart=>exact ⟨0,0,rfl,Nat.zero_le _,rfl,by simpa using A2_⟩
 case round =>
  obtain ⟨k,q,rfl,K,u,s⟩:=hrel;have Hwr:=hid u;have Hset:=hid s;clear u s;by_cases g:k<l.length
  ·obtain ⟨o,hA,H,hc⟩:=Hcell.out k g
   subst hA;have e:wr.cell? (o.add k)=some (.int .i64 (l.getD k 0)):=by rw [Hwr.out];exact hc
   clear hc;have L:(k:Int)<(l.length:Int):=k30_;have d:=hid (Yb3 l k g Hset.out);have Hfail:=hid (Zo7 l k g);have Hq:Hid (Below w.heap.size w wr):=j22_;by_cases D:k=0
   ·subst D
    rw [add_zero] at e;generalize l.getD 0 0=x at e d Hfail;by_cases hx0:0≤x
    ·by_cases hx1:x≤1099511627776
     ·have d0:decide (x<0)=false:=by simp;omega
      have d1:decide (1099511627776<x)=false:=j31_;have B:decide ((0:Int)<0)=false:=rfl;go_wp2
      go_quiet (fail)
      go_wp2
      go_roundw
      case rel=>exact ⟨1,q+nq,rfl,k30_,by rw [Hwr.out,World.drewN_drewN],d.out ⟨hx0,hx1⟩ (.inl trivial)⟩
      case measure=>simp [intOf];omega
     ·exact z26_
    ·exact y27_
   ·obtain ⟨j,r⟩:∃ j,j+1=k:=⟨k - 1,k30_⟩
    have I:(k:Int) - 1=(j:Int):=k30_;have J:(j:Int)<(l.length:Int):=k30_;have C:wr.cell? (o.add j)=some (.int .i64 (l.getD j 0)):=y15_;have G:=hid r;have M:0<k:=k30_;rw [show k - 1=j from by omega] at d Hfail;clear r;generalize l.getD k 0=x at e d Hfail;generalize l.getD j 0=y at C d Hfail;by_cases hx0:0≤x
    ·by_cases hx1:x≤1099511627776
     ·by_cases z:y<x
      ·have d0:decide (x<0)=false:=by simp;omega
       have d1:decide (1099511627776<x)=false:=j31_;have B:decide (x≤y)=false:=j31_;go_wp2
       go_quiet (fail)
       go_wp2
       go_roundw
       case rel=>exact ⟨k+1,q+nq,z32_,k30_,by rw [Hwr.out,World.drewN_drewN],d.out ⟨hx0,hx1⟩ (.inr z)⟩
       case measure=>simp [intOf];omega
      ·have F:x≤y:=by omega
       have Hf:=hid (Hfail.out (.inr ⟨k30_,F⟩));have d0:decide (x<0)=false:=j31_;have d1:decide (1099511627776<x)=false:=j31_;clear z;exact y5_
     ·exact z26_
    ·exact y27_
  ·exact x10_
theorem P6_ (v:Value) (l:List Int) (w:World) (c:Row w w.heap.size v l) (hl:l.length≤9223372036854775807) {x:Bool} (h:mayB l=x):Calls Tryz.prog 44 #[v] w (Says w x):=by
 subst h;exact Yk8 v l w c hl
open Go.RowKit
open Go.RowKit
open Go.RowKit
end Wp
end Go.Proofs.YtgpljiijjnaofaaGreatDoor
namespace Go.Proofs.YtgpljiijjnaofaaGreatDoor.Wp
def bef (l:List Int) (i j:Int):Prop:=l.getD j.toNat 0<l.getD i.toNat 0∨(l.getD i.toNat 0=l.getD j.toNat 0∧i<j)
instance (l:List Int) (i j:Int):Decidable (bef l i j):=by unfold bef;infer_instance
def idxs (n:Nat):List Int:=(List.range n).map Int.ofNat
structure Places (l r:List Int):Prop where
 perm:r.Perm (idxs l.length)
 sorted:r.Pairwise (bef l)
def layB (l:List Int) (i:Int):List Int→List Int
 | []=>[i]
 | k :: r=>if l.getD k.toNat 0<l.getD i.toNat 0 then i :: k :: r else k :: layB l i r
def Xv2 (l:List Int):Nat→List Int
 | 0=>[]
 | n+1=>layB l (n:Int) (Xv2 l n)
def Vg3 (l:List Int):List Int:=Xv2 l l.length
end Go.Proofs.YtgpljiijjnaofaaGreatDoor.Wp
