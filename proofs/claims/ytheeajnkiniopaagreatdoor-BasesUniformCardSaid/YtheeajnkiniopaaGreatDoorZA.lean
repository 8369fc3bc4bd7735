/- Sets of numbers as lists, plain: what layer 2's calls answer, and that sets are an algebra. Nothing of the program here. Small laws of memory that the walks of this seat use: a block that is known whole; a list of integers in memory; what a call gives. Memory of this seat: a list of lists of integers; a family of rows that the call itself makes, no two in one block. Plain facts on sets as lists, for the walks: whether a list is a set, step by step; what both have, step by step. Whether a list is a set, as the program and as the document ask it, walked. Two sides that may be: the program's May, walked. The program's part (Meet, Minus), walked: both lists rise, and one goes along the other. The program's Has and All, walked. Whether a list is a set, as the document asks it, walked. The document's answer: is a number in a list: walked. The document's meet and union of sets, walked. -/
import Derived.Lib.SlicesCompact
import Derived.Test.YtheeajnkiniopaaGreatDoorProg
import Derived.WalkKit
import Derived.OwnWalk
import Derived.Lib.Hide
import Derived.Laws.Cells
import Derived.Laws.Rows
import Derived.Deep.Draws
import Derived.BigQuiet
import Derived.Deep.QuietTactic
import Derived.Laws.AppendOwnNone
import Derived.Maps.AppendAt
import Derived.Lib.OwnBridge
import Derived.DataElems
import Derived.Test.YtheeajnkiniopaaGreatDoorX0A
import Derived.Test.YtheeajnkiniopaaGreatDoorX0B
set_option maxHeartbeats 8000000
set_option maxRecDepth 100000
open Go.Lib (hid)
open Nat (le_refl)
namespace Go.Proofs.YtheeajnkiniopaaGreatDoor.Wp
def Fit (x:Int):Prop:=0≤x∧x≤1099511627776
instance (x:Int):Decidable (Fit x):=inferInstanceAs (Decidable (_∧_))
def IsSet (l:List Int):Prop:=l.Pairwise (·<·)∧∀ x∈l,Fit x
instance (l:List Int):Decidable (IsSet l):=inferInstanceAs (Decidable (_∧_))
def mayB (l:List Int):Bool:=decide (IsSet l)
theorem Q3_:IsSet []:=⟨List.Pairwise.nil,fun _ h=>absurd h y30_⟩
theorem Zs6:∀ {a b:List Int},a.Pairwise (·<·)→b.Pairwise (·<·)→(∀ x,x∈a↔x∈b)→a=b
 | [],[],_,_,_=>rfl
 | [],y :: b,_,_,h=>absurd ((h y).2 y30_) y30_
 | x :: a,[],_,_,h=>absurd ((h x).1 y30_) y30_
 | x :: a,y :: b,ha,hb,h=>by
  rw [List.pairwise_cons] at ha hb;have g:x=y:=by
   rcases List.mem_cons.1 ((h x).1 y30_) with e | f
   ·exact e
   ·rcases List.mem_cons.1 ((h y).2 y30_) with e | j
    ·exact e.symm
    ·have:=hb.1 x f
     have:=ha.1 y j;omega
  subst g;congr 1;refine Zs6 ha.2 hb.2 fun z=>⟨fun c=>?_,fun c=>?_⟩
  ·rcases List.mem_cons.1 ((h z).1 (by simp [c])) with e | d
   ·have:=ha.1 z c;omega
   ·exact d
  ·rcases List.mem_cons.1 ((h z).2 (by simp [c])) with e | d
   ·have:=hb.1 z c;omega
   ·exact d
theorem IsSet.ext {a b:List Int} (ha:IsSet a) (hb:IsSet b) (h:∀ x,x∈a↔x∈b):a=b:=Zs6 ha.1 hb.1 h
theorem IsSet.sub {a b:List Int} (h:IsSet b) (hs:a.Sublist b):IsSet a:=⟨h.1.sublist hs,fun x c=>h.2 x (hs.subset c)⟩
theorem IsSet.filter {a:List Int} (h:IsSet a) (p:Int→Bool):IsSet (a.filter p):=h.sub List.filter_sublist
theorem IsSet.tail {x:Int} {a:List Int} (h:IsSet (x :: a)):IsSet a:=h.sub (List.sublist_cons_self x a)
def ins (x:Int):List Int→List Int
 | []=>[x]
 | y :: r=>if x<y then x :: y :: r else if x=y then y :: r else y :: ins x r
theorem Zs7 (x z:Int):∀ l,z∈ins x l↔z=x∨z∈l
 | []=>by simp [ins]
 | y :: r=>by
  unfold ins;split
  ·simp
  ·split
   ·subst_vars;simp
   ·simp only [List.mem_cons,Zs7 x z r]
    constructor
    ·rintro (h | h | h)<;>simp [h]
    ·rintro (h | h | h)<;>simp [h]
theorem Yo5 (x:Int) (f:Fit x):∀ l,IsSet l→IsSet (ins x l)
 | [],_=>⟨by simp [ins],by simp [ins];exact f⟩
 | y :: r,h=>by
  have g:=List.pairwise_cons.1 h.1;unfold ins;split
  ·refine ⟨List.pairwise_cons.2 ⟨fun z c=>?_,h.1⟩,fun z c=>?_⟩
   ·rcases List.mem_cons.1 c with e | d
    ·omega
    ·have:=g.1 z d;omega
   ·rcases List.mem_cons.1 c with e | d
    ·rw [e];exact f
    ·exact h.2 z d
  ·split
   ·exact h
   ·have j:=Yo5 x f r h.tail
    refine ⟨List.pairwise_cons.2 ⟨fun z c=>?_,j.1⟩,fun z c=>?_⟩
    ·rcases (Zs7 x z r).1 c with e | d
     ·omega
     ·exact g.1 z d
    ·rcases List.mem_cons.1 c with e | d
     ·rw [e];exact h.2 y y30_
     ·exact j.2 z d
def sortL:List Int→List Int
 | []=>[]
 | x :: r=>if Fit x then ins x (sortL r) else sortL r
theorem I0_:∀ l,IsSet (sortL l)
 | []=>Q3_
 | x :: r=>by
  unfold sortL;split
  ·exact Yo5 x (by assumption) _ (I0_ r)
  ·exact I0_ r
theorem I1_ (z:Int):∀ l,z∈sortL l↔z∈l∧Fit z
 | []=>by simp [sortL]
 | x :: r=>by
  unfold sortL;split
  ·next hx =>
   rw [Zs7,I1_ z r,List.mem_cons];constructor
   ·rintro (e | ⟨h,c⟩)
    ·subst e;exact ⟨.inl rfl,hx⟩
    ·exact ⟨.inr h,c⟩
   ·rintro ⟨e | h,c⟩
    ·exact .inl e
    ·exact .inr ⟨h,c⟩
  ·next hx =>
   rw [I1_ z r,List.mem_cons];constructor
   ·rintro ⟨h,c⟩;exact ⟨.inr h,c⟩
   ·rintro ⟨e | h,c⟩
    ·subst e;exact absurd c hx
    ·exact ⟨h,c⟩
theorem Xd2 {r l:List Int} (c:IsSet r) (h:∀ x,x∈r↔x∈l∧Fit x):r=sortL l :=
 c.ext (I0_ l) fun x=>by rw [h,I1_]
theorem I2_:∀ l,(sortL l).length≤l.length
 | []=>le_refl _
 | x :: r=>by
  unfold sortL;have c:∀ (y:Int) (t:List Int),(ins y t).length≤t.length+1:=by
   intro y t
   induction t with
   | nil=>simp [ins]
   | cons a t ih =>
    unfold ins;split
    ·simp
    ·split
     ·simp
     ·simp;omega
  split
  ·have:=c x (sortL r)
   have:=I2_ r;simp;omega
  ·have:=I2_ r
   simp;omega
def hasB (l:List Int) (x:Int):Bool:=mayB l && l.contains x
def X2_ (a b:List Int):List Int:=if mayB a && mayB b then sortL (a ++ b) else []
def partL (a b:List Int) (w:Bool):List Int:=if mayB a && mayB b then a.filter fun x=>b.contains x==w else []
def Z7_ (a b:List Int):List Int:=partL a b false
def subB (a b:List Int):Bool:=mayB a && mayB b && decide (Z7_ a b=[])
def allL (n:Int):List Int:=if n<1∨100000<n then [] else (List.range n.toNat).map Int.ofNat
theorem mayB_iff {l:List Int}:mayB l=true↔IsSet l:=by simp [mayB]
theorem F8_ {l:List Int} (h:IsSet l):mayB l=true:=mayB_iff.2 h
theorem Zk4 (a b:List Int):IsSet (X2_ a b):=by
 unfold X2_;split
 ·exact I0_ _
 ·exact Q3_
theorem Xd3 (a b:List Int) (w:Bool):IsSet (partL a b w):=by
 unfold partL;split
 ·next h=>exact (mayB_iff.1 (by simp at h;exact h.1)).filter _
 ·exact Q3_
theorem N9_ (a b:List Int):IsSet (Z7_ a b):=Xd3 a b false
theorem B4_ (n:Int):IsSet (allL n):=by
 unfold allL;split
 ·exact Q3_
 ·next h =>
  refine ⟨?_,fun x d=>?_⟩
  ·rw [List.pairwise_map]
   exact List.pairwise_lt_range.imp fun h=>by simpa using h
  ·obtain ⟨k,c,rfl⟩:=List.mem_map.1 d
   have:=List.mem_range.1 c;have e:Int.ofNat k=(k:Int):=rfl;unfold Fit;rw [e];omega
theorem O0_ {a b:List Int} (ha:IsSet a) (hb:IsSet b) (x:Int):x∈X2_ a b↔x∈a∨x∈b:=by
 unfold X2_;rw [if_pos (by rw [F8_ ha,F8_ hb];rfl),I1_,List.mem_append];constructor
 ·exact fun h=>h.1
 ·rintro (h | h)
  ·exact ⟨.inl h,ha.2 x h⟩
  ·exact ⟨.inr h,hb.2 x h⟩
theorem Xd4 {a b:List Int} (ha:IsSet a) (hb:IsSet b) (w:Bool) (x:Int):x∈partL a b w↔x∈a∧(b.contains x=w):=by
 unfold partL;rw [if_pos (by rw [F8_ ha,F8_ hb];rfl),List.mem_filter];simp
theorem V4_ {a b:List Int} (ha:IsSet a) (hb:IsSet b) (x:Int):x∈Z7_ a b↔x∈a∧x∉b:=by
 unfold Z7_;rw [Xd4 ha hb,← Bool.not_eq_true,List.contains_iff_mem]
theorem Yo6 {a b:List Int} (ha:IsSet a) (hb:IsSet b):subB a b=true↔∀ x∈a,x∈b:=by
 unfold subB;rw [F8_ ha,F8_ hb];simp only [Bool.and_self,Bool.true_and,decide_eq_true_eq];constructor
 ·intro h x d
  rcases Decidable.em (x∈b) with c | c
  ·exact c
  ·have:=(V4_ ha hb x).2 ⟨d,c⟩
   rw [h] at this;exact absurd this y30_
 ·intro h
  rcases hm:Z7_ a b with _ | ⟨x,r⟩
  ·rfl
  ·have:=(V4_ ha hb x).1 (by rw [hm];simp)
   exact absurd (h x this.1) this.2
theorem Xt9 {l:List Int} (h:IsSet l) (x:Int):hasB l x=true↔x∈l:=by
 unfold hasB;rw [F8_ h];simp
theorem Zs8 (a b:List Int) (w:Bool):(partL a b w).length≤a.length:=by
 unfold partL;split
 ·exact List.length_filter_le _ _
 ·simp
theorem Zk5 (a b:List Int):(X2_ a b).length≤a.length+b.length:=by
 unfold X2_;split
 ·have:=I2_ (a ++ b)
  simpa using this
 ·simp
theorem E7_ (n:Int):((allL n).length:Int)≤100000∧(1≤n→n≤100000→((allL n).length:Int)=n):=by
 unfold allL;split
 ·next h=>exact ⟨y30_,fun c h2=>by omega⟩
 ·next h=>exact ⟨by simp;omega,fun c h2=>by simp;omega⟩
theorem A3_ {n:Int} (d:0≤n) (h2:n≤100000) (x:Int):x∈allL n↔0≤x∧x<n:=by
 unfold allL;split
 ·next h =>
  simp;omega
 ·rw [List.mem_map]
  constructor
  ·rintro ⟨k,c,rfl⟩
   have:=List.mem_range.1 c;have e:Int.ofNat k=(k:Int):=rfl;rw [e];omega
  ·intro h
   exact ⟨x.toNat,List.mem_range.2 k29_,by simp;omega⟩
section
variable {a b c:List Int} (ha:IsSet a) (hb:IsSet b) (hc:IsSet c)
include ha hb
include hc
end
theorem Yo7:∀ {a b r:List Int},IsSet a→IsSet b→IsSet r→(∀ x,x∈a→x∉b)→(∀ x,x∈r↔x∈a∨x∈b)→r.length=a.length+b.length:=by
 intro a b r ha hb g hd c;have d:(a ++ b).Nodup:=by
  rw [List.nodup_append];refine ⟨ha.1.imp fun h=>by omega,hb.1.imp fun h=>by omega,fun x k y m e=>hd x k (by rw [e];exact m)⟩
 have j:r.Nodup:=g.1.imp fun h=>by omega
 have f:r.Perm (a ++ b):=by
  rw [List.perm_ext_iff_of_nodup j d];intro x;rw [c,List.mem_append]
 rw [f.length_eq,List.length_append]
theorem Ye5 (d:Array Int) (hs:∀ i j,i≤j→j<d.size→d[i]!≤d[j]!):∀ m,m≤d.size→(Lib.compactUpTo d m).Pairwise (·<·)∧∀ x,x∈Lib.compactUpTo d m↔∃ j,j<m∧d[j]! = x:=by
 intro m
 induction m with
 | zero=>intro _;exact ⟨by simp [Lib.compactUpTo],by simp [Lib.compactUpTo]⟩
 | succ m ih =>
  intro v;obtain ⟨k,h2⟩:=ih k29_;rw [Lib.compactUpTo_succ];by_cases c:Lib.keeps d m=true
  ·rw [if_pos c]
   constructor
   ·rw [List.pairwise_append]
    refine ⟨k,y30_,fun x q y p=>?_⟩;rw [List.mem_singleton] at p;subst p;obtain ⟨j,f,rfl⟩:=(h2 x).1 q;simp only [Lib.keeps,decide_eq_true_eq] at c;have r:=hs j (m - 1) k29_ k29_;have s:=hs (m - 1) m k29_ k29_;have u:d[m]!≠d[m - 1]!:=by
     rcases c with h | h
     ·omega
     ·exact h
    omega
   ·intro x
    rw [List.mem_append,List.mem_singleton,h2];constructor
    ·rintro (⟨j,f,e⟩ | e)
     ·exact ⟨j,k29_,e⟩
     ·exact ⟨m,k29_,e.symm⟩
    ·rintro ⟨j,f,e⟩
     by_cases g:j=m
     ·subst g;exact .inr e.symm
     ·exact .inl ⟨j,k29_,e⟩
  ·have o:Lib.keeps d m=false:=by simpa using c
   rw [if_neg c,List.append_nil];refine ⟨k,fun x=>?_⟩;rw [h2];constructor
   ·rintro ⟨j,f,e⟩;exact ⟨j,k29_,e⟩
   ·rintro ⟨j,f,e⟩
    by_cases g:j=m
    ·subst g
     simp only [Lib.keeps,decide_eq_false_iff_not,not_or,Decidable.not_not] at o;exact ⟨j - 1,k29_,by rw [← e,o.2]⟩
    ·exact ⟨j,k29_,e⟩
theorem Zq5 (l:List Int) (h:l.Pairwise (·≤·)):(Lib.compact l).Pairwise (·<·)∧∀ x,x∈Lib.compact l↔x∈l:=by
 have d:∀ i,i<l.length→l.toArray[i]! = l.getD i 0:=by
  intro i hi;rw [getElem!_pos l.toArray i k35_];simp [List.getD,hi]
 have hs:∀ i j,i≤j→j<l.toArray.size→l.toArray[i]!≤l.toArray[j]!:=by
  intro i j m c;have e:j<l.length:=by simpa using c
  rw [d i k29_,d j e];rcases Nat.lt_or_ge i j with f | k
  ·have:=List.pairwise_iff_getElem.1 h i j k29_ e f
   simpa [List.getD,e,show i<l.length from by omega] using this
  ·have:i=j:=by omega
   subst this;exact Int.le_refl _
 have hc:=Ye5 l.toArray hs l.length y30_;refine ⟨hc.1,fun x=>?_⟩;unfold Lib.compact;rw [hc.2];constructor
 ·rintro ⟨j,c,rfl⟩
  rw [d j c];simp [List.getD,c]
 ·intro g
  obtain ⟨j,c,rfl⟩:=List.mem_iff_getElem.1 g;exact ⟨j,c,by rw [d j c];simp [List.getD,c]⟩
theorem Zd3 (l:List Int):Lib.compact ((l.filter fun x=>decide (Fit x)).mergeSort fun x y=>decide (x≤y))=sortL l:=by
 have f:((l.filter fun x=>decide (Fit x)).mergeSort fun x y=>decide (x≤y)).Pairwise (·≤·):=by
  have:=List.pairwise_mergeSort (le:=fun x y:Int=>decide (x≤y)) (fun a b c d h2=>by simp at *;omega) (fun a b=>by simp;omega) (l.filter fun x=>decide (Fit x));exact this.imp fun h=>by simpa using h
 obtain ⟨d,h2⟩:=Zq5 _ f;have e:∀ x,x∈Lib.compact ((l.filter fun x=>decide (Fit x)).mergeSort fun x y=>decide (x≤y))↔x∈l∧Fit x:=by
  intro x;rw [h2,List.mem_mergeSort,List.mem_filter,decide_eq_true_eq]
 exact Xd2 ⟨d,fun x g=>((e x).1 g).2⟩ e
open Go Go.RowKit
theorem info3:(Tryz.prog.info? 3).map (fun i=>(i.zero,i.size,i.bytes))=some (some (.int .i64 0),1,8):=q30_
def Blk (w:World) (g:Nat) (t:TypeId) (cs:Array Value):Prop:=w.heap[g]?=some (.cells cs t (0,0))
section
variable {w w':World} {g:Nat} {t:TypeId} {cs:Array Value}
theorem Blk.lt (h:Blk w g t cs):g<w.heap.size:=by
 rcases Nat.lt_or_ge g w.heap.size with d | c
 ·exact d
 ·unfold Blk at h;rw [Array.getElem?_eq_none c] at h;cases h
theorem Blk.cell (h:Blk w g t cs) (i:Nat):w.cell? ⟨g,i,none⟩=cs[i]?:=cell_of_row w g i cs t (0,0) h
theorem Blk.frozen (h:Blk w g t cs) (i:Nat):w.frozen? ⟨g,i,none⟩=false:=by
 unfold Blk at h;simp [World.frozen?,h]
theorem Blk.new (w:World) (t:TypeId) (cs:Array Value):Blk (w.alloc (.cells cs t)) w.heap.size t cs:=heap_alloc_new w _
theorem Blk.drew (h:Blk w g t cs):Blk w.drew g t cs:=h
theorem Blk.alloc (h:Blk w g t cs) (o:Obj):Blk (w.alloc o) g t cs:=(Below.heap_alloc w o g h.lt).trans h
theorem Blk.set_ (h:Blk w g t cs) (i:Nat) (u:Value):Blk (w.setCell ⟨g,i,none⟩ u) g t (cs.setIfInBounds i u):=by
 unfold Blk at h ⊢;simp [World.setCell,Array.getElem?_modify,h]
theorem Blk.far (h:Blk w g t cs) {p:Addr} (c:g≠p.block) (u:Value):Blk (w.setCell p u) g t cs:=(Below.heap_setCell w p u g c).trans h
theorem Blk.below {B:Nat} (h:Blk w g t cs) (hb:Below B w w') (c:g<B):Blk w' g t cs:=(hb.block g c).trans h
theorem Blk.grown {row:Option Nat} (h:Blk w g t cs) (hb:w.grownBy w' row) (c:some g≠row):Blk w' g t cs:=(hb.block g h.lt c).trans h
end
theorem Zk6 {a w:World} {g:Nat} (h:a.grownBy w (some g)) {p:Addr} (c:p.block=g∨a.heap.size≤p.block) (u:Value):a.grownBy (w.setCell p u) (some g) :=
 ⟨h.os,h.tape,h.output,by simpa [World.setCell] using h.size,fun i e d=>(Below.heap_setCell w p u i (by
  rintro rfl;rcases c with c | c
  ·exact d (by rw [c])
  ·omega)).trans (h.block i e d)⟩
theorem Y8_ {a w:World} (h:Below a.heap.size a w) (row:Option Nat):a.grownBy w row:=⟨h.os,h.tape,h.output,h.size,fun i c _=>h.block i c⟩
theorem Ye6 {a b c:World} {row:Option Nat} (h:a.grownBy b row) (k:b.grownBy c row):a.grownBy c row :=
 ⟨k.os.trans h.os,k.tape.trans h.tape,k.output.trans h.output,Nat.le_trans h.size k.size,fun i d e=>(k.block i (Nat.lt_of_lt_of_le d h.size) e).trans (h.block i d e)⟩
theorem Y4_ {B:Nat} {a w:World} (h:Below B a w) (n:Nat):Below B a (w.drewN n):=⟨h.os,h.tape,h.output,h.size,h.block⟩
def Row (w:World) (B:Nat) (v:Value) (zs:List Int):Prop :=
 ∃ A c,v=.slice A zs.length c∧(zs.length≤c∧c≤maxLen∧(A=none→c=0))∧∀ k,k<zs.length→∃ ad:Addr,A=some ad∧ad.block<B∧w.cell? (ad.add k)=some (.int .i64 (zs.getD k 0))
theorem add_zero (a:Addr):a.add 0=a:=j33_
theorem Z4_ (a:Addr) (n:Nat):(a.add n).block=a.block:=by unfold Addr.add;split<;>rfl
theorem Row.below {w w':World} {B:Nat} {v:Value} {zs:List Int} (h:Row w B v zs) (hb:Below B w w'):Row w' B v zs:=by
 obtain ⟨A,c,m,j,f⟩:=h;refine ⟨A,c,m,j,fun k g=>?_⟩;obtain ⟨d,e,hB,hc⟩:=f k g;exact ⟨d,e,hB,(hb.cell x37_).trans hc⟩
theorem Row.mono {w:World} {B d:Nat} {v:Value} {zs:List Int} (h:Row w B v zs) (p:B≤d):Row w d v zs:=by
 obtain ⟨A,c,o,m,g⟩:=h;refine ⟨A,c,o,m,fun k j=>?_⟩;obtain ⟨e,f,hb,hc⟩:=g k j;exact ⟨e,f,k29_,hc⟩
theorem Row.of_own {w:World} {base:Nat} {v:Value} {n:Nat} {zs:List Int} (h:w.ownsRow base 3 1 v n (zs.map (Value.int .i64))) (f:n=zs.length):Row w w.heap.size v zs:=by
 subst f;rcases h.2 with ⟨rfl,h0⟩ | ⟨g,c,j,rfl,hb,m,d,e,_⟩
 ·have:zs=[]:=List.eq_nil_of_length_eq_zero y37_
  subst this;exact k10_
 ·refine ⟨_,c,rfl,⟨d,e,fun h=>q37_⟩,fun k hk=>⟨⟨g,0,none⟩,rfl,(h.lt g rfl).2,?_⟩⟩
  refine h.cells (g:=g) rfl k _ ?_;rw [List.getElem?_map,List.getElem?_eq_getElem hk];simp [List.getD,hk]
theorem Row.nil_ (W:World) (B:Nat):Row W B (.slice none 0 0) []:=⟨none,0,rfl,⟨le_refl _,x30_,fun _=>rfl⟩,fun k c=>absurd c y30_⟩
theorem Row.lit1 (W:World) (x:Int):Row (W.alloc (.cells #[.int .i64 x] 3)) (W.heap.size+1) (.slice (some ⟨W.heap.size,0,none⟩) 1 1) [x]:=by
 refine ⟨_,1,rfl,⟨le_refl _,x30_,fun h=>q37_⟩,fun k c=>⟨⟨W.heap.size,0,none⟩,rfl,by show W.heap.size<_;omega,?_⟩⟩;have hb:=Blk.new W 3 #[.int .i64 x]
 match k,c with
 | 0,_=>exact hb.cell 0
theorem Row.lit2 (W:World) (x y:Int):Row (W.alloc (.cells #[.int .i64 x,.int .i64 y] 3)) (W.heap.size+1) (.slice (some ⟨W.heap.size,0,none⟩) 2 2) [x,y]:=by
 refine ⟨_,2,rfl,⟨le_refl _,x30_,fun h=>q37_⟩,fun k c=>⟨⟨W.heap.size,0,none⟩,rfl,by show W.heap.size<_;omega,?_⟩⟩;have hb:=Blk.new W 3 #[.int .i64 x,.int .i64 y]
 match k,c with
 | 0,_=>exact hb.cell 0
 | 1,_=>exact hb.cell 1
theorem Row.lit3 (W:World) (x y z:Int):Row (W.alloc (.cells #[.int .i64 x,.int .i64 y,.int .i64 z] 3)) (W.heap.size+1) (.slice (some ⟨W.heap.size,0,none⟩) 3 3) [x,y,z]:=by
 refine ⟨_,3,rfl,⟨le_refl _,x30_,fun h=>q37_⟩,fun k c=>⟨⟨W.heap.size,0,none⟩,rfl,by show W.heap.size<_;omega,?_⟩⟩;have hb:=Blk.new W 3 #[.int .i64 x,.int .i64 y,.int .i64 z]
 match k,c with
 | 0,_=>exact hb.cell 0
 | 1,_=>exact hb.cell 1
 | 2,_=>exact hb.cell 2
theorem Xd5 (w:World) (t:TypeId) (u:Value):∀ (j:Nat) (v:Value),[u][j]?=some v→(w.alloc (.cells #[u] t)).cell? ((⟨w.heap.size,0,none⟩:Addr).add j)=some v:=by
 intro j v c
 match j,c with
 | 0,c =>
  simp at c;subst c;rw [add_zero];exact (Blk.new w t #[u]).cell 0
theorem Xu0 (x:Int):∀ u∈[Value.int .i64 x],u.oneCell'=true:=by
 intro u c;simp at c;subst c;rfl
def lenOf:Value→Nat
 | .slice _ n _=>n
 | _=>0
def Says (w:World) (b:Bool) (e:Ending) (w':World):Prop:=e=.returned (.bool b)∧Below w.heap.size w w'
def Gives (w:World) (r:List Int) (e:Ending) (w':World):Prop:=∃ v,e=.returned v∧Row w' w'.heap.size v r∧Below w.heap.size w w'
def GivesF (w:World) (r:List Int) (e:Ending) (w':World):Prop:=∃ v,e=.returned v∧Row w' w'.heap.size v r∧Below w.heap.size w w'∧∀ g,v.ownBlock=some g→w.heap.size≤g
theorem GivesF.gives {w w':World} {r:List Int} {e:Ending} (h:GivesF w r e w'):Gives w r e w':=by
 obtain ⟨v,c,h2,h3,_⟩:=h;exact ⟨v,c,h2,h3⟩
def ints (l:List Int):List Value:=l.map (Value.int .i64)
theorem X8_ (a b:List Int):ints (a ++ b)=ints a ++ ints b:=List.map_append
theorem Y2_ (l:List Int):(ints l).length=l.length:=List.length_map ..
theorem Z8_ {w:World} {q:Array Oper} {rest:List Oper} {o:Oper} {a:Act} {Q:Exit→Act→World→Prop} (C:o.guard=none) (s x:Operand)
  (F:o.op=.call { callee:=.builtin .append,args:=#[s,x],argTypes:=#[23, 23] })
  (base B:Nat) (v I:Value) (zs ys:List Int) (hs:a.eval s=v) (G:a.eval x=I) (p:w.ownsRow base 3 1 v zs.length (ints zs)) (M:Row w B I ys)
  (W:zs.length≤4194304) (V:ys.length≤4194304) (hb:base≤w.heap.size)
  (h:∀ k w',w'.ownsRow base 3 1 k (zs ++ ys).length (ints (zs ++ ys))→w.grownBy w' v.ownBlock→wpList Tryz.prog q Q rest (a.put o.dst k) w'):wpList Tryz.prog q Q (o :: rest) a w:=by
 obtain ⟨H,D,P,R,S⟩:=info_parts info3;obtain ⟨A,c,rfl,L,E⟩:=M;have K:∀ d,A=some d→∀ j u,(ints ys)[j]?=some u→w.cell? (d.add j)=some u:=by
  intro d e j u g;have m:j<ys.length:=by
   have:=(List.getElem?_eq_some_iff.1 g).1;simpa [ints] using this
  obtain ⟨U,f,_,hc⟩:=E j m;rw [e] at f;have f:=Option.some.inj f;subst f;rw [hc];rw [ints,List.getElem?_map,List.getElem?_eq_getElem m] at g;simp at g;rw [← g];simp [List.getD,m]
 have T:∀ d,A=some d→wpList Tryz.prog q Q (o :: rest) a w:=by
  intro d e;refine wpList_append_own w C s x _ F base 3 H (.int .i64 0) 1 8 q30_ D P R S rfl x30_ v zs.length (ints zs) hs p d ys.length c (ints ys) (by rw [G,e]) (by simp [ints]) (K d e) ?_ ?_ ?_ hb ?_
  ·intro u N
   obtain ⟨z,_,rfl⟩:=List.mem_map.1 N;rfl
  ·unfold maxLen;omega
  ·omega
  ·intro k w' J h2 _
   refine h k w' ?_ h2;rw [X8_,List.length_append];exact J
 cases A with
 | some d=>exact T d rfl
 | none =>
  have O:ys=[]:=by
   cases ys with
   | nil=>rfl
   | cons y r =>
    obtain ⟨_,e,_⟩:=E 0 y30_;cases e
  subst O;have hc:=L.2.2 rfl;subst hc;refine wpList_append_own_none C s x _ F base 3 H 1 q30_ D v zs.length (ints zs) hs p G ?_;exact h v w (by rw [List.append_nil];exact p) ⟨rfl,rfl,rfl,le_refl _,fun _ _ _=>rfl⟩
def Truly (w:World) (e:Ending) (w':World):Prop:=e=.returned (.bool true)∧Below w.heap.size w w'
theorem Row.up {w w':World} {v:Value} {l:List Int} (h:Row w w.heap.size v l) (hb:Below w.heap.size w w'):Row w' w'.heap.size v l:=(h.below hb).mono hb.size
theorem Z0_ {B:Nat} {a b c:World} (h:Below B a b) (d:B≤a.heap.size) (k:Below b.heap.size b c):Below B a c:=h.trans (k.mono (Nat.le_trans d h.size))
theorem Row.here {w:World} {o:Obj} {v:Value} {l:List Int} (h:Row (w.alloc o) (w.heap.size+1) v l):Row (w.alloc o) (w.alloc o).heap.size v l:=by
 have e:(w.alloc o).heap.size=w.heap.size+1:=y30_;rw [e];exact h
theorem Row.upA {w:World} {v:Value} {l:List Int} (h:Row w w.heap.size v l) (o:Obj):Row (w.alloc o) (w.alloc o).heap.size v l:=h.up ((Below.refl _ w).alloc (le_refl _) o)
open Go.RowKit
def Rows2 (w:World) (B:Nat) (v:Value) (pp:List (List Int)):Prop :=
 ∃ A c,v=.slice A pp.length c∧(pp.length≤c∧c≤maxLen∧(A=none→c=0)) ∧
  ∀ k,k<pp.length→∃ (ad:Addr) (u:Value),A=some ad∧ad.block<B∧w.cell? (ad.add k)=some u∧Row w B u (pp.getD k [])
theorem Rows2.below {w w':World} {B:Nat} {v:Value} {pp:List (List Int)} (h:Rows2 w B v pp) (hb:Below B w w'):Rows2 w' B v pp:=by
 obtain ⟨A,c,o,m,g⟩:=h;refine ⟨A,c,o,m,fun k j=>?_⟩;obtain ⟨d,u,f,hB,e,h2⟩:=g k j;exact ⟨d,u,f,hB,(hb.cell x37_).trans e,h2.below hb⟩
theorem Rows2.mono {w:World} {B d:Nat} {v:Value} {pp:List (List Int)} (h:Rows2 w B v pp) (j:B≤d):Rows2 w d v pp:=by
 obtain ⟨A,c,q,p,m⟩:=h;refine ⟨A,c,q,p,fun k o=>?_⟩;obtain ⟨e,u,g,hb,f,h2⟩:=m k o;exact ⟨e,u,g,k29_,f,h2.mono j⟩
theorem Rows2.up {w w':World} {v:Value} {pp:List (List Int)} (h:Rows2 w w.heap.size v pp) (hb:Below w.heap.size w w'):Rows2 w' w'.heap.size v pp:=(h.below hb).mono hb.size
theorem Yj1 {w:World} {j k:Nat} {e f:TypeId} {x y u v:Nat} {d h:Value} {z A:List Value} (o:w.ownsRow j e x d u z) (h2:w.ownsRow k f y h v A) (s:e≠f) :
  d.ownBlock=none∨d.ownBlock≠h.ownBlock:=by
 rcases o.2 with ⟨rfl,_⟩ | ⟨g,B,D,rfl,_,r,_⟩
 ·exact .inl rfl
 ·right
  rcases h2.2 with ⟨rfl,_⟩ | ⟨m,C,E,rfl,_,c,_⟩
  ·simp [Value.ownBlock]
  ·intro p
   have q:g=m:=by simpa [Value.ownBlock] using p
   subst q;rw [r] at c;injection c with c;injection c with _ ht;exact s ht
def Fam (w:World) (B:Nat) (vs:List Value) (pp:List (List Int)):Prop :=
 vs.length=pp.length∧(∀ (i:Nat) (v:Value) (p:List Int),vs[i]?=some v→pp[i]?=some p→w.ownsRow B 3 1 v p.length (ints p)) ∧
  ∀ (i j:Nat) (v u:Value),vs[i]?=some v→vs[j]?=some u→i≠j→v.ownBlock=none∨v.ownBlock≠u.ownBlock
theorem Xu1 (w:World) (B:Nat):Fam w B [] []:=⟨rfl,fun i v p h=>by simp at h,fun i j v u h=>by simp at h⟩
theorem Fam.kept {w w':World} {B:Nat} {vs:List Value} {pp:List (List Int)} (h:Fam w B vs pp) {row:Option Nat} (d:w.grownBy w' row) (f:∀ v∈vs,v.ownBlock=none∨v.ownBlock≠row):Fam w' B vs pp :=
 ⟨h.1,fun i v p c e=>(h.2.1 i v p c e).kept d (f v (List.mem_of_getElem? c)),h.2.2⟩
theorem Fam.apart {w w':World} {B:Nat} {vs:List Value} {pp:List (List Int)} (h:Fam w B vs pp) {g:Nat} (e:w.grownBy w' (some g)) (o:g<B):Fam w' B vs pp:=by
 refine h.kept e fun v m=>?_;obtain ⟨i,d,rfl⟩:=List.mem_iff_getElem.1 m;have f:i<pp.length:=by rw [← h.1];exact d
 have j:=h.2.1 i _ _ (List.getElem?_eq_getElem d) (List.getElem?_eq_getElem f);rcases hb:vs[i].ownBlock with _ | k
 ·exact .inl rfl
 ·right
  have:=j.lt k hb;intro c;injection c with c;omega
theorem Fam.new {w w':World} {B:Nat} {vs:List Value} {pp:List (List Int)} (h:Fam w B vs pp) (c:w.grownBy w' none):Fam w' B vs pp :=
 h.kept c fun v _=>by
  rcases v.ownBlock with _ | k
  ·exact .inl rfl
  ·exact .inr y30_
theorem Fam.more {w:World} {B:Nat} {vs:List Value} {pp:List (List Int)} (h:Fam w B vs pp):Fam w B (vs ++ [.slice none 0 0]) (pp ++ [[]]):=by
 have q:(Value.slice none 0 0).ownBlock=none:=rfl;refine ⟨by simp [h.1],fun i v p hv d=>?_,fun i j v u hv c g=>?_⟩
 ·by_cases e:i<vs.length
  ·rw [List.getElem?_append_left e] at hv
   rw [List.getElem?_append_left (by rw [← h.1];exact e)] at d;exact h.2.1 i v p hv d
  ·have f:i=vs.length:=x22_
   subst f;rw [List.getElem?_append_right (le_refl _)] at hv;rw [h.1,List.getElem?_append_right (le_refl _)] at d;simp at hv d;subst hv d;exact World.ownsRow_nil _ _ _ _
 ·by_cases e:i<vs.length
  ·rw [List.getElem?_append_left e] at hv
   by_cases m:j<vs.length
   ·rw [List.getElem?_append_left m] at c
    exact h.2.2 i j v u hv c g
   ·have o:j=vs.length:=by
     have:=(List.getElem?_eq_some_iff.1 c).1;simp at this;omega
    subst o;rw [List.getElem?_append_right (le_refl _)] at c;simp at c;subst c;rw [q];rcases v.ownBlock with _ | k
    ·exact .inl rfl
    ·exact .inr y30_
  ·have f:i=vs.length:=x22_
   subst f;rw [List.getElem?_append_right (le_refl _)] at hv;simp at hv;subst hv;exact .inl rfl
theorem Fam.grow {w w':World} {B:Nat} {vs:List Value} {pp:List (List Int)} (h:Fam w B vs pp) {f:Nat} {u u':Value} {q:List Int} (x:vs[f]?=some u) (C:w.grownBy w' u.ownBlock)
  (F:w'.ownsRow B 3 1 u' q.length (ints q)) (hl:u'.ownBlock=u.ownBlock∨u'.ownBlock=some w.heap.size):Fam w' B (vs.set f u') (pp.set f q):=by
 have o:f<vs.length:=(List.getElem?_eq_some_iff.1 x).1;have A:∀ (j:Nat) (v:Value),vs[j]?=some v→∀ k,v.ownBlock=some k→k<w.heap.size:=by
  intro j v c k E;have s:=(List.getElem?_eq_some_iff.1 c).1;have D:j<pp.length:=by rw [← h.1];exact s
  exact ((h.2.1 j v _ c (List.getElem?_eq_getElem D)).lt k E).2
 refine ⟨by simp [h.1],fun i v p c m=>?_,fun i j v z c d y=>?_⟩
 ·by_cases g:i=f
  ·subst g
   rw [List.getElem?_set_self o] at c;rw [List.getElem?_set_self (by rw [← h.1];exact o)] at m;injection c with c;injection m with m;subst c m;exact F
  ·rw [List.getElem?_set_ne (fun e=>g e.symm)] at c m
   exact (h.2.1 i v p c m).kept C (h.2.2 i f v u c x g)
 ·by_cases g:i=f
  ·subst g
   rw [List.getElem?_set_self o] at c;injection c with c;subst c;rw [List.getElem?_set_ne y] at d;rcases hl with hl | hl
   ·rw [hl]
    exact h.2.2 i j u z x d y
   ·right
    rw [hl];intro r;have:=A j z d _ r.symm;omega
  ·rw [List.getElem?_set_ne (fun e=>g e.symm)] at c
   by_cases s:j=f
   ·subst s
    rw [List.getElem?_set_self o] at d;injection d with d;subst d;rcases hl with hl | hl
    ·rw [hl]
     exact h.2.2 i j v u c x g
    ·rcases hb:v.ownBlock with _ | k
     ·exact .inl rfl
     ·right
      rw [hl];intro r;injection r with r;have:=A i v c k hb;omega
   ·rw [List.getElem?_set_ne (fun e=>s e.symm)] at d
    exact h.2.2 i j v z c d y
theorem V7_ {w:World} {p:Array Oper} {rest:List Oper} {o:Oper} {a:Act} {Q:Exit→Act→World→Prop} (B:o.guard=none) (s x:Operand) (T e:TypeId) (z:Value) (f:Nat)
  (E:o.op=.call { callee:=.builtin .append,args:=#[s,x],argTypes:=#[T,T] }) (G:Tryz.prog.underlying T=some (.slice e)) (D:(Tryz.prog.info? e).map (fun i=>(i.zero,i.size,i.bytes))=some (some z,1,f)) (L:z.cells.size=1)
  (base:Nat) (v u:Value) (c:List Value) (hs:a.eval s=v) (F:w.ownsRow base e 1 v c.length c) (g:Nat) (H:a.eval x=.slice (some ⟨g,0,none⟩) 1 1) (hc:w.cell? ⟨g,0,none⟩=some u) (q:u.oneCell'=true)
  (hl:c.length≤4194304) (r:f≤1024) (hb:base≤w.heap.size)
  (h:∀ d w',w'.ownsRow base e 1 d (c.length+1) (c ++ [u])→w.grownBy w' v.ownBlock→(d.ownBlock=v.ownBlock∨d.ownBlock=some w.heap.size)→wpList Tryz.prog p Q rest (a.put o.dst d) w'):wpList Tryz.prog p Q (o :: rest) a w:=by
 obtain ⟨M,C,I,J,K⟩:=info_parts D;refine wpList_append_own_at w B s x T E base e M z 1 f G C I J K L x30_ v c.length c hs F ⟨g,0,none⟩ 1 1 [u] H y30_ ?_ ?_ ?_ ?_ hb ?_
 ·intro j y k
  match j,k with
  | 0,k =>
   simp at k;subst k;rw [add_zero];exact hc
 ·intro y m
  simp at m;subst m;exact q
 ·unfold maxLen;omega
 ·have:(c.length+1) * f≤4194305 * 1024:=Nat.mul_le_mul k29_ r
  omega
 ·intro d w' N O _ P
  exact h d w' N O P
theorem O1_ {w:World} {B:Nat} {e:TypeId} {v:Value} {n:Nat} {f:List Value} (h:w.ownsRow B e 1 v n f) (j:0<n):∃ g c,v=.slice (some ⟨g,0,none⟩) n c∧B≤g:=by
 rcases h.2 with ⟨_,rfl⟩ | ⟨g,c,_,d,hb,_⟩
 ·omega
 ·exact ⟨g,c,d,hb⟩
theorem Zz9 {w:World} {B:Nat} {e:TypeId} {v:Value} {n:Nat} {f:List Value} (h:w.ownsRow B e 1 v n f):∃ A c,v=.slice A n c:=by
 rcases h.2 with ⟨rfl,rfl⟩ | ⟨g,c,_,d,_⟩
 ·exact ⟨none,0,rfl⟩
 ·exact ⟨_,c,d⟩
theorem Fam.rows {w:World} {B:Nat} {v:Value} {vs:List Value} {pp:List (List Int)} (h:Fam w B vs pp) (c:w.ownsRow B 23 1 v vs.length vs):Rows2 w w.heap.size v pp:=by
 have p:∀ k,k<pp.length→∃ u,vs[k]?=some u∧Row w w.heap.size u (pp.getD k []):=by
  intro k hk;have d:k<vs.length:=by rw [h.1];exact hk
  refine ⟨vs[k],List.getElem?_eq_getElem d,?_⟩;have:=h.2.1 k _ _ (List.getElem?_eq_getElem d) (List.getElem?_eq_getElem hk);rw [show pp.getD k []=pp[k] from by simp [List.getD,hk]];exact Row.of_own this rfl
 rcases c.2 with ⟨rfl,j⟩ | ⟨g,f,x,rfl,hb,y,m,o,_⟩
 ·have q:pp.length=0:=by rw [← h.1];exact j
  have:pp=[]:=List.eq_nil_of_length_eq_zero q;subst this;exact k10_
 ·refine ⟨some ⟨g,0,none⟩,f,by rw [h.1],⟨by rw [← h.1];exact m,o,fun e=>by cases e⟩,fun k hk=>?_⟩
  obtain ⟨u,s,r⟩:=p k hk;exact ⟨_,u,rfl,(c.lt g rfl).2,c.cells (g:=g) rfl k u s,r⟩
open Go.RowKit
theorem V1_ {w w':World} {b c:Bool} {e:Ending} (hb:b=c) (d:e=.returned (.bool c)) (h:Below w.heap.size w w'):Says w b e w':=⟨by rw [hb];exact d,h⟩
theorem Yj2 (l:List Int) (k:Nat) (f:k<l.length) (h:IsSet (l.take k)) (m:Fit (l.getD k 0)) (d:k=0∨l.getD (k - 1) 0<l.getD k 0):IsSet (l.take (k+1)):=by
 have e:l.take (k+1)=l.take k ++ [l.getD k 0]:=by
  rw [List.take_succ_eq_append_getElem f];simp [List.getD,f]
 rw [e];refine ⟨?_,fun x c=>?_⟩
 ·rw [List.pairwise_append]
  refine ⟨h.1,y30_,fun x c y g=>?_⟩;rw [List.mem_singleton] at g;subst g;obtain ⟨j,o,rfl⟩:=List.mem_iff_getElem.1 c;rw [List.length_take] at o;rcases d with q | d
  ·omega
  ·have hl:l.getD (k - 1) 0=(l.take k)[k - 1]'y32_:=by
    simp [List.getD,show k - 1<l.length from by omega]
   rw [hl] at d;rcases Nat.lt_or_ge j (k - 1) with p | r
   ·have:=List.pairwise_iff_getElem.1 h.1 j (k - 1) y32_ y32_ p
    omega
   ·have:j=k - 1:=by omega
    subst this;exact d
 ·rw [List.mem_append,List.mem_singleton] at c
  rcases c with c | c
  ·exact h.2 x c
  ·subst c;exact m
theorem Zk7 (l:List Int) (k:Nat) (c:k<l.length) (h:¬ Fit (l.getD k 0)∨(0<k∧l.getD k 0≤l.getD (k - 1) 0)):mayB l=false:=by
 rw [← Bool.not_eq_true,mayB_iff];intro hs;have d:l.getD k 0∈l:=by simp [List.getD,c]
 rcases h with h | ⟨e,h⟩
 ·exact h (hs.2 _ d)
 ·have:=List.pairwise_iff_getElem.1 hs.1 (k - 1) k k29_ c k29_
  simp [List.getD,c,show k - 1<l.length from by omega] at h;omega
theorem Yo8 (l:List Int) (k:Nat) (c:k=l.length) (h:IsSet (l.take k)):mayB l=true:=by
 subst c;rw [List.take_length] at h;exact F8_ h
theorem Zk8 (w:World) {w':World} (h:Below w.heap.size w w') {r:List Int} (c:r=[]):Gives w r (.returned (.slice none 0 0)) w':=⟨_,rfl,by rw [c];exact Row.nil_ _ _,h⟩
theorem Yo9 {a b:List Int} (ha:mayB a=true) (hb:mayB b=true):X2_ a b=sortL (a ++ b):=by unfold X2_;rw [ha,hb];rfl
theorem Yp0 {a b:List Int} (ha:mayB a=false):X2_ a b=[]:=by unfold X2_;rw [ha];rfl
theorem Yp1 {a b:List Int} (hb:mayB b=false):X2_ a b=[]:=by unfold X2_;rw [hb,Bool.and_false];rfl
def C8_ (a b:List Int) (w:Bool) (k:Nat):List Int:=(a.take k).filter fun x=>b.contains x==w
theorem Ye7 (a b:List Int) (w:Bool) (k:Nat) (h:k<a.length) (c:b.contains (a.getD k 0)=w):C8_ a b w (k+1)=C8_ a b w k ++ [a.getD k 0]:=by
 unfold C8_;rw [List.take_succ_eq_append_getElem h,List.filter_append];have e:a[k]=a.getD k 0:=by simp [List.getD,h]
 rw [e];congr 1;rw [List.filter_cons,if_pos (by simpa using c)];rfl
theorem Yp2 (a b:List Int) (w:Bool) (k:Nat) (h:k<a.length) (c:¬ b.contains (a.getD k 0)=w):C8_ a b w (k+1)=C8_ a b w k:=by
 unfold C8_;rw [List.take_succ_eq_append_getElem h,List.filter_append];have e:a[k]=a.getD k 0:=by simp [List.getD,h]
 rw [e,List.filter_cons,if_neg (by simpa using c)];simp
theorem Zd4 (a b:List Int) (w:Bool) (k:Nat):(C8_ a b w k).length≤a.length:=by
 unfold C8_;refine Nat.le_trans (List.length_filter_le _ _) ?_;simp;omega
theorem Ye8 (a b:List Int) (w:Bool) (ha:mayB a=true) (hb:mayB b=true):C8_ a b w a.length=partL a b w:=by
 unfold C8_ partL;rw [List.take_length,ha,hb];rfl
theorem Xd6 {a b:List Int} {w:Bool} (ha:mayB a=false):partL a b w=[]:=by unfold partL;rw [ha];rfl
theorem Xd7 {a b:List Int} {w:Bool} (hb:mayB b=false):partL a b w=[]:=by unfold partL;rw [hb,Bool.and_false];rfl
theorem Xu2 {a b:List Int} (ha:mayB a=false):subB a b=false:=by unfold subB;rw [ha];rfl
theorem Xu3 {a b:List Int} (hb:mayB b=false):subB a b=false:=by unfold subB;rw [hb,Bool.and_false];rfl
theorem Xu4 {a b:List Int} (ha:mayB a=true) (hb:mayB b=true):subB a b=decide (Z7_ a b=[]):=by unfold subB;rw [ha,hb];rfl
open Go.RowKit
theorem Xd8 (x:Int) (w:World):Calls Tryz.prog 124 #[.int .i64 x] w fun e w'=>e=.returned (.bool (decide (Fit x)))∧w'=w:=by
 by_cases c:0≤x
 ·by_cases d:x≤1099511627776
  ·have hf:decide (Fit x)=true:=by simp [Fit,c,d]
   exact y25_
  ·have hf:decide (Fit x)=false:=by simp [Fit,d]
   exact y25_
 ·have hf:decide (Fit x)=false:=by simp [Fit,c]
  exact y25_
theorem R8_ (x:Int) (b:Bool) (h:decide (Fit x)=b) (w:World):Calls Tryz.prog 124 #[.int .i64 x] w fun e w'=>e=.returned (.bool b)∧w'=w:=by
 subst h;exact Xd8 x w
theorem may_any (v:Value) (l:List Int) (w:World) (C:Row w w.heap.size v l) (hl:l.length≤9223372036854775807):Calls Tryz.prog 99 #[v] w (Says w (mayB l)):=by
 obtain ⟨A,c,rfl,_,p⟩:=C;have Hcell:=hid p;clear p;have L:(l.length:Int)≤9223372036854775807:=k29_
 go_enter Tryz.func99,Tryz.ntmps99
 go_wp2
 go_loopw [7] (fun m wr=>∃ k q:Nat,m=.int .i64 k∧k≤l.length∧wr=w.drewN q∧IsSet (l.take k)) (fun m _=>l.length - (intOf m).toNat)
 case atStart=>exact ⟨0,0,rfl,Nat.zero_le _,rfl,by simpa using Q3_⟩
 case round =>
  obtain ⟨k,q,rfl,J,u,s⟩:=hrel;have Hwr:=hid u;have Hset:=hid s;clear u s;by_cases h:k<l.length
  ·obtain ⟨o,hA,G,hc⟩:=Hcell.out k h
   subst hA;have g:wr.cell? (o.add k)=some (.int .i64 (l.getD k 0)):=by rw [Hwr.out];exact hc
   clear hc;have d:=hid (Yj2 l k h Hset.out);have Hfail:=hid (Zk7 l k h);have Hq:Hid (Below w.heap.size w wr):=q22_;by_cases B:k=0
   ·subst B
    rw [add_zero] at g;generalize l.getD 0 0=x at g d Hfail;by_cases hx:Fit x
    ·have hfx:=R8_ x true x33_
     go_wp2_with (go_at_call 124;refine (hfx _).mono ?_;rintro e w' ⟨rfl,rfl⟩)
     go_roundw
     case rel=>exact ⟨1,q,rfl,k29_,Hwr.out,d.out hx (.inl trivial)⟩
     exact mz_
    ·exact y9_
   ·obtain ⟨j,r⟩:∃ j,j+1=k:=⟨k - 1,k29_⟩
    have H:(k:Int) - 1=(j:Int):=k29_;have I:(j:Int)<(l.length:Int):=k29_;have z:wr.cell? (o.add j)=some (.int .i64 (l.getD j 0)):=x16_;have F:=hid r;have K:0<(k:Int):=k29_;rw [show k - 1=j from by omega] at d Hfail;clear r;generalize l.getD k 0=x at g d Hfail;generalize l.getD j 0=y at z d Hfail;by_cases hx:Fit x
    ·have hfx:=R8_ x true x33_
     by_cases E:y<x
     ·go_wp2_with (go_at_call 124;refine (hfx _).mono ?_;rintro e w' ⟨rfl,rfl⟩)
      go_roundw
      case rel=>exact ⟨k+1,q,y31_,k29_,Hwr.out,d.out hx (.inr E)⟩
      exact mz_
     ·have D:x≤y:=by omega
      go_wp2_with (go_at_call 124;refine (hfx _).mono ?_;rintro e w' ⟨rfl,rfl⟩)
      go_ret;exact V1_ (Hfail.out (.inr ⟨k29_,D⟩)) rfl Hq.out
    ·exact y9_
  ·exact q10_
open Go.RowKit
def okA (right:Int) (l:List Int):Bool:=mayB l && (decide (l.length=0) || decide (l.getD (l.length - 1) 0<right))
def mayM (right:Int) (adj:List (List Int)):Bool:=decide (0≤right∧right≤64) && decide (adj.length≤64) && adj.all (okA right)
theorem mayM_off {right:Int} {adj:List (List Int)} (h:right<0∨64<right∨64<(adj.length:Int)):mayM right adj=false:=y17_
theorem mayM_miss {right:Int} {adj:List (List Int)} {i:Nat} (hi:i<adj.length) (h:okA right (adj.getD i [])=false):mayM right adj=false:=by
 unfold mayM;exact j4_
theorem mayM_all {right:Int} {adj:List (List Int)} (c:¬ right<0) (h2:¬ 64<right) (h3:¬ 64<(adj.length:Int)) (h:∀ i,i<adj.length→okA right (adj.getD i [])=true):mayM right adj=true:=z6_
theorem Yp3 {right:Int} {l:List Int} (h:mayB l=false):okA right l=false:=by simp [okA,h]
theorem Zd5 {right:Int} {l:List Int} (h:mayB l=true) (c:l.length=0):okA right l=true:=by simp [okA,h,c]
theorem U8_ {right x:Int} {l:List Int} (h:mayB l=true) (d:0<l.length) (c:l.getD (l.length - 1) 0=x):okA right l=decide (x<right):=by
 unfold okA;rw [h,c,decide_eq_false (show ¬ l.length=0 by omega)];simp
theorem mayset_is (v:Value) (l:List Int) (b:Bool) (h:mayB l=b) (w:World) (hr:Row w w.heap.size v l):Calls Tryz.prog 99 #[v] w (Says w b):=k17_
theorem kmay_any (right:Int) (v:Value) (adj:List (List Int)) (w:World) (P:Rows2 w w.heap.size v adj) :
  Calls Tryz.prog 129 #[.int .i64 right,v] w (Says w (mayM right adj)):=by
 obtain ⟨A,c,rfl,_,z⟩:=P;have H:=hid z;clear z;by_cases q:right<0
 ·rw [mayM_off (.inl q)]
  exact z3_
 by_cases r:64<right
 ·rw [mayM_off (.inr (.inl r))]
  exact z3_
 by_cases s:64<(adj.length:Int)
 ·rw [mayM_off (.inr (.inr s))]
  exact z3_
 have Hall:=hid (fun h=>mayM_all (adj:=adj) q r s h)
 go_enter Tryz.func129,Tryz.ntmps129
 go_wp2
 go_loopw [20] (fun o wr=>∃ i:Nat,o=.int .i64 i∧i≤adj.length∧Below w.heap.size w wr∧∀ j,j<i→okA right (adj.getD j [])=true) (fun o _=>adj.length - (intOf o).toNat)
 case atStart=>exact ⟨0,rfl,Nat.zero_le _,Below.refl _ _,fun j D=>absurd D (Nat.not_lt_zero _)⟩
 case round =>
  obtain ⟨i,rfl,T,y,F⟩:=hrel;have Hbr:=hid y;have Hok:=hid F;clear y F;by_cases E:i<adj.length
  ·have U:(i:Int)<(adj.length:Int):=by omega
   obtain ⟨J,u,N,hab,C,k⟩:=H.out i E;subst N;have M:=(Hbr.out.cell (p:=J.add i) x31_).trans C;have Hru:=hid ((k.below Hbr.out).mono Hbr.out.size);have Hmiss:=hid (fun h=>mayM_miss (right:=right) E h);have Hnext:Hid (okA right (adj.getD i [])=true→∀ j,j<i+1→okA right (adj.getD j [])=true):=fun h j D=>x10_;clear C hab Hok;generalize adj.getD i []=l at *
   rcases hm:mayB l with _ | _
   ·have Hm:=hid hm
    obtain ⟨G,K,rfl,_⟩:=k;clear hm;rw [Hmiss.out (Yp3 Hm.out)];exact j29_
   ·have Hm:=hid hm
    obtain ⟨G,K,rfl,hcap,B⟩:=k;have I:=hid B;obtain ⟨L,d⟩:∃ L,l.length=L:=⟨_,rfl⟩;have HL:=hid d;have S:(L:Int)≤9223372036854775807:=k6_;rw [d] at M Hru;clear hm B hcap d;by_cases h0:L=0
    ·have hok1:=hid (Zd5 (right:=right) Hm.out (HL.out.trans h0))
     exact x5_
    ·obtain ⟨x,m⟩:∃ x,l.getD (l.length - 1) 0=x:=⟨_,rfl⟩
     obtain ⟨al,O,halb,g⟩:=I.out (l.length - 1) x38_;have Hlast:=hid (U8_ (right:=right) Hm.out x38_ m);rw [m,HL.out] at g;subst O;have R:(0:Int)<(L:Int):=k29_;have V:IntKind.i64.wrap ((L:Int) - 1)=(L:Int) - 1:=z30_;have W:(0:Int)≤(L:Int) - 1:=k29_;have X:(L:Int) - 1<(L:Int):=k29_;have Y:((L:Int) - 1).toNat=L - 1:=k29_;clear m h0
     go_wp2_with fail
     refine (mayset_is _ l true Hm.out _ Hru.out).mono ?_;rintro e w1 ⟨rfl,hb1⟩;have Hb1:=hid (Z0_ Hbr.out (le_refl _) hb1);have Q:=(Hb1.out.cell (p:=al.add (L - 1)) x34_).trans g;clear hb1 g;by_cases hxr:x<right
     ·have hxr2:¬ right≤x:=by omega
      have Hok1:Hid (okA right l=true):=Hlast.out.trans (decide_eq_true hxr);exact z4_
     ·exact x26_
  ·exact q5_
open Go.RowKit
def from_ (x:Int):List Int→List Int
 | []=>[]
 | y :: r=>if y<x then from_ x r else y :: r
theorem Xu5 {x y:Int} {r:List Int} (h:y<x):from_ x (y :: r)=from_ x r:=by rw [from_,if_pos h]
theorem Xu6 {x y:Int} {r:List Int} (h:¬ y<x):from_ x (y :: r)=y :: r:=by rw [from_,if_neg h]
theorem Yj3 (x:Int):∀ l,(from_ x l).Sublist l
 | []=>List.Sublist.refl _
 | y :: r=>by
  unfold from_;split
  ·exact (Yj3 x r).cons y
  ·exact List.Sublist.refl _
theorem Yj4 (x z:Int) (c:x≤z):∀ l,(z∈from_ x l↔z∈l)
 | []=>Iff.rfl
 | y :: r=>by
  unfold from_;split
  ·rw [Yj4 x z c r,List.mem_cons]
   constructor
   ·exact .inr
   ·rintro (e | h)
    ·omega
    ·exact h
  ·exact Iff.rfl
theorem Yp4 (x:Int) (l:List Int) (h:l.Pairwise (·<·)) (y:Int) (r:List Int) (c:l=y :: r) (f:¬ y<x):(x∈l↔y=x):=by
 subst c;rw [List.pairwise_cons] at h;rw [List.mem_cons];constructor
 ·rintro (e | d)
  ·exact e.symm
  ·have:=h.1 x d;omega
 ·intro e;exact .inl e.symm
def T8_ (a b b':List Int) (k:Nat):Prop:=b'.Pairwise (·<·)∧b'.length≤b.length∧∀ i,k≤i→i<a.length→(a.getD i 0∈b↔a.getD i 0∈b')
theorem Zk9 {a b:List Int} (hb:IsSet b):T8_ a b b 0:=⟨hb.1,le_refl _,fun _ _ _=>Iff.rfl⟩
theorem Zs9 {a b c:List Int} {k:Nat} (ha:IsSet a) (e:k<a.length) (h:T8_ a b c k):T8_ a b (from_ (a.getD k 0) c) k:=by
 have hs:=Yj3 (a.getD k 0) c;refine ⟨h.1.sublist hs,Nat.le_trans hs.length_le h.2.1,fun i f d=>?_⟩;rw [h.2.2 i f d,Yj4 _ _ ?_];rcases Nat.lt_or_ge k i with g | j
 ·have:=List.pairwise_iff_getElem.1 ha.1 k i e d g
  simp [List.getD,e,d];omega
 ·have:i=k:=by omega
  subst this;exact Int.le_refl _
theorem A4_ {a b c:List Int} {k:Nat} (h:T8_ a b c k):T8_ a b c (k+1):=⟨h.1,h.2.1,fun i d=>h.2.2 i k29_⟩
theorem Ye9 {a b:List Int} {k:Nat} (c:k<a.length) (h:T8_ a b [] k):b.contains (a.getD k 0)=false:=by
 have:=h.2.2 k (le_refl _) c;rw [← Bool.not_eq_true,List.contains_iff_mem,this];simp
theorem Zt0 {a b:List Int} {k:Nat} {y:Int} {r:List Int} (d:k<a.length) (h:T8_ a b (y :: r) k) (e:¬ y<a.getD k 0):b.contains (a.getD k 0)=decide (y=a.getD k 0):=by
 have c:=h.2.2 k (le_refl _) d;rw [Yp4 _ _ h.1 y r rfl e] at c;rw [Bool.eq_iff_iff,List.contains_iff_mem,c,decide_eq_true_iff]
theorem Row.tail {w:World} {B:Nat} {v:Value} {y:Int} {r:List Int} (h:Row w B v (y :: r)):∃ d c,v=.slice (some d) (r.length+1) (c+1)∧w.cell? d=some (.int .i64 y)∧d.block<B∧r.length≤c∧c+1≤maxLen∧∀ f:Option Addr,(f=some (d.add 1)∨(c=0∧f=some d))→Row w B (.slice f r.length c) r:=by
 obtain ⟨A,c,rfl,⟨g,h2,h3⟩,p⟩:=h;obtain ⟨d,rfl,o,hc⟩:=p 0 y30_;rw [add_zero] at hc;obtain ⟨c',rfl⟩:∃ c',c=c' + 1:=⟨c - 1,by simp at g;omega⟩;refine ⟨d,c',y30_,by simpa using hc,o,by simpa using g,h2,fun f m=>⟨f,c',rfl,⟨by simpa using g,k29_,fun e=>by rcases m with h | ⟨_,h⟩<;>rw [e] at h<;>cases h⟩,fun k z=>?_⟩⟩;rcases m with rfl | ⟨u,_⟩
 ·obtain ⟨s,j,x,q⟩:=p (k+1) k30_
  injection j with j;subst j;refine ⟨_,rfl,by rw [Z4_];exact o,?_⟩;have e:(d.add 1).add k=d.add (k+1):=by rw [Addr.add_add,Nat.add_comm]
  rw [e,q];simp
 ·simp at g;omega
theorem Xd9 (P Q:Value) (a b:List Int) (c:Bool) (w:World) (ha:Row w w.heap.size P a) (hb:Row w w.heap.size Q b) (x2:a.length≤1048576) (x3:b.length≤1048576) (s:mayB a=true) (u:mayB b=true) :
  Calls Tryz.prog 90 #[P,Q,.bool c] w (GivesF w (partL a b c)):=by
 have R:=hid ha;have F:=hid hb;obtain ⟨A1,c1,rfl,_,K⟩:=ha;obtain ⟨A2,c2,rfl,_⟩:=hb;have T:=hid K;clear K;have S:=hid (Ye8 a b c s u);have U:=hid (mayB_iff.1 s);have V:=hid (mayB_iff.1 u)
 go_enter Tryz.func90,Tryz.ntmps90
 go_wp2_with fail
 refine (may_any _ a w R.out (Nat.le_trans x2 x30_)).mono ?_;rintro e w1 ⟨rfl,m⟩;rw [s]
 go_wp2_with fail
 refine (may_any _ b w1 ((F.out.below m).mono m.size) (Nat.le_trans x3 x30_)).mono ?_;rintro e w2 ⟨rfl,J⟩;rw [u];have I:Below w.heap.size w w2:=m.trans (J.mono m.size);clear m J s u;go_wp2
 go_loopw [1,7,21] (fun x4 vl D wr=>∃ (k:Nat) (j:List Int),D=.int .i64 k∧k≤a.length∧Row wr w.heap.size x4 j∧T8_ a b j k∧wr.ownsRow w.heap.size 3 1 vl (C8_ a b c k).length (ints (C8_ a b c k))∧Below w.heap.size w wr) (fun _ _ D _=>a.length - (intOf D).toNat)
 case atStart=>exact ⟨0,b,rfl,Nat.zero_le _,F.out.below I,Zk9 V.out,World.ownsRow_nil _ _ _ _,I⟩
 case round =>
  obtain ⟨k,j,rfl,hk,L,M,hown,hbr⟩:=hrel;by_cases d:k<a.length
  ·obtain ⟨X,Z,hab,hc⟩:=T.out k d
   subst Z;have Y:wr.cell? (X.add k)=some (.int .i64 (a.getD k 0)):=(hbr.cell x31_).trans hc;clear hc;have xa:=Zd4 a b c k;have Hyes:=hid (Ye7 a b c k d);have Hno:=hid (Yp2 a b c k d);have Hsv:=hid (Zs9 U.out d M);have H:=hid (fun h=>Ye9 (a:=a) (b:=b) d h);have G:=hid (fun y r h=>Zt0 (a:=a) (b:=b) (y:=y) (r:=r) d h);clear M;generalize a.getD k 0=x at Y Hyes Hno Hsv H G;go_wp2
   go_loopw [1] (fun E x5=>∃ r:List Int,x5=wr∧Row wr w.heap.size E r∧from_ x j=from_ x r) (fun E _=>lenOf E)
   case atStart=>exact ⟨j,rfl,L,rfl⟩
   case round =>
    obtain ⟨r,rfl,o,B⟩:=hrel;have v:=Hsv;rw [B] at Hsv;have q:=hid B;clear B L;cases r with
    | nil =>
     clear v q;have Hc:=hid (H.out Hsv.out);have Hrr:=hid o;obtain ⟨A3,c3,rfl,_⟩:=o;cases c
     ·
      have Hx:=hid (Hyes.out (by rw [Hc.out]));clear Hyes Hno
      go_wp2_with (at_builtin;refine Z8_ rfl _ _ rfl w.heap.size _ _ _ (C8_ a b false k) [x] rfl rfl (hown.alloc _) (Row.lit1 _ x) k29_ y30_ y33_ ?_)
      intro v' w4 hown' hgrow;have hb4:Below w.heap.size wr w4:=((Below.refl _ wr).alloc hbr.size _).grown hgrow y33_ (fun i hi=>(hown.lt i hi).1);go_wp2
      go_roundw
      case rel=>exact ⟨k+1,[],y31_,k29_,Hrr.out.below hb4,A4_ Hsv.out,by rw [Hx.out,List.length_append];exact hown',hbr.trans hb4⟩
      exact mz_
     ·
      have Hx:=hid (Hno.out (by rw [Hc.out];decide));clear Hyes Hno;go_wp2
      go_roundw
      case rel=>exact ⟨k+1,[],y31_,k29_,Hrr.out,A4_ Hsv.out,by rw [Hx.out];exact hown,hbr⟩
      exact mz_
    | cons y r =>
     have Hrr:=hid o;obtain ⟨x6,c3,rfl,g2,x7,x8,x0,N⟩:=o.tail;have W:=hid N;clear N o;have xb:(r.length:Int)≤(c3:Int):=k29_;have x9:(c3:Int)≤9223372036854775806:=by unfold maxLen at x0;omega
     by_cases O:y<x
     ·rw [Xu5 O] at q
      clear Hsv v;go_wp2
      go_roundw
      case rel =>
       refine ⟨r,trivial,W.out _ ?_,q.out⟩;by_cases z:c3=0
       ·rw [if_pos z];exact .inr ⟨z,rfl⟩
       ·rw [if_neg z];exact .inl (by simp [Addr.add])
      case measure=>simp [lenOf]
     ·rw [Xu6 O] at Hsv
      clear v q;have p:=hid (G.out y r Hsv.out k29_);have xd:decide (y<x)=false:=k30_;by_cases C:y=x
      ·subst C
       have Hc:Hid (b.contains y=true):=by
        show b.contains y=true;rw [p.out];simp
       clear p;cases c
       ·
        exact y6_
       ·
        have Hx:=hid (Hyes.out (by rw [Hc.out]));clear Hyes Hno
        go_wp2_with (at_builtin;refine Z8_ rfl _ _ rfl w.heap.size _ _ _ (C8_ a b true k) [y] rfl rfl (hown.alloc _) (Row.lit1 _ y) k29_ y30_ y33_ ?_)
        exact q4_
      ·have Hc:Hid (b.contains x=false):=by
        show b.contains x=false;rw [p.out];simp [C]
       have xc:(y==x)=false:=by simp [C]
       clear p;cases c
       ·
        have Hx:=hid (Hyes.out (by rw [Hc.out]));clear Hyes Hno
        go_wp2_with (at_builtin;refine Z8_ rfl _ _ rfl w.heap.size _ _ _ (C8_ a b false k) [x] rfl rfl (hown.alloc _) (Row.lit1 _ x) k29_ y30_ y33_ ?_)
        exact q4_
       ·
        exact y6_
  ·have x1:k=a.length:=by omega
   subst x1;rw [S.out] at hown;go_wp2;go_ret;exact ⟨_,rfl,Row.of_own hown rfl,hbr,fun g hg=>(hown.lt g hg).1⟩
theorem Xe0 (c h:Value) (a b:List Int) (d:Bool) (w:World) (ha:Row w w.heap.size c a) (hb:Row w w.heap.size h b) (k:a.length≤1048576) (m:b.length≤1048576) :
  Calls Tryz.prog 90 #[c,h,.bool d] w (GivesF w (partL a b d)):=by
 rcases hma:mayB a with _ | _
 ·have j:=hid ha
  clear ha hb;have Hr:=hid (Xd6 (b:=b) (w:=d) hma)
  go_enter Tryz.func90,Tryz.ntmps90
  go_wp2_with fail
  refine (may_any c a w j.out (Nat.le_trans k x30_)).mono ?_;exact y14_
 ·rcases hmb:mayB b with _ | _
  ·have j:=hid ha
   have o:=hid hb;clear ha hb;have Hr:=hid (Xd7 (a:=a) (w:=d) hmb)
   go_enter Tryz.func90,Tryz.ntmps90
   go_wp2_with fail
   refine (may_any c a w j.out (Nat.le_trans k x30_)).mono ?_;rintro e w1 ⟨rfl,hb1⟩;rw [hma]
   go_wp2_with fail
   refine (may_any h b w1 ((o.out.below hb1).mono hb1.size) (Nat.le_trans m x30_)).mono ?_;exact y11_
  ·exact Xd9 c h a b d w ha hb k m hma hmb
theorem I3_ (c d:Value) (a b:List Int) (w:World) (ha:Row w w.heap.size c a) (hb:Row w w.heap.size d b) (k:a.length≤1048576) (m:b.length≤1048576) :
  Calls Tryz.prog 64 #[c,d] w (GivesF w (Z7_ a b)):=by
 have g:=hid (Xe0 c d a b false w ha hb k m);clear ha hb
 go_enter Tryz.func64,Tryz.ntmps64
 go_wp2_with fail
 refine g.out.mono ?_;rintro e q ⟨p,rfl,o,h,j⟩;go_wp2;go_ret;exact ⟨_,rfl,o,h,j⟩
theorem I4_ (c d:Value) (a b:List Int) (w:World) (ha:Row w w.heap.size c a) (hb:Row w w.heap.size d b) (e:a.length≤1048576) (g:b.length≤1048576) :
  Calls Tryz.prog 64 #[c,d] w (Gives w (Z7_ a b)):=(I3_ c d a b w ha hb e g).mono fun _ _ h=>h.gives
theorem R9_ (h j:Value) (a b:List Int) (w:World) (ha:Row w w.heap.size h a) (hb:Row w w.heap.size j b) (p:a.length≤1048576) (u:b.length≤1048576) :
  Calls Tryz.prog 76 #[h,j] w (Says w (subB a b)):=by
 have k:=hid ha;have s:=hid hb;clear ha hb;rcases hma:mayB a with _ | _
 ·have d:=hid (Xu2 (b:=b) hma)
  go_enter Tryz.func76,Tryz.ntmps76
  go_wp2_with fail
  refine (may_any h a w k.out (Nat.le_trans p x30_)).mono ?_;rintro e q ⟨rfl,c⟩;rw [hma];go_wp2;go_ret;exact V1_ d.out rfl c
 ·rcases hmb:mayB b with _ | _
  ·have d:=hid (Xu3 (a:=a) hmb)
   go_enter Tryz.func76,Tryz.ntmps76
   go_wp2_with fail
   refine (may_any h a w k.out (Nat.le_trans p x30_)).mono ?_;rintro e q ⟨rfl,c⟩;rw [hma]
   go_wp2_with fail
   refine (may_any j b q ((s.out.below c).mono c.size) (Nat.le_trans u x30_)).mono ?_;rintro e v ⟨rfl,o⟩;rw [hmb];go_wp2;go_ret;exact V1_ d.out rfl (c.trans (o.mono c.size))
  ·have d:=hid (Xu4 hma hmb)
   go_enter Tryz.func76,Tryz.ntmps76
   go_wp2_with fail
   refine (may_any h a w k.out (Nat.le_trans p x30_)).mono ?_;rintro e q ⟨rfl,c⟩;rw [hma]
   go_wp2_with fail
   refine (may_any j b q ((s.out.below c).mono c.size) (Nat.le_trans u x30_)).mono ?_;rintro e v ⟨rfl,o⟩;rw [hmb];have g:Below w.heap.size w v:=c.trans (o.mono c.size);clear c o
   go_wp2_with fail
   refine (I4_ h j a b v ((k.out.below g).mono g.size) ((s.out.below g).mono g.size) p u).mono ?_;rintro e G ⟨F,rfl,B,C⟩;have x:=g.trans (C.mono g.size);have z:=Zs8 a b false;change (Z7_ a b).length≤_ at z;generalize Z7_ a b=m at d B z;obtain ⟨D,c3,rfl,_⟩:=B;cases m with
   | nil =>
    go_wp2;go_ret;exact V1_ d.out rfl x
   | cons y r =>
    have E:((r.length:Int)+1==0)=false:=k30_;go_wp2;go_ret;exact V1_ d.out rfl x
open Go.RowKit
def upTo (k:Nat):List Int:=(List.range k).map Int.ofNat
theorem Zy0 (k:Nat):upTo (k+1)=upTo k ++ [(k:Int)]:=by
 unfold upTo;rw [List.range_succ,List.map_append];rfl
theorem X5_ (k:Nat):(upTo k).length=k:=by simp [upTo]
theorem Xp9 {n:Int} (h:n<1∨100000<n):allL n=[]:=if_pos h
theorem Xu7 {n:Nat} (c:1≤n) (h2:n≤100000):allL n=upTo n:=by
 unfold allL upTo;rw [if_neg k29_];rfl
def filled (n k:Nat):Array Value:=(ints (upTo k ++ List.replicate (n - k) 0)).toArray
theorem Zt1 {n k:Nat} (h:k≤n):(filled n k).size=n:=by
 simp [filled,Y2_,X5_];omega
theorem Yf0 {n k:Nat} (h:k<n):(filled n k).setIfInBounds k (.int .i64 (k:Int))=filled n (k+1):=by
 unfold filled;rw [List.setIfInBounds_toArray];congr 1;rw [Zy0,X8_,X8_,X8_,List.append_assoc];have e:List.replicate (n - k) (0:Int)=0 :: List.replicate (n - (k+1)) 0:=by
  rw [show n - k=(n - (k+1))+1 from by omega,List.replicate_succ]
 rw [e,List.set_append_right _ _ (by rw [Y2_,X5_];exact le_refl _),Y2_,X5_,Nat.sub_self];rfl
theorem Yf1 (n:Nat):filled n n=(ints (upTo n)).toArray:=by
 unfold filled;rw [Nat.sub_self,List.replicate_zero,List.append_nil]
theorem Yf2 {w:World} {g n:Nat} (h:Blk w g 3 (filled n n)) (c:n≤maxLen):Row w w.heap.size (.slice (some ⟨g,0,none⟩) n n) (upTo n):=by
 rw [Yf1] at h;refine ⟨_,n,by rw [X5_],⟨by rw [X5_];exact le_refl _,c,fun e=>by cases e⟩,fun k hk=>⟨_,rfl,h.lt,?_⟩⟩;exact q15_
theorem M7_ (w:World) (g n:Nat) (h:w.ownsRow g 3 1 (.slice (some ⟨g,0,none⟩) n n) n (madeCells (Value.int .i64 0).cells (n * 1)).toList):Blk w g 3 (filled n 0):=by
 rcases h.2 with ⟨e,_⟩ | ⟨p,o,c,m,hb,j,d,h2,h3,f⟩
 ·cases e
 ·injection m with e1 _ e3
  injection e1 with e1;injection e1 with e1;subst e1 e3;unfold Blk;rw [j];have k:(madeCells (Value.int IntKind.i64 0).cells (n * 1)).toList=(filled n 0).toList:=by
   unfold madeCells filled;simp only [upTo,List.range_zero,List.map_nil,List.nil_append,Nat.sub_zero,Nat.mul_one];apply List.ext_getElem
   ·simp [ints]
   ·intro i d h2
    simp [ints,Value.cells,Nat.mod_one]
  have hc:c.toList=(filled n 0).toList:=by
   rw [← k,← f,List.take_of_length_le];rw [Array.length_toList,h3];exact le_refl _
  rw [Array.toList_inj.1 hc]
theorem Vc3 (n:Nat) (w:World) (r:1≤n) (h2:n≤100000) :
  Calls Tryz.prog 63 #[.int .i64 n] w (Gives w (allL n)):=by
 have p:=hid (Xu7 r h2);have D:¬ (n:Int)<1:=k29_;have E:¬ (100000:Int)<(n:Int):=k29_;obtain ⟨z,d,x,y,hz2⟩:=info_parts info3
 go_enter Tryz.func63,Tryz.ntmps63
 go_wp2_with (at_make;refine wpList_make_full w rfl _ _ 23 rfl w.heap.size 3 z (.int .i64 0) 1 q30_ d x y .i64 .i64 _ _ n rfl rfl (by rfl) (by rfl) z36_ k31_ (le_refl _) ?_)
 intro o m h;have c:=M7_ o w.heap.size n (by rw [Nat.mul_one];exact m);have s:Below w.heap.size w o:=(Below.refl _ w).grown h (le_refl _) (fun i d=>by cases d);clear m h;go_wp2
 go_loopw [15] (fun e wr=>∃ k:Nat,e=.int .i64 k∧k≤n∧Blk wr w.heap.size 3 (filled n k)∧Below w.heap.size w wr) (fun e _=>n - (intOf e).toNat)
 case atStart=>exact ⟨0,rfl,Nat.zero_le _,c,s⟩
 case round =>
  obtain ⟨k,rfl,u,c,g⟩:=hrel;by_cases j:k<n
  ·have hs:=Zt1 u
   have B:wr.cell? ⟨w.heap.size,k,none⟩=some ((filled n k)[k]'k29_):=by rw [c.cell];simp [hs,j]
   have C:=c.frozen k;have q:=hid c;clear c;go_wp2
   go_roundw
   case rel=>exact ⟨k+1,y31_,k29_,by rw [← Yf0 j];exact q.out.set_ k _,g.setCell (by exact le_refl _) _⟩
   exact mz_
  ·have v:k=n:=by omega
   subst v;go_wp2;go_ret;exact ⟨_,rfl,by rw [p.out];exact Yf2 c k31_,g⟩
theorem A5_ (n:Int) (w:World):Calls Tryz.prog 63 #[.int .i64 n] w (Gives w (allL n)):=by
 by_cases c:n<1
 ·have Hf:=hid (Xp9 (.inl c))
  exact j16_
 ·by_cases h2:100000<n
  ·have Hf:=hid (Xp9 (.inr h2))
   exact j16_
  ·obtain ⟨m,rfl⟩:∃ m:Nat,n=(m:Int):=⟨n.toNat,k29_⟩
   exact Vc3 m w k29_ k29_
open Go.RowKit
theorem Yf3 (v:Value) (l:List Int) (w:World) (E:Row w w.heap.size v l) (hl:l.length≤9223372036854775807):Calls Tryz.prog 52 #[v] w (Says w (mayB l)):=by
 obtain ⟨A,c,rfl,_,p⟩:=E;have Hcell:=hid p;clear p;have N:(l.length:Int)≤9223372036854775807:=k29_
 go_enter Tryz.func52,Tryz.ntmps52
 go_wp2
 go_loopw [3] (fun m wr=>∃ k q:Nat,m=.int .i64 k∧k≤l.length∧wr=w.drewN q∧IsSet (l.take k)) (fun m _=>l.length - (intOf m).toNat)
 case atStart=>exact ⟨0,0,rfl,Nat.zero_le _,rfl,by simpa using Q3_⟩
 case round =>
  obtain ⟨k,q,rfl,K,u,s⟩:=hrel;have Hwr:=hid u;have Hset:=hid s;clear u s;by_cases g:k<l.length
  ·obtain ⟨o,hA,H,hc⟩:=Hcell.out k g
   subst hA;have e:wr.cell? (o.add k)=some (.int .i64 (l.getD k 0)):=by rw [Hwr.out];exact hc
   clear hc;have L:(k:Int)<(l.length:Int):=k29_;have d:=hid (Yj2 l k g Hset.out);have Hfail:=hid (Zk7 l k g);have Hq:Hid (Below w.heap.size w wr):=q22_;by_cases D:k=0
   ·subst D
    rw [add_zero] at e;generalize l.getD 0 0=x at e d Hfail;by_cases hx0:0≤x
    ·by_cases hx1:x≤1099511627776
     ·have d0:decide (x<0)=false:=by simp;omega
      have d1:decide (1099511627776<x)=false:=k30_;have B:decide ((0:Int)<0)=false:=rfl;go_wp2
      go_quiet (fail)
      go_wp2
      go_roundw
      case rel=>exact ⟨1,q+nq,rfl,k29_,by rw [Hwr.out,World.drewN_drewN],d.out ⟨hx0,hx1⟩ (.inl trivial)⟩
      exact mz_
     ·exact z25_
    ·exact z26_
   ·obtain ⟨j,r⟩:∃ j,j+1=k:=⟨k - 1,k29_⟩
    have I:(k:Int) - 1=(j:Int):=k29_;have J:(j:Int)<(l.length:Int):=k29_;have C:wr.cell? (o.add j)=some (.int .i64 (l.getD j 0)):=x16_;have G:=hid r;have M:0<k:=k29_;rw [show k - 1=j from by omega] at d Hfail;clear r;generalize l.getD k 0=x at e d Hfail;generalize l.getD j 0=y at C d Hfail;by_cases hx0:0≤x
    ·by_cases hx1:x≤1099511627776
     ·by_cases z:y<x
      ·have d0:decide (x<0)=false:=by simp;omega
       have d1:decide (1099511627776<x)=false:=k30_;have B:decide (x≤y)=false:=k30_;go_wp2
       go_quiet (fail)
       go_wp2
       go_roundw
       case rel=>exact ⟨k+1,q+nq,y31_,k29_,by rw [Hwr.out,World.drewN_drewN],d.out ⟨hx0,hx1⟩ (.inr z)⟩
       exact mz_
      ·have F:x≤y:=by omega
       have Hf:=hid (Hfail.out (.inr ⟨k29_,F⟩));have d0:decide (x<0)=false:=k30_;have d1:decide (1099511627776<x)=false:=k30_;clear z;exact y5_
     ·exact z25_
    ·exact z26_
  ·exact q10_
theorem I5_ (v:Value) (l:List Int) (w:World) (c:Row w w.heap.size v l) (hl:l.length≤9223372036854775807) {x:Bool} (h:mayB l=x):Calls Tryz.prog 52 #[v] w (Says w x):=by
 subst h;exact Yf3 v l w c hl
open Go.RowKit
open Go.RowKit
open Go.RowKit
end Go.Proofs.YtheeajnkiniopaaGreatDoor.Wp
