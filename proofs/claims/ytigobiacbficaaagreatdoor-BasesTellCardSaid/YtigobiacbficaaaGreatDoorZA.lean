/- Sets of numbers as lists, plain: what layer 2's calls answer, and that sets are an algebra. Nothing of the program here. Small laws of memory that the walks of this seat use: a block that is known whole; a list of integers in memory; what a call gives. Memory of this seat: a list of lists of integers; a family of rows that the call itself makes, no two in one block. Plain facts on sets as lists, for the walks: whether a list is a set, step by step; what both have, step by step. Whether a list is a set, as the program and as the document ask it, walked. Two sides that may be: the program's May, walked. The program's part (Meet, Minus), walked: both lists rise, and one goes along the other. The program's Has and All, walked. Whether a list is a set, as the document asks it, walked. The document's answer: is a number in a list: walked. The document's meet and union of sets, walked. -/
import Derived.Lib.SlicesCompact
import Derived.Test.YtigobiacbficaaaGreatDoorProg
import Derived.WalkKit
import Derived.OwnWalk
import Derived.Lib.Hide
import Derived.Laws.Cells
import Derived.Laws.Rows
import Derived.Deep.Draws
import Derived.BigQuiet
import Derived.Deep.QuietTactic
import Derived.Laws.AppendOwnNone
import Derived.Maps.AppendAt
import Derived.Lib.OwnBridge
import Derived.DataElems
import Derived.Test.YtigobiacbficaaaGreatDoorX0A
import Derived.Test.YtigobiacbficaaaGreatDoorX0B
set_option maxHeartbeats 8000000
set_option maxRecDepth 100000
open Go.Lib (hid)
open Nat (le_refl)
namespace Go.Proofs.YtigobiacbficaaaGreatDoor.Wp
def Fit (x:Int):Prop:=0≤x∧x≤1099511627776
instance (x:Int):Decidable (Fit x):=inferInstanceAs (Decidable (_∧_))
def IsSet (l:List Int):Prop:=l.Pairwise (·<·)∧∀ x∈l,Fit x
instance (l:List Int):Decidable (IsSet l):=inferInstanceAs (Decidable (_∧_))
def mayB (l:List Int):Bool:=decide (IsSet l)
theorem J0_:IsSet []:=⟨List.Pairwise.nil,fun _ h=>absurd h k40_⟩
theorem Ye0:∀ {a b:List Int},a.Pairwise (·<·)→b.Pairwise (·<·)→(∀ x,x∈a↔x∈b)→a=b
 | [],[],_,_,_=>rfl
 | [],y :: b,_,_,h=>absurd ((h y).2 k40_) k40_
 | x :: a,[],_,_,h=>absurd ((h x).1 k40_) k40_
 | x :: a,y :: b,ha,hb,h=>by
  rw [List.pairwise_cons] at ha hb;have g:x=y:=by
   rcases List.mem_cons.1 ((h x).1 k40_) with e | f
   ·exact e
   ·rcases List.mem_cons.1 ((h y).2 k40_) with e | j
    ·exact e.symm
    ·have:=hb.1 x f
     have:=ha.1 y j;omega
  subst g;congr 1;refine Ye0 ha.2 hb.2 fun z=>⟨fun c=>?_,fun c=>?_⟩
  ·rcases List.mem_cons.1 ((h z).1 (by simp [c])) with e | d
   ·have:=ha.1 z c;omega
   ·exact d
  ·rcases List.mem_cons.1 ((h z).2 (by simp [c])) with e | d
   ·have:=hb.1 z c;omega
   ·exact d
theorem IsSet.ext {a b:List Int} (ha:IsSet a) (hb:IsSet b) (h:∀ x,x∈a↔x∈b):a=b:=Ye0 ha.1 hb.1 h
theorem IsSet.sub {a b:List Int} (h:IsSet b) (hs:a.Sublist b):IsSet a:=⟨h.1.sublist hs,fun x c=>h.2 x (hs.subset c)⟩
theorem IsSet.filter {a:List Int} (h:IsSet a) (p:Int→Bool):IsSet (a.filter p):=h.sub List.filter_sublist
theorem IsSet.tail {x:Int} {a:List Int} (h:IsSet (x :: a)):IsSet a:=h.sub (List.sublist_cons_self x a)
def ins (x:Int):List Int→List Int
 | []=>[x]
 | y :: r=>if x<y then x :: y :: r else if x=y then y :: r else y :: ins x r
theorem Zo8 (x z:Int):∀ l,z∈ins x l↔z=x∨z∈l
 | []=>by simp [ins]
 | y :: r=>by
  unfold ins;split
  ·simp
  ·split
   ·subst_vars;simp
   ·simp only [List.mem_cons,Zo8 x z r]
    constructor
    ·rintro (h | h | h)<;>simp [h]
    ·rintro (h | h | h)<;>simp [h]
theorem Ye1 (x:Int) (f:Fit x):∀ l,IsSet l→IsSet (ins x l)
 | [],_=>⟨by simp [ins],by simp [ins];exact f⟩
 | y :: r,h=>by
  have g:=List.pairwise_cons.1 h.1;unfold ins;split
  ·refine ⟨List.pairwise_cons.2 ⟨fun z c=>?_,h.1⟩,fun z c=>?_⟩
   ·rcases List.mem_cons.1 c with e | d
    ·omega
    ·have:=g.1 z d;omega
   ·rcases List.mem_cons.1 c with e | d
    ·rw [e];exact f
    ·exact h.2 z d
  ·split
   ·exact h
   ·have j:=Ye1 x f r h.tail
    refine ⟨List.pairwise_cons.2 ⟨fun z c=>?_,j.1⟩,fun z c=>?_⟩
    ·rcases (Zo8 x z r).1 c with e | d
     ·omega
     ·exact g.1 z d
    ·rcases List.mem_cons.1 c with e | d
     ·rw [e];exact h.2 y k40_
     ·exact j.2 z d
def sortL:List Int→List Int
 | []=>[]
 | x :: r=>if Fit x then ins x (sortL r) else sortL r
theorem J8_:∀ l,IsSet (sortL l)
 | []=>J0_
 | x :: r=>by
  unfold sortL;split
  ·exact Ye1 x (by assumption) _ (J8_ r)
  ·exact J8_ r
theorem G7_ (z:Int):∀ l,z∈sortL l↔z∈l∧Fit z
 | []=>by simp [sortL]
 | x :: r=>by
  unfold sortL;split
  ·next hx =>
   rw [Zo8,G7_ z r,List.mem_cons];constructor
   ·rintro (e | ⟨h,c⟩)
    ·subst e;exact ⟨.inl rfl,hx⟩
    ·exact ⟨.inr h,c⟩
   ·rintro ⟨e | h,c⟩
    ·exact .inl e
    ·exact .inr ⟨h,c⟩
  ·next hx =>
   rw [G7_ z r,List.mem_cons];constructor
   ·rintro ⟨h,c⟩;exact ⟨.inr h,c⟩
   ·rintro ⟨e | h,c⟩
    ·subst e;exact absurd c hx
    ·exact ⟨h,c⟩
theorem Xw1 {r l:List Int} (c:IsSet r) (h:∀ x,x∈r↔x∈l∧Fit x):r=sortL l :=
 c.ext (J8_ l) fun x=>by rw [h,G7_]
theorem H4_:∀ l,(sortL l).length≤l.length
 | []=>le_refl _
 | x :: r=>by
  unfold sortL;have c:∀ (y:Int) (t:List Int),(ins y t).length≤t.length+1:=by
   intro y t;exact q18_
  split
  ·have:=c x (sortL r)
   have:=H4_ r;simp;omega
  ·have:=H4_ r
   simp;omega
def hasB (l:List Int) (x:Int):Bool:=mayB l && l.contains x
def Y1_ (a b:List Int):List Int:=if mayB a && mayB b then sortL (a ++ b) else []
def partL (a b:List Int) (w:Bool):List Int:=if mayB a && mayB b then a.filter fun x=>b.contains x==w else []
def meetL (a b:List Int):List Int:=partL a b true
def Z8_ (a b:List Int):List Int:=partL a b false
def subB (a b:List Int):Bool:=mayB a && mayB b && decide (Z8_ a b=[])
def allL (n:Int):List Int:=if n<1∨100000<n then [] else (List.range n.toNat).map Int.ofNat
theorem mayB_iff {l:List Int}:mayB l=true↔IsSet l:=by simp [mayB]
theorem K8_ {l:List Int} (h:IsSet l):mayB l=true:=mayB_iff.2 h
theorem E3_ (a b:List Int):IsSet (Y1_ a b):=by
 unfold Y1_;split
 ·exact J8_ _
 ·exact J0_
theorem Yn7 (a b:List Int) (w:Bool):IsSet (partL a b w):=by
 unfold partL;split
 ·next h=>exact (mayB_iff.1 (by simp at h;exact h.1)).filter _
 ·exact J0_
theorem Xw2 (a b:List Int):IsSet (meetL a b):=Yn7 a b true
theorem G8_ (a b:List Int):IsSet (Z8_ a b):=Yn7 a b false
theorem F2_ (n:Int):IsSet (allL n):=by
 unfold allL;split
 ·exact J0_
 ·next h =>
  refine ⟨?_,fun x d=>?_⟩
  ·rw [List.pairwise_map]
   exact List.pairwise_lt_range.imp fun h=>by simpa using h
  ·obtain ⟨k,c,rfl⟩:=List.mem_map.1 d
   have:=List.mem_range.1 c;have e:Int.ofNat k=(k:Int):=rfl;unfold Fit;rw [e];omega
theorem A5_ {a b:List Int} (ha:IsSet a) (hb:IsSet b) (x:Int):x∈Y1_ a b↔x∈a∨x∈b:=by
 unfold Y1_;rw [if_pos (by rw [K8_ ha,K8_ hb];rfl),G7_,List.mem_append];constructor
 ·exact fun h=>h.1
 ·rintro (h | h)
  ·exact ⟨.inl h,ha.2 x h⟩
  ·exact ⟨.inr h,hb.2 x h⟩
theorem Yn8 {a b:List Int} (ha:IsSet a) (hb:IsSet b) (w:Bool) (x:Int):x∈partL a b w↔x∈a∧(b.contains x=w):=by
 unfold partL;rw [if_pos (by rw [K8_ ha,K8_ hb];rfl),List.mem_filter];simp
theorem T6_ {a b:List Int} (ha:IsSet a) (hb:IsSet b) (x:Int):x∈meetL a b↔x∈a∧x∈b:=by
 unfold meetL;rw [Yn8 ha hb,List.contains_iff_mem]
theorem X5_ {a b:List Int} (ha:IsSet a) (hb:IsSet b) (x:Int):x∈Z8_ a b↔x∈a∧x∉b:=by
 unfold Z8_;rw [Yn8 ha hb,← Bool.not_eq_true,List.contains_iff_mem]
theorem Xd9 {a b:List Int} (ha:IsSet a) (hb:IsSet b):subB a b=true↔∀ x∈a,x∈b:=by
 unfold subB;rw [K8_ ha,K8_ hb];simp only [Bool.and_self,Bool.true_and,decide_eq_true_eq];constructor
 ·intro h x d
  rcases Decidable.em (x∈b) with c | c
  ·exact c
  ·have:=(X5_ ha hb x).2 ⟨d,c⟩
   rw [h] at this;exact absurd this k40_
 ·intro h
  rcases hm:Z8_ a b with _ | ⟨x,r⟩
  ·rfl
  ·have:=(X5_ ha hb x).1 (by rw [hm];simp)
   exact absurd (h x this.1) this.2
theorem Ye2 {l:List Int} (h:IsSet l) (x:Int):hasB l x=true↔x∈l:=by
 unfold hasB;rw [K8_ h];simp
theorem Ye3 (a b:List Int) (w:Bool):(partL a b w).length≤a.length:=by
 unfold partL;split
 ·exact List.length_filter_le _ _
 ·simp
theorem Zv7 (a b:List Int):(Y1_ a b).length≤a.length+b.length:=by
 unfold Y1_;split
 ·have:=H4_ (a ++ b)
  simpa using this
 ·simp
theorem C8_ (n:Int):((allL n).length:Int)≤100000∧(1≤n→n≤100000→((allL n).length:Int)=n):=by
 unfold allL;split
 ·next h=>exact ⟨k40_,fun c h2=>by omega⟩
 ·next h=>exact ⟨by simp;omega,fun c h2=>by simp;omega⟩
theorem F3_ {n:Int} (d:0≤n) (h2:n≤100000) (x:Int):x∈allL n↔0≤x∧x<n:=by
 unfold allL;split
 ·next h =>
  simp;omega
 ·rw [List.mem_map]
  constructor
  ·rintro ⟨k,c,rfl⟩
   have:=List.mem_range.1 c;have e:Int.ofNat k=(k:Int):=rfl;rw [e];omega
  ·intro h
   exact ⟨x.toNat,List.mem_range.2 y40_,by simp;omega⟩
section
variable {a b c:List Int} (ha:IsSet a) (hb:IsSet b) (hc:IsSet c)
include ha hb
include hc
end
theorem Zb7:∀ {a b r:List Int},IsSet a→IsSet b→IsSet r→(∀ x,x∈a→x∉b)→(∀ x,x∈r↔x∈a∨x∈b)→r.length=a.length+b.length:=by
 intro a b r ha hb g hd c;have d:(a ++ b).Nodup:=by
  rw [List.nodup_append];refine ⟨ha.1.imp fun h=>by omega,hb.1.imp fun h=>by omega,fun x k y m e=>hd x k (by rw [e];exact m)⟩
 have j:r.Nodup:=g.1.imp fun h=>by omega
 have f:r.Perm (a ++ b):=by
  rw [List.perm_ext_iff_of_nodup j d];intro x;rw [c,List.mem_append]
 rw [f.length_eq,List.length_append]
theorem Vl0 {a b:List Int} (ha:IsSet a) (hb:IsSet b):(Y1_ a b).length+(meetL a b).length=a.length+b.length:=by
 have f:a.length=(Z8_ a b).length+(meetL a b).length:=by
  refine Zb7 (G8_ a b) (Xw2 a b) ha ?_ ?_
  ·intro x d e
   exact ((X5_ ha hb x).1 d).2 ((T6_ ha hb x).1 e).2
  ·intro x
   rw [X5_ ha hb,T6_ ha hb];constructor
   ·intro h
    rcases Decidable.em (x∈b) with c | c
    ·exact .inr ⟨h,c⟩
    ·exact .inl ⟨h,c⟩
   ·rintro (h | h)<;>exact h.1
 have h2:(Y1_ a b).length=(Z8_ a b).length+b.length:=by
  refine Zb7 (G8_ a b) hb (E3_ a b) ?_ ?_
  ·intro x d
   exact ((X5_ ha hb x).1 d).2
  ·intro x
   rw [X5_ ha hb,A5_ ha hb];constructor
   ·rintro (h | h)
    ·rcases Decidable.em (x∈b) with c | c
     ·exact .inr c
     ·exact .inl ⟨h,c⟩
    ·exact .inr h
   ·rintro (h | h)
    ·exact .inl h.1
    ·exact .inr h
 omega
theorem Yw7 (d:Array Int) (hs:∀ i j,i≤j→j<d.size→d[i]!≤d[j]!):∀ m,m≤d.size→(Lib.compactUpTo d m).Pairwise (·<·)∧∀ x,x∈Lib.compactUpTo d m↔∃ j,j<m∧d[j]! = x:=by
 intro m
 induction m with
 | zero=>intro _;exact ⟨by simp [Lib.compactUpTo],by simp [Lib.compactUpTo]⟩
 | succ m ih =>
  intro v;obtain ⟨k,h2⟩:=ih y40_;rw [Lib.compactUpTo_succ];by_cases c:Lib.keeps d m=true
  ·rw [if_pos c]
   constructor
   ·rw [List.pairwise_append]
    refine ⟨k,k40_,fun x q y p=>?_⟩;rw [List.mem_singleton] at p;subst p;obtain ⟨j,f,rfl⟩:=(h2 x).1 q;simp only [Lib.keeps,decide_eq_true_eq] at c;have r:=hs j (m - 1) y40_ y40_;have s:=hs (m - 1) m y40_ y40_;have u:d[m]!≠d[m - 1]!:=by
     rcases c with h | h
     ·omega
     ·exact h
    omega
   ·intro x
    rw [List.mem_append,List.mem_singleton,h2];constructor
    ·rintro (⟨j,f,e⟩ | e)
     ·exact ⟨j,y40_,e⟩
     ·exact ⟨m,y40_,e.symm⟩
    ·rintro ⟨j,f,e⟩
     by_cases g:j=m
     ·subst g;exact .inr e.symm
     ·exact .inl ⟨j,y40_,e⟩
  ·have o:Lib.keeps d m=false:=by simpa using c
   rw [if_neg c,List.append_nil];refine ⟨k,fun x=>?_⟩;rw [h2];constructor
   ·rintro ⟨j,f,e⟩;exact ⟨j,y40_,e⟩
   ·rintro ⟨j,f,e⟩
    by_cases g:j=m
    ·subst g
     simp only [Lib.keeps,decide_eq_false_iff_not,not_or,Decidable.not_not] at o;exact ⟨j - 1,y40_,by rw [← e,o.2]⟩
    ·exact ⟨j,y40_,e⟩
theorem Zi6 (l:List Int) (h:l.Pairwise (·≤·)):(Lib.compact l).Pairwise (·<·)∧∀ x,x∈Lib.compact l↔x∈l:=by
 have c:∀ i,i<l.length→l.toArray[i]! = l.getD i 0:=by
  intro i hi;rw [getElem!_pos l.toArray i y48_];simp [List.getD,hi]
 have hs:∀ i j,i≤j→j<l.toArray.size→l.toArray[i]!≤l.toArray[j]!:=by
  intro i j k hj;have d:j<l.length:=q50_;rw [c i y40_,c j d];rcases Nat.lt_or_ge i j with e | g
  ·have:=List.pairwise_iff_getElem.1 h i j y40_ d e
   simpa [List.getD,d,show i<l.length from by omega] using this
  ·have:i=j:=by omega
   subst this;exact Int.le_refl _
 have hc:=Yw7 l.toArray hs l.length k40_;refine ⟨hc.1,fun x=>?_⟩;unfold Lib.compact;rw [hc.2];constructor
 ·rintro ⟨j,hj,rfl⟩
  rw [c j hj];simp [List.getD,hj]
 ·intro f
  obtain ⟨j,hj,rfl⟩:=List.mem_iff_getElem.1 f;exact ⟨j,hj,by rw [c j hj];simp [List.getD,hj]⟩
theorem Zo9 (l:List Int):Lib.compact ((l.filter fun x=>decide (Fit x)).mergeSort fun x y=>decide (x≤y))=sortL l:=by
 have f:((l.filter fun x=>decide (Fit x)).mergeSort fun x y=>decide (x≤y)).Pairwise (·≤·):=by
  have:=List.pairwise_mergeSort (le:=fun x y:Int=>decide (x≤y)) (fun a b c d h2=>by simp at *;omega) (fun a b=>by simp;omega) (l.filter fun x=>decide (Fit x));exact this.imp fun h=>by simpa using h
 obtain ⟨d,h2⟩:=Zi6 _ f;have e:∀ x,x∈Lib.compact ((l.filter fun x=>decide (Fit x)).mergeSort fun x y=>decide (x≤y))↔x∈l∧Fit x:=by
  intro x;rw [h2,List.mem_mergeSort,List.mem_filter,decide_eq_true_eq]
 exact Xw1 ⟨d,fun x g=>((e x).1 g).2⟩ e
open Go Go.RowKit
theorem info3:(Tryz.prog.info? 3).map (fun i=>(i.zero,i.size,i.bytes))=some (some (.int .i64 0),1,8):=z40_
def Blk (w:World) (g:Nat) (t:TypeId) (cs:Array Value):Prop:=w.heap[g]?=some (.cells cs t (0,0))
section
variable {w w':World} {g:Nat} {t:TypeId} {cs:Array Value}
theorem Blk.lt (h:Blk w g t cs):g<w.heap.size:=by
 rcases Nat.lt_or_ge g w.heap.size with d | c
 ·exact d
 ·unfold Blk at h;rw [Array.getElem?_eq_none c] at h;cases h
theorem Blk.cell (h:Blk w g t cs) (i:Nat):w.cell? ⟨g,i,none⟩=cs[i]?:=cell_of_row w g i cs t (0,0) h
theorem Blk.frozen (h:Blk w g t cs) (i:Nat):w.frozen? ⟨g,i,none⟩=false:=by
 unfold Blk at h;simp [World.frozen?,h]
theorem Blk.new (w:World) (t:TypeId) (cs:Array Value):Blk (w.alloc (.cells cs t)) w.heap.size t cs:=heap_alloc_new w _
theorem Blk.drew (h:Blk w g t cs):Blk w.drew g t cs:=h
theorem Blk.alloc (h:Blk w g t cs) (o:Obj):Blk (w.alloc o) g t cs:=(Below.heap_alloc w o g h.lt).trans h
theorem Blk.set_ (h:Blk w g t cs) (i:Nat) (u:Value):Blk (w.setCell ⟨g,i,none⟩ u) g t (cs.setIfInBounds i u):=by
 unfold Blk at h ⊢;simp [World.setCell,Array.getElem?_modify,h]
theorem Blk.far (h:Blk w g t cs) {p:Addr} (c:g≠p.block) (u:Value):Blk (w.setCell p u) g t cs:=(Below.heap_setCell w p u g c).trans h
theorem Blk.below {B:Nat} (h:Blk w g t cs) (hb:Below B w w') (c:g<B):Blk w' g t cs:=(hb.block g c).trans h
theorem Blk.grown {row:Option Nat} (h:Blk w g t cs) (hb:w.grownBy w' row) (c:some g≠row):Blk w' g t cs:=(hb.block g h.lt c).trans h
end
theorem Yz7 {a w:World} {g:Nat} (h:a.grownBy w (some g)) {p:Addr} (c:p.block=g∨a.heap.size≤p.block) (u:Value):a.grownBy (w.setCell p u) (some g) :=
 ⟨h.os,h.tape,h.output,by simpa [World.setCell] using h.size,fun i e d=>(Below.heap_setCell w p u i (by
  rintro rfl;rcases c with c | c
  ·exact d (by rw [c])
  ·omega)).trans (h.block i e d)⟩
theorem Z7_ {a w:World} (h:Below a.heap.size a w) (row:Option Nat):a.grownBy w row:=⟨h.os,h.tape,h.output,h.size,fun i c _=>h.block i c⟩
theorem Yw8 {a b c:World} {row:Option Nat} (h:a.grownBy b row) (k:b.grownBy c row):a.grownBy c row :=
 ⟨k.os.trans h.os,k.tape.trans h.tape,k.output.trans h.output,Nat.le_trans h.size k.size,fun i d e=>(k.block i (Nat.lt_of_lt_of_le d h.size) e).trans (h.block i d e)⟩
theorem Y2_ {B:Nat} {a w:World} (h:Below B a w) (n:Nat):Below B a (w.drewN n):=⟨h.os,h.tape,h.output,h.size,h.block⟩
def Row (w:World) (B:Nat) (v:Value) (zs:List Int):Prop :=
 ∃ A c,v=.slice A zs.length c∧(zs.length≤c∧c≤maxLen∧(A=none→c=0))∧∀ k,k<zs.length→∃ ad:Addr,A=some ad∧ad.block<B∧w.cell? (ad.add k)=some (.int .i64 (zs.getD k 0))
theorem add_zero (a:Addr):a.add 0=a:=j44_
theorem Z2_ (a:Addr) (n:Nat):(a.add n).block=a.block:=by unfold Addr.add;split<;>rfl
theorem Row.below {w w':World} {B:Nat} {v:Value} {zs:List Int} (h:Row w B v zs) (hb:Below B w w'):Row w' B v zs:=by
 obtain ⟨A,c,m,j,f⟩:=h;refine ⟨A,c,m,j,fun k g=>?_⟩;obtain ⟨d,e,hB,hc⟩:=f k g;exact ⟨d,e,hB,(hb.cell x50_).trans hc⟩
theorem Row.mono {w:World} {B d:Nat} {v:Value} {zs:List Int} (h:Row w B v zs) (p:B≤d):Row w d v zs:=by
 obtain ⟨A,c,o,m,g⟩:=h;refine ⟨A,c,o,m,fun k j=>?_⟩;obtain ⟨e,f,hb,hc⟩:=g k j;exact ⟨e,f,y40_,hc⟩
theorem Row.of_own {w:World} {base:Nat} {v:Value} {n:Nat} {zs:List Int} (h:w.ownsRow base 3 1 v n (zs.map (Value.int .i64))) (f:n=zs.length):Row w w.heap.size v zs:=by
 subst f;rcases h.2 with ⟨rfl,h0⟩ | ⟨g,c,j,rfl,hb,m,d,e,_⟩
 ·have:zs=[]:=List.eq_nil_of_length_eq_zero y50_
  subst this;exact j10_
 ·refine ⟨_,c,rfl,⟨d,e,fun h=>(by cases h)⟩,fun k hk=>⟨⟨g,0,none⟩,rfl,(h.lt g rfl).2,?_⟩⟩
  refine h.cells (g:=g) rfl k _ ?_;rw [List.getElem?_map,List.getElem?_eq_getElem hk];simp [List.getD,hk]
theorem Row.lit0 (W:World):Row (W.alloc (.cells #[] 3)) (W.heap.size+1) (.slice (some ⟨W.heap.size,0,none⟩) 0 0) []:=⟨_,0,rfl,⟨le_refl _,q41_,fun _=>rfl⟩,fun k c=>absurd c k40_⟩
theorem Row.nil_ (W:World) (B:Nat):Row W B (.slice none 0 0) []:=⟨none,0,rfl,⟨le_refl _,q41_,fun _=>rfl⟩,fun k c=>absurd c k40_⟩
theorem Row.lit1 (W:World) (x:Int):Row (W.alloc (.cells #[.int .i64 x] 3)) (W.heap.size+1) (.slice (some ⟨W.heap.size,0,none⟩) 1 1) [x]:=by
 refine ⟨_,1,rfl,⟨le_refl _,q41_,fun h=>(by cases h)⟩,fun k c=>⟨⟨W.heap.size,0,none⟩,rfl,by show W.heap.size<_;omega,?_⟩⟩;have hb:=Blk.new W 3 #[.int .i64 x]
 match k,c with
 | 0,_=>exact hb.cell 0
theorem Yn9 (w:World) (t:TypeId) (u:Value):∀ (j:Nat) (v:Value),[u][j]?=some v→(w.alloc (.cells #[u] t)).cell? ((⟨w.heap.size,0,none⟩:Addr).add j)=some v:=by
 intro j v c
 match j,c with
 | 0,c =>
  simp at c;subst c;rw [add_zero];exact (Blk.new w t #[u]).cell 0
theorem Vl1 (x:Int):∀ u∈[Value.int .i64 x],u.oneCell'=true:=by
 intro u c;simp at c;subst c;rfl
def lenOf:Value→Nat
 | .slice _ n _=>n
 | _=>0
def Says (w:World) (b:Bool) (e:Ending) (w':World):Prop:=e=.returned (.bool b)∧Below w.heap.size w w'
def Gives (w:World) (r:List Int) (e:Ending) (w':World):Prop:=∃ v,e=.returned v∧Row w' w'.heap.size v r∧Below w.heap.size w w'
def GivesF (w:World) (r:List Int) (e:Ending) (w':World):Prop:=∃ v,e=.returned v∧Row w' w'.heap.size v r∧Below w.heap.size w w'∧∀ g,v.ownBlock=some g→w.heap.size≤g
theorem GivesF.gives {w w':World} {r:List Int} {e:Ending} (h:GivesF w r e w'):Gives w r e w':=by
 obtain ⟨v,c,h2,h3,_⟩:=h;exact ⟨v,c,h2,h3⟩
def ints (l:List Int):List Value:=l.map (Value.int .i64)
theorem V6_ (a b:List Int):ints (a ++ b)=ints a ++ ints b:=List.map_append
theorem Y7_ (l:List Int):(ints l).length=l.length:=List.length_map ..
theorem Z5_ {w:World} {ops:Array Oper} {rest:List Oper} {o:Oper} {a:Act} {Q:Exit→Act→World→Prop} (q:o.guard=none) (s x:Operand)
  (E:o.op=.call { callee:=.builtin .append,args:=#[s,x],argTypes:=#[28, 28] })
  (base B:Nat) (v H:Value) (zs ys:List Int) (hs:a.eval s=v) (F:a.eval x=H) (p:w.ownsRow base 3 1 v zs.length (ints zs)) (L:Row w B H ys)
  (V:zs.length≤4194304) (U:ys.length≤4194304) (hb:base≤w.heap.size)
  (h:∀ k w',w'.ownsRow base 3 1 k (zs ++ ys).length (ints (zs ++ ys))→w.grownBy w' v.ownBlock→wpList Tryz.prog ops Q rest (a.put o.dst k) w'):wpList Tryz.prog ops Q (o :: rest) a w:=by
 obtain ⟨G,C,O,P,R⟩:=info_parts info3;obtain ⟨A,c,rfl,K,D⟩:=L;have J:∀ d,A=some d→∀ j u,(ints ys)[j]?=some u→w.cell? (d.add j)=some u:=by
  intro d e j u g;have m:j<ys.length:=by
   have:=(List.getElem?_eq_some_iff.1 g).1;simpa [ints] using this
  obtain ⟨T,f,_,hc⟩:=D j m;rw [e] at f;have f:=Option.some.inj f;subst f;rw [hc];rw [ints,List.getElem?_map,List.getElem?_eq_getElem m] at g;simp at g;rw [← g];simp [List.getD,m]
 have S:∀ d,A=some d→wpList Tryz.prog ops Q (o :: rest) a w:=by
  intro d e;refine wpList_append_own w q s x _ E base 3 G (.int .i64 0) 1 8 z40_ C O P R rfl q41_ v zs.length (ints zs) hs p d ys.length c (ints ys) (by rw [F,e]) (by simp [ints]) (J d e) ?_ ?_ ?_ hb ?_
  ·intro u M
   obtain ⟨z,_,rfl⟩:=List.mem_map.1 M;rfl
  ·unfold maxLen;omega
  ·omega
  ·intro k w' I h2 _
   refine h k w' ?_ h2;rw [V6_,List.length_append];exact I
 cases A with
 | some d=>exact S d rfl
 | none =>
  have N:ys=[]:=by
   cases ys with
   | nil=>rfl
   | cons y r =>
    obtain ⟨_,e,_⟩:=D 0 k40_;cases e
  subst N;have hc:=K.2.2 rfl;subst hc;refine wpList_append_own_none q s x _ E base 3 G 1 z40_ C v zs.length (ints zs) hs p F ?_;exact h v w (by rw [List.append_nil];exact p) ⟨rfl,rfl,rfl,le_refl _,fun _ _ _=>rfl⟩
def Truly (w:World) (e:Ending) (w':World):Prop:=e=.returned (.bool true)∧Below w.heap.size w w'
theorem Row.up {w w':World} {v:Value} {l:List Int} (h:Row w w.heap.size v l) (hb:Below w.heap.size w w'):Row w' w'.heap.size v l:=(h.below hb).mono hb.size
theorem Z0_ {B:Nat} {a b c:World} (h:Below B a b) (d:B≤a.heap.size) (k:Below b.heap.size b c):Below B a c:=h.trans (k.mono (Nat.le_trans d h.size))
theorem Row.here {w:World} {o:Obj} {v:Value} {l:List Int} (h:Row (w.alloc o) (w.heap.size+1) v l):Row (w.alloc o) (w.alloc o).heap.size v l:=by
 have e:(w.alloc o).heap.size=w.heap.size+1:=k40_;rw [e];exact h
theorem Row.upA {w:World} {v:Value} {l:List Int} (h:Row w w.heap.size v l) (o:Obj):Row (w.alloc o) (w.alloc o).heap.size v l:=h.up ((Below.refl _ w).alloc (le_refl _) o)
open Go.RowKit
def Rows2 (w:World) (B:Nat) (v:Value) (pp:List (List Int)):Prop :=
 ∃ A c,v=.slice A pp.length c∧(pp.length≤c∧c≤maxLen∧(A=none→c=0)) ∧
  ∀ k,k<pp.length→∃ (ad:Addr) (u:Value),A=some ad∧ad.block<B∧w.cell? (ad.add k)=some u∧Row w B u (pp.getD k [])
theorem Rows2.below {w w':World} {B:Nat} {v:Value} {pp:List (List Int)} (h:Rows2 w B v pp) (hb:Below B w w'):Rows2 w' B v pp:=by
 obtain ⟨A,c,o,m,g⟩:=h;refine ⟨A,c,o,m,fun k j=>?_⟩;obtain ⟨d,u,f,hB,e,h2⟩:=g k j;exact ⟨d,u,f,hB,(hb.cell x50_).trans e,h2.below hb⟩
theorem Rows2.mono {w:World} {B d:Nat} {v:Value} {pp:List (List Int)} (h:Rows2 w B v pp) (j:B≤d):Rows2 w d v pp:=by
 obtain ⟨A,c,q,p,m⟩:=h;refine ⟨A,c,q,p,fun k o=>?_⟩;obtain ⟨e,u,g,hb,f,h2⟩:=m k o;exact ⟨e,u,g,y40_,f,h2.mono j⟩
theorem Rows2.up {w w':World} {v:Value} {pp:List (List Int)} (h:Rows2 w w.heap.size v pp) (hb:Below w.heap.size w w'):Rows2 w' w'.heap.size v pp:=(h.below hb).mono hb.size
theorem Zv8 {w:World} {j k:Nat} {e f:TypeId} {x y u v:Nat} {d h:Value} {z A:List Value} (o:w.ownsRow j e x d u z) (h2:w.ownsRow k f y h v A) (s:e≠f) :
  d.ownBlock=none∨d.ownBlock≠h.ownBlock:=by
 rcases o.2 with ⟨rfl,_⟩ | ⟨g,B,D,rfl,_,r,_⟩
 ·exact .inl rfl
 ·right
  rcases h2.2 with ⟨rfl,_⟩ | ⟨m,C,E,rfl,_,c,_⟩
  ·simp [Value.ownBlock]
  ·intro p
   have q:g=m:=by simpa [Value.ownBlock] using p
   subst q;rw [r] at c;injection c with c;injection c with _ ht;exact s ht
def Fam (w:World) (B:Nat) (vs:List Value) (pp:List (List Int)):Prop :=
 vs.length=pp.length∧(∀ (i:Nat) (v:Value) (p:List Int),vs[i]?=some v→pp[i]?=some p→w.ownsRow B 3 1 v p.length (ints p)) ∧
  ∀ (i j:Nat) (v u:Value),vs[i]?=some v→vs[j]?=some u→i≠j→v.ownBlock=none∨v.ownBlock≠u.ownBlock
theorem Ye4 (w:World) (B:Nat):Fam w B [] []:=⟨rfl,fun i v p h=>by simp at h,fun i j v u h=>by simp at h⟩
theorem Fam.kept {w w':World} {B:Nat} {vs:List Value} {pp:List (List Int)} (h:Fam w B vs pp) {row:Option Nat} (d:w.grownBy w' row) (f:∀ v∈vs,v.ownBlock=none∨v.ownBlock≠row):Fam w' B vs pp :=
 ⟨h.1,fun i v p c e=>(h.2.1 i v p c e).kept d (f v (List.mem_of_getElem? c)),h.2.2⟩
theorem Fam.apart {w w':World} {B:Nat} {vs:List Value} {pp:List (List Int)} (h:Fam w B vs pp) {g:Nat} (e:w.grownBy w' (some g)) (o:g<B):Fam w' B vs pp:=by
 refine h.kept e fun v m=>?_;obtain ⟨i,d,rfl⟩:=List.mem_iff_getElem.1 m;have f:i<pp.length:=by rw [← h.1];exact d
 have j:=h.2.1 i _ _ (List.getElem?_eq_getElem d) (List.getElem?_eq_getElem f);rcases hb:vs[i].ownBlock with _ | k
 ·exact .inl rfl
 ·right
  have:=j.lt k hb;intro c;injection c with c;omega
theorem Fam.new {w w':World} {B:Nat} {vs:List Value} {pp:List (List Int)} (h:Fam w B vs pp) (c:w.grownBy w' none):Fam w' B vs pp :=
 h.kept c fun v _=>by
  rcases v.ownBlock with _ | k
  ·exact .inl rfl
  ·exact .inr k40_
theorem Fam.more {w:World} {B:Nat} {vs:List Value} {pp:List (List Int)} (h:Fam w B vs pp):Fam w B (vs ++ [.slice none 0 0]) (pp ++ [[]]):=by
 have m:(Value.slice none 0 0).ownBlock=none:=rfl;refine ⟨by simp [h.1],fun i v p hv hp=>?_,fun i j v u hv c e=>?_⟩
 ·by_cases hi:i<vs.length
  ·exact j20_
  ·have d:i=vs.length:=j21_
   subst d;rw [List.getElem?_append_right (le_refl _)] at hv;rw [h.1,List.getElem?_append_right (le_refl _)] at hp;simp at hv hp;subst hv hp;exact World.ownsRow_nil _ _ _ _
 ·by_cases hi:i<vs.length
  ·rw [List.getElem?_append_left hi] at hv
   by_cases f:j<vs.length
   ·rw [List.getElem?_append_left f] at c
    exact h.2.2 i j v u hv c e
   ·have g:j=vs.length:=by
     have:=(List.getElem?_eq_some_iff.1 c).1;simp at this;omega
    subst g;rw [List.getElem?_append_right (le_refl _)] at c;simp at c;subst c;rw [m];rcases v.ownBlock with _ | k
    ·exact .inl rfl
    ·exact .inr k40_
  ·have d:i=vs.length:=j21_
   subst d;rw [List.getElem?_append_right (le_refl _)] at hv;simp at hv;subst hv;exact .inl rfl
theorem Fam.grow {w w':World} {B:Nat} {vs:List Value} {pp:List (List Int)} (h:Fam w B vs pp) {at_:Nat} {u u':Value} {q:List Int} (s:vs[at_]?=some u) (A:w.grownBy w' u.ownBlock)
  (E:w'.ownsRow B 3 1 u' q.length (ints q)) (hl:u'.ownBlock=u.ownBlock∨u'.ownBlock=some w.heap.size):Fam w' B (vs.set at_ u') (pp.set at_ q):=by
 have m:at_<vs.length:=(List.getElem?_eq_some_iff.1 s).1;have y:∀ (j:Nat) (v:Value),vs[j]?=some v→∀ k,v.ownBlock=some k→k<w.heap.size:=by
  intro j v c k D;have r:=(List.getElem?_eq_some_iff.1 c).1;have C:j<pp.length:=by rw [← h.1];exact r
  exact ((h.2.1 j v _ c (List.getElem?_eq_getElem C)).lt k D).2
 refine ⟨by simp [h.1],fun i v p c g=>?_,fun i j v z c d x=>?_⟩
 ·by_cases f:i=at_
  ·subst f
   rw [List.getElem?_set_self m] at c;rw [List.getElem?_set_self (by rw [← h.1];exact m)] at g;injection c with c;injection g with g;subst c g;exact E
  ·rw [List.getElem?_set_ne (fun e=>f e.symm)] at c g
   exact (h.2.1 i v p c g).kept A (h.2.2 i at_ v u c s f)
 ·by_cases f:i=at_
  ·subst f
   rw [List.getElem?_set_self m] at c;injection c with c;subst c;rw [List.getElem?_set_ne x] at d;rcases hl with hl | hl
   ·rw [hl]
    exact h.2.2 i j u z s d x
   ·right
    rw [hl];intro o;have:=y j z d _ o.symm;omega
  ·rw [List.getElem?_set_ne (fun e=>f e.symm)] at c
   by_cases r:j=at_
   ·subst r
    rw [List.getElem?_set_self m] at d;injection d with d;subst d;rcases hl with hl | hl
    ·rw [hl]
     exact h.2.2 i j v u c s f
    ·rcases hb:v.ownBlock with _ | k
     ·exact .inl rfl
     ·right
      rw [hl];intro o;injection o with o;have:=y i v c k hb;omega
   ·rw [List.getElem?_set_ne (fun e=>r e.symm)] at d
    exact h.2.2 i j v z c d x
theorem X6_ {w:World} {ops:Array Oper} {rest:List Oper} {o:Oper} {a:Act} {Q:Exit→Act→World→Prop} (r:o.guard=none) (s x:Operand) (T e:TypeId) (z:Value) (f:Nat)
  (D:o.op=.call { callee:=.builtin .append,args:=#[s,x],argTypes:=#[T,T] }) (F:Tryz.prog.underlying T=some (.slice e)) (C:(Tryz.prog.info? e).map (fun i=>(i.zero,i.size,i.bytes))=some (some z,1,f)) (K:z.cells.size=1)
  (base:Nat) (v u:Value) (c:List Value) (hs:a.eval s=v) (E:w.ownsRow base e 1 v c.length c) (g:Nat) (G:a.eval x=.slice (some ⟨g,0,none⟩) 1 1) (hc:w.cell? ⟨g,0,none⟩=some u) (p:u.oneCell'=true)
  (hl:c.length≤4194304) (q:f≤1024) (hb:base≤w.heap.size)
  (h:∀ d w',w'.ownsRow base e 1 d (c.length+1) (c ++ [u])→w.grownBy w' v.ownBlock→(d.ownBlock=v.ownBlock∨d.ownBlock=some w.heap.size)→wpList Tryz.prog ops Q rest (a.put o.dst d) w'):wpList Tryz.prog ops Q (o :: rest) a w:=by
 obtain ⟨L,B,H,I,J⟩:=info_parts C;refine wpList_append_own_at w r s x T D base e L z 1 f F B H I J K q41_ v c.length c hs E ⟨g,0,none⟩ 1 1 [u] G k40_ ?_ ?_ ?_ ?_ hb ?_
 ·intro j y k
  match j,k with
  | 0,k =>
   simp at k;subst k;rw [add_zero];exact hc
 ·intro y m
  simp at m;subst m;exact p
 ·unfold maxLen;omega
 ·have:(c.length+1) * f≤4194305 * 1024:=Nat.mul_le_mul y40_ q
  omega
 ·intro d w' M N _ O
  exact h d w' M N O
theorem K9_ {w:World} {B:Nat} {e:TypeId} {v:Value} {n:Nat} {f:List Value} (h:w.ownsRow B e 1 v n f) (j:0<n):∃ g c,v=.slice (some ⟨g,0,none⟩) n c∧B≤g:=by
 rcases h.2 with ⟨_,rfl⟩ | ⟨g,c,_,d,hb,_⟩
 ·omega
 ·exact ⟨g,c,d,hb⟩
theorem A6_ {w:World} {B:Nat} {e:TypeId} {v:Value} {n:Nat} {f:List Value} (h:w.ownsRow B e 1 v n f):∃ A c,v=.slice A n c:=by
 rcases h.2 with ⟨rfl,rfl⟩ | ⟨g,c,_,d,_⟩
 ·exact ⟨none,0,rfl⟩
 ·exact ⟨_,c,d⟩
theorem Fam.rows {w:World} {B:Nat} {v:Value} {vs:List Value} {pp:List (List Int)} (h:Fam w B vs pp) (c:w.ownsRow B 28 1 v vs.length vs):Rows2 w w.heap.size v pp:=by
 have p:∀ k,k<pp.length→∃ u,vs[k]?=some u∧Row w w.heap.size u (pp.getD k []):=by
  intro k hk;have d:k<vs.length:=by rw [h.1];exact hk
  refine ⟨vs[k],List.getElem?_eq_getElem d,?_⟩;have:=h.2.1 k _ _ (List.getElem?_eq_getElem d) (List.getElem?_eq_getElem hk);rw [show pp.getD k []=pp[k] from by simp [List.getD,hk]];exact Row.of_own this rfl
 rcases c.2 with ⟨rfl,j⟩ | ⟨g,f,s,rfl,hb,x,m,o,_⟩
 ·have hp0:pp.length=0:=by rw [← h.1];exact j
  exact k37_
 ·refine ⟨some ⟨g,0,none⟩,f,by rw [h.1],⟨by rw [← h.1];exact m,o,fun e=>by cases e⟩,fun k hk=>?_⟩
  obtain ⟨u,r,q⟩:=p k hk;exact ⟨_,u,rfl,(c.lt g rfl).2,c.cells (g:=g) rfl k u r,q⟩
open Go.RowKit
theorem X7_ {w w':World} {b c:Bool} {e:Ending} (hb:b=c) (d:e=.returned (.bool c)) (h:Below w.heap.size w w'):Says w b e w':=⟨by rw [hb];exact d,h⟩
theorem Yo0 (l:List Int) (k:Nat) (f:k<l.length) (h:IsSet (l.take k)) (m:Fit (l.getD k 0)) (d:k=0∨l.getD (k - 1) 0<l.getD k 0):IsSet (l.take (k+1)):=by
 have e:l.take (k+1)=l.take k ++ [l.getD k 0]:=by
  rw [List.take_succ_eq_append_getElem f];simp [List.getD,f]
 rw [e];refine ⟨?_,fun x c=>?_⟩
 ·rw [List.pairwise_append]
  refine ⟨h.1,k40_,fun x c y g=>?_⟩;rw [List.mem_singleton] at g;subst g;obtain ⟨j,o,rfl⟩:=List.mem_iff_getElem.1 c;rw [List.length_take] at o;rcases d with q | d
  ·omega
  ·have hl:l.getD (k - 1) 0=(l.take k)[k - 1]'k42_:=by
    simp [List.getD,show k - 1<l.length from by omega]
   rw [hl] at d;rcases Nat.lt_or_ge j (k - 1) with p | r
   ·have:=List.pairwise_iff_getElem.1 h.1 j (k - 1) k42_ k42_ p
    omega
   ·have:j=k - 1:=by omega
    subst this;exact d
 ·rw [List.mem_append,List.mem_singleton] at c
  rcases c with c | c
  ·exact h.2 x c
  ·subst c;exact m
theorem Yz8 (l:List Int) (k:Nat) (c:k<l.length) (h:¬ Fit (l.getD k 0)∨(0<k∧l.getD k 0≤l.getD (k - 1) 0)):mayB l=false:=by
 rw [← Bool.not_eq_true,mayB_iff];intro hs;have d:l.getD k 0∈l:=by simp [List.getD,c]
 rcases h with h | ⟨e,h⟩
 ·exact h (hs.2 _ d)
 ·have:=List.pairwise_iff_getElem.1 hs.1 (k - 1) k y40_ c y40_
  simp [List.getD,c,show k - 1<l.length from by omega] at h;omega
theorem Xe0 (l:List Int) (k:Nat) (c:k=l.length) (h:IsSet (l.take k)):mayB l=true:=by
 subst c;rw [List.take_length] at h;exact K8_ h
theorem T7_ (w:World) {w':World} (h:Below w.heap.size w w') {r:List Int} (c:r=[]):Gives w r (.returned (.slice none 0 0)) w':=⟨_,rfl,by rw [c];exact Row.nil_ _ _,h⟩
theorem Yz9 {a b:List Int} (ha:mayB a=true) (hb:mayB b=true):Y1_ a b=sortL (a ++ b):=by unfold Y1_;rw [ha,hb];rfl
theorem Yy0 {a b:List Int} (ha:mayB a=false):Y1_ a b=[]:=by unfold Y1_;rw [ha];rfl
theorem Yy1 {a b:List Int} (hb:mayB b=false):Y1_ a b=[]:=by unfold Y1_;rw [hb,Bool.and_false];rfl
def A7_ (a b:List Int) (w:Bool) (k:Nat):List Int:=(a.take k).filter fun x=>b.contains x==w
theorem Zz7 (a b:List Int) (w:Bool) (k:Nat) (h:k<a.length) (c:b.contains (a.getD k 0)=w):A7_ a b w (k+1)=A7_ a b w k ++ [a.getD k 0]:=by
 unfold A7_;rw [List.take_succ_eq_append_getElem h,List.filter_append];have e:a[k]=a.getD k 0:=k49_;rw [e];congr 1;rw [List.filter_cons,if_pos (by simpa using c)];rfl
theorem Zb8 (a b:List Int) (w:Bool) (k:Nat) (h:k<a.length) (c:¬ b.contains (a.getD k 0)=w):A7_ a b w (k+1)=A7_ a b w k:=by
 unfold A7_;rw [List.take_succ_eq_append_getElem h,List.filter_append];have e:a[k]=a.getD k 0:=k49_;rw [e,List.filter_cons,if_neg (by simpa using c)];simp
theorem L0_ (a b:List Int) (w:Bool) (k:Nat):(A7_ a b w k).length≤a.length:=by
 unfold A7_;refine Nat.le_trans (List.length_filter_le _ _) ?_;simp;omega
theorem Zz8 (a b:List Int) (w:Bool) (ha:mayB a=true) (hb:mayB b=true):A7_ a b w a.length=partL a b w:=by
 unfold A7_ partL;rw [List.take_length,ha,hb];rfl
theorem Zp0 {a b:List Int} {w:Bool} (ha:mayB a=false):partL a b w=[]:=by unfold partL;rw [ha];rfl
theorem Zp1 {a b:List Int} {w:Bool} (hb:mayB b=false):partL a b w=[]:=by unfold partL;rw [hb,Bool.and_false];rfl
theorem Vl2 {a b:List Int} (ha:mayB a=false):subB a b=false:=by unfold subB;rw [ha];rfl
theorem Vl3 {a b:List Int} (hb:mayB b=false):subB a b=false:=by unfold subB;rw [hb,Bool.and_false];rfl
theorem Vl4 {a b:List Int} (ha:mayB a=true) (hb:mayB b=true):subB a b=decide (Z8_ a b=[]):=by unfold subB;rw [ha,hb];rfl
open Go.RowKit
theorem Xw3 (x:Int) (w:World):Calls Tryz.prog 126 #[.int .i64 x] w fun e w'=>e=.returned (.bool (decide (Fit x)))∧w'=w:=by
 by_cases c:0≤x
 ·by_cases d:x≤1099511627776
  ·have hf:decide (Fit x)=true:=by simp [Fit,c,d]
   exact j33_
  ·have hf:decide (Fit x)=false:=by simp [Fit,d]
   exact j33_
 ·have hf:decide (Fit x)=false:=by simp [Fit,c]
  exact j33_
theorem Zz9 (x:Int) (b:Bool) (h:decide (Fit x)=b) (w:World):Calls Tryz.prog 126 #[.int .i64 x] w fun e w'=>e=.returned (.bool b)∧w'=w:=by
 subst h;exact Xw3 x w
theorem may_any (v:Value) (l:List Int) (w:World) (C:Row w w.heap.size v l) (hl:l.length≤9223372036854775807):Calls Tryz.prog 100 #[v] w (Says w (mayB l)):=by
 obtain ⟨A,c,rfl,_,p⟩:=C;have Hcell:=hid p;clear p;have L:(l.length:Int)≤9223372036854775807:=y40_
 go_enter Tryz.func100,Tryz.ntmps100
 go_wp2
 go_loopw [7] (fun m wr=>∃ k q:Nat,m=.int .i64 k∧k≤l.length∧wr=w.drewN q∧IsSet (l.take k)) (fun m _=>l.length - (intOf m).toNat)
 case atStart=>exact ⟨0,0,rfl,Nat.zero_le _,rfl,by simpa using J0_⟩
 case round =>
  obtain ⟨k,q,rfl,J,u,s⟩:=hrel;have Hwr:=hid u;have Hset:=hid s;clear u s;by_cases h:k<l.length
  ·obtain ⟨o,hA,G,hc⟩:=Hcell.out k h
   subst hA;have g:wr.cell? (o.add k)=some (.int .i64 (l.getD k 0)):=by rw [Hwr.out];exact hc
   clear hc;have d:=hid (Yo0 l k h Hset.out);have Hfail:=hid (Yz8 l k h);have Hq:Hid (Below w.heap.size w wr):=q30_;by_cases B:k=0
   ·subst B
    rw [add_zero] at g;generalize l.getD 0 0=x at g d Hfail;by_cases hx:Fit x
    ·have hfx:=Zz9 x true q46_
     go_wp2_with (go_at_call 126;refine (hfx _).mono ?_;rintro e w' ⟨rfl,rfl⟩)
     go_roundw
     case rel=>exact ⟨1,q,rfl,y40_,Hwr.out,d.out hx (.inl trivial)⟩
     exact mz_
    ·exact x13_
   ·obtain ⟨j,r⟩:∃ j,j+1=k:=⟨k - 1,y40_⟩
    have H:(k:Int) - 1=(j:Int):=y40_;have I:(j:Int)<(l.length:Int):=y40_;have z:wr.cell? (o.add j)=some (.int .i64 (l.getD j 0)):=k21_;have F:=hid r;have K:0<(k:Int):=y40_;rw [show k - 1=j from by omega] at d Hfail;clear r;generalize l.getD k 0=x at g d Hfail;generalize l.getD j 0=y at z d Hfail;by_cases hx:Fit x
    ·have hfx:=Zz9 x true q46_
     by_cases E:y<x
     ·go_wp2_with (go_at_call 126;refine (hfx _).mono ?_;rintro e w' ⟨rfl,rfl⟩)
      go_roundw
      case rel=>exact ⟨k+1,q,j41_,y40_,Hwr.out,d.out hx (.inr E)⟩
      exact mz_
     ·have D:x≤y:=by omega
      go_wp2_with (go_at_call 126;refine (hfx _).mono ?_;rintro e w' ⟨rfl,rfl⟩)
      go_ret;exact X7_ (Hfail.out (.inr ⟨y40_,D⟩)) rfl Hq.out
    ·exact x13_
  ·exact k13_
open Go.RowKit
def okA (right:Int) (l:List Int):Bool:=mayB l && (decide (l.length=0) || decide (l.getD (l.length - 1) 0<right))
def mayM (right:Int) (adj:List (List Int)):Bool:=decide (0≤right∧right≤64) && decide (adj.length≤64) && adj.all (okA right)
theorem mayM_off {right:Int} {adj:List (List Int)} (h:right<0∨64<right∨64<(adj.length:Int)):mayM right adj=false:=k23_
theorem mayM_miss {right:Int} {adj:List (List Int)} {i:Nat} (hi:i<adj.length) (h:okA right (adj.getD i [])=false):mayM right adj=false:=by
 unfold mayM;exact z4_
theorem mayM_all {right:Int} {adj:List (List Int)} (c:¬ right<0) (h2:¬ 64<right) (h3:¬ 64<(adj.length:Int)) (h:∀ i,i<adj.length→okA right (adj.getD i [])=true):mayM right adj=true:=x34_
theorem Xe1 {right:Int} {l:List Int} (h:mayB l=false):okA right l=false:=by simp [okA,h]
theorem Zp2 {right:Int} {l:List Int} (h:mayB l=true) (c:l.length=0):okA right l=true:=by simp [okA,h,c]
theorem Zq6 {right x:Int} {l:List Int} (h:mayB l=true) (c:0<l.length) (hx:l.getD (l.length - 1) 0=x):okA right l=decide (x<right):=by
 unfold okA;exact q24_
theorem mayset_is (v:Value) (l:List Int) (b:Bool) (h:mayB l=b) (w:World) (hr:Row w w.heap.size v l):Calls Tryz.prog 100 #[v] w (Says w b):=y24_
theorem kmay_any (right:Int) (v:Value) (adj:List (List Int)) (w:World) (P:Rows2 w w.heap.size v adj) :
  Calls Tryz.prog 103 #[.int .i64 right,v] w (Says w (mayM right adj)):=by
 obtain ⟨A,c,rfl,_,z⟩:=P;have H:=hid z;clear z;by_cases q:right<0
 ·rw [mayM_off (.inl q)]
  exact y32_
 by_cases r:64<right
 ·rw [mayM_off (.inr (.inl r))]
  exact y32_
 by_cases s:64<(adj.length:Int)
 ·rw [mayM_off (.inr (.inr s))]
  exact y32_
 have Hall:=hid (fun h=>mayM_all (adj:=adj) q r s h)
 go_enter Tryz.func103,Tryz.ntmps103
 go_wp2
 go_loopw [20] (fun o wr=>∃ i:Nat,o=.int .i64 i∧i≤adj.length∧Below w.heap.size w wr∧∀ j,j<i→okA right (adj.getD j [])=true) (fun o _=>adj.length - (intOf o).toNat)
 case atStart=>exact ⟨0,rfl,Nat.zero_le _,Below.refl _ _,fun j D=>absurd D (Nat.not_lt_zero _)⟩
 case round =>
  obtain ⟨i,rfl,T,y,F⟩:=hrel;have Hbr:=hid y;have Hok:=hid F;clear y F;by_cases E:i<adj.length
  ·have U:(i:Int)<(adj.length:Int):=by omega
   obtain ⟨J,u,N,hab,C,k⟩:=H.out i E;subst N;have M:=(Hbr.out.cell (p:=J.add i) x42_).trans C;have Hru:=hid ((k.below Hbr.out).mono Hbr.out.size);have Hmiss:=hid (fun h=>mayM_miss (right:=right) E h);have Hnext:Hid (okA right (adj.getD i [])=true→∀ j,j<i+1→okA right (adj.getD j [])=true):=fun h j D=>x11_;clear C hab Hok;generalize adj.getD i []=l at *
   rcases hm:mayB l with _ | _
   ·have Hm:=hid hm
    obtain ⟨G,K,rfl,_⟩:=k;clear hm;rw [Hmiss.out (Xe1 Hm.out)];exact x40_
   ·have Hm:=hid hm
    obtain ⟨G,K,rfl,hcap,B⟩:=k;have I:=hid B;obtain ⟨L,d⟩:∃ L,l.length=L:=⟨_,rfl⟩;have HL:=hid d;have S:(L:Int)≤9223372036854775807:=x6_;rw [d] at M Hru;clear hm B hcap d;by_cases h0:L=0
    ·have hok1:=hid (Zp2 (right:=right) Hm.out (HL.out.trans h0))
     exact x7_
    ·obtain ⟨x,m⟩:∃ x,l.getD (l.length - 1) 0=x:=⟨_,rfl⟩
     obtain ⟨al,O,halb,g⟩:=I.out (l.length - 1) k51_;have Hlast:=hid (Zq6 (right:=right) Hm.out k51_ m);rw [m,HL.out] at g;subst O;have R:(0:Int)<(L:Int):=y40_;have V:IntKind.i64.wrap ((L:Int) - 1)=(L:Int) - 1:=y41_;have W:(0:Int)≤(L:Int) - 1:=y40_;have X:(L:Int) - 1<(L:Int):=y40_;have Y:((L:Int) - 1).toNat=L - 1:=y40_;clear m h0
     go_wp2_with fail
     refine (mayset_is _ l true Hm.out _ Hru.out).mono ?_;rintro e w1 ⟨rfl,hb1⟩;have Hb1:=hid (Z0_ Hbr.out (le_refl _) hb1);have Q:=(Hb1.out.cell (p:=al.add (L - 1)) q47_).trans g;clear hb1 g;by_cases hxr:x<right
     ·have hxr2:¬ right≤x:=by omega
      have Hok1:Hid (okA right l=true):=Hlast.out.trans (decide_eq_true hxr);exact q6_
     ·exact x35_
  ·exact j6_
open Go.RowKit
def from_ (x:Int):List Int→List Int
 | []=>[]
 | y :: r=>if y<x then from_ x r else y :: r
theorem Vl5 {x y:Int} {r:List Int} (h:y<x):from_ x (y :: r)=from_ x r:=by rw [from_,if_pos h]
theorem Vl6 {x y:Int} {r:List Int} (h:¬ y<x):from_ x (y :: r)=y :: r:=by rw [from_,if_neg h]
theorem Yo1 (x:Int):∀ l,(from_ x l).Sublist l
 | []=>List.Sublist.refl _
 | y :: r=>by
  unfold from_;split
  ·exact (Yo1 x r).cons y
  ·exact List.Sublist.refl _
theorem Yo2 (x z:Int) (c:x≤z):∀ l,(z∈from_ x l↔z∈l)
 | []=>Iff.rfl
 | y :: r=>by
  unfold from_;split
  ·rw [Yo2 x z c r,List.mem_cons]
   constructor
   ·exact .inr
   ·rintro (e | h)
    ·omega
    ·exact h
  ·exact Iff.rfl
theorem Xe2 (x:Int) (l:List Int) (h:l.Pairwise (·<·)) (y:Int) (r:List Int) (c:l=y :: r) (f:¬ y<x):(x∈l↔y=x):=by
 subst c;rw [List.pairwise_cons] at h;rw [List.mem_cons];constructor
 ·rintro (e | d)
  ·exact e.symm
  ·have:=h.1 x d;omega
 ·intro e;exact .inl e.symm
def Zv9 (a b b':List Int) (k:Nat):Prop:=b'.Pairwise (·<·)∧b'.length≤b.length∧∀ i,k≤i→i<a.length→(a.getD i 0∈b↔a.getD i 0∈b')
theorem Yy2 {a b:List Int} (hb:IsSet b):Zv9 a b b 0:=⟨hb.1,le_refl _,fun _ _ _=>Iff.rfl⟩
theorem Ye5 {a b c:List Int} {k:Nat} (ha:IsSet a) (e:k<a.length) (h:Zv9 a b c k):Zv9 a b (from_ (a.getD k 0) c) k:=by
 have hs:=Yo1 (a.getD k 0) c;refine ⟨h.1.sublist hs,Nat.le_trans hs.length_le h.2.1,fun i f d=>?_⟩;rw [h.2.2 i f d,Yo2 _ _ ?_];rcases Nat.lt_or_ge k i with g | j
 ·have:=List.pairwise_iff_getElem.1 ha.1 k i e d g
  simp [List.getD,e,d];omega
 ·have:i=k:=by omega
  subst this;exact Int.le_refl _
theorem C9_ {a b c:List Int} {k:Nat} (h:Zv9 a b c k):Zv9 a b c (k+1):=⟨h.1,h.2.1,fun i d=>h.2.2 i y40_⟩
theorem Yw9 {a b:List Int} {k:Nat} (c:k<a.length) (h:Zv9 a b [] k):b.contains (a.getD k 0)=false:=by
 have:=h.2.2 k (le_refl _) c;rw [← Bool.not_eq_true,List.contains_iff_mem,this];simp
theorem Ye6 {a b:List Int} {k:Nat} {y:Int} {r:List Int} (d:k<a.length) (h:Zv9 a b (y :: r) k) (e:¬ y<a.getD k 0):b.contains (a.getD k 0)=decide (y=a.getD k 0):=by
 have c:=h.2.2 k (le_refl _) d;rw [Xe2 _ _ h.1 y r rfl e] at c;rw [Bool.eq_iff_iff,List.contains_iff_mem,c,decide_eq_true_iff]
theorem Row.tail {w:World} {B:Nat} {v:Value} {y:Int} {r:List Int} (h:Row w B v (y :: r)):∃ d c,v=.slice (some d) (r.length+1) (c+1)∧w.cell? d=some (.int .i64 y)∧d.block<B∧r.length≤c∧c+1≤maxLen∧∀ f:Option Addr,(f=some (d.add 1)∨(c=0∧f=some d))→Row w B (.slice f r.length c) r:=by
 obtain ⟨A,c,rfl,⟨h1,h2,h3⟩,o⟩:=h;obtain ⟨d,rfl,m,hc⟩:=o 0 k40_;rw [add_zero] at hc;obtain ⟨c',rfl⟩:∃ c',c=c' + 1:=⟨c - 1,by simp at h1;omega⟩;refine ⟨d,c',k40_,by simpa using hc,m,z50_,h2,fun f j=>⟨f,c',rfl,⟨z50_,y40_,fun e=>by rcases j with h | ⟨_,h⟩<;>rw [e] at h<;>cases h⟩,fun k x=>?_⟩⟩;rcases j with rfl | ⟨s,_⟩
 ·obtain ⟨q,g,u,p⟩:=o (k+1) x41_
  injection g with g;subst g;refine ⟨_,rfl,by rw [Z2_];exact m,?_⟩;have e:(d.add 1).add k=d.add (k+1):=by rw [Addr.add_add,Nat.add_comm]
  rw [e,p];simp
 ·simp at h1;omega
theorem Xw4 (P Q:Value) (a b:List Int) (c:Bool) (w:World) (ha:Row w w.heap.size P a) (hb:Row w w.heap.size Q b) (x2:a.length≤1048576) (x3:b.length≤1048576) (s:mayB a=true) (u:mayB b=true) :
  Calls Tryz.prog 92 #[P,Q,.bool c] w (GivesF w (partL a b c)):=by
 have R:=hid ha;have F:=hid hb;obtain ⟨A1,c1,rfl,_,K⟩:=ha;obtain ⟨A2,c2,rfl,_⟩:=hb;have T:=hid K;clear K;have S:=hid (Zz8 a b c s u);have U:=hid (mayB_iff.1 s);have V:=hid (mayB_iff.1 u)
 go_enter Tryz.func92,Tryz.ntmps92
 go_wp2_with fail
 refine (may_any _ a w R.out (Nat.le_trans x2 q41_)).mono ?_;rintro e w1 ⟨rfl,m⟩;rw [s]
 go_wp2_with fail
 refine (may_any _ b w1 ((F.out.below m).mono m.size) (Nat.le_trans x3 q41_)).mono ?_;rintro e w2 ⟨rfl,J⟩;rw [u];have I:Below w.heap.size w w2:=m.trans (J.mono m.size);clear m J s u;go_wp2
 go_loopw [1,7,21] (fun x4 vl D wr=>∃ (k:Nat) (j:List Int),D=.int .i64 k∧k≤a.length∧Row wr w.heap.size x4 j∧Zv9 a b j k∧wr.ownsRow w.heap.size 3 1 vl (A7_ a b c k).length (ints (A7_ a b c k))∧Below w.heap.size w wr) (fun _ _ D _=>a.length - (intOf D).toNat)
 case atStart=>exact ⟨0,b,rfl,Nat.zero_le _,F.out.below I,Yy2 V.out,World.ownsRow_nil _ _ _ _,I⟩
 case round =>
  obtain ⟨k,j,rfl,hk,L,M,hown,hbr⟩:=hrel;by_cases d:k<a.length
  ·obtain ⟨X,Z,hab,hc⟩:=T.out k d
   subst Z;have Y:wr.cell? (X.add k)=some (.int .i64 (a.getD k 0)):=(hbr.cell x42_).trans hc;clear hc;have xa:=L0_ a b c k;have Hyes:=hid (Zz7 a b c k d);have Hno:=hid (Zb8 a b c k d);have Hsv:=hid (Ye5 U.out d M);have H:=hid (fun h=>Yw9 (a:=a) (b:=b) d h);have G:=hid (fun y r h=>Ye6 (a:=a) (b:=b) (y:=y) (r:=r) d h);clear M;generalize a.getD k 0=x at Y Hyes Hno Hsv H G;go_wp2
   go_loopw [1] (fun E x5=>∃ r:List Int,x5=wr∧Row wr w.heap.size E r∧from_ x j=from_ x r) (fun E _=>lenOf E)
   case atStart=>exact ⟨j,rfl,L,rfl⟩
   case round =>
    obtain ⟨r,rfl,o,B⟩:=hrel;have v:=Hsv;rw [B] at Hsv;have q:=hid B;clear B L;cases r with
    | nil =>
     clear v q;have Hc:=hid (H.out Hsv.out);have Hrr:=hid o;obtain ⟨A3,c3,rfl,_⟩:=o;cases c
     ·
      have Hx:=hid (Hyes.out (by rw [Hc.out]));clear Hyes Hno
      go_wp2_with (at_builtin;refine Z5_ rfl _ _ rfl w.heap.size _ _ _ (A7_ a b false k) [x] rfl rfl (hown.alloc _) (Row.lit1 _ x) y40_ k40_ x43_ ?_)
      intro v' w4 hown' hgrow;have hb4:Below w.heap.size wr w4:=((Below.refl _ wr).alloc hbr.size _).grown hgrow x43_ (fun i hi=>(hown.lt i hi).1);go_wp2
      go_roundw
      case rel=>exact ⟨k+1,[],j41_,y40_,Hrr.out.below hb4,C9_ Hsv.out,by rw [Hx.out,List.length_append];exact hown',hbr.trans hb4⟩
      exact mz_
     ·
      have Hx:=hid (Hno.out (by rw [Hc.out];decide));clear Hyes Hno;go_wp2
      go_roundw
      case rel=>exact ⟨k+1,[],j41_,y40_,Hrr.out,C9_ Hsv.out,by rw [Hx.out];exact hown,hbr⟩
      exact mz_
    | cons y r =>
     have Hrr:=hid o;obtain ⟨x6,c3,rfl,g2,x7,x8,x0,N⟩:=o.tail;have W:=hid N;clear N o;have xb:(r.length:Int)≤(c3:Int):=y40_;have x9:(c3:Int)≤9223372036854775806:=by unfold maxLen at x0;omega
     by_cases O:y<x
     ·rw [Vl5 O] at q
      clear Hsv v;go_wp2
      go_roundw
      case rel =>
       refine ⟨r,trivial,W.out _ ?_,q.out⟩;by_cases z:c3=0
       ·rw [if_pos z];exact .inr ⟨z,rfl⟩
       ·rw [if_neg z];exact .inl (by simp [Addr.add])
      case measure=>simp [lenOf]
     ·rw [Vl6 O] at Hsv
      clear v q;have p:=hid (G.out y r Hsv.out y40_);have xd:decide (y<x)=false:=x41_;by_cases C:y=x
      ·subst C
       have Hc:Hid (b.contains y=true):=by
        show b.contains y=true;rw [p.out];simp
       clear p;cases c
       ·
        exact k8_
       ·
        have Hx:=hid (Hyes.out (by rw [Hc.out]));clear Hyes Hno
        go_wp2_with (at_builtin;refine Z5_ rfl _ _ rfl w.heap.size _ _ _ (A7_ a b true k) [y] rfl rfl (hown.alloc _) (Row.lit1 _ y) y40_ k40_ x43_ ?_)
        exact z5_
      ·have Hc:Hid (b.contains x=false):=by
        show b.contains x=false;rw [p.out];simp [C]
       have xc:(y==x)=false:=by simp [C]
       clear p;cases c
       ·
        have Hx:=hid (Hyes.out (by rw [Hc.out]));clear Hyes Hno
        go_wp2_with (at_builtin;refine Z5_ rfl _ _ rfl w.heap.size _ _ _ (A7_ a b false k) [x] rfl rfl (hown.alloc _) (Row.lit1 _ x) y40_ k40_ x43_ ?_)
        exact z5_
       ·
        exact k8_
  ·have x1:k=a.length:=by omega
   subst x1;rw [S.out] at hown;go_wp2;go_ret;exact ⟨_,rfl,Row.of_own hown rfl,hbr,fun g hg=>(hown.lt g hg).1⟩
theorem Xw5 (c h:Value) (a b:List Int) (d:Bool) (w:World) (ha:Row w w.heap.size c a) (hb:Row w w.heap.size h b) (k:a.length≤1048576) (m:b.length≤1048576) :
  Calls Tryz.prog 92 #[c,h,.bool d] w (GivesF w (partL a b d)):=by
 rcases hma:mayB a with _ | _
 ·have j:=hid ha
  clear ha hb;have Hr:=hid (Zp0 (b:=b) (w:=d) hma)
  go_enter Tryz.func92,Tryz.ntmps92
  go_wp2_with fail
  refine (may_any c a w j.out (Nat.le_trans k q41_)).mono ?_;exact z19_
 ·rcases hmb:mayB b with _ | _
  ·have j:=hid ha
   have o:=hid hb;clear ha hb;have Hr:=hid (Zp1 (a:=a) (w:=d) hmb)
   go_enter Tryz.func92,Tryz.ntmps92
   go_wp2_with fail
   refine (may_any c a w j.out (Nat.le_trans k q41_)).mono ?_;rintro e w1 ⟨rfl,hb1⟩;rw [hma]
   go_wp2_with fail
   refine (may_any h b w1 ((o.out.below hb1).mono hb1.size) (Nat.le_trans m q41_)).mono ?_;exact j15_
  ·exact Xw4 c h a b d w ha hb k m hma hmb
theorem N5_ (c d:Value) (a b:List Int) (w:World) (ha:Row w w.heap.size c a) (hb:Row w w.heap.size d b) (k:a.length≤1048576) (m:b.length≤1048576) :
  Calls Tryz.prog 65 #[c,d] w (GivesF w (Z8_ a b)):=by
 have g:=hid (Xw5 c d a b false w ha hb k m);clear ha hb
 go_enter Tryz.func65,Tryz.ntmps65
 go_wp2_with fail
 refine g.out.mono ?_;rintro e q ⟨p,rfl,o,h,j⟩;go_wp2;go_ret;exact ⟨_,rfl,o,h,j⟩
theorem N6_ (c d:Value) (a b:List Int) (w:World) (ha:Row w w.heap.size c a) (hb:Row w w.heap.size d b) (e:a.length≤1048576) (g:b.length≤1048576) :
  Calls Tryz.prog 65 #[c,d] w (Gives w (Z8_ a b)):=(N5_ c d a b w ha hb e g).mono fun _ _ h=>h.gives
theorem Zy0 (h j:Value) (a b:List Int) (w:World) (ha:Row w w.heap.size h a) (hb:Row w w.heap.size j b) (p:a.length≤1048576) (u:b.length≤1048576) :
  Calls Tryz.prog 72 #[h,j] w (Says w (subB a b)):=by
 have k:=hid ha;have s:=hid hb;clear ha hb;rcases hma:mayB a with _ | _
 ·have d:=hid (Vl2 (b:=b) hma)
  go_enter Tryz.func72,Tryz.ntmps72
  go_wp2_with fail
  refine (may_any h a w k.out (Nat.le_trans p q41_)).mono ?_;rintro e q ⟨rfl,c⟩;rw [hma];go_wp2;go_ret;exact X7_ d.out rfl c
 ·rcases hmb:mayB b with _ | _
  ·have d:=hid (Vl3 (a:=a) hmb)
   go_enter Tryz.func72,Tryz.ntmps72
   go_wp2_with fail
   refine (may_any h a w k.out (Nat.le_trans p q41_)).mono ?_;rintro e q ⟨rfl,c⟩;rw [hma]
   go_wp2_with fail
   refine (may_any j b q ((s.out.below c).mono c.size) (Nat.le_trans u q41_)).mono ?_;rintro e v ⟨rfl,o⟩;rw [hmb];go_wp2;go_ret;exact X7_ d.out rfl (c.trans (o.mono c.size))
  ·have d:=hid (Vl4 hma hmb)
   go_enter Tryz.func72,Tryz.ntmps72
   go_wp2_with fail
   refine (may_any h a w k.out (Nat.le_trans p q41_)).mono ?_;rintro e q ⟨rfl,c⟩;rw [hma]
   go_wp2_with fail
   refine (may_any j b q ((s.out.below c).mono c.size) (Nat.le_trans u q41_)).mono ?_;rintro e v ⟨rfl,o⟩;rw [hmb];have g:Below w.heap.size w v:=c.trans (o.mono c.size);clear c o
   go_wp2_with fail
   refine (N6_ h j a b v ((k.out.below g).mono g.size) ((s.out.below g).mono g.size) p u).mono ?_;rintro e G ⟨F,rfl,B,C⟩;have x:=g.trans (C.mono g.size);have z:=Ye3 a b false;change (Z8_ a b).length≤_ at z;generalize Z8_ a b=m at d B z;obtain ⟨D,c3,rfl,_⟩:=B;cases m with
   | nil =>
    go_wp2;go_ret;exact X7_ d.out rfl x
   | cons y r =>
    have E:((r.length:Int)+1==0)=false:=x41_;go_wp2;go_ret;exact X7_ d.out rfl x
open Go.RowKit
def upTo (k:Nat):List Int:=(List.range k).map Int.ofNat
theorem I7_ (k:Nat):upTo (k+1)=upTo k ++ [(k:Int)]:=by
 unfold upTo;rw [List.range_succ,List.map_append];rfl
theorem Y8_ (k:Nat):(upTo k).length=k:=by simp [upTo]
theorem Xe3 {n:Int} (h:n<1∨100000<n):allL n=[]:=if_pos h
theorem Xe4 {n:Nat} (c:1≤n) (h2:n≤100000):allL n=upTo n:=by
 unfold allL upTo;rw [if_neg y40_];rfl
def filled (n k:Nat):Array Value:=(ints (upTo k ++ List.replicate (n - k) 0)).toArray
theorem Ye7 {n k:Nat} (h:k≤n):(filled n k).size=n:=by
 simp [filled,Y7_,Y8_];omega
theorem Xz0 {n k:Nat} (h:k<n):(filled n k).setIfInBounds k (.int .i64 (k:Int))=filled n (k+1):=by
 unfold filled;rw [List.setIfInBounds_toArray];congr 1;rw [I7_,V6_,V6_,V6_,List.append_assoc];have e:List.replicate (n - k) (0:Int)=0 :: List.replicate (n - (k+1)) 0:=by
  rw [show n - k=(n - (k+1))+1 from by omega,List.replicate_succ]
 rw [e,List.set_append_right _ _ (by rw [Y7_,Y8_];exact le_refl _),Y7_,Y8_,Nat.sub_self];rfl
theorem Xz1 (n:Nat):filled n n=(ints (upTo n)).toArray:=by
 unfold filled;rw [Nat.sub_self,List.replicate_zero,List.append_nil]
theorem Xz2 {w:World} {g n:Nat} (h:Blk w g 3 (filled n n)) (c:n≤maxLen):Row w w.heap.size (.slice (some ⟨g,0,none⟩) n n) (upTo n):=by
 rw [Xz1] at h;refine ⟨_,n,by rw [Y8_],⟨by rw [Y8_];exact le_refl _,c,fun e=>by cases e⟩,fun k hk=>⟨_,rfl,h.lt,?_⟩⟩;exact x20_
theorem S1_ (w:World) (g n:Nat) (h:w.ownsRow g 3 1 (.slice (some ⟨g,0,none⟩) n n) n (madeCells (Value.int .i64 0).cells (n * 1)).toList):Blk w g 3 (filled n 0):=by
 rcases h.2 with ⟨e,_⟩ | ⟨p,o,c,m,hb,j,d,h2,h3,f⟩
 ·cases e
 ·injection m with e1 _ e3
  injection e1 with e1;injection e1 with e1;subst e1 e3;unfold Blk;rw [j];have k:(madeCells (Value.int IntKind.i64 0).cells (n * 1)).toList=(filled n 0).toList:=by
   unfold madeCells filled;simp only [upTo,List.range_zero,List.map_nil,List.nil_append,Nat.sub_zero,Nat.mul_one];apply List.ext_getElem
   ·simp [ints]
   ·intro i d h2
    simp [ints,Value.cells,Nat.mod_one]
  have hc:c.toList=(filled n 0).toList:=by
   rw [← k,← f,List.take_of_length_le];rw [Array.length_toList,h3];exact le_refl _
  rw [Array.toList_inj.1 hc]
theorem Jz0 (n:Nat) (w:World) (r:1≤n) (h2:n≤100000) :
  Calls Tryz.prog 32 #[.int .i64 n] w (Gives w (allL n)):=by
 have p:=hid (Xe4 r h2);have D:¬ (n:Int)<1:=y40_;have E:¬ (100000:Int)<(n:Int):=y40_;obtain ⟨z,d,x,y,hz2⟩:=info_parts info3
 go_enter Tryz.func32,Tryz.ntmps32
 go_wp2_with (at_make;refine wpList_make_full w rfl _ _ 28 rfl w.heap.size 3 z (.int .i64 0) 1 z40_ d x y .i64 .i64 _ _ n rfl rfl (by rfl) (by rfl) x49_ z41_ (le_refl _) ?_)
 intro o m h;have c:=S1_ o w.heap.size n (by rw [Nat.mul_one];exact m);have s:Below w.heap.size w o:=(Below.refl _ w).grown h (le_refl _) (fun i d=>by cases d);clear m h;go_wp2
 go_loopw [15] (fun e wr=>∃ k:Nat,e=.int .i64 k∧k≤n∧Blk wr w.heap.size 3 (filled n k)∧Below w.heap.size w wr) (fun e _=>n - (intOf e).toNat)
 case atStart=>exact ⟨0,rfl,Nat.zero_le _,c,s⟩
 case round =>
  obtain ⟨k,rfl,u,c,g⟩:=hrel;by_cases j:k<n
  ·have hs:=Ye7 u
   have B:wr.cell? ⟨w.heap.size,k,none⟩=some ((filled n k)[k]'y40_):=by rw [c.cell];simp [hs,j]
   have C:=c.frozen k;have q:=hid c;clear c;go_wp2
   go_roundw
   case rel=>exact ⟨k+1,j41_,y40_,by rw [← Xz0 j];exact q.out.set_ k _,g.setCell (by exact le_refl _) _⟩
   exact mz_
  ·have v:k=n:=by omega
   subst v;go_wp2;go_ret;exact ⟨_,rfl,by rw [p.out];exact Xz2 c z41_,g⟩
theorem D0_ (n:Int) (w:World):Calls Tryz.prog 32 #[.int .i64 n] w (Gives w (allL n)):=by
 by_cases c:n<1
 ·have Hf:=hid (Xe3 (.inl c))
  exact y22_
 ·by_cases h2:100000<n
  ·have Hf:=hid (Xe3 (.inr h2))
   exact y22_
  ·obtain ⟨m,rfl⟩:∃ m:Nat,n=(m:Int):=⟨n.toNat,y40_⟩
   exact Jz0 m w y40_ y40_
open Go.RowKit
theorem Zy1 (v:Value) (l:List Int) (w:World) (E:Row w w.heap.size v l) (hl:l.length≤9223372036854775807):Calls Tryz.prog 14 #[v] w (Says w (mayB l)):=by
 obtain ⟨A,c,rfl,_,p⟩:=E;have Hcell:=hid p;clear p;have N:(l.length:Int)≤9223372036854775807:=y40_
 go_enter Tryz.func14,Tryz.ntmps14
 go_wp2
 go_loopw [3] (fun m wr=>∃ k q:Nat,m=.int .i64 k∧k≤l.length∧wr=w.drewN q∧IsSet (l.take k)) (fun m _=>l.length - (intOf m).toNat)
 case atStart=>exact ⟨0,0,rfl,Nat.zero_le _,rfl,by simpa using J0_⟩
 case round =>
  obtain ⟨k,q,rfl,K,u,s⟩:=hrel;have Hwr:=hid u;have Hset:=hid s;clear u s;by_cases g:k<l.length
  ·obtain ⟨o,hA,H,hc⟩:=Hcell.out k g
   subst hA;have e:wr.cell? (o.add k)=some (.int .i64 (l.getD k 0)):=by rw [Hwr.out];exact hc
   clear hc;have L:(k:Int)<(l.length:Int):=y40_;have d:=hid (Yo0 l k g Hset.out);have Hfail:=hid (Yz8 l k g);have Hq:Hid (Below w.heap.size w wr):=q30_;by_cases D:k=0
   ·subst D
    rw [add_zero] at e;generalize l.getD 0 0=x at e d Hfail;by_cases hx0:0≤x
    ·by_cases hx1:x≤1099511627776
     ·have d0:decide (x<0)=false:=by simp;omega
      have d1:decide (1099511627776<x)=false:=x41_;have B:decide ((0:Int)<0)=false:=rfl;go_wp2
      go_quiet (fail)
      go_wp2
      go_roundw
      case rel=>exact ⟨1,q+nq,rfl,y40_,by rw [Hwr.out,World.drewN_drewN],d.out ⟨hx0,hx1⟩ (.inl trivial)⟩
      exact mz_
     ·exact k33_
    ·exact z35_
   ·obtain ⟨j,r⟩:∃ j,j+1=k:=⟨k - 1,y40_⟩
    have I:(k:Int) - 1=(j:Int):=y40_;have J:(j:Int)<(l.length:Int):=y40_;have C:wr.cell? (o.add j)=some (.int .i64 (l.getD j 0)):=k21_;have G:=hid r;have M:0<k:=y40_;rw [show k - 1=j from by omega] at d Hfail;clear r;generalize l.getD k 0=x at e d Hfail;generalize l.getD j 0=y at C d Hfail;by_cases hx0:0≤x
    ·by_cases hx1:x≤1099511627776
     ·by_cases z:y<x
      ·have d0:decide (x<0)=false:=by simp;omega
       have d1:decide (1099511627776<x)=false:=x41_;have B:decide (x≤y)=false:=x41_;go_wp2
       go_quiet (fail)
       go_wp2
       go_roundw
       case rel=>exact ⟨k+1,q+nq,j41_,y40_,by rw [Hwr.out,World.drewN_drewN],d.out ⟨hx0,hx1⟩ (.inr z)⟩
       exact mz_
      ·have F:x≤y:=by omega
       have Hf:=hid (Hfail.out (.inr ⟨y40_,F⟩));have d0:decide (x<0)=false:=x41_;have d1:decide (1099511627776<x)=false:=x41_;clear z;exact y7_
     ·exact k33_
    ·exact z35_
  ·exact k13_
theorem Y6_ (v:Value) (l:List Int) (w:World) (c:Row w w.heap.size v l) (hl:l.length≤9223372036854775807) {x:Bool} (h:mayB l=x):Calls Tryz.prog 14 #[v] w (Says w x):=by
 subst h;exact Zy1 v l w c hl
open Go.RowKit
theorem Ye8 {l:List Int} {x:Int} {k:Nat} (c:k<l.length) (h:x∉l.take k) (d:(l.getD k 0==x)=false):x∉l.take (k+1):=by
 rw [List.take_succ_eq_append_getElem c,List.mem_append,List.mem_singleton];rintro (e | e)
 ·exact h e
 ·simp [List.getD,c] at d
  exact d e.symm
theorem Vl7 {l:List Int} {x:Int} {k:Nat} (c:k<l.length) (d:l.getD k 0=x):l.contains x=true:=by
 rw [List.contains_iff_mem,← d];simp [List.getD,c]
theorem Xz3 {l:List Int} {x:Int} {k:Nat} (c:k=l.length) (h:x∉l.take k):l.contains x=false:=by
 subst c;rw [List.take_length] at h;rw [← Bool.not_eq_true,List.contains_iff_mem];exact h
theorem L1_ (v:Value) (l:List Int) (x:Int) (B:Nat) (w:World) (C:Row w B v l) (hl:l.length≤4194304) {b:Bool} (hb:l.contains x=b) :
  Calls Tryz.prog 54 #[v,.int .i64 x] w fun e w'=>e=.returned (.bool b)∧w'=w:=by
 obtain ⟨A,c,rfl,_,q⟩:=C;have s:=hid q;clear q;have Hb:=hid hb;clear hb;have I:(l.length:Int)≤4194304:=y40_
 go_enter Tryz.func54,Tryz.ntmps54
 go_wp2
 go_loopw [5] (fun m wr=>∃ k:Nat,m=.int .i64 k∧k≤l.length∧wr=w∧x∉l.take k) (fun m _=>l.length - (intOf m).toNat)
 case atStart=>exact ⟨0,rfl,Nat.zero_le _,rfl,k40_⟩
 case round =>
  obtain ⟨k,rfl,G,rfl,g⟩:=hrel;by_cases d:k<l.length
  ·obtain ⟨E,z,F,u⟩:=s.out k d
   subst z;have H:(k:Int)<(l.length:Int):=y40_;have p:=hid (fun h=>Ye8 d g h);have o:=hid (fun h=>Vl7 (x:=x) d h);clear g;generalize l.getD k 0=y at u p o;by_cases j:y=x
   ·have Hc:=hid (o.out j)
    subst j;exact x30_
   ·have D:(y==x)=false:=by simp [j]
    go_wp2
    go_roundw
    case rel=>exact ⟨k+1,j41_,y40_,trivial,p.out D⟩
    exact mz_
  ·have r:k=l.length:=by omega
   have Hc:=hid (Xz3 r g);subst r;exact x30_
theorem Xe5 (v:Value) (l:List Int) (x:Int) (B:Nat) (w:World) (c:Row w B v l) (hl:l.length≤4194304) :
  Calls Tryz.prog 54 #[v,.int .i64 x] w fun e w'=>e=.returned (.bool (l.contains x))∧w'=w:=L1_ v l x B w c hl rfl
open Go.RowKit
theorem Xz4 (q r:Value) (a b:List Int) (w:World) (ha:Row w w.heap.size q a) (hb:Row w w.heap.size r b) (D:a.length≤1048576) (E:b.length≤1048576) (g:mayB a=true) (h:mayB b=true) :
  Calls Tryz.prog 113 #[q,r] w (Gives w (meetL a b)):=by
 have Ha:=hid ha;have Hb:=hid hb;obtain ⟨y,c1,rfl,_,o⟩:=ha;obtain ⟨z,c2,rfl,_⟩:=hb;have s:=hid o;clear o;have Hall:=hid (Zz8 a b true g h);change Hid (_=meetL a b) at Hall;have Hma:=hid g;have Hmb:=hid h;clear g h;have p:(w.alloc (.cells #[] 3)).ownsRow w.heap.size 3 1 (.slice (some ⟨w.heap.size,0,none⟩) 0 0) 0 [] :=
  World.ownsRow_made w #[] 0 (le_refl _) z41_ rfl
 have m:Below w.heap.size w (w.alloc (.cells #[] 3)):=(Below.refl _ w).alloc (le_refl _) _
 go_enter Tryz.func113,Tryz.ntmps113
 go_wp2
 go_loopw [5,6] (fun v j wr=>∃ k:Nat,j=.int .i64 k∧k≤a.length∧wr.ownsRow w.heap.size 3 1 v (A7_ a b true k).length (ints (A7_ a b true k))∧Below w.heap.size w wr) (fun _ j _=>a.length - (intOf j).toNat)
 case atStart=>exact ⟨0,rfl,Nat.zero_le _,p,m⟩
 case round =>
  obtain ⟨k,rfl,B,hown,hbr⟩:=hrel;by_cases d:k<a.length
  ·obtain ⟨ad,u,hab,c⟩:=s.out k d
   subst u;have C:(k:Int)<(a.length:Int):=y40_;have F:=L0_ a b true k;have Hyes:=hid (Zz7 a b true k d);have Hno:=hid (Zb8 a b true k d);clear p m;generalize a.getD k 0=x at c Hyes Hno;have Hg:=hid c;clear c;rcases hc:b.contains x with _ | _
   ·exact y2_
   ·have Hc:=hid hc
    clear hc
    go_wp2_with fail
    refine (Y6_ _ a wr (Ha.out.below hbr |>.mono hbr.size) y40_ Hma.out).mono ?_;rintro e w2 ⟨rfl,hb2⟩;have hB2:=hbr.trans (hb2.mono hbr.size);have hown2:=hown.kept (row:=none) (Z7_ hb2 _) q48_;clear hb2
    go_wp2_with fail
    refine (Y6_ _ b w2 (Hb.out.below hB2 |>.mono hB2.size) y40_ Hmb.out).mono ?_;rintro e w3 ⟨rfl,hb3⟩;have hB3:=hB2.trans (hb3.mono hB2.size);have hown3:=hown2.kept (row:=none) (Z7_ hb3 _) q48_;clear hb3 hB2 hown2 hown hbr;have g1:w3.cell? (ad.add k)=some (.int .i64 x):=(hB3.cell x42_).trans Hg.out
    go_wp2_with fail
    refine (L1_ _ b x _ w3 (Hb.out.below hB3) y40_ Hc.out).mono ?_;rintro e w5 ⟨rfl,rfl⟩;have Hx:=hid (Hyes.out (by rw [Hc.out]));clear Hyes Hno
    go_wp2_with (at_builtin;refine Z5_ rfl _ _ rfl w.heap.size _ _ _ (A7_ a b true k) [x] rfl rfl (hown3.alloc _) (Row.lit1 _ x) y40_ k40_ (by have:=hB3.size;simp;omega) ?_)
    exact q7_
  ·exact y18_
theorem Zb9 (p q:Value) (a b:List Int) (w:World) (ha:Row w w.heap.size p a) (hb:Row w w.heap.size q b) (y:a.length≤1048576) (z:b.length≤1048576) (h:mayB a=false∨(mayB a=true∧mayB b=false)) :
  Calls Tryz.prog 113 #[p,q] w (Gives w (meetL a b)):=by
 have Ha:=hid ha;have Hb:=hid hb;obtain ⟨u,c1,rfl,_,g⟩:=ha;obtain ⟨v,c2,rfl,_⟩:=hb;have x:=hid g;clear g;have o:meetL a b=[]:=by
  rcases h with h | h
  ·exact Zp0 h
  ·exact Zp1 h.2
 have m:∀ w':World,Below w.heap.size w w'→Gives w (meetL a b) (.returned (.slice (some ⟨w.heap.size,0,none⟩) 0 0)) w':=fun w' hb=>⟨_,rfl,by rw [o];exact ⟨_,0,rfl,⟨le_refl _,q41_,fun e=>by cases e⟩,fun k s=>absurd s k40_⟩,hb⟩;have Hout:=hid m;clear m o;have hB0:Below w.heap.size w (w.alloc (.cells #[] 3)):=(Below.refl _ w).alloc (le_refl _) _;by_cases d:0<a.length
 ·have r:(0:Int)<(a.length:Int):=by omega
  rcases h with c | ⟨c,j⟩
  ·have Hma:=hid c
   clear c d
   go_enter Tryz.func113,Tryz.ntmps113
   exact z9_
  ·have Hma:=hid c
   have Hmb:=hid j;clear c j d
   go_enter Tryz.func113,Tryz.ntmps113
   exact y5_
 ·have r:(a.length:Int)=0:=by omega
  clear h d
  go_enter Tryz.func113,Tryz.ntmps113
  exact k10_
theorem Ye9 (c d:Value) (a b:List Int) (w:World) (ha:Row w w.heap.size c a) (hb:Row w w.heap.size d b) (e:a.length≤1048576) (g:b.length≤1048576) :
  Calls Tryz.prog 113 #[c,d] w (Gives w (meetL a b)):=by
 rcases hma:mayB a with _ | _
 ·exact Zb9 c d a b w ha hb e g (.inl hma)
 ·rcases hmb:mayB b with _ | _
  ·exact Zb9 c d a b w ha hb e g (.inr ⟨hma,hmb⟩)
  ·exact Xz4 c d a b w ha hb e g hma hmb
open Go.RowKit
def Q4_ (l:List Int) (k:Nat):List Int:=sortL (l.take k)
theorem Zy2 (l:List Int) (k:Nat) (h:k<l.length) (z:Int):z∈Q4_ l (k+1)↔(z∈Q4_ l k∨(z=l.getD k 0∧Fit z)):=by
 unfold Q4_;have e:l[k]=l.getD k 0:=k49_;rw [G7_,G7_,List.take_succ_eq_append_getElem h,e,List.mem_append,List.mem_singleton];constructor
 ·rintro ⟨c | c,h2⟩
  ·exact .inl ⟨c,h2⟩
  ·exact .inr ⟨c,h2⟩
 ·rintro (⟨c,h2⟩ | ⟨c,h2⟩)
  ·exact ⟨.inl c,h2⟩
  ·exact ⟨.inr c,h2⟩
theorem Xe6 (l:List Int) (k:Nat) (h:k<l.length) (d:¬ Fit (l.getD k 0)):Q4_ l (k+1)=Q4_ l k :=
 (J8_ _).ext (J8_ _) fun z=>by
  change z∈Q4_ l (k+1)↔z∈Q4_ l k;rw [Zy2 l k h];constructor
  ·rintro (c | ⟨c,h2⟩)
   ·exact c
   ·rw [c] at h2;exact absurd h2 d
  ·exact .inl
theorem Xe7 (l:List Int) (k:Nat) (h:k<l.length) (d:l.getD k 0∈Q4_ l k):Q4_ l (k+1)=Q4_ l k :=
 (J8_ _).ext (J8_ _) fun z=>by
  change z∈Q4_ l (k+1)↔z∈Q4_ l k;rw [Zy2 l k h];constructor
  ·rintro (c | ⟨c,h2⟩)
   ·exact c
   ·rw [c];exact d
  ·exact .inl
theorem Xz5 (l:List Int) (k:Nat) (h:k<l.length) (d:Fit (l.getD k 0)):Q4_ l (k+1)=ins (l.getD k 0) (Q4_ l k) :=
 (J8_ _).ext (Ye1 _ d _ (J8_ _)) fun z=>by
  change z∈Q4_ l (k+1)↔_;rw [Zy2 l k h,Zo8];constructor
  ·rintro (c | ⟨c,h2⟩)
   ·exact .inr c
   ·exact .inl c
  ·rintro (c | c)
   ·exact .inr ⟨c,by rw [c];exact d⟩
   ·exact .inl c
theorem Zp3 (l:List Int) (k:Nat):(Q4_ l k).length≤l.length:=by
 unfold Q4_;refine Nat.le_trans (H4_ _) ?_;simp;omega
theorem Xz6 (l:List Int):Q4_ l l.length=sortL l:=by unfold Q4_;rw [List.take_length]
theorem Yo3 (x y:Int):∀ a:List Int,a.Pairwise (·<·)→(∃ z∈a,x<z)→ins x (a ++ [y])=ins x a ++ [y]
 | [],_,h=>by obtain ⟨z,c,_⟩:=h;cases c
 | b :: a,hp,h=>by
  rw [List.cons_append];unfold ins;split
  ·rfl
  ·split
   ·rfl
   ·rw [List.pairwise_cons] at hp
    rw [Yo3 x y a hp.2 ?_]
    ·rfl
    ·obtain ⟨z,c,d⟩:=h
     rcases List.mem_cons.1 c with e | c
     ·omega
     ·exact ⟨z,c,d⟩
theorem Yo4 (x y:Int):∀ a:List Int,(∀ z∈a,z<x)→x<y→ins x (a ++ [y])=a ++ [x,y]
 | [],_,h=>by simp [ins,h]
 | b :: a,hb,h=>by
  have d:=hb b k40_;rw [List.cons_append];unfold ins;rw [if_neg y40_,if_neg y40_,Yo4 x y a (fun z c=>hb z (by simp [c])) h];rfl
theorem Xe8 (x:Int):∀ a:List Int,(∀ z∈a,z<x)→ins x a=a ++ [x]
 | [],_=>rfl
 | b :: a,hb=>by
  have d:=hb b k40_;unfold ins;rw [if_neg y40_,if_neg y40_,Xe8 x a (fun z c=>hb z (by simp [c]))];rfl
def Ins (x:Int) (out:List Int) (m:Nat) (laid:Bool) (next:List Int):Prop :=
 (laid=false∧(∀ z∈out.take m,z<x)∧next=out.take m)∨(laid=true∧(∃ z∈out.take m,x<z)∧next=ins x (out.take m))
theorem Xe9 (x:Int) (out:List Int):Ins x out 0 false []:=.inl ⟨rfl,k40_,rfl⟩
theorem P8_ {out:List Int} {m:Nat} (c:m<out.length):out.take (m+1)=out.take m ++ [out.getD m 0]:=by
 rw [List.take_succ_eq_append_getElem c];simp [List.getD,c]
theorem Vl8 {x:Int} {out next:List Int} {m:Nat} (c:m<out.length) (h:Ins x out m false next) (d:x<out.getD m 0):Ins x out (m+1) true (next ++ [x] ++ [out.getD m 0]):=by
 rcases h with ⟨_,e,h2⟩ | ⟨h,_⟩
 ·refine .inr ⟨rfl,⟨_,by rw [P8_ c];simp,d⟩,?_⟩
  rw [P8_ c,Yo4 x _ _ e d,h2,List.append_assoc];rfl
 ·cases h
theorem Xw6 {x:Int} {out next:List Int} {m:Nat} (d:m<out.length) (h:Ins x out m false next) (g:x∉out) (j:¬ x<out.getD m 0):Ins x out (m+1) false (next ++ [out.getD m 0]):=by
 rcases h with ⟨_,f,h2⟩ | ⟨h,_⟩
 ·refine .inl ⟨rfl,fun z c=>?_,by rw [P8_ d,h2]⟩
  rw [P8_ d,List.mem_append,List.mem_singleton] at c;rcases c with c | c
  ·exact f z c
  ·have:z≠x:=fun e=>g (by rw [← e,c];simp [List.getD,d])
   omega
 ·cases h
theorem Xw7 {x:Int} {out next:List Int} {m:Nat} (c:m<out.length) (hs:out.Pairwise (·<·)) (h:Ins x out m true next):Ins x out (m+1) true (next ++ [out.getD m 0]):=by
 rcases h with ⟨h,_⟩ | ⟨_,⟨z,e,d⟩,h2⟩
 ·cases h
 ·refine .inr ⟨rfl,⟨z,by rw [P8_ c];simp [e],d⟩,?_⟩
  rw [P8_ c,Yo3 x _ _ (hs.sublist (List.take_sublist _ _)) ⟨z,e,d⟩,h2]
theorem Xw8 {x:Int} {out next:List Int} (h:Ins x out out.length true next):next=ins x out:=by
 rcases h with ⟨h,_⟩ | ⟨_,_,h2⟩
 ·cases h
 ·rw [h2,List.take_length]
theorem Xw9 {x:Int} {out next:List Int} (h:Ins x out out.length false next):next ++ [x]=ins x out:=by
 rcases h with ⟨_,c,h2⟩ | ⟨h,_⟩
 ·rw [List.take_length] at c h2
  rw [h2,Xe8 x out c]
 ·cases h
theorem Vl9 {x:Int} {out next:List Int} {m:Nat} {d:Bool} (h:Ins x out m d next):next.length≤out.length+1:=by
 have c:∀ (t:List Int),(ins x t).length≤t.length+1:=by
  intro t;exact q18_
 rcases h with ⟨_,_,h2⟩ | ⟨_,_,h2⟩
 ·rw [h2,List.length_take];omega
 ·rw [h2]
  have:=c (out.take m);rw [List.length_take] at this;omega
theorem Yf0 (v:Value) (l:List Int) (w:World) (hr:Row w w.heap.size v l) (hl:l.length≤2097152):Calls Tryz.prog 83 #[v] w (Gives w (sortL l)):=by
 obtain ⟨A,c,rfl,_,x4⟩:=hr;have xa:=hid x4;clear x4;have xo:(l.length:Int)≤2097152:=y40_;have x1:Below w.heap.size w (w.alloc (.cells #[] 3)):=(Below.refl _ w).alloc (le_refl _) _;have x7:Row (w.alloc (.cells #[] 3)) (w.alloc (.cells #[] 3)).heap.size (.slice (some ⟨w.heap.size,0,none⟩) 0 0) (Q4_ l 0):=(Row.lit0 w).here;have x9:=hid (Xz6 l)
 go_enter Tryz.func83,Tryz.ntmps83
 go_wp2
 go_loopw [3,4] (fun vo Z wr=>∃ k:Nat,Z=.int .i64 k∧k≤l.length∧Row wr wr.heap.size vo (Q4_ l k)∧Below w.heap.size w wr) (fun _ Z _=>l.length - (intOf Z).toNat)
 case atStart=>exact ⟨0,rfl,Nat.zero_le _,x7,x1⟩
 case round =>
  obtain ⟨k,rfl,hk,hro,hbr⟩:=hrel;clear x7 x1;by_cases L:k<l.length
  ·obtain ⟨C,hA,hab,K⟩:=xa.out k L
   subst hA;have xn:(k:Int)<(l.length:Int):=y40_;have xg:=Zp3 l k;have B:=hid (Xe6 l k L);have D:=hid (Xe7 l k L);have E:=hid (Xz5 l k L);have S:=hid (J8_ (l.take k));change Hid (IsSet (Q4_ l k)) at S;generalize Q4_ l k=out at hro xg B D E S;generalize l.getD k 0=x at K B D E;have r:wr.cell? (C.add k)=some (.int .i64 x):=(hbr.cell x42_).trans K;have Hg:=hid K;clear K;by_cases V:x<0
   ·have Hx:=hid (B.out fun h=>by unfold Fit at h;omega)
    clear B D E;exact q10_
   ·have xl:decide (x<0)=false:=by simp;omega
    by_cases h1:1099511627776<x
    ·have Hx:=hid (B.out fun h=>by unfold Fit at h;omega)
     clear B D E V;exact q10_
    ·have xm:decide (1099511627776<x)=false:=by simp;omega
     rcases hc:out.contains x with _ | _
     ·have I:x∉out:=by rw [← List.contains_iff_mem,hc];simp
      have xb:=hid I;have Hx:=hid (E.out ⟨y40_,y40_⟩);have N:=hid hc;clear B D E V h1 I hc
      go_wp2_with fail
      refine (L1_ _ out x _ wr hro y40_ N.out).mono ?_;rintro e d ⟨rfl,rfl⟩;have xi:=hid hro;obtain ⟨Ao,co,rfl,_,x5⟩:=hro;have Hocell:=hid x5;clear x5;have x6:(d.alloc (.cells #[] 3)).ownsRow d.heap.size 3 1 (.slice (some ⟨d.heap.size,0,none⟩) 0 0) 0 [] :=
       World.ownsRow_made d #[] 0 (le_refl _) z41_ rfl
      have x3:Below d.heap.size d (d.alloc (.cells #[] 3)):=(Below.refl _ d).alloc (le_refl _) _;have W:C.block<d.heap.size:=Nat.lt_of_lt_of_le hab hbr.size;have O:=hid r;clear r;go_wp2
      go_loopw [5,6,7] (fun vn xh vk wr=>∃ (m:Nat) (J:Bool) (next:List Int),vk=.int .i64 m∧m≤out.length∧xh=.bool J∧Ins x out m J next∧wr.ownsRow d.heap.size 3 1 vn next.length (ints next)∧Below d.heap.size d wr) (fun _ _ vk _=>out.length - (intOf vk).toNat)
      case atStart=>exact ⟨0,false,[],rfl,Nat.zero_le _,rfl,Xe9 x out,x6,x3⟩
      case round =>
       obtain ⟨m,J,next,rfl,hm,rfl,hI,s,g⟩:=hrel;clear x6 x3;have xq:=Vl9 hI;by_cases M:m<out.length
       ·obtain ⟨H,xc,x2,X⟩:=Hocell.out m M
        subst xc;have xp:(m:Int)<(out.length:Int):=y40_;have F:wr.cell? (H.add m)=some (.int .i64 (out.getD m 0)):=(g.cell (by rw [Z2_];exact x2)).trans X;have r:wr.cell? (C.add k)=some (.int .i64 x):=(g.cell (by rw [Z2_];exact W)).trans O.out;have x0:=hid X;clear X;have P:=hid (fun next h=>Xw7 (x:=x) (next:=next) M S.out.1 h);have Q:=hid (fun next h=>Vl8 (x:=x) (out:=out) (next:=next) M h);have R:=hid (fun next h=>Xw6 (x:=x) (out:=out) (next:=next) M h xb.out);generalize out.getD m 0=y at F x0 P Q R;cases J
        ·have HI:=hid hI
         clear hI P;by_cases x8:x<y
         ·have u:=hid (Q.out next HI.out x8)
          go_wp2
          go_quiet (fail)
          have q:(wr.drewN nq).ownsRow d.heap.size 3 1 _ next.length (ints next):=s;have hbq:Below d.heap.size d (wr.drewN nq):=Y2_ g nq;have T:(wr.drewN nq).cell? (C.add k)=some (.int .i64 x):=r;have U:(wr.drewN nq).cell? (H.add m)=some (.int .i64 y):=F;clear s g r F;generalize wr.drewN nq=wq at *
          go_wp2_with (at_builtin;refine Z5_ rfl _ _ rfl d.heap.size _ _ _ next [x] rfl rfl (q.alloc _) (Row.lit1 _ x) y40_ k40_ k45_ ?_)
          intro G p hown6 j;have hown6:p.ownsRow d.heap.size 3 1 G (next ++ [x]).length (ints (next ++ [x])):=x48_;have o:Below d.heap.size d p:=(hbq.alloc hbq.size _).grown j k45_ (fun i z=>(q.lt i z).1);clear j q hbq;have xj:p.cell? (C.add k)=some (.int .i64 x):=(o.cell (by rw [Z2_];exact W)).trans O.out;have xk:p.cell? (H.add m)=some (.int .i64 y):=(o.cell (by rw [Z2_];exact x2)).trans x0.out;clear T U
          go_wp2_with (at_builtin;refine Z5_ rfl _ _ rfl d.heap.size _ _ _ (next ++ [x]) [y] rfl rfl (hown6.alloc _) (Row.lit1 _ y) (by rw [List.length_append];show next.length+1≤_;omega) k40_ (by have:=o.size;simp;omega) ?_)
          intro v7 w7 Y j;have Y:w7.ownsRow d.heap.size 3 1 v7 (next ++ [x] ++ [y]).length (ints (next ++ [x] ++ [y])):=by rw [show next ++ [x] ++ [y]=next ++ [x,y] from by simp,List.length_append];exact Y
          have xd:Below d.heap.size d w7:=(o.alloc o.size _).grown j (by have:=o.size;simp;omega) (fun i z=>(hown6.lt i z).1);clear j hown6 o;go_wp2
          go_roundw
          case rel=>exact ⟨m+1,true,next ++ [x] ++ [y],j41_,y40_,rfl,u.out,Y,xd⟩
          exact mz_
         ·have xr:decide (x<y)=false:=by simp;omega
          have u:=hid (R.out next HI.out x8);go_wp2
          go_quiet (fail)
          have q:(wr.drewN nq).ownsRow d.heap.size 3 1 _ next.length (ints next):=s;have hbq:Below d.heap.size d (wr.drewN nq):=Y2_ g nq;have T:(wr.drewN nq).cell? (C.add k)=some (.int .i64 x):=r;have U:(wr.drewN nq).cell? (H.add m)=some (.int .i64 y):=F;clear s g r F;generalize wr.drewN nq=wq at *
          go_wp2_with (at_builtin;refine Z5_ rfl _ _ rfl d.heap.size _ _ _ next [y] rfl rfl (q.alloc _) (Row.lit1 _ y) y40_ k40_ k45_ ?_)
          intro G p hown6 j;have hown6:p.ownsRow d.heap.size 3 1 G (next ++ [y]).length (ints (next ++ [y])):=x48_;have o:Below d.heap.size d p:=(hbq.alloc hbq.size _).grown j k45_ (fun i z=>(q.lt i z).1);clear j q hbq;go_wp2
          go_roundw
          case rel=>exact ⟨m+1,false,next ++ [y],j41_,y40_,rfl,u.out,hown6,o⟩
          exact mz_
        ·have u:=hid (P.out next hI)
         clear hI Q R;go_wp2
         go_quiet (fail)
         have q:(wr.drewN nq).ownsRow d.heap.size 3 1 _ next.length (ints next):=s;have hbq:Below d.heap.size d (wr.drewN nq):=Y2_ g nq;have T:(wr.drewN nq).cell? (C.add k)=some (.int .i64 x):=r;have U:(wr.drewN nq).cell? (H.add m)=some (.int .i64 y):=F;clear s g r F;generalize wr.drewN nq=wq at *
         go_wp2_with (at_builtin;refine Z5_ rfl _ _ rfl d.heap.size _ _ _ next [y] rfl rfl (q.alloc _) (Row.lit1 _ y) y40_ k40_ k45_ ?_)
         intro G p hown6 j;have hown6:p.ownsRow d.heap.size 3 1 G (next ++ [y]).length (ints (next ++ [y])):=x48_;have o:Below d.heap.size d p:=(hbq.alloc hbq.size _).grown j k45_ (fun i z=>(q.lt i z).1);clear j q hbq;go_wp2
         go_roundw
         case rel=>exact ⟨m+1,true,next ++ [y],j41_,y40_,rfl,u.out,hown6,o⟩
         exact mz_
       ·have xf:m=out.length:=by omega
        subst xf;cases J
        ·have u:=hid (Xw9 hI)
         clear hI;have r:wr.cell? (C.add k)=some (.int .i64 x):=(g.cell (by rw [Z2_];exact W)).trans O.out
         go_wp2_with (at_builtin;refine Z5_ rfl _ _ rfl d.heap.size _ _ _ next [x] rfl rfl (s.alloc _) (Row.lit1 _ x) y40_ k40_ (by have:=g.size;simp;omega) ?_)
         intro G p hown6 j;have hown6:p.ownsRow d.heap.size 3 1 G (next ++ [x]).length (ints (next ++ [x])):=x48_;have o:Below d.heap.size d p:=(g.alloc g.size _).grown j (by have:=g.size;simp;omega) (fun i z=>(s.lt i z).1);clear j s g;go_wp2
         go_roundw
         case rel=>exact ⟨k+1,j41_,y40_,by rw [Hx.out,← u.out];exact Row.of_own hown6 rfl,hbr.trans (o.mono hbr.size)⟩
         exact mz_
        ·have u:=hid (Xw8 hI)
         clear hI;go_wp2
         go_roundw
         case rel=>exact ⟨k+1,j41_,y40_,by rw [Hx.out,← u.out];exact Row.of_own s rfl,hbr.trans (g.mono hbr.size)⟩
         exact mz_
     ·have I:x∈out:=by rw [← List.contains_iff_mem,hc]
      have Hx:=hid (D.out I);have N:=hid hc;clear B D E V h1 I hc
      go_wp2_with fail
      refine (L1_ _ out x _ wr hro y40_ N.out).mono ?_;rintro e d ⟨rfl,rfl⟩;exact q10_
  ·have xe:k=l.length:=by omega
   subst xe;rw [x9.out] at hro;go_wp2;go_ret;exact ⟨_,rfl,hro,hbr⟩
theorem B2_ (C D:Value) (a b:List Int) (w:World) (ha:Row w w.heap.size C a) (hb:Row w w.heap.size D b) (O:a.length≤1048576) (P:b.length≤1048576) :
  Calls Tryz.prog 53 #[C,D] w (Gives w (Y1_ a b)):=by
 have m:=hid ha;have r:=hid hb;obtain ⟨M,c1,rfl,_⟩:=ha;obtain ⟨N,c2,rfl,_⟩:=hb;rcases hma:mayB a with _ | _
 ·have h:=hid (Yy0 (b:=b) hma)
  have g:=hid hma;clear hma
  go_enter Tryz.func53,Tryz.ntmps53
  go_wp2_with fail
  refine (Y6_ _ a w m.out y40_ g.out).mono ?_;rintro e q ⟨rfl,c⟩;go_wp2;go_ret;exact T7_ w c h.out
 ·rcases hmb:mayB b with _ | _
  ·have h:=hid (Yy1 (a:=a) hmb)
   have g:=hid hma;have s:=hid hmb;clear hma hmb
   go_enter Tryz.func53,Tryz.ntmps53
   go_wp2_with fail
   refine (Y6_ _ a w m.out y40_ g.out).mono ?_;rintro e q ⟨rfl,c⟩
   go_wp2_with fail
   refine (Y6_ _ b q ((r.out.below c).mono c.size) y40_ s.out).mono ?_;rintro e d ⟨rfl,p⟩;go_wp2;go_ret;exact T7_ w (c.trans (p.mono c.size)) h.out
  ·have h:=hid (Yz9 hma hmb)
   have g:=hid hma;have s:=hid hmb;clear hma hmb
   go_enter Tryz.func53,Tryz.ntmps53
   go_wp2_with fail
   refine (Y6_ _ a w m.out y40_ g.out).mono ?_;rintro e q ⟨rfl,c⟩
   go_wp2_with fail
   refine (Y6_ _ b q ((r.out.below c).mono c.size) y40_ s.out).mono ?_;rintro e d ⟨rfl,p⟩;have o:Below w.heap.size w d:=c.trans (p.mono c.size);clear c p;have v:(d.alloc (.cells #[] 3)).ownsRow w.heap.size 3 1 (.slice (some ⟨d.heap.size,0,none⟩) 0 0) ([]:List Int).length (ints []) :=
    World.ownsRow_made d #[] 0 o.size z41_ rfl
   have j:Below w.heap.size w (d.alloc (.cells #[] 3)):=o.alloc o.size _;have F:=hid (m.out.below j)
   go_wp2_with (at_builtin;refine Z5_ rfl _ _ rfl w.heap.size w.heap.size _ _ [] a rfl rfl v F.out k40_ y40_ j.size ?_)
   intro Q L x z;have k:Below w.heap.size w L:=j.grown z j.size (fun i u=>(v.lt i u).1);have G:=hid (r.out.below k);clear z v j o
   go_wp2_with (at_builtin;refine Z5_ rfl _ _ rfl w.heap.size w.heap.size _ _ a b rfl rfl x G.out y40_ y40_ k.size ?_)
   intro K E I B;have y:Below w.heap.size w E:=k.grown B k.size (fun i u=>(x.lt i u).1);clear B x k
   go_wp2_with fail
   refine (Yf0 K (a ++ b) E (Row.of_own I k40_) (by rw [List.length_append];omega)).mono ?_;rintro e S ⟨R,rfl,J,H⟩;go_wp2;go_ret;exact ⟨_,rfl,by rw [h.out];exact J,y.trans (H.mono y.size)⟩
end Go.Proofs.YtigobiacbficaaaGreatDoor.Wp
