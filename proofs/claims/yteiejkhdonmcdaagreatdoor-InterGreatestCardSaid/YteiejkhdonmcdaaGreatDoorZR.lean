/- The document's R7 over digraphs that may be: May, points, near and steps, walked (without the program's search; gen_vr7.py). The document's R7 over digraphs that may be: least, From and Path, walked (without the program's search; gen_vr7.py). -/
import Derived.Test.YteiejkhdonmcdaaGreatDoorVLaw
import Derived.Test.YteiejkhdonmcdaaGreatDoorZA
import Derived.Test.YteiejkhdonmcdaaGreatDoorX0A
namespace Go.Proofs.YteiejkhdonmcdaaGreatDoor
open Go Go.RowKit
namespace Wp
def ptB (right:Int) (l:List Int):Bool:=mayB l && (decide (l.length=0) || decide (l.getD (l.length - 1) 0<right))
def digB (adj:List (List Int)):Bool:=decide (adj.length≤4096) && adj.all (ptB adj.length)
theorem digB_off {adj:List (List Int)} (h:4096<(adj.length:Int)):digB adj=false:=q24_
theorem digB_miss {adj:List (List Int)} {i:Nat} (hi:i<adj.length) (h:ptB adj.length (adj.getD i [])=false):digB adj=false:=by
 unfold digB;exact j4_
theorem digB_all {adj:List (List Int)} (h3:¬ 4096<(adj.length:Int)) (h:∀ i,i<adj.length→ptB adj.length (adj.getD i [])=true):digB adj=true:=x32_
theorem Vd9 {n:Nat} {l:List Int} (h:ptB n l=true):PtsP n l:=by
 unfold ptB at h;rw [Bool.and_eq_true,mayB_iff] at h;obtain ⟨⟨h1,c⟩,h3⟩:=h;refine ⟨⟨h1,c⟩,fun x hx=>⟨(c x hx).1,?_⟩⟩;exact x5_
theorem digB_dig {adj:List (List Int)} (h:digB adj=true):DigP adj:=by
 unfold digB at h;rw [Bool.and_eq_true,decide_eq_true_iff,List.all_eq_true] at h;refine ⟨h.1,fun x=>?_⟩;rcases Nat.lt_or_ge x adj.length with c | c
 ·rw [show adj.getD x []=adj[x] by simp [List.getD,c]]
  exact Vd9 (h.2 _ (List.getElem_mem c))
 ·rw [List.getD_eq_getElem?_getD,List.getElem?_eq_none c]
  exact ⟨⟨List.Pairwise.nil,fun y d=>by simp at d⟩,fun y d=>by simp at d⟩
theorem Rows2.read {w:World} {B:Nat} {A:Option Addr} {n c:Nat} {adj:List (List Int)} (h:Rows2 w B (.slice A n c) adj) (x:Nat) (o:x<adj.length):∃ (d:Addr) (e:Value),A=some d∧w.cell? (d.add x)=some e∧Row w B e (adj.getD x []):=by
 obtain ⟨p,c3,f,_,k⟩:=h;injection f with e7 e8 e9;subst e7;obtain ⟨d,e,g,_,j,m⟩:=k x o;exact ⟨d,e,g,j,m⟩
section
variable {adj:List (List Int)} (hd:DigP adj)
include hd
end
open Go Go.RowKit
section
variable {adj:List (List Int)} (hd:DigP adj)
include hd
end
structure Rest (adj:List (List Int)) (dst l out:List Int) (x:Int):Prop where
 ex:∃ S m rest,Greedy adj dst S m (x :: rest)∧l=out ++ rest
def Vn7 (adj:List (List Int)) (src dst l:List Int) (b:Bool):Prop:=(b=true∧∃ n,Greedy adj dst src n l)∨(b=false∧l=[]∧∀ y∈src,∀ k,¬ Near adj dst k y)
theorem Ys8 {adj:List (List Int)} {src dst l:List Int} {b:Bool} (hd:DigP adj) (hs:PtsP adj.length src) (h:Vn7 adj src dst l b):l.length≤adj.length+1:=by
 rcases h with ⟨_,n,c⟩ | ⟨_,rfl,_⟩
 ·rw [c.length]
  have d:=c.length;cases l with
  | nil=>simp at d
  | cons x l =>
   have e:=hs.2 x c.mem;obtain ⟨m,f,g,h3⟩:=Yb0 hd e (c.near 0 z36_);have:=Nat.lt_or_ge m n;rcases this with h | h
   ·exact absurd h3 (c.none x c.mem m h)
   ·omega
 ·simp
end Wp
end Go.Proofs.YteiejkhdonmcdaaGreatDoor
