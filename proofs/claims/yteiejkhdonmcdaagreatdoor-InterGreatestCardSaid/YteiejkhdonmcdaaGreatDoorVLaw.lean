/- The document's own way to what is come to, and to the shortest way, plain: of any lists of points; without the program's. -/
import Derived.Test.YteiejkhdonmcdaaGreatDoorZN
import Derived.Test.YteiejkhdonmcdaaGreatDoorZF
import Derived.Test.YteiejkhdonmcdaaGreatDoorX0A
namespace Go.Proofs.YteiejkhdonmcdaaGreatDoor.Wp
open Go Go.RowKit
def DigP (adj:List (List Int)):Prop:=adj.length≤4096∧∀ x,IsSet (adj.getD x [])∧∀ y∈adj.getD x [],0≤y∧y<(adj.length:Int)
abbrev PtsP (n:Nat) (l:List Int):Prop:=InN n l
def nearK (adj:List (List Int)) (l:List Int):Nat→List Int
 | 0=>l
 | k+1=>Y2_ (nearK adj l k) (adj.getD (l.getD k 0).toNat [])
def nearL (adj:List (List Int)) (l:List Int):List Int:=nearK adj l l.length
def itL (adj:List (List Int)) (l:List Int):Nat→List Int
 | 0=>l
 | k+1=>nearL adj (itL adj l k)
theorem Yz0 {adj:List (List Int)} (l:List Int):∀ k,itL adj (nearL adj l) k=itL adj l (k+1)
 | 0=>rfl
 | k+1=>by
  show nearL adj (itL adj (nearL adj l) k)=nearL adj (itL adj l (k+1));rw [Yz0 l k]
theorem Zn8 {adj:List (List Int)} {l:List Int} {k:Nat} (h:itL adj l (k+1)=itL adj l k):∀ m,itL adj l (k+m)=itL adj l k
 | 0=>rfl
 | m+1=>by
  show nearL adj (itL adj l (k+m))=_;rw [Zn8 h m];exact h
theorem Vd2 {n:Nat} {l:List Int} (h:PtsP n l):l.length≤n:=Y4_ h
section
variable {adj:List (List Int)} (hd:DigP adj)
include hd
theorem Yz1 {l:List Int} (hl:PtsP adj.length l):∀ k,k≤l.length→PtsP adj.length (nearK adj l k)∧∀ x,x∈nearK adj l k↔x∈l∨∃ y∈l.take k,x∈adj.getD y.toNat []
 | 0,_=>⟨hl,fun x=>by simp [nearK]⟩
 | k+1,hk=>by
  obtain ⟨d,f⟩:=Yz1 hl k k35_;have e:=J1_ d.1 (hd.2 (l.getD k 0).toNat).1;have g:l.take (k+1)=l.take k ++ [l.getD k 0]:=by
   rw [List.take_succ_eq_append_getElem (by omega:k<l.length)];simp [List.getD,show k<l.length by omega]
  refine ⟨⟨B1_ _ _,fun x j=>?_⟩,fun x=>?_⟩
  ·rcases (e x).1 j with h | h
   ·exact d.2 x h
   ·exact (hd.2 _).2 x h
  ·show x∈Y2_ (nearK adj l k) (adj.getD (l.getD k 0).toNat [])↔_
   rw [e x,f x,g];constructor
   ·rintro ((h | ⟨y,c,h⟩) | h)
    ·exact .inl h
    ·exact .inr ⟨y,List.mem_append.2 (.inl c),h⟩
    ·exact .inr ⟨_,List.mem_append.2 (.inr (List.mem_singleton.2 rfl)),h⟩
   ·rintro (h | ⟨y,c,h⟩)
    ·exact .inl (.inl h)
    ·rcases List.mem_append.1 c with c | c
     ·exact .inl (.inr ⟨y,c,h⟩)
     ·rw [List.mem_singleton] at c
      rw [c] at h;exact .inr h
theorem N9_ {l:List Int} (hl:PtsP adj.length l):PtsP adj.length (nearL adj l)∧∀ x,x∈nearL adj l↔x∈l∨∃ y∈l,x∈adj.getD y.toNat []:=by
 have:=Yz1 hd hl l.length (Nat.le_refl _);rw [List.take_length] at this;exact this
theorem H3_ {l:List Int} (hl:PtsP adj.length l):∀ k,PtsP adj.length (itL adj l k)
 | 0=>hl
 | k+1=>(N9_ hd (H3_ hl k)).1
theorem W0_ {dst:List Int}:∀ k l,PtsP adj.length l→((∃ z∈itL adj l k,z∈dst)↔∃ y∈l,Near adj dst k y)
 | 0,l,_=>Iff.rfl
 | k+1,l,hl=>by
  have d:=N9_ hd hl;rw [← Yz0 l k,W0_ k _ d.1];constructor
  ·rintro ⟨y,c,h⟩
   rcases (d.2 y).1 c with c | ⟨z,e,c⟩
   ·exact ⟨y,c,.inl h⟩
   ·exact ⟨z,e,.inr ⟨y,c,h⟩⟩
  ·rintro ⟨y,c,h | ⟨z,e,h⟩⟩
   ·exact ⟨y,(d.2 y).2 (.inl c),h⟩
   ·exact ⟨z,(d.2 z).2 (.inr ⟨y,c,e⟩),h⟩
theorem Xc3 {l:List Int} (hl:PtsP adj.length l) (k:Nat):∀ x,x∈itL adj l k→x∈itL adj l (k+1):=fun x c=>((N9_ hd (H3_ hd hl k)).2 x).2 (.inl c)
theorem Yz2 {l:List Int} (hl:PtsP adj.length l):∀ k,(∀ m,m<k→itL adj l (m+1)≠itL adj l m)→k≤(itL adj l k).length
 | 0,_=>Nat.zero_le _
 | k+1,h=>by
  have r:=Yz2 hl k fun m d=>h m k35_;have e:=H3_ hd hl k;have c:=H3_ hd hl (k+1);rw [X2_ e] at r;rw [X2_ c];by_cases f:∃ y,y<adj.length∧memP (itL adj l k) y=false∧memP (itL adj l (k+1)) y=true
  ·have:=Zr5 (p:=memP (itL adj l k)) (q:=memP (itL adj l (k+1))) (n:=adj.length) (fun v _ o=>memP_iff.2 (Xc3 hd hl k _ (memP_iff.1 o))) f
   omega
  ·exfalso
   refine h k k35_ (IsSet.ext c.1 e.1 fun x=>⟨fun g=>?_,Xc3 hd hl k x⟩);have hb:=c.2 x g;have j:((x.toNat:Nat):Int)=x:=k35_;cases d:memP (itL adj l k) x.toNat
   ·exact absurd ⟨x.toNat,k35_,d,memP_iff.2 (by rw [j];exact g)⟩ f
   ·have:=memP_iff.1 d
    rwa [j] at this
theorem Xc4 {l:List Int} (hl:PtsP adj.length l):∀ m,itL adj l (adj.length+m)=itL adj l adj.length:=by
 by_cases h:∃ k,k≤adj.length∧itL adj l (k+1)=itL adj l k
 ·obtain ⟨k,f,e⟩:=h
  intro m;have c:=Zn8 e (adj.length+m - k);have d:=Zn8 e (adj.length - k);rw [show k+(adj.length+m - k)=adj.length+m by omega] at c;rw [show k+(adj.length - k)=adj.length by omega] at d;rw [c,d]
 ·exfalso
  have c:=Yz2 hd hl (adj.length+1) fun m g e=>h ⟨m,k35_,e⟩;have d:=Vd2 (H3_ hd hl (adj.length+1));omega
theorem Zi5 {l:List Int} (hl:PtsP adj.length l) {x y:Int} (c:x∈itL adj l adj.length) (d:y∈adj.getD x.toNat []):y∈itL adj l adj.length:=by
 have h:=((N9_ hd (H3_ hd hl adj.length)).2 y).2 (.inr ⟨x,c,d⟩);have e:itL adj l (adj.length+1)=itL adj l adj.length:=Xc4 hd hl 1;rw [← e];exact h
theorem Ya9 {l:List Int} (hl:PtsP adj.length l):∀ k x,x∈l→x∈itL adj l k
 | 0,_,h=>h
 | k+1,x,h=>Xc3 hd hl k x (Ya9 hl k x h)
theorem Yb0 {dst:List Int} {v:Int} (h:0≤v∧v<(adj.length:Int)) {k:Nat} (f:Near adj dst k v):∃ m,m≤adj.length∧m≤k∧Near adj dst m v:=by
 by_cases g:k≤adj.length
 ·exact ⟨k,g,Nat.le_refl _,f⟩
 ·have hl:PtsP adj.length [v]:=⟨⟨z36_,fun y c=>by rw [List.mem_singleton] at c;have:=hd.1;rw [c];exact ⟨k35_,k35_⟩⟩,fun y c=>by rw [List.mem_singleton] at c;rw [c];exact h⟩
  have d:=(W0_ hd (dst:=dst) k [v] hl).2 ⟨v,z36_,f⟩;rw [show k=adj.length+(k - adj.length) by omega,Xc4 hd hl] at d;obtain ⟨y,c,e⟩:=(W0_ hd (dst:=dst) adj.length [v] hl).1 d;rw [List.mem_singleton] at c;rw [c] at e;exact ⟨adj.length,Nat.le_refl _,k35_,e⟩
end
section
variable {adj:List (List Int)} {dst S:List Int} {i:Nat} {b s:Int}
end
end Go.Proofs.YteiejkhdonmcdaaGreatDoor.Wp
namespace Go.Proofs.YteiejkhdonmcdaaGreatDoor.Wp
open Go Go.RowKit
theorem Zq0 {k:Nat} (h:k≤64):IsSet (upTo k):=by
 by_cases c:k=0
 ·subst c;exact X7_
 ·rw [← Yx5 k35_ k35_]
  exact F4_ _
section
variable {a b m:Mat} {s:List Int}
theorem C9_ (c:nN m≤64):InN (nN m) (addG m s):=⟨(Zq0 c).filter _,fun _ d=>mem_upTo.1 (List.mem_filter.1 d).1⟩
theorem Vd3 {x:Nat} (c:nN a≤x):(adjG a b s).getD x []=[]:=by
 rw [List.getD_eq_getElem?_getD,List.getElem?_eq_none (by rw [H2_];exact c)];rfl
theorem Zn9 (d:nN a≤64):DigP (adjG a b s):=by
 refine ⟨by rw [H2_];omega,fun x=>?_⟩;by_cases e:x<nN a
 ·rw [Xc2 e,H2_]
  exact ⟨(Zq0 d).filter _,fun y c=>mem_upTo.1 (List.mem_filter.1 c).1⟩
 ·rw [Vd3 k35_]
  exact ⟨X7_,fun y c=>by cases c⟩
theorem Common.n64 (h:Common a b s):nN a≤64:=(Z6_ (mayI_iff.1 (Q0_ h.ia)).1).2
theorem Common.set (h:Common a b s):InN (nN a) s:=(mayI_iff.1 (Q0_ h.ia)).2
theorem Ys1 (h:Common a b s) (g:meetL (itL (adjG a b s) (addG a s) (adjG a b s).length) (addG b s)=[]) :
  InN (nN a) (itL (adjG a b s) (addG a s) (adjG a b s).length)∧rankT a (Z4_ (allL a.n) (itL (adjG a b s) (addG a s) (adjG a b s).length))+rankT b (itL (adjG a b s) (addG a s) (adjG a b s).length)=(s.length:Int):=by
 have hd:=Zn9 (b:=b) (s:=s) h.n64;have d:PtsP (adjG a b s).length (addG a s):=by rw [H2_];exact C9_ h.n64
 have f:=H3_ hd d (adjG a b s).length;have c:InN (nN a) (itL (adjG a b s) (addG a s) (adjG a b s).length):=by rw [H2_] at f ⊢;exact f
 refine ⟨c,Ys0 h c (Ya9 hd d _) (fun x e y j=>Zi5 hd d e (by rw [Int.toNat_natCast];exact j)) fun x e hb=>?_⟩;have hB:IsSet (addG b s):=(C9_ (by rw [h.nn];exact h.n64)).1;have:=(S7_ c.1 hB x).2 ⟨e,hb⟩;rw [g] at this;cases this
theorem Vd4 {l:List Int} (hs:IsSet s) (hl:(sortL l).length=l.length):turnL s l=Y2_ (Z4_ s (sortL l)) (Z4_ (sortL l) s):=if_pos ⟨I3_ hs,hl⟩
theorem Xs2 (s l:List Int):IsSet (turnL s l):=by
 unfold turnL;split
 ·exact B1_ _ _
 ·exact X7_
theorem Xs3 {l:List Int} (hs:IsSet s) (hl:(sortL l).length=l.length) (x:Int):x∈turnL s l↔(x∈s∧x∉sortL l)∨(x∈sortL l∧x∉s):=by
 rw [Vd4 hs hl,J1_ (J0_ _ _) (J0_ _ _),Y7_ hs (V8_ l),Y7_ (V8_ l) hs]
theorem Ys2 {x:Int} (c:IsSet [x]):Y2_ [] [x]=[x]:=IsSet.ext (B1_ _ _) c fun y=>by rw [J1_ X7_ c];simp
theorem Xs4 (hc:chk m=0) {x:Nat} (f:x<nN m):hasB (addG m []) (x:Int)=indT m [(x:Int)]:=by
 have c:=(Z6_ hc).2;have d:=Ze1 c f;have e:hasB [] (x:Int)=false:=by
  rw [← Bool.not_eq_true,G6_ X7_];simp
 rw [Bool.eq_iff_iff,G6_ (C9_ c).1];unfold addG;rw [List.mem_filter,mem_upTo,e,Ys2 d.1];simp;omega
theorem Xc5 (hs:IsSet s):turnL [] s=s:=by
 have hl:(sortL s).length=s.length:=by rw [Yd9 hs]
 refine IsSet.ext (Xs2 _ _) hs fun x=>?_;rw [Xs3 X7_ hl,Yd9 hs];simp
end
end Go.Proofs.YteiejkhdonmcdaaGreatDoor.Wp
