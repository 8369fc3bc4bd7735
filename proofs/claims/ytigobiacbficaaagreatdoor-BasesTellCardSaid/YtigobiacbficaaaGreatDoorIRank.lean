/- The rank of a set of elements of a matroid, plain: it is a rank; sets as lists and as properties. -/
import Derived.Test.YtigobiacbficaaaGreatDoorZU
import Derived.Test.YtigobiacbficaaaGreatDoorZP
import Derived.Test.YtigobiacbficaaaGreatDoorZL
import Derived.Test.YtigobiacbficaaaGreatDoorX0A
namespace Go.Proofs.YtigobiacbficaaaGreatDoor.Wp
open Go Go.RowKit
def memP (s:List Int):Nat→Bool:=fun i=>s.contains (i:Int)
def InN (n:Nat) (s:List Int):Prop:=IsSet s∧∀ x∈s,0≤x∧x<(n:Int)
theorem memP_iff {s:List Int} {i:Nat}:memP s i=true↔(i:Int)∈s:=by unfold memP;exact List.contains_iff_mem
theorem Za0:memP []=noneP:=by funext i;rfl
theorem S9_ {n:Int} {s:List Int} (d:0≤n) (e:n≤64):subB s (allL n)=true↔InN n.toNat s:=by
 constructor
 ·intro h
  obtain ⟨h2,_,h3⟩:=subB_iff.1 h;exact ⟨h2,fun x c=>by have:=(F3_ d y40_ x).1 (h3 x c);omega⟩
 ·rintro ⟨h2,h3⟩
  exact Yh7 d e h2 fun x c=>by have:=h3 x c;omega
theorem Yh8 {l:List Nat} (h:l.Pairwise (·<·)):(l.map fun i:Nat=>(i:Int)).Pairwise (·<·):=by
 rw [List.pairwise_map];exact h.imp fun h=>by omega
theorem Yj0 (n:Nat):(List.range n).Pairwise (·<·):=List.pairwise_lt_range
theorem Zd8 (n:Nat) (P:Nat→Bool):(pickN n P).Pairwise (·<·):=(Yj0 n).sublist List.filter_sublist
theorem Yj1 {n:Nat} {s:List Int} (h:InN n s):(pickN n (memP s)).map (fun i:Nat=>(i:Int))=s:=by
 refine Ye0 (Yh8 (Zd8 n _)) h.1.1 fun x=>?_;rw [List.mem_map];constructor
 ·rintro ⟨i,d,rfl⟩
  exact memP_iff.1 (mem_pick.1 d).2
 ·intro c
  have:=h.2 x c;refine ⟨x.toNat,mem_pick.2 ⟨y40_,memP_iff.2 ?_⟩,y40_⟩;rw [show ((x.toNat:Nat):Int)=x by omega];exact c
theorem Yr7 {α:Type} {n:Nat} {s:List Int} (h:InN n s) (f:Nat→α):s.map (fun x=>f x.toNat)=(pickN n (memP s)).map f:=by
 conv=>lhs;rw [← Yj1 h]
 rw [List.map_map];rfl
theorem Y9_ {n:Nat} {s:List Int} (h:InN n s):s.length=cnt (memP s) n:=by
 conv=>lhs;rw [← Yj1 h]
 rw [List.length_map];rfl
theorem I9_ {a b:List Int} (ha:IsSet a) (hb:IsSet b):memP (Y1_ a b)=orP (memP a) (memP b):=by
 funext i
 rw [Bool.eq_iff_iff];unfold orP;rw [Bool.or_eq_true,memP_iff,memP_iff,memP_iff,A5_ ha hb]
theorem Yr8 {n:Int} (c:0≤n) (d:n≤64) {i:Nat} (e:i<n.toNat):memP (allL n) i=true:=memP_iff.2 ((F3_ c y40_ _).2 y40_)
theorem Yj2 {n:Int} {s:List Int} (c:0≤n) (d:n≤64) (hs:IsSet s) {i:Nat} (e:i<n.toNat):memP (Z8_ (allL n) s) i=notP (memP s) i:=by
 rw [Bool.eq_iff_iff,memP_iff,X5_ (F2_ n) hs];unfold notP;rw [Bool.not_eq_true',← Bool.not_eq_true,memP_iff];exact ⟨fun h=>h.2,fun h=>⟨(F3_ c y40_ _).2 y40_,h⟩⟩
theorem Zx0 {n:Int} (c:0≤n) (e:n≤64):InN n.toNat (allL n):=⟨F2_ n,fun x d=>by have:=(F3_ c y40_ x).1 d;omega⟩
theorem Za1 {n:Int} {s:List Int} (c:0≤n) (d:n≤64) (hs:IsSet s):InN n.toNat (Z8_ (allL n) s) :=
 ⟨G8_ _ _,fun x e=>(Zx0 c d).2 x ((X5_ (F2_ n) hs x).1 e).1⟩
theorem E4_ {n:Nat} {a b:List Int} (ha:InN n a) (hb:InN n b):InN n (Y1_ a b) :=
 ⟨E3_ a b,fun x c=>((A5_ ha.1 hb.1 x).1 c).elim (ha.2 x) (hb.2 x)⟩
theorem Xi2 {n:Nat} {a b:List Int} (ha:InN n a) (hb:InN n b):InN n (Z8_ a b) :=
 ⟨G8_ a b,fun x c=>ha.2 x ((X5_ ha.1 hb.1 x).1 c).1⟩
theorem Xi3 (n:Nat):InN n []:=⟨J0_,fun x c=>absurd c k40_⟩
def nN (m:Mat):Nat:=m.n.toNat
def edgOf (m:Mat) (i:Nat):Nat × Nat:=(((m.l.getD i []).getD 0 0).toNat,((m.l.getD i []).getD 1 0).toNat)
def clsOf (m:Mat) (i:Nat):Nat:=((row m 0).getD i 0).toNat
def Yj3 (m:Mat) (c:Nat):Nat:=((row m 1).getD c 0).toNat
def Yr9 (m:Mat) (i r:Nat):Prop:=(r:Int)∈m.l.getD i []
def colOf (m:Mat) (i:Nat):Nat→Int:=L.vec (m.l.getD i [])
def stayN (m:Mat) (i:Nat):Nat:=((stayL m).getD i 0).toNat
def sumR (f:Mat→(Nat→Bool)→Nat):List Mat→(Nat→Bool)→Nat
 | [],_=>0
 | x :: r,P=>f x P+sumR f r (fun i=>P (nN x+i))
noncomputable def rkP:Nat→Mat→(Nat→Bool)→Nat
 | 0,_,_=>0
 | k+1,m,P =>
  if m.t=0 then min m.a.toNat (cnt P (nN m))
  else if m.t=1 then O1_ m.a.toNat (nN m) (edgOf m) P
  else if m.t=2 then partR m.a.toNat (nN m) (clsOf m) (Yj3 m) P
  else if m.t=3 then covR (nN m) m.a.toNat (Yr9 m) P
  else if m.t=4 then linR m.b m.a.toNat (nN m) (colOf m) P
  else if m.t=5 then rkP k (inn m) (imgP (nN m) (stayN m) P)
  else if m.t=6 then rkP k (inn m) (orP (memP (row m 0)) (imgP (nN m) (stayN m) P)) - rkP k (inn m) (memP (row m 0))
  else if m.t=7 then min m.a.toNat (rkP k (inn m) P)
  else if m.t=8 then cnt P (nN m)+rkP k (inn m) (notP P) - rkP k (inn m) allP
  else sumR (rkP k) m.i P
section
variable {k:Nat} {m:Mat} {P:Nat→Bool}
theorem rkP_0 (h:m.t=0):rkP (k+1) m P=min m.a.toNat (cnt P (nN m)):=by rw [rkP,if_pos h]
theorem rkP_1 (h:m.t=1):rkP (k+1) m P=O1_ m.a.toNat (nN m) (edgOf m) P:=by rw [rkP,if_neg y40_,if_pos h]
theorem rkP_2 (h:m.t=2):rkP (k+1) m P=partR m.a.toNat (nN m) (clsOf m) (Yj3 m) P:=by rw [rkP,if_neg y40_,if_neg y40_,if_pos h]
theorem rkP_3 (h:m.t=3):rkP (k+1) m P=covR (nN m) m.a.toNat (Yr9 m) P:=by rw [rkP,if_neg y40_,if_neg y40_,if_neg y40_,if_pos h]
theorem rkP_4 (h:m.t=4):rkP (k+1) m P=linR m.b m.a.toNat (nN m) (colOf m) P:=by rw [rkP,if_neg y40_,if_neg y40_,if_neg y40_,if_neg y40_,if_pos h]
theorem rkP_5 (h:m.t=5):rkP (k+1) m P=rkP k (inn m) (imgP (nN m) (stayN m) P):=by rw [rkP,if_neg y40_,if_neg y40_,if_neg y40_,if_neg y40_,if_neg y40_,if_pos h]
theorem rkP_6 (h:m.t=6):rkP (k+1) m P=rkP k (inn m) (orP (memP (row m 0)) (imgP (nN m) (stayN m) P)) - rkP k (inn m) (memP (row m 0)):=by rw [rkP,if_neg y40_,if_neg y40_,if_neg y40_,if_neg y40_,if_neg y40_,if_neg y40_,if_pos h]
theorem rkP_7 (h:m.t=7):rkP (k+1) m P=min m.a.toNat (rkP k (inn m) P):=by rw [rkP,if_neg y40_,if_neg y40_,if_neg y40_,if_neg y40_,if_neg y40_,if_neg y40_,if_neg y40_,if_pos h]
theorem rkP_8 (h:m.t=8):rkP (k+1) m P=cnt P (nN m)+rkP k (inn m) (notP P) - rkP k (inn m) allP:=by rw [rkP,if_neg y40_,if_neg y40_,if_neg y40_,if_neg y40_,if_neg y40_,if_neg y40_,if_neg y40_,if_neg y40_,if_pos h]
theorem rkP_9 (h:9≤m.t):rkP (k+1) m P=sumR (rkP k) m.i P:=by rw [rkP,if_neg y40_,if_neg y40_,if_neg y40_,if_neg y40_,if_neg y40_,if_neg y40_,if_neg y40_,if_neg y40_,if_neg y40_]
end
theorem Zr8 {m:Mat} (h:chk m=0):0≤m.t∧m.t<10:=(V1_ (X1_ h)).1
theorem chk_a {m:Mat} (h:chk m=0):0≤m.a∧m.a≤64:=by have:=(V1_ (X1_ h)).2.1;omega
theorem Y0_ {m:Mat} (h:chk m=0):(nN m:Int)=m.n∧nN m≤64:=by have:=chk_n h;unfold nN;omega
theorem Q7_ {α:Type} {l:List α} {i:Nat} (d:α) (h:i<l.length):l.getD i d∈l:=z30_
theorem Yh9 {l:List Int} {c below:Int} (h:numsB l c below=true):(l.length:Int)=c∧∀ i,i<l.length→0≤l.getD i 0∧l.getD i 0<below:=by
 unfold numsB at h;rw [Bool.and_eq_true,decide_eq_true_iff,Bool.not_eq_true',List.any_eq_false] at h;refine ⟨h.1,fun i d=>?_⟩;have:=h.2 _ (Q7_ 0 d);unfold outB at this;rw [decide_eq_true_iff] at this;omega
theorem O3_ {m:Mat} (h:chk m=0) (d:m.t=1):1≤m.a∧(m.l.length:Int)=m.n∧∀ i,i<m.l.length→((m.l.getD i []).length:Int)=2∧∀ j,j<(m.l.getD i []).length→0≤(m.l.getD i []).getD j 0∧(m.l.getD i []).getD j 0<m.a:=by
 obtain ⟨_,_,h3,c⟩:=V1_ (X1_ h);have hl:=(takes_iff.1 h3).2.2.1;rw [d] at hl;have g:(m.l.length:Int)=m.n:=hl;have e:fitsB m=(decide (1≤m.a) && !m.l.any (edgeB m.a)):=by
  unfold fitsB;rw [if_neg y40_,if_pos d]
 rw [e,Bool.and_eq_true,decide_eq_true_iff,Bool.not_eq_true',List.any_eq_false] at c;refine ⟨c.1,g,fun i f=>?_⟩;have:=c.2 _ (Q7_ [] f);unfold edgeB at this;have k:numsB (m.l.getD i []) 2 m.a=true:=by
  cases hb:numsB (m.l.getD i []) 2 m.a
  ·rw [hb] at this;exact absurd rfl this
  ·rfl
 exact Yh9 k
theorem Za2 {m:Mat} (h:chk m=0) (d:m.t=2):m.l.length=2∧((row m 0).length:Int)=m.n∧((row m 1).length:Int)=m.a∧(∀ i,i<(row m 0).length→0≤(row m 0).getD i 0∧(row m 0).getD i 0<m.a)∧∀ i,i<(row m 1).length→0≤(row m 1).getD i 0∧(row m 1).getD i 0<65:=by
 obtain ⟨_,_,h3,c⟩:=V1_ (X1_ h);have hl:=(takes_iff.1 h3).2.2.1;rw [d] at hl;have f:(m.l.length:Int)=2:=hl;have e:fitsB m=(numsB (row m 0) m.n m.a && numsB (row m 1) m.a 65):=by
  unfold fitsB;rw [if_neg y40_,if_neg y40_,if_pos d]
 rw [e,Bool.and_eq_true] at c;have a:=Yh9 c.1;have b:=Yh9 c.2;exact ⟨y40_,a.1,b.1,a.2,b.2⟩
theorem Zd9 {m:Mat} (h:chk m=0) (d:m.t=3):(m.l.length:Int)=m.n∧mayM m.a m.l=true:=by
 obtain ⟨_,_,h3,c⟩:=V1_ (X1_ h);have hl:=(takes_iff.1 h3).2.2.1;rw [d] at hl;have e:fitsB m=mayM m.a m.l:=by
  unfold fitsB;rw [if_neg y40_,if_neg y40_,if_neg y40_,if_pos d]
 rw [e] at c;exact ⟨hl,c⟩
theorem Yi0 {m:Mat} (h:chk m=0) (d:m.t=4):(m.l.length:Int)=m.n∧elimB m.b m.a m.l=true:=by
 obtain ⟨_,_,h3,c⟩:=V1_ (X1_ h);have hl:=(takes_iff.1 h3).2.2.1;rw [d] at hl;have e:fitsB m=elimB m.b m.a m.l:=by
  unfold fitsB;rw [if_neg y40_,if_neg y40_,if_neg y40_,if_neg y40_,if_pos d]
 rw [e] at c;exact ⟨hl,c⟩
theorem J6_ {m:Mat} (h:chk m=0) (k:5≤m.t∧m.t≤8):m.i=[inn m]∧chk (inn m)=0∧dp 4 (inn m)<dp 4 m:=by
 have h3:=(takes_iff.1 (V1_ (X1_ h)).2.2.1).2.2.2;have d:m.i.length=1:=by
  rcases (by omega:m.t=5∨m.t=6∨m.t=7∨m.t=8) with e | e | e | e
  all_goals
   rw [e] at h3;have g:(1:Int)≤(m.i.length:Int):=h3.1;have j:(m.i.length:Int)≤1:=h3.2;omega
 have c:=Xi0 (m:=m) y40_;obtain ⟨x,f⟩:=List.length_eq_one_iff.1 d;refine ⟨?_,(V3_ h c).1,(V3_ h c).2⟩;rw [f] at c ⊢;rw [List.mem_singleton.1 c]
theorem H6_ {m:Mat} (h:chk m=0) (e:m.t=7∨m.t=8):m.n=(inn m).n:=by
 obtain ⟨d,h2,_⟩:=J6_ h y40_;have c:=(V1_ (X1_ h)).2.2.2;rw [Zy8 y40_,decide_eq_true_iff,d,Vo9 _ h2] at c;exact c
theorem Ze0 {m:Mat} (h:chk m=0) (j:m.t=5∨m.t=6):InN (nN (inn m)) (row m 0):=by
 obtain ⟨_,h2,_⟩:=J6_ h y40_;have f:=chk_n h2;have c:=(V1_ (X1_ h)).2.2.2;have g:partB m=true:=by
  rcases j with e | e
  ·have d:fitsB m=(partB m && decide (m.n=(row m 0).length)):=y23_
   rw [d,Bool.and_eq_true] at c;exact c.1
  ·have d:fitsB m=(partB m && decide (IntKind.i64.wrap (m.n+(row m 0).length)=(inn m).n)):=y20_
   rw [d,Bool.and_eq_true] at c;exact c.1
 exact (S9_ f.1 f.2).1 g
theorem Za3 {m:Mat} (h:chk m=0) (e:m.t=5∨m.t=6):InN (nN (inn m)) (stayL m)∧(stayL m).length=nN m:=by
 obtain ⟨_,h2,_⟩:=J6_ h y40_;have c:=chk_n h2;have d:=Ze0 h e;refine ⟨?_,by have:=W1_ h e;have:=Y0_ h;omega⟩;unfold stayL;split
 ·exact Za1 c.1 c.2 d.1
 ·exact d
theorem L9_ {m:Mat} (h:chk m=0) (d:m.t=5∨m.t=6) {i:Nat} (e:i<nN m):((stayN m i:Nat):Int)=(stayL m).getD i 0∧stayN m i<nN (inn m):=by
 obtain ⟨c,h2⟩:=Za3 h d;have:=c.2 _ (Q7_ 0 (show i<(stayL m).length by omega));unfold stayN;omega
theorem Yj4 {m:Mat} (h:chk m=0) (d:m.t=5∨m.t=6) {i j:Nat} (k:i<nN m) (o:j<nN m) (e:stayN m i=stayN m j):i=j:=by
 obtain ⟨g,h2⟩:=Za3 h d;have a:=(L9_ h d k).1;have b:=(L9_ h d o).1;have f:=List.pairwise_iff_getElem.1 g.1.1;have p:(stayL m).getD i 0=(stayL m)[i]'y40_:=by simp [List.getD,show i<(stayL m).length by omega]
 have q:(stayL m).getD j 0=(stayL m)[j]'y40_:=by simp [List.getD,show j<(stayL m).length by omega]
 rcases Nat.lt_trichotomy i j with c | c | c
 ·have:=f i j y40_ y40_ c;omega
 ·exact c
 ·have:=f j i y40_ y40_ c;omega
theorem Yj5 {m:Mat} (h:chk m=0) (c:m.t=6) {i:Nat} (e:i<nN m):memP (row m 0) (stayN m i)=false:=by
 obtain ⟨g,h2⟩:=Za3 h (.inr c);have f:=Ze0 h (.inr c);have a:=L9_ h (.inr c) e;have d:=Q7_ 0 (show i<(stayL m).length by omega);rw [← a.1] at d;rw [show stayL m=Z8_ (allL (inn m).n) (row m 0) from if_pos c] at d;rw [← Bool.not_eq_true,memP_iff];exact ((X5_ (F2_ _) f.1 _).1 d).2
theorem W2_ {m:Mat} {s:List Int} (h:chk m=0) (c:m.t=5∨m.t=6) (hs:InN (nN m) s):memP (imgM m s)=imgP (nN m) (stayN m) (memP s):=by
 funext y
 rw [Bool.eq_iff_iff,memP_iff,imgP_iff];unfold imgM;rw [List.mem_map];constructor
 ·rintro ⟨x,d,e⟩
  have:=hs.2 x d;refine ⟨x.toNat,y40_,memP_iff.2 (by rw [show ((x.toNat:Nat):Int)=x by omega];exact d),?_⟩;have:=(L9_ h c (i:=x.toNat) y40_).1;omega
 ·rintro ⟨i,f,g,rfl⟩
  refine ⟨i,memP_iff.1 g,?_⟩;rw [show ((i:Nat):Int).toNat=i from rfl,(L9_ h c f).1]
theorem Ze1 {m:Mat} {s:List Int} (h:chk m=0) (e:m.t=5∨m.t=6) (hs:InN (nN m) s):InN (nN (inn m)) (imgM m s):=by
 obtain ⟨d,h2⟩:=Za3 h e;have hb:∀ x∈imgM m s,0≤x∧x<(nN (inn m):Int):=fun x c=>by
  obtain ⟨z,f,rfl⟩:=List.mem_map.1 c;have:=hs.2 z f;exact d.2 _ (Q7_ 0 y40_)
 refine ⟨⟨?_,fun x c=>?_⟩,hb⟩
 ·unfold imgM
  rw [List.pairwise_map];refine hs.1.1.imp_of_mem fun {a b} ha hb hab=>?_;have ha:=hs.2 a ha;have hb:=hs.2 b hb;have:=List.pairwise_iff_getElem.1 d.1.1 a.toNat b.toNat y40_ y40_ y40_;rw [show (stayL m).getD a.toNat 0=(stayL m)[a.toNat]'y40_ by simp [List.getD,show a.toNat<(stayL m).length by omega],show (stayL m).getD b.toNat 0=(stayL m)[b.toNat]'y40_ by simp [List.getD,show b.toNat<(stayL m).length by omega]];exact this
 ·have:=hb x c
  obtain ⟨_,h3,_⟩:=J6_ h y40_;have:=Y0_ h3;exact ⟨(hb x c).1,by unfold nN at *;omega⟩
theorem Xi4 {f:Mat→(Nat→Bool)→Nat}:∀ {l:List Mat},(∀ x∈l,Rk (nN x) (f x))→Rk ((l.map nN).sum) (sumR f l)
 | [],_=>⟨fun _=>rfl,rfl,fun h=>absurd h k40_,fun h=>absurd h k40_,fun h=>absurd h k40_⟩
 | x :: r,h=>by
  rw [List.map_cons,List.sum_cons];exact Jy5 (h x k40_) (Xi4 fun y hy=>h y y45_)
theorem Vp1 {l:List Mat} (h:∀ x∈l,0≤x.n∧x.n≤64) (hl:l.length≤10):(((l.map nN).sum:Nat):Int)=tog l:=by
 have e:∀ (j:Nat),j≤l.length→((((l.take j).map nN).sum:Nat):Int)=tog (l.take j):=by
  intro j
  induction j with
  | zero=>intro _;simp [tog]
  | succ j c =>
   intro f;have c:=c y40_;have hb:=Vh6 (l:=l.take j) (fun x d=>h x (List.mem_of_mem_take d)) k42_;rw [List.length_take] at hb;have d:=h _ (List.getElem_mem (show j<l.length by omega));rw [List.take_succ_eq_append_getElem y40_,Vv3,G3_ y40_ y40_,← c,List.map_append,List.sum_append];simp only [List.map_cons,List.map_nil,List.sum_cons,List.sum_nil];unfold nN;omega
 have:=e l.length (Nat.le_refl _)
 rwa [List.take_length] at this
theorem Zr9 {m:Mat} (h:chk m=0) (d:m.t=9):(m.i.map nN).sum=nN m∧m.i.length≤8:=by
 have h3:=(takes_iff.1 (V1_ (X1_ h)).2.2.1).2.2.2;rw [d] at h3;have f:(m.i.length:Int)≤8:=h3.2;have c:=(V1_ (X1_ h)).2.2.2;rw [Zy8 y40_,decide_eq_true_iff] at c;have:=Vp1 (l:=m.i) (fun x e=>chk_n (V3_ h e).1) y40_;have:=Y0_ h;omega
theorem rk_ok:∀ (k:Nat) (m:Mat),chk m=0→dp 4 m≤k→Rk (nN m) (rkP k m)
 | 0,m,_,hd=>absurd hd (by have:=Zd7 4 m;omega)
 | k+1,m,h,hd=>by
  have u:=Zr8 h;have o:∀ {n:Nat} {f g:(Nat→Bool)→Nat},(∀ P,f P=g P)→Rk n g→Rk n f:=fun {n f g} e h=>by rw [show f=g from funext e];exact h
  rcases (by omega:m.t=0∨m.t=1∨m.t=2∨m.t=3∨m.t=4∨m.t=5∨m.t=6∨m.t=7∨m.t=8∨m.t=9) with c | c | c | c | c | c | c | c | c | c
  ·exact o (fun P=>rkP_0 c) (Yp6 (C0_ _) _)
  ·refine o (fun P=>rkP_1 c) (Vy9 fun i d=>?_)
   obtain ⟨_,s,h2⟩:=O3_ h c;have:=Y0_ h;exact j11_
  ·refine o (fun P=>rkP_2 c) (Yg7 fun i d=>?_)
   obtain ⟨_,s,_,h3,_⟩:=Za2 h c;have:=Y0_ h;have:=h3 i y40_;unfold clsOf;omega
  ·exact o (fun P=>rkP_3 c) (Yx8 _ _ _)
  ·have:=(Yi0 h c).2
   unfold elimB at this;simp only [Bool.and_eq_true] at this;exact o (fun P=>rkP_4 c) (Jy6 (L.fld_ok this.1.1.1) _)
  ·obtain ⟨_,h2,h3⟩:=J6_ h y40_
   have p:=rk_ok k (inn m) h2 y40_;refine o (fun P=>?_) (Vg9 p (k:=nN m) (fun i j d q e=>Yj4 h (.inl c) d q e) (fun i d=>(L9_ h (.inl c) d).2) noneP (fun _ _=>rfl));rw [rkP_5 c,p.zero,Nat.sub_zero,show orP noneP (imgP (nN m) (stayN m) P)=imgP (nN m) (stayN m) P from by funext i;simp [orP,noneP]]
  ·obtain ⟨_,h2,h3⟩:=J6_ h y40_
   have p:=rk_ok k (inn m) h2 y40_;exact o (fun P=>rkP_6 c) (Vg9 p (k:=nN m) (fun i j d q e=>Yj4 h (.inr c) d q e) (fun i d=>(L9_ h (.inr c) d).2) (memP (row m 0)) (fun i d=>Yj5 h c d))
  ·obtain ⟨_,h2,h3⟩:=J6_ h y40_
   have p:=rk_ok k (inn m) h2 y40_;have e:nN m=nN (inn m):=by unfold nN;rw [H6_ h (.inl c)]
   rw [e];exact o (fun P=>rkP_7 c) (Yp6 p _)
  ·obtain ⟨_,h2,h3⟩:=J6_ h y40_
   have p:=rk_ok k (inn m) h2 y40_;have e:nN m=nN (inn m):=by unfold nN;rw [H6_ h (.inr c)]
   rw [e];exact o (fun P=>by rw [rkP_8 c,e]) (Vo0 p)
  ·have p:∀ x∈m.i,Rk (nN x) (rkP k x):=fun x r=>rk_ok k x (V3_ h r).1 (by have:=(V3_ h r).2;omega)
   rw [← (Zr9 h c).1];exact o (fun P=>rkP_9 y40_) (Xi4 p)
end Go.Proofs.YtigobiacbficaaaGreatDoor.Wp
