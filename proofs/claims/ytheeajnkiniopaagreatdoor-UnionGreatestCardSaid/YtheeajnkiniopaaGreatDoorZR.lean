/- Several matroids together, plain: what is come to bounds all classes; what Max of layer 16 tells, and that it is one and the same whoever tells it. Nothing of the program here. -/
import Derived.Test.YtheeajnkiniopaaGreatDoorUPure
import Derived.Test.YtheeajnkiniopaaGreatDoorUAdj
import Derived.Test.YtheeajnkiniopaaGreatDoorZA
import Derived.BigQuiet
import Derived.Deep.QuietTactic
import Derived.Test.YtheeajnkiniopaaGreatDoorZI
import Derived.Test.YtheeajnkiniopaaGreatDoorX0A
import Derived.Test.YtheeajnkiniopaaGreatDoorX0B
set_option maxHeartbeats 1000000
set_option maxRecDepth 100000
open Go.Lib (hid)
namespace Go.Proofs.YtheeajnkiniopaaGreatDoor.Wp
open Go Go.RowKit
def sumTo (g:Nat→Nat):Nat→Nat
 | 0=>0
 | k+1=>sumTo g k+g k
theorem Za1 {g f:Nat→Nat}:∀ {K:Nat},(∀ k,k<K→g k≤f k)→sumTo g K≤sumTo f K
 | 0,_=>Nat.le_refl _
 | K+1,h=>by
  have d:=Za1 (g:=g) (f:=f) (K:=K) fun k c=>h k x37_;have:=h K x37_;show sumTo g K+g K≤sumTo f K+f K;omega
theorem Zr3 {g f:Nat→Nat} {K:Nat} (h:∀ k,k<K→g k=f k):sumTo g K=sumTo f K :=
 Nat.le_antisymm (Za1 fun k c=>Nat.le_of_eq (h k c)) (Za1 fun k c=>Nat.le_of_eq (h k c).symm)
theorem Yv9 (g f:Nat→Nat):∀ K,sumTo (fun k=>g k+f k) K=sumTo g K+sumTo f K
 | 0=>rfl
 | K+1=>by
  show sumTo (fun k=>g k+f k) K+(g K+f K)=sumTo g K+g K+(sumTo f K+f K);rw [Yv9 g f K];omega
theorem Yj0 {x:Int} (f:x≠-1) (e:-1≤x):∀ K:Nat,sumTo (fun k=>if x=(k:Int) then 1 else 0) K=if x<(K:Int) then 1 else 0
 | 0=>by show 0=_;rw [if_neg x37_]
 | K+1=>by
  show sumTo (fun k=>if x=(k:Int) then 1 else 0) K+(if x=(K:Int) then 1 else 0)=_;rw [Yj0 f e K];by_cases c:x<(K:Int)
  ·rw [if_pos c,if_neg x37_,if_pos x37_]
  ·by_cases d:x=(K:Int)
   ·rw [if_neg c,if_pos d,if_pos x37_]
   ·rw [if_neg c,if_neg d,if_neg x37_]
theorem Zx3 (K:Nat):sumTo (fun _=>0) K=0:=by
 induction K with
 | zero=>rfl
 | succ K ih=>show sumTo (fun _=>0) K+0=0;rw [ih]
section
variable {ms:List Mat} {c:List Int}
theorem M7_ {K:Nat} (j:∀ x,x<c.length→-1≤c.getD x 0∧c.getD x 0<(K:Int)) (P:Nat→Bool):∀ m,m≤c.length→sumTo (fun k=>cnt (andP (memP (Z3_ c (k:Int))) P) m) K+cnt (andP (memP (Z3_ c (-1))) P) m=cnt P m
 | 0,_=>by
  have:∀ Q:Nat→Bool,cnt Q 0=0:=fun Q=>rfl;simp only [this];rw [Zx3]
 | m+1,hm=>by
  have p:=M7_ j P m x37_;have o:=j m x37_;have d:∀ k:Int,andP (memP (Z3_ c k)) P m=(decide (c.getD m 0=k) && P m):=fun k=>by
   unfold andP;congr 1;rw [Bool.eq_iff_iff,class_at,decide_eq_true_iff];exact ⟨fun h=>h.2,fun h=>⟨x37_,h⟩⟩
  rw [Zr3 (f:=fun k=>cnt (andP (memP (Z3_ c (k:Int))) P) m+if (decide (c.getD m 0=(k:Int)) && P m)=true then 1 else 0) fun k _=>by rw [Y9_,d],Yv9,Y9_,Y9_,d,← p];cases hp:P m
  ·simp only [Bool.and_false,Bool.false_eq_true,if_false]
   rw [Zx3];omega
  ·simp only [Bool.and_true,decide_eq_true_iff,if_true]
   by_cases e:c.getD m 0=-1
   ·rw [if_pos e,Zr3 (g:=fun k=>if c.getD m 0=(k:Int) then 1 else 0) (f:=fun _=>0) (K:=K) (fun k _=>if_neg x37_),Zx3]
    omega
   ·rw [if_neg e,Yj0 e o.1,if_pos o.2]
    omega
noncomputable def Zk9 (ms:List Mat) (u:List Int):Nat:=sumTo (fun k=>rkP 4 (ms.getD k default) (memP u)) ms.length
theorem Ve8 (h:Cls ms c) {u:List Int} (o:InN c.length u):u.length≤Zk9 ms u+(Z3_ c (-1)).length:=by
 have j:=M7_ h.rng (memP u) c.length (Nat.le_refl _);rw [Y8_ o,Y8_ (J2_ h.n64 (-1)),← j];have m:=(B9_ c.length).mono (P:=andP (memP (Z3_ c (-1))) (memP u)) (Q:=memP (Z3_ c (-1))) fun i _ d=>by unfold andP at d;rw [Bool.and_eq_true] at d;exact d.1
 have h3:sumTo (fun k=>cnt (andP (memP (Z3_ c (k:Int))) (memP u)) c.length) ms.length≤Zk9 ms u:=Za1 fun k f=>by
  have g:=rk_of (h.may k f).1;rw [(h.may k f).2] at g;have e:=g.part (P:=andP (memP (Z3_ c (k:Int))) (memP u)) (Q:=memP (Z3_ c (k:Int))) (fun i _ d=>by unfold andP at d;rw [Bool.and_eq_true] at d;exact d.1) (h.cnt_class f);rw [← e];exact g.mono fun i _ d=>by unfold andP at d;rw [Bool.and_eq_true] at d;exact d.2
 have p:cnt (andP (memP (Z3_ c (-1))) (memP u)) c.length≤cnt (memP (Z3_ c (-1))) c.length:=m;omega
theorem A8_ (h:Cls ms c):DigP (adjU ms c):=by
 have j:=h.n64;have q:=h.many.2;refine ⟨by rw [F5_];omega,fun x=>?_⟩;have f:∀ y∈(adjU ms c).getD x [],0≤y∧y<((adjU ms c).length:Int):=fun y d=>by
  rw [F5_];rcases (Zo8 d).2 with ⟨z,g,rfl,_⟩ | ⟨k,e,rfl,_⟩<;>omega
 refine ⟨⟨?_,fun y d=>by have:=f y d;rw [F5_] at this;exact ⟨x37_,x37_⟩⟩,f⟩;by_cases m:x<c.length
 ·rw [Ze8 m]
  unfold arcsU;rw [List.pairwise_append];refine ⟨(H1_ j).1.filter _,?_,fun y d z g=>?_⟩
  ·exact z23_
  ·have o:=mem_upTo.1 (List.mem_filter.1 d).1
   obtain ⟨k,e,rfl⟩:=List.mem_map.1 g;have p:=mem_upTo.1 (List.mem_filter.1 e).1;omega
 ·rw [Xh5 x37_]
  exact List.Pairwise.nil
theorem M8_ (h:Cls ms c):InN (adjU ms c).length (Z3_ c (-1)):=by
 have d:=J2_ h.n64 (-1);refine ⟨d.1,fun x e=>?_⟩;have:=d.2 x e;rw [F5_];omega
def StopU (ms:List Mat) (c:List Int):Prop:=∀ y∈Z3_ c (-1),∀ k,¬ Near (adjU ms c) (endsU ms c.length) k y
noncomputable def comeU (ms:List Mat) (c:List Int):List Int:=itL (adjU ms c) (Z3_ c (-1)) (adjU ms c).length
theorem Za2 (h:Cls ms c) (hs:StopU ms c):InN c.length (comeU ms c):=by
 have d:=C4_ (A8_ h) (M8_ h) (adjU ms c).length;refine ⟨d.1,fun x f=>?_⟩;have e:=d.2 x f;refine ⟨e.1,Int.not_le.1 fun k=>?_⟩;rw [F5_] at e;have hd:x∈endsU ms c.length:=mem_ends.2 ⟨(x - c.length).toNat,x37_,x37_⟩;obtain ⟨y,j,g⟩:=(Zf7 (A8_ h) (adjU ms c).length _ (M8_ h)).1 ⟨x,f,hd⟩;exact hs y j _ g
theorem Xm2 (h:Cls ms c) (hs:StopU ms c):(comeU ms c).length=Zk9 ms (comeU ms c)+(Z3_ c (-1)).length:=by
 have D:=Za2 h hs;have w:=M7_ h.rng (memP (comeU ms c)) c.length (Nat.le_refl _);have C:∀ i,i<c.length→andP (memP (Z3_ c (-1))) (memP (comeU ms c)) i=memP (Z3_ c (-1)) i:=fun i _=>by
  unfold andP;cases e:memP (Z3_ c (-1)) i
  ·rfl
  ·rw [Bool.true_and,memP_iff]
   exact Zr1 (A8_ h) (M8_ h) _ _ (memP_iff.1 e)
 have z:∀ x y:Nat,x<c.length→y<c.length→memP (comeU ms c) x=true→memP (comeU ms c) y=false→¬ A6_ ms c (x:Int) (y:Int)=true:=fun x y d g m h3 p=>by
  have q:=R3_ (A8_ h) (M8_ h) (x:=(x:Int)) (y:=(y:Int)) (memP_iff.1 m) (by rw [Int.toNat_natCast];exact (Zo9 d g).2 p);rw [show memP (comeU ms c) y=true from memP_iff.2 q] at h3;cases h3
 have B:∀ x k:Nat,x<c.length→k<ms.length→memP (comeU ms c) x=true→¬ roomB ms c (x:Int) (k:Int)=true:=fun x k d f m p=>by
  have q:=R3_ (A8_ h) (M8_ h) (x:=(x:Int)) (y:=(c.length:Int)+(k:Int)) (memP_iff.1 m) (by rw [Int.toNat_natCast];exact (Ye4 d f).2 p);have G:=(Za2 h hs).2 _ q;omega
 rw [Y8_ D,Y8_ (J2_ h.n64 (-1)),← w,(B9_ c.length).ext C];congr 1;refine Zr3 fun k f=>?_;have o:=rk_of (h.may k f).1;rw [(h.may k f).2] at o;refine (Xy2 o (h.cnt_class f) (Y:=notP (memP (comeU ms c))) (fun i _ A=>by unfold notP;rw [A];rfl) (fun x d s j=>?_) (fun x d s j y g u v=>?_) (fun i _ _ g=>by unfold notP at g;rwa [Bool.not_eq_false'] at g)).symm
 ·have r:c.getD x 0≠(k:Int):=fun e=>by rw [class_at.2 ⟨d,e⟩] at j;cases j
  have m:¬ rkP 4 (ms.getD k default) (insP (memP (Z3_ c (k:Int))) x)=cnt (memP (Z3_ c (k:Int))) c.length+1:=fun e=>B x k d f s ((Zo7 h d f).2 ⟨r,e⟩);have I:=o.up' (memP (Z3_ c (k:Int))) d;have J:=o.one' (memP (Z3_ c (k:Int))) d;have K:=h.cnt_class f;omega
 ·have r:c.getD x 0≠(k:Int):=fun e=>by rw [class_at.2 ⟨d,e⟩] at j;cases j
  have E:=(class_at.1 u).2;have F:memP (comeU ms c) y=false:=by unfold notP at v;rwa [Bool.not_eq_true'] at v
  have m:¬ rkP 4 (ms.getD k default) (insP (remP (memP (Z3_ c (k:Int))) y) x)=cnt (memP (Z3_ c (k:Int))) c.length:=fun e=>z x y d g s F ((Ze7 h d g).2 ⟨k,f,E,r,e⟩);have H:=o.le_cnt (insP (remP (memP (Z3_ c (k:Int))) y) x);have c1:=M3_ g u;have c2:=A2_ d (P:=remP (memP (Z3_ c (k:Int))) y) (by unfold remP;rw [j];rfl);omega
theorem Xm3 (h:Cls ms c) (hs:StopU ms c) {c':List Int} (d:Cls ms c') (hl:c'.length=c.length):(Z3_ c (-1)).length≤(Z3_ c' (-1)).length:=by
 have e:=Xm2 h hs;have f:=Ve8 d (u:=comeU ms c) (by rw [hl];exact Za2 h hs);omega
end
structure Several (ms:List Mat) (n:Nat):Prop where
 many:0<ms.length∧ms.length≤8
 may:∀ k,k<ms.length→chk (ms.getD k default)=0∧nN (ms.getD k default)=n
inductive ChainU (ms:List Mat) (n:Nat):Nat→List Int→Prop
 | zero:ChainU ms n 0 (List.replicate n (-1))
 | succ {k d:Nat} {c l:List Int}:ChainU ms n k c→Greedy (adjU ms c) (endsU ms c.length) (Z3_ c (-1)) d l→ChainU ms n (k+1) (J4_ c l c)
structure MaxU (ms:List Mat) (n:Nat) (c u:List Int):Prop where
 ch:∃ k,ChainU ms n k c
 stop:StopU ms c
 up:u=comeU ms c
section
variable {ms:List Mat} {n:Nat} {c u:List Int}
theorem Several.n64 (h:Several ms n):n≤64:=by
 have c:=h.may 0 h.many.1;have d:=(Z7_ c.1).2;omega
theorem Xm4 {k:Int} (e:k≠-1):Z3_ (List.replicate n (-1)) k=[]:=by
 unfold Z3_;rw [List.filter_eq_nil_iff];intro x c;rw [List.length_replicate] at c;have d:=mem_upTo.1 c;rw [List.getD_eq_getElem?_getD,List.getElem?_replicate,if_pos x37_];simp;omega
theorem Zr4:(Z3_ (List.replicate n (-1)) (-1)).length=n:=by
 unfold Z3_;rw [List.filter_eq_self.2,List.length_replicate,X5_];intro x c;rw [List.length_replicate] at c;have d:=mem_upTo.1 c;rw [List.getD_eq_getElem?_getD,List.getElem?_replicate,if_pos x37_];rfl
theorem Xm5 (h:Several ms n):Cls ms (List.replicate n (-1)):=by
 refine ⟨h.many,fun k c=>by rw [List.length_replicate];exact h.may k c,fun x d=>?_,fun k c=>?_⟩
 ·rw [List.length_replicate] at d
  rw [List.getD_eq_getElem?_getD,List.getElem?_replicate,if_pos d];show -1≤(-1:Int)∧(-1:Int)<_;omega
 ·rw [Xm4 x37_]
  exact Xi3 (h.may k c).1
theorem Yj1 (h:Several ms n) {k:Nat} (hc:ChainU ms n k c):Cls ms c∧c.length=n∧(Z3_ c (-1)).length+k=n:=by
 induction hc with
 | zero=>exact ⟨Xm5 h,List.length_replicate,by rw [Zr4];rfl⟩
 | succ _ hg ih =>
  obtain ⟨p,m,K,e⟩:=Xh6 hg;obtain ⟨d,f⟩:=Xh8 ih.1 e;exact ⟨d,by rw [R0_];exact ih.2.1,by have:=ih.2.2;omega⟩
theorem Zz5 {k:Nat} {c2:List Int} (h:ChainU ms n k c) (d:ChainU ms n k c2):c=c2:=by
 induction h generalizing c2 with
 | zero=>cases d;rfl
 | succ _ hg ih =>
  cases d with
  | succ hc hg2 =>
   have e:=ih hc;subst e;rw [hg.unique hg2]
theorem Vq8 (h:StopU ms c) {d:Nat} {l:List Int} (e:Greedy (adjU ms c) (endsU ms c.length) (Z3_ c (-1)) d l):False:=by
 have hl:=e.length;exact h _ e.first d (by simpa using e.near 0 x37_)
theorem Xx5 {k:Nat} (h:ChainU ms n k c):∀ {m:Nat},m<k→∃ (t l:List Int) (d:Nat),ChainU ms n m t∧Greedy (adjU ms t) (endsU ms t.length) (Z3_ t (-1)) d l:=by
 induction h with
 | zero=>intro m f;omega
 | succ hc hg ih =>
  rename_i k d c l
  intro m f;by_cases e:m=k
  ·subst e;exact ⟨c,l,d,hc,hg⟩
  ·exact ih x37_
theorem Yj2 {k m:Nat} {t:List Int} (h:ChainU ms n k c) (f:ChainU ms n m t) (hs:StopU ms t):k≤m:=by
 rcases Nat.lt_or_ge m k with j | g
 ·obtain ⟨o,l,d,hc,e⟩:=Xx5 h j
  rw [Zz5 hc f] at e;exact (Vq8 hs e).elim
 ·exact g
theorem Yf7 {c2 o:List Int} (d:MaxU ms n c u) (f:MaxU ms n c2 o):c=c2∧u=o:=by
 obtain ⟨k,g⟩:=d.ch;obtain ⟨m,h⟩:=f.ch;have e:k=m:=Nat.le_antisymm (Yj2 g h f.stop) (Yj2 h g d.stop);subst e;have j:=Zz5 g h;refine ⟨j,?_⟩;rw [d.up,f.up,j]
theorem K6_ (h:Several ms n) (d:MaxU ms n c u):Cls ms c∧c.length=n∧InN n u∧u.length=Zk9 ms u+(Z3_ c (-1)).length∧∀ c',Cls ms c'→c'.length=n→(Z3_ c (-1)).length≤(Z3_ c' (-1)).length:=by
 obtain ⟨k,j⟩:=d.ch;obtain ⟨e,f,_⟩:=Yj1 h j;refine ⟨e,f,?_,?_,fun c' g hl=>Xm3 e d.stop g (hl.trans f.symm)⟩
 ·rw [d.up,← f]
  exact Za2 e d.stop
 ·rw [d.up]
  exact Xm2 e d.stop
end
theorem Row.nth {w:World} {B:Nat} {A:Option Addr} {n c:Nat} {l:List Int} (h:Row w B (.slice A n c) l) {k:Nat} (hk:k<l.length):∃ ad,A=some ad∧∀ W,Below B w W→W.cell? (ad.add k)=some (.int .i64 (l.getD k 0)):=z12_
open Go.RowKit
def sameB (a b:List Int):Bool:=decide (a=b)
theorem Vq9 (K L:Value) (a b:List Int) (w:World) (ha:Row w w.heap.size K a) (hb:Row w w.heap.size L b) (X:a.length≤1048576) (_hlb:b.length≤1048576) :
  Calls Tryz.prog 15 #[K,L] w fun e w'=>e=.returned (.bool (sameB a b))∧∃ q,w'=w.drewN q:=by
 obtain ⟨A,S,rfl,_,D⟩:=ha;obtain ⟨R,T,rfl,_,E⟩:=hb;have p:=hid D;have r:=hid E;clear D E;by_cases hl:a.length=b.length
 ·have Q:((a.length:Int) != (b.length:Int))=false:=by rw [hl];simp
  have s:=hid hl;clear hl
  go_enter Tryz.func15,Tryz.ntmps15
  go_wp2
  go_loopw [5] (fun o wr=>∃ k q:Nat,o=.int .i64 k∧wr=w.drewN q∧k≤a.length∧a.take k=b.take k) (fun o _=>a.length - (intOf o).toNat)
  case atStart=>exact ⟨0,0,rfl,rfl,Nat.zero_le _,rfl⟩
  case round =>
   obtain ⟨k,q,rfl,J,W,I⟩:=hrel;have d:=hid J;clear J;have j:=hid I;clear I;by_cases G:k<a.length
   ·have H:k<b.length:=by have:=s.out;omega
    obtain ⟨M,O,_,B⟩:=p.out k G;obtain ⟨N,P,_,C⟩:=r.out k H;subst O P;have U:wr.cell? (M.add k)=some (.int .i64 (a.getD k 0)):=by rw [d.out];exact B
    have V:wr.cell? (N.add k)=some (.int .i64 (b.getD k 0)):=by rw [d.out];exact C
    have Z:(k:Int)<(a.length:Int):=x37_;have i2:(k:Int)<(b.length:Int):=x37_;have m:∀ l:List Int,k<l.length→l.take (k+1)=l.take k ++ [l.getD k 0]:=by
     intro l h;exact q22_
    have u:=hid (m a G);have v:=hid (m b H);clear m B C p r;generalize a.getD k 0=x at *
    generalize b.getD k 0=y at *
    by_cases g:x=y
    ·subst g
     go_wp2
     go_quiet (fail)
     go_wp2
     go_roundw
     case rel=>exact ⟨k+1,q+nq,y38_,by rw [d.out,World.drewN_drewN],x37_,by rw [u.out,v.out,j.out]⟩
     exact mz_
    ·have Y:(x != y)=true:=by simpa using g
     have c:Hid (sameB a b=false):=by
      show sameB a b=false;unfold sameB;rw [decide_eq_false_iff_not];intro h;have z:a.take (k+1)=b.take (k+1):=by rw [h]
      rw [u.out,v.out,j.out] at z;have h3:=List.append_cancel_left z;simp at h3;exact g h3
     clear g;go_wp2
     go_quiet (fail)
     go_wp2;go_ret;refine ⟨?_,q+nq,by rw [d.out,World.drewN_drewN]⟩;rw [c.out];rfl
   ·have F:k=a.length:=by omega
    have c:Hid (sameB a b=true):=by
     show sameB a b=true;unfold sameB;rw [decide_eq_true_iff];have h:=j.out;rw [F,List.take_length] at h;rw [h,s.out,List.take_length]
    subst F;go_wp2;go_ret;refine ⟨?_,q,d.out⟩;rw [c.out];rfl
 ·have Q:((a.length:Int) != (b.length:Int))=true:=by
   rw [bne_iff_ne];omega
  have c:Hid (sameB a b=false):=by
   show sameB a b=false;unfold sameB;rw [decide_eq_false_iff_not];intro h;exact hl (by rw [h])
  clear hl
  go_enter Tryz.func15,Tryz.ntmps15
  go_wp2;go_ret;refine ⟨?_,0,rfl⟩;rw [c.out];rfl
theorem Xm6 (c d:Value) (a b:List Int) (w:World) (ha:Row w w.heap.size c a) (hb:Row w w.heap.size d b) (h:a.length≤1048576) (j:b.length≤1048576) :
  Calls Tryz.prog 15 #[c,d] w (Says w (sameB a b)) :=
 (Vq9 c d a b w ha hb h j).mono fun _ _ ⟨e,q,g⟩=>⟨e,by rw [g];exact Y1_ (Below.refl _ _) q⟩
theorem Vo9 (c d:Value) (a b:List Int) (w:World) (ha:Row w w.heap.size c a) (hb:Row w w.heap.size d b) (e:a.length≤1048576) (g:b.length≤1048576) {x:Bool} (h:sameB a b=x) :
  Calls Tryz.prog 15 #[c,d] w (Says w x):=by
 subst h;exact Xm6 c d a b w ha hb e g
section
variable {a b m:Mat} {s:List Int}
end
open Go Go.RowKit
def stepU (c l:List Int) (j:Nat):List Int:=J4_ c (l.take (j+1)) c
theorem Zf9 (c:List Int):∀ (l out:List Int) (y:Int),l≠[]→J4_ c (l ++ [y]) out=(J4_ c l out).set (l.getD (l.length - 1) 0).toNat (nextU c y)
 | [],_,_,h=>absurd rfl h
 | [x],out,y,_=>by
  show J4_ c [x,y] out=_;rw [J4_];rfl
 | x :: z :: l,out,y,_=>by
  have d:=Zf9 c (z :: l) (out.set x.toNat (nextU c z)) y j37_;show J4_ c (x :: z :: (l ++ [y])) out=_;rw [J4_,J4_];have d:J4_ c (z :: (l ++ [y])) (out.set x.toNat (nextU c z))=_:=d;rw [d];congr 2
theorem Xx6 (c:List Int) (x:Int) (l:List Int):stepU c (x :: l) 0=c:=by
 unfold stepU;rw [show (x :: l).take (0+1)=[x] by simp];rfl
theorem Xx7 (c l:List Int) {j:Nat} (h:j+1<l.length):stepU c l (j+1)=(stepU c l j).set (l.getD j 0).toNat (nextU c (l.getD (j+1) 0)):=by
 unfold stepU;rw [List.take_succ_eq_append_getElem (show j+1<l.length by omega),show l[j+1]=l.getD (j+1) 0 by simp [List.getD,h],Zf9 _ _ _ _ (List.ne_nil_of_length_pos k39_)];congr 2;rw [List.length_take,show min (j+1) l.length - 1=j by omega,List.getD_eq_getElem?_getD,List.getD_eq_getElem?_getD,List.getElem?_take_of_lt x37_]
theorem Xm7 (c l:List Int) (h:0<l.length):stepU c l (l.length - 1)=J4_ c l c:=by
 unfold stepU;rw [show l.length - 1+1=l.length by omega,List.take_length]
theorem Xm8 (c l:List Int) (j:Nat):(stepU c l j).length=c.length:=R0_ _ _ _
theorem Va0 {c l:List Int} {j:Nat} (g:j+1<l.length) (hd:∀ i k,i<k→k<l.length→(l.getD i 0).toNat≠(l.getD k 0).toNat) (hb:∀ i,i+1<l.length→(l.getD i 0).toNat<c.length):(stepU c l j).getD (l.getD (j+1) 0).toNat 0=c.getD (l.getD (j+1) 0).toNat 0:=by
 have e:∀ i,i<j+1→(l.take (j+1)).getD i 0=l.getD i 0:=fun i d=>by
  rw [List.getD_eq_getElem?_getD,List.getD_eq_getElem?_getD,List.getElem?_take_of_lt d]
 have hl:(l.take (j+1)).length=j+1:=k39_;have h:=K2_ c (l.take (j+1)) c (fun i k f m=>by rw [e i x37_,e k x37_];exact hd i k f x37_) (fun i d=>by rw [e i x37_];exact hb i x37_) (l.getD (j+1) 0).toNat;exact h.2 fun i d=>by rw [e i x37_];exact hd i (j+1) x37_ g
def ptB (right:Int) (l:List Int):Bool:=mayB l && (decide (l.length=0) || decide (l.getD (l.length - 1) 0<right))
def digB (adj:List (List Int)):Bool:=decide (adj.length≤4096) && adj.all (ptB adj.length)
theorem digB_off {adj:List (List Int)} (h:4096<(adj.length:Int)):digB adj=false:=k25_
theorem digB_miss {adj:List (List Int)} {i:Nat} (hi:i<adj.length) (h:ptB adj.length (adj.getD i [])=false):digB adj=false:=by
 unfold digB;exact q4_
theorem digB_all {adj:List (List Int)} (h3:¬ 4096<(adj.length:Int)) (h:∀ i,i<adj.length→ptB adj.length (adj.getD i [])=true):digB adj=true:=z33_
theorem Vp0 {n:Nat} {l:List Int} (h:ptB n l=true):PtsP n l:=by
 unfold ptB at h;rw [Bool.and_eq_true,mayB_iff] at h;obtain ⟨⟨h1,c⟩,h3⟩:=h;refine ⟨⟨h1,c⟩,fun x hx=>⟨(c x hx).1,?_⟩⟩;exact z4_
theorem digB_dig {adj:List (List Int)} (h:digB adj=true):DigP adj:=by
 unfold digB at h;rw [Bool.and_eq_true,decide_eq_true_iff,List.all_eq_true] at h;refine ⟨h.1,fun x=>?_⟩;rcases Nat.lt_or_ge x adj.length with c | c
 ·rw [show adj.getD x []=adj[x] by simp [List.getD,c]]
  exact Vp0 (h.2 _ (List.getElem_mem c))
 ·rw [List.getD_eq_getElem?_getD,List.getElem?_eq_none c]
  exact ⟨⟨List.Pairwise.nil,fun y d=>by simp at d⟩,fun y d=>by simp at d⟩
theorem Rows2.read {w:World} {B:Nat} {A:Option Addr} {n c:Nat} {adj:List (List Int)} (h:Rows2 w B (.slice A n c) adj) (x:Nat) (o:x<adj.length):∃ (d:Addr) (e:Value),A=some d∧w.cell? (d.add x)=some e∧Row w B e (adj.getD x []):=by
 obtain ⟨p,c3,f,_,k⟩:=h;injection f with e7 e8 e9;subst e7;obtain ⟨d,e,g,_,j,m⟩:=k x o;exact ⟨d,e,g,j,m⟩
section
variable {adj:List (List Int)} (hd:DigP adj)
include hd
end
end Go.Proofs.YtheeajnkiniopaaGreatDoor.Wp
