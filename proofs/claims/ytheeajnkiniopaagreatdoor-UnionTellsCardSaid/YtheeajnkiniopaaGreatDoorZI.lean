/- Several matroids together, plain: what is come to bounds all classes; what Max of layer 16 tells, and that it is one and the same whoever tells it. Nothing of the program here. -/
import Derived.Test.YtheeajnkiniopaaGreatDoorUPure
import Derived.Test.YtheeajnkiniopaaGreatDoorUAdj
import Derived.Test.YtheeajnkiniopaaGreatDoorZA
import Derived.Test.YtheeajnkiniopaaGreatDoorZO
import Derived.Test.YtheeajnkiniopaaGreatDoorZW
import Derived.Test.YtheeajnkiniopaaGreatDoorIRank
import Derived.Deep.RegionHeld3
import Derived.Test.YtheeajnkiniopaaGreatDoorX0A
import Derived.Test.YtheeajnkiniopaaGreatDoorX0B
set_option maxHeartbeats 8000000
set_option maxRecDepth 100000
open Go.Lib (hid)
open Nat (le_refl)
namespace Go.Proofs.YtheeajnkiniopaaGreatDoor.Wp
open Go Go.RowKit
def sumTo (g:Nat→Nat):Nat→Nat
 | 0=>0
 | k+1=>sumTo g k+g k
theorem Zq3 {g f:Nat→Nat}:∀ {K:Nat},(∀ k,k<K→g k≤f k)→sumTo g K≤sumTo f K
 | 0,_=>le_refl _
 | K+1,h=>by
  have d:=Zq3 (g:=g) (f:=f) (K:=K) fun k c=>h k q40_;have:=h K q40_;show sumTo g K+g K≤sumTo f K+f K;omega
theorem Zr5 {g f:Nat→Nat} {K:Nat} (h:∀ k,k<K→g k=f k):sumTo g K=sumTo f K :=
 Nat.le_antisymm (Zq3 fun k c=>Nat.le_of_eq (h k c)) (Zq3 fun k c=>Nat.le_of_eq (h k c).symm)
theorem Yj0 (g f:Nat→Nat):∀ K,sumTo (fun k=>g k+f k) K=sumTo g K+sumTo f K
 | 0=>rfl
 | K+1=>by
  show sumTo (fun k=>g k+f k) K+(g K+f K)=sumTo g K+g K+(sumTo f K+f K);rw [Yj0 g f K];omega
theorem Yj1 {x:Int} (f:x≠-1) (e:-1≤x):∀ K:Nat,sumTo (fun k=>if x=(k:Int) then 1 else 0) K=if x<(K:Int) then 1 else 0
 | 0=>by show 0=_;rw [if_neg q40_]
 | K+1=>by
  show sumTo (fun k=>if x=(k:Int) then 1 else 0) K+(if x=(K:Int) then 1 else 0)=_;rw [Yj1 f e K];by_cases c:x<(K:Int)
  ·rw [if_pos c,if_neg q40_,if_pos q40_]
  ·by_cases d:x=(K:Int)
   ·rw [if_neg c,if_pos d,if_pos q40_]
   ·rw [if_neg c,if_neg d,if_neg q40_]
theorem Zy5 (K:Nat):sumTo (fun _=>0) K=0:=by
 induction K with
 | zero=>rfl
 | succ K ih=>show sumTo (fun _=>0) K+0=0;rw [ih]
section
variable {ms:List Mat} {c:List Int}
theorem M6_ {K:Nat} (j:∀ x,x<c.length→-1≤c.getD x 0∧c.getD x 0<(K:Int)) (P:Nat→Bool):∀ m,m≤c.length→sumTo (fun k=>cnt (andP (memP (Z3_ c (k:Int))) P) m) K+cnt (andP (memP (Z3_ c (-1))) P) m=cnt P m
 | 0,_=>by
  have:∀ Q:Nat→Bool,cnt Q 0=0:=fun Q=>rfl;simp only [this];rw [Zy5]
 | m+1,hm=>by
  have p:=M6_ j P m q40_;have o:=j m q40_;have d:∀ k:Int,andP (memP (Z3_ c k)) P m=(decide (c.getD m 0=k) && P m):=fun k=>by
   unfold andP;congr 1;rw [Bool.eq_iff_iff,class_at,decide_eq_true_iff];exact ⟨fun h=>h.2,fun h=>⟨q40_,h⟩⟩
  rw [Zr5 (f:=fun k=>cnt (andP (memP (Z3_ c (k:Int))) P) m+if (decide (c.getD m 0=(k:Int)) && P m)=true then 1 else 0) fun k _=>by rw [X4_,d],Yj0,X4_,X4_,d,← p];cases hp:P m
  ·simp only [Bool.and_false,Bool.false_eq_true,if_false]
   rw [Zy5];omega
  ·simp only [Bool.and_true,decide_eq_true_iff,if_true]
   by_cases e:c.getD m 0=-1
   ·rw [if_pos e,Zr5 (g:=fun k=>if c.getD m 0=(k:Int) then 1 else 0) (f:=fun _=>0) (K:=K) (fun k _=>if_neg q40_),Zy5]
    omega
   ·rw [if_neg e,Yj1 e o.1,if_pos o.2]
    omega
noncomputable def Yp1 (ms:List Mat) (u:List Int):Nat:=sumTo (fun k=>rkP 4 (ms.getD k default) (memP u)) ms.length
theorem Jz6 (h:Cls ms c) {u:List Int} (o:InN c.length u):u.length≤Yp1 ms u+(Z3_ c (-1)).length:=by
 have j:=M6_ h.rng (memP u) c.length (le_refl _);rw [X3_ o,X3_ (Q1_ h.n64 (-1)),← j];have m:=(C2_ c.length).mono (P:=andP (memP (Z3_ c (-1))) (memP u)) (Q:=memP (Z3_ c (-1))) fun i _ d=>by unfold andP at d;rw [Bool.and_eq_true] at d;exact d.1
 have h3:sumTo (fun k=>cnt (andP (memP (Z3_ c (k:Int))) (memP u)) c.length) ms.length≤Yp1 ms u:=Zq3 fun k f=>by
  have g:=rk_of (h.may k f).1;rw [(h.may k f).2] at g;have e:=g.part (P:=andP (memP (Z3_ c (k:Int))) (memP u)) (Q:=memP (Z3_ c (k:Int))) (fun i _ d=>by unfold andP at d;rw [Bool.and_eq_true] at d;exact d.1) (h.cnt_class f);rw [← e];exact g.mono fun i _ d=>by unfold andP at d;rw [Bool.and_eq_true] at d;exact d.2
 have p:cnt (andP (memP (Z3_ c (-1))) (memP u)) c.length≤cnt (memP (Z3_ c (-1))) c.length:=m;omega
theorem A2_ (h:Cls ms c):DigP (adjU ms c):=by
 have j:=h.n64;have q:=h.many.2;refine ⟨by rw [D8_];omega,fun x=>?_⟩;have f:∀ y∈(adjU ms c).getD x [],0≤y∧y<((adjU ms c).length:Int):=fun y d=>by
  rw [D8_];rcases (Zp5 d).2 with ⟨z,g,rfl,_⟩ | ⟨k,e,rfl,_⟩<;>omega
 refine ⟨⟨?_,fun y d=>by have:=f y d;rw [D8_] at this;exact ⟨q40_,q40_⟩⟩,f⟩;by_cases m:x<c.length
 ·rw [Ze7 m]
  unfold arcsU;rw [List.pairwise_append];refine ⟨(G9_ j).1.filter _,?_,fun y d z g=>?_⟩
  ·exact j25_
  ·have o:=mem_upTo.1 (List.mem_filter.1 d).1
   obtain ⟨k,e,rfl⟩:=List.mem_map.1 g;have p:=mem_upTo.1 (List.mem_filter.1 e).1;omega
 ·rw [Xh6 q40_]
  exact List.Pairwise.nil
theorem K1_ (h:Cls ms c):InN (adjU ms c).length (Z3_ c (-1)):=by
 have d:=Q1_ h.n64 (-1);refine ⟨d.1,fun x e=>?_⟩;have:=d.2 x e;rw [D8_];omega
def StopU (ms:List Mat) (c:List Int):Prop:=∀ y∈Z3_ c (-1),∀ k,¬ Near (adjU ms c) (endsU ms c.length) k y
noncomputable def comeU (ms:List Mat) (c:List Int):List Int:=itL (adjU ms c) (Z3_ c (-1)) (adjU ms c).length
theorem Zq4 (h:Cls ms c) (hs:StopU ms c):InN c.length (comeU ms c):=by
 have d:=J9_ (A2_ h) (K1_ h) (adjU ms c).length;refine ⟨d.1,fun x f=>?_⟩;have e:=d.2 x f;refine ⟨e.1,Int.not_le.1 fun k=>?_⟩;rw [D8_] at e;have hd:x∈endsU ms c.length:=mem_ends.2 ⟨(x - c.length).toNat,q40_,q40_⟩;obtain ⟨y,j,g⟩:=(I7_ (A2_ h) (adjU ms c).length _ (K1_ h)).1 ⟨x,f,hd⟩;exact hs y j _ g
theorem Xk7 (h:Cls ms c) (hs:StopU ms c):(comeU ms c).length=Yp1 ms (comeU ms c)+(Z3_ c (-1)).length:=by
 have D:=Zq4 h hs;have w:=M6_ h.rng (memP (comeU ms c)) c.length (le_refl _);have C:∀ i,i<c.length→andP (memP (Z3_ c (-1))) (memP (comeU ms c)) i=memP (Z3_ c (-1)) i:=fun i _=>by
  unfold andP;cases e:memP (Z3_ c (-1)) i
  ·rfl
  ·rw [Bool.true_and,memP_iff]
   exact Zp2 (A2_ h) (K1_ h) _ _ (memP_iff.1 e)
 have z:∀ x y:Nat,x<c.length→y<c.length→memP (comeU ms c) x=true→memP (comeU ms c) y=false→¬ J2_ ms c (x:Int) (y:Int)=true:=fun x y d g m h3 p=>by
  have q:=P4_ (A2_ h) (K1_ h) (x:=(x:Int)) (y:=(y:Int)) (memP_iff.1 m) (by rw [Int.toNat_natCast];exact (Zp6 d g).2 p);rw [show memP (comeU ms c) y=true from memP_iff.2 q] at h3;cases h3
 have B:∀ x k:Nat,x<c.length→k<ms.length→memP (comeU ms c) x=true→¬ roomB ms c (x:Int) (k:Int)=true:=fun x k d f m p=>by
  have q:=P4_ (A2_ h) (K1_ h) (x:=(x:Int)) (y:=(c.length:Int)+(k:Int)) (memP_iff.1 m) (by rw [Int.toNat_natCast];exact (Yf4 d f).2 p);have G:=(Zq4 h hs).2 _ q;omega
 rw [X3_ D,X3_ (Q1_ h.n64 (-1)),← w,(C2_ c.length).ext C];congr 1;refine Zr5 fun k f=>?_;have o:=rk_of (h.may k f).1;rw [(h.may k f).2] at o;refine (Xz8 o (h.cnt_class f) (Y:=notP (memP (comeU ms c))) (fun i _ A=>by unfold notP;rw [A];rfl) (fun x d s j=>?_) (fun x d s j y g u v=>?_) (fun i _ _ g=>by unfold notP at g;rwa [Bool.not_eq_false'] at g)).symm
 ·have r:c.getD x 0≠(k:Int):=fun e=>by rw [class_at.2 ⟨d,e⟩] at j;cases j
  have m:¬ rkP 4 (ms.getD k default) (insP (memP (Z3_ c (k:Int))) x)=cnt (memP (Z3_ c (k:Int))) c.length+1:=fun e=>B x k d f s ((Zp4 h d f).2 ⟨r,e⟩);have I:=o.up' (memP (Z3_ c (k:Int))) d;have J:=o.one' (memP (Z3_ c (k:Int))) d;have K:=h.cnt_class f;omega
 ·have r:c.getD x 0≠(k:Int):=fun e=>by rw [class_at.2 ⟨d,e⟩] at j;cases j
  have E:=(class_at.1 u).2;have F:memP (comeU ms c) y=false:=by unfold notP at v;rwa [Bool.not_eq_true'] at v
  have m:¬ rkP 4 (ms.getD k default) (insP (remP (memP (Z3_ c (k:Int))) y) x)=cnt (memP (Z3_ c (k:Int))) c.length:=fun e=>z x y d g s F ((Ze6 h d g).2 ⟨k,f,E,r,e⟩);have H:=o.le_cnt (insP (remP (memP (Z3_ c (k:Int))) y) x);have c1:=M0_ g u;have c2:=A5_ d (P:=remP (memP (Z3_ c (k:Int))) y) (by unfold remP;rw [j];rfl);omega
theorem Xk8 (h:Cls ms c) (hs:StopU ms c) {c':List Int} (d:Cls ms c') (hl:c'.length=c.length):(Z3_ c (-1)).length≤(Z3_ c' (-1)).length:=by
 have e:=Xk7 h hs;have f:=Jz6 d (u:=comeU ms c) (by rw [hl];exact Zq4 h hs);omega
end
structure Several (ms:List Mat) (n:Nat):Prop where
 many:0<ms.length∧ms.length≤8
 may:∀ k,k<ms.length→chk (ms.getD k default)=0∧nN (ms.getD k default)=n
inductive ChainU (ms:List Mat) (n:Nat):Nat→List Int→Prop
 | zero:ChainU ms n 0 (List.replicate n (-1))
 | succ {k d:Nat} {c l:List Int}:ChainU ms n k c→Greedy (adjU ms c) (endsU ms c.length) (Z3_ c (-1)) d l→ChainU ms n (k+1) (V9_ c l c)
structure MaxU (ms:List Mat) (n:Nat) (c u:List Int):Prop where
 ch:∃ k,ChainU ms n k c
 stop:StopU ms c
 up:u=comeU ms c
section
variable {ms:List Mat} {n:Nat} {c u:List Int}
theorem Several.n64 (h:Several ms n):n≤64:=by
 have c:=h.may 0 h.many.1;have d:=(Y0_ c.1).2;omega
theorem Xk9 {k:Int} (e:k≠-1):Z3_ (List.replicate n (-1)) k=[]:=by
 unfold Z3_;rw [List.filter_eq_nil_iff];intro x c;rw [List.length_replicate] at c;have d:=mem_upTo.1 c;rw [List.getD_eq_getElem?_getD,List.getElem?_replicate,if_pos q40_];simp;omega
theorem Zr6:(Z3_ (List.replicate n (-1)) (-1)).length=n:=by
 unfold Z3_;rw [List.filter_eq_self.2,List.length_replicate,Y9_];intro x c;rw [List.length_replicate] at c;have d:=mem_upTo.1 c;rw [List.getD_eq_getElem?_getD,List.getElem?_replicate,if_pos q40_];rfl
theorem Xl0 (h:Several ms n):Cls ms (List.replicate n (-1)):=by
 refine ⟨h.many,fun k c=>by rw [List.length_replicate];exact h.may k c,fun x d=>?_,fun k c=>?_⟩
 ·rw [List.length_replicate] at d
  rw [List.getD_eq_getElem?_getD,List.getElem?_replicate,if_pos d];show -1≤(-1:Int)∧(-1:Int)<_;omega
 ·rw [Xk9 q40_]
  exact Vl5 (h.may k c).1
theorem Zf7 (h:Several ms n) {k:Nat} (hc:ChainU ms n k c):Cls ms c∧c.length=n∧(Z3_ c (-1)).length+k=n:=by
 induction hc with
 | zero=>exact ⟨Xl0 h,List.length_replicate,by rw [Zr6];rfl⟩
 | succ _ hg ih =>
  obtain ⟨p,m,K,e⟩:=Yo0 hg;obtain ⟨d,f⟩:=Xh8 ih.1 e;exact ⟨d,by rw [I8_];exact ih.2.1,by have:=ih.2.2;omega⟩
theorem W7_ {k:Nat} {c2:List Int} (h:ChainU ms n k c) (d:ChainU ms n k c2):c=c2:=by
 induction h generalizing c2 with
 | zero=>cases d;rfl
 | succ _ hg ih =>
  cases d with
  | succ hc hg2 =>
   have e:=ih hc;subst e;rw [hg.unique hg2]
theorem Vj1 (h:StopU ms c) {d:Nat} {l:List Int} (e:Greedy (adjU ms c) (endsU ms c.length) (Z3_ c (-1)) d l):False:=by
 have hl:=e.length;exact h _ e.first d (by simpa using e.near 0 q40_)
theorem Xy5 {k:Nat} (h:ChainU ms n k c):∀ {m:Nat},m<k→∃ (t l:List Int) (d:Nat),ChainU ms n m t∧Greedy (adjU ms t) (endsU ms t.length) (Z3_ t (-1)) d l:=by
 induction h with
 | zero=>intro m f;omega
 | succ hc hg ih =>
  rename_i k d c l
  intro m f;by_cases e:m=k
  ·subst e;exact ⟨c,l,d,hc,hg⟩
  ·exact ih q40_
theorem Yj2 {k m:Nat} {t:List Int} (h:ChainU ms n k c) (f:ChainU ms n m t) (hs:StopU ms t):k≤m:=by
 rcases Nat.lt_or_ge m k with j | g
 ·obtain ⟨o,l,d,hc,e⟩:=Xy5 h j
  rw [W7_ hc f] at e;exact (Vj1 hs e).elim
 ·exact g
theorem Zf8 {c2 o:List Int} (d:MaxU ms n c u) (f:MaxU ms n c2 o):c=c2∧u=o:=by
 obtain ⟨k,g⟩:=d.ch;obtain ⟨m,h⟩:=f.ch;have e:k=m:=Nat.le_antisymm (Yj2 g h f.stop) (Yj2 h g d.stop);subst e;have j:=W7_ g h;refine ⟨j,?_⟩;rw [d.up,f.up,j]
theorem Xl1 (h:Several ms n) (d:MaxU ms n c u):Cls ms c∧c.length=n∧InN n u∧u.length=Yp1 ms u+(Z3_ c (-1)).length∧∀ c',Cls ms c'→c'.length=n→(Z3_ c (-1)).length≤(Z3_ c' (-1)).length:=by
 obtain ⟨k,j⟩:=d.ch;obtain ⟨e,f,_⟩:=Zf7 h j;refine ⟨e,f,?_,?_,fun c' g hl=>Xk8 e d.stop g (hl.trans f.symm)⟩
 ·rw [d.up,← f]
  exact Zq4 e d.stop
 ·rw [d.up]
  exact Xk7 e d.stop
end
open Go Go.RowKit
def baseL (I:List Int→Bool):List Int→List Int→List Int
 | out,[]=>out
 | out,x :: r=>baseL I (if I (Y1_ out [x])=true then out ++ [x] else out) r
def cntC (cl s:List Int) (c:Int):Nat:=(s.filter fun x=>cl.getD x.toNat 0==c).length
def F3_ (l:List (List Int)):List Int→List Int→Bool
 | [],_=>true
 | x :: s,used=>(Z8_ (l.getD x.toNat []) used).any fun r=>F3_ l s (Y1_ used [r])
theorem Xl2 {cl s:List Int} {c:Int} {k:Nat} (d:k<s.length):cntC cl (s.take (k+1)) c=cntC cl (s.take k) c+if cl.getD (s.getD k 0).toNat 0=c then 1 else 0:=by
 unfold cntC;rw [List.take_succ_eq_append_getElem d,List.filter_append,List.length_append,show s[k]=s.getD k 0 by simp [List.getD,d]];congr 1;rw [List.filter_cons];by_cases h:cl.getD (s.getD k 0).toNat 0=c
 ·rw [if_pos h,if_pos (by rw [h];exact beq_self_eq_true c)];rfl
 ·rw [if_neg h,if_neg y44_];rfl
theorem Vn3 (cl s:List Int) (c:Int):cntC cl s c≤s.length:=List.length_filter_le _ _
theorem Row.nthV {w:World} {B:Nat} {A:Option Addr} {n c:Nat} {l:List Int} (h:Row w B (.slice A n c) l) {k:Nat} (hk:k<l.length):∃ ad,A=some ad∧∀ W,Below B w W→W.cell? (ad.add k)=some (.int .i64 (l.getD k 0)):=k13_
theorem Xl3 (vc vs:Value) (cl s:List Int) (c:Int) (w:World) (hc:Row w w.heap.size vc cl) (hs:Row w w.heap.size vs s) (v:∀ k,k<s.length→0≤s.getD k 0∧s.getD k 0<(cl.length:Int)) (T:s.length≤64) :
  Calls Tryz.prog 139 #[vc,vs,.int .i64 c] w (Tells w (cntC cl s c:Nat)):=by
 have x:=hid hc;have z:=hid hs;have C:=hid v;have S:(s.length:Int)≤64:=q40_;obtain ⟨H,L,rfl,_⟩:=hc;obtain ⟨I,cs,rfl,_⟩:=hs;clear v
 go_enter Tryz.func139,Tryz.ntmps139
 go_wp2
 go_loopw [7,8] (fun vn o wr=>∃ k:Nat,o=.int .i64 (k:Int)∧k≤s.length∧vn=.int .i64 (cntC cl (s.take k) c:Nat)∧Below w.heap.size w wr) (fun _ o _=>s.length - (intOf o).toNat)
 case atStart=>exact ⟨0,rfl,Nat.zero_le _,by rw [List.take_zero];rfl,Below.refl _ _⟩
 case round =>
  obtain ⟨k,rfl,Q,rfl,q⟩:=hrel;have e:=hid q;clear q;by_cases j:k<s.length
  ·have R:(k:Int)<(s.length:Int):=by omega
   obtain ⟨K,D,u⟩:=Row.nthV z.out j;subst D;have gs:=u _ e.out;have m:=C.out k j;have d:=hid (Xl2 (cl:=cl) (c:=c) j);have G:=Vn3 cl (s.take k) c;rw [List.length_take] at G;obtain ⟨X,p⟩:∃ X:Nat,s.getD k 0=(X:Int):=⟨(s.getD k 0).toNat,q40_⟩;rw [p] at gs m d;rw [show ((X:Int)).toNat=X from rfl] at d;obtain ⟨J,E,r⟩:=Row.nthV x.out (k:=X) q40_;subst E;have M:=r _ e.out;generalize cl.getD X 0=y at *
   generalize cntC cl (s.take k) c=N at *
   have O:(N:Int)≤64:=q40_;have P:(X:Int)<(cl.length:Int):=m.2;clear u r p m;by_cases g:y=c
   ·have h:Hid (cntC cl (s.take (k+1)) c=N+1):=hid (by rw [d.out,if_pos g])
    clear d;subst g;go_wp2
    go_roundw
    case rel=>exact ⟨k+1,x41_,q40_,by rw [h.out];go_num,e.out⟩
    exact mz_
   ·have h:Hid (cntC cl (s.take (k+1)) c=N):=hid (by rw [d.out,if_neg g,Nat.add_zero])
    have U:(y==c)=false:=by simpa using g
    clear d;go_wp2
    go_roundw
    case rel=>exact ⟨k+1,x41_,q40_,by rw [h.out],e.out⟩
    exact mz_
  ·have F:k=s.length:=by omega
   subst F;have B:Hid (s.take s.length=s):=hid List.take_length;rw [B.out];go_wp2;go_ret;exact ⟨rfl,e.out⟩
theorem Row.oneV {w:World} {B:Nat} {A:Option Addr} {n c:Nat} {l:List Int} (h:Row w B (.slice A n c) l) {i:Nat} (j:i<l.length):∃ d,A=some d∧n=l.length∧i<c∧Row w B (.slice (some (d.add i)) 1 (c - i)) [l.getD i 0]:=by
 obtain ⟨p,c',g,⟨q,r,h3⟩,m⟩:=h;injection g with e1 e2 e3;subst e1 e2 e3;obtain ⟨d,rfl,f,hc⟩:=m i j;refine ⟨d,rfl,rfl,q40_,_,_,rfl,⟨by simp;omega,q40_,fun e=>by cases e⟩,fun k o=>?_⟩;have:k=0:=by simpa using o
 subst this;exact ⟨_,rfl,by rw [Z2_];exact f,by rw [add_zero];exact hc⟩
theorem Yg3 (e:Value) (s:List Int) (f n:Int) (w:World) (h:Row w w.heap.size e s) (hs:∀ k,k<s.length→0≤s.getD k 0∧s.getD k 0≤64) (o:0≤f∧f≤1000) (q:0≤n∧n≤1000) (u:s.length≤64) :
  Calls Tryz.prog 113 #[e,.int .i64 f,.int .i64 n] w (Gives w (betL s f n)):=by
 obtain ⟨m,cs,rfl,_,d⟩:=h;have Hsk:=hid d;have Hs:=hid hs;have r:(s.length:Int)≤64:=q40_;have v:IntKind.i64.wrap (f+n)=f+n:=k40_;have hown0:(w.alloc (.cells #[] 3)).ownsRow w.heap.size 3 1 (.slice (some ⟨w.heap.size,0,none⟩) 0 0) ([]:List Int).length (ints []) :=
  World.ownsRow_made w #[] 0 (le_refl _) y41_ rfl
 have g:Below w.heap.size w (w.alloc (.cells #[] 3)):=(Below.refl _ w).alloc (le_refl _) _;clear d hs
 go_enter Tryz.func113,Tryz.ntmps113
 go_wp2
 go_loopw [7,8] (fun j c wr=>∃ k:Nat,c=.int .i64 k∧k≤s.length∧wr.ownsRow w.heap.size 3 1 j (betL (s.take k) f n).length (ints (betL (s.take k) f n))∧Below w.heap.size w wr) (fun _ c _=>s.length - (intOf c).toNat)
 case atStart=>exact ⟨0,rfl,Nat.zero_le _,hown0,g⟩
 case round =>
  exact x1_
open Go Go.RowKit
theorem Vj2 {n:Nat} (e:n≤64) {x:Int} (d:0≤x∧x<(n:Int)):InN n [x]:=⟨⟨z40_,fun z c=>by rw [List.mem_singleton.1 c];exact ⟨q40_,q40_⟩⟩,fun z c=>by rw [List.mem_singleton.1 c];exact d⟩
theorem Vn4 {n:Nat} (c:n≤64) {out:List Int} {x:Int} (ho:InN n out) (d:0≤x∧x<(n:Int)) (hlt:∀ y∈out,y<x):InN n (out ++ [x])∧InN n (Y1_ out [x]):=by
 have h1:=Vj2 c d;refine ⟨⟨⟨?_,fun y hy=>?_⟩,fun y hy=>?_⟩,⟨D9_ _ _,fun y hy=>?_⟩⟩
 ·exact j22_
 ·exact k26_
 ·rcases List.mem_append.1 hy with hy | hy
  ·exact ho.2 y hy
  ·exact h1.2 y hy
 ·rcases (A6_ ho.1 h1.1 y).1 hy with hy | hy
  ·exact ho.2 y hy
  ·exact h1.2 y hy
theorem Xl4 {s:List Int} {k:Nat} (c:k<s.length):s.drop k=s.getD k 0 :: s.drop (k+1):=by
 rw [List.drop_eq_getElem_cons c];simp [List.getD,c]
theorem Zq5 (n:Nat) (hn:n≤64) (I:List Int→Bool) (m c1 c2 c3 c4 c5 sv:Value) (s:List Int) (w:World) (hs:InN n s) (y2:s.length≤64) (T:Row w w.heap.size sv s)
  (Y:∀ (t:List Int) (vt:Value) (W:World),Below w.heap.size w W→InN n t→Row W W.heap.size vt t→Calls Tryz.prog 79 #[.agg #[m,c1,c2,c3,c4,c5],vt] W (Says W (I t))) :
  Calls Tryz.prog 49 #[.agg #[m,c1,c2,c3,c4,c5],sv] w (Gives w (baseL I [] s)):=by
 have HS:=hid hs;have xg:=hid Y;have y1:(s.length:Int)≤64:=q40_;obtain ⟨d,hW0⟩:∃ d,d=w.alloc (.cells #[m,c1,c2,c3,c4,c5] 37):=⟨_,rfl⟩;have xm:=hid hW0;have K:Hid (Below w.heap.size w d):=hid q42_;have v:w.heap.size<d.heap.size:=x42_;have HC:Hid (∀ (W:World),Below d.heap.size d W→W.cell? ⟨w.heap.size,0,none⟩=some m∧W.cell? ⟨w.heap.size,1,none⟩=some c1∧W.cell? ⟨w.heap.size,2,none⟩=some c2∧W.cell? ⟨w.heap.size,3,none⟩=some c3∧W.cell? ⟨w.heap.size,4,none⟩=some c4∧W.cell? ⟨w.heap.size,5,none⟩=some c5):=hid fun W o=>by
  have u:=Blk.new w 37 #[m,c1,c2,c3,c4,c5];rw [← hW0] at u;exact ⟨(o.cell (p:=⟨w.heap.size,0,none⟩) v).trans (u.cell 0),(o.cell (p:=⟨w.heap.size,1,none⟩) v).trans (u.cell 1),(o.cell (p:=⟨w.heap.size,2,none⟩) v).trans (u.cell 2),(o.cell (p:=⟨w.heap.size,3,none⟩) v).trans (u.cell 3),(o.cell (p:=⟨w.heap.size,4,none⟩) v).trans (u.cell 4),(o.cell (p:=⟨w.heap.size,5,none⟩) v).trans (u.cell 5)⟩
 have Z:=hid (T.up K.out);obtain ⟨As,cs,rfl,_⟩:=id T;have xb:d.heap.size=w.heap.size+1:=x42_;have x7:(d.alloc (.cells #[] 3)).ownsRow d.heap.size 3 1 (.slice (some ⟨w.heap.size+1,0,none⟩) 0 0) ([]:List Int).length (ints []):=by
  rw [← xb];exact World.ownsRow_made d #[] 0 (le_refl _) y41_ rfl
 have x0:Below d.heap.size d (d.alloc (.cells #[] 3)):=(Below.refl _ d).alloc (le_refl _) _;have xk:=hid x7;have xc:=hid x0;clear Y hs T x7 x0
 go_enter Tryz.func49,Tryz.ntmps49
 go_wp2;rw [← xm.out];clear hW0
 go_loopw [5,6] (fun vo V wr=>∃ (k:Nat) (out:List Int),V=.int .i64 (k:Int)∧k≤s.length∧Hid (baseL I out (s.drop k)=baseL I [] s∧InN n out∧(∀ y∈out,∀ z∈s.drop k,y<z)∧out.length≤k∧wr.ownsRow d.heap.size 3 1 vo out.length (ints out)∧Below d.heap.size d wr)) (fun _ V _=>s.length - (intOf V).toNat)
 case atStart=>exact ⟨0,[],rfl,Nat.zero_le _,by rw [List.drop_zero],⟨J0_,fun x B=>absurd B z40_⟩,fun y j=>absurd j z40_,Nat.zero_le _,xk.out,xc.out⟩
 case round =>
  obtain ⟨k,out,rfl,hk,g⟩:=hrel;by_cases H:k<s.length
  ·have xz:(k:Int)<(s.length:Int):=by omega
   have y3:IntKind.i64.wrap ((k:Int)+1)=(k:Int)+1:=k40_;have Q:=(Below.refl wr.heap.size wr).drew;have F:=g.out.2.2.2.2.2;obtain ⟨ad,hA,_,xw,x6⟩:=Row.oneV (Z.out.up F) H;subst hA;obtain ⟨xv,P,R⟩:=Row.nthV Z.out H;injection P with P;subst P;have S:=x6.up Q;have xx:(k:Int)+1≤(cs:Int):=q40_;have K5:Hid (∀ W,Below wr.drew.heap.size wr.drew W→W.cell? ⟨w.heap.size,0,none⟩=some m∧W.cell? ⟨w.heap.size,1,none⟩=some c1∧W.cell? ⟨w.heap.size,2,none⟩=some c2∧W.cell? ⟨w.heap.size,3,none⟩=some c3∧W.cell? ⟨w.heap.size,4,none⟩=some c4∧W.cell? ⟨w.heap.size,5,none⟩=some c5):=hid fun W o=>HC.out W (Z0_ F.drew (le_refl _) o);have r:Hid (Below wr.drew.heap.size wr.drew wr.drew):=hid (Below.refl _ _);obtain ⟨x,B⟩:∃ x,s.getD k 0=x:=⟨_,rfl⟩;rw [B] at S R;have xf:=hid R;have G:=Xl4 H;rw [B] at G;have C:=hid G;have xn:Hid (0≤x∧x<(n:Int)):=hid (HS.out.2 x (by rw [← B];simp [List.getD,H]));have xq:Hid (∀ (A:Option Addr) (n c:Nat),A=some (ad.add k)→n=1→c=cs - k→Row wr.drew wr.drew.heap.size (.slice A n c) [x]):=hid fun A n c N O h3=>by subst N O h3;exact S
   have X:=hid (Vn4 hn g.out.2.1 xn.out fun y j=>g.out.2.2.1 y j x (by rw [G];simp));have xl:=hid ((Row.of_own g.out.2.2.2.2.1 rfl).up Q);have xj:Hid (out.length≤1048576):=hid (by have:=g.out.2.2.2.1;omega);obtain ⟨z,U⟩:∃ z,I (Y1_ out [x])=z:=⟨_,rfl⟩;have HZ:=hid U;have xe:=hid (Z0_ K.out (le_refl _) (F.drew.mono (le_refl _)));have xh:Hid (∀ (vt:Value) (W:World),Below wr.drew.heap.size wr.drew W→Row W W.heap.size vt (Y1_ out [x])→Calls Tryz.prog 79 #[.agg #[m,c1,c2,c3,c4,c5],vt] W (Says W z)):=hid fun vt W N O=>by rw [← U];exact xg.out _ vt W (Z0_ xe.out (le_refl _) N) X.out.2 O
   have x5:k+1≤s.length:=q40_;have xy:(k:Int)≤(k:Int)+1:=q40_;clear x6 S G F B U R Q;go_wp2
   go_region_held3 (fun W=>W.cell? ⟨w.heap.size,0,none⟩=some m∧W.cell? ⟨w.heap.size,1,none⟩=some c1∧W.cell? ⟨w.heap.size,2,none⟩=some c2∧W.cell? ⟨w.heap.size,3,none⟩=some c3∧W.cell? ⟨w.heap.size,4,none⟩=some c4∧W.cell? ⟨w.heap.size,5,none⟩=some c5)
    (exact K5.out _ r.out)
    (first
    | (go_at_call 47;refine (B3_ _ _ out [x] _ xl.out (xq.out _ _ _ (by simp;intro h;omega) (by first | rfl | (simp;try omega)) (by first | rfl | (simp;try omega))) xj.out z40_).mono ?_;rintro e y4 ⟨xu,rfl,xa,x1⟩;replace r:=hid (Z0_ r.out (le_refl _) x1);have HU:=hid xa;clear xa x1)
    | (go_at_call_of 79 xu;refine (xh.out _ _ r.out HU.out).mono ?_;rintro e y5 ⟨rfl,x2⟩;replace r:=hid (Z0_ r.out (le_refl _) x2);clear x2))
   all_goals
    go_simp;have L:=hid (Z0_ ((Below.refl wr.heap.size wr).drew) (le_refl _) r.out);have D:=hid (Z0_ g.out.2.2.2.2.2 (le_refl _) L.out);cases z
    ·have M:Hid (baseL I out (s.drop (k+1))=baseL I [] s):=hid (by rw [← g.out.1,C.out,baseL,if_neg (by rw [HZ.out];decide)])
     have E:=hid (World.ownsRow.kept g.out.2.2.2.2.1 (Z7_ L.out none) y45_);go_wp2
     go_roundw
     case rel=>exact ⟨k+1,out,x41_,x5,M.out,g.out.2.1,fun y j q J=>g.out.2.2.1 y j q (by rw [C.out];simp [J]),by have:=g.out.2.2.2.1;omega,E.out,D.out⟩
     exact mz_
    ·have M:Hid (baseL I (out ++ [x]) (s.drop (k+1))=baseL I [] s):=hid (by rw [← g.out.1,C.out,baseL,if_pos HZ.out])
     have E:=hid (World.ownsRow.kept g.out.2.2.2.2.1 (Z7_ L.out none) y45_);have gx:=xf.out _ D.out;have xt:=D.out.size;have y0:=g.out.2.2.2.1;have xr:Hid (∀ y∈out ++ [x],∀ q∈s.drop (k+1),y<q):=hid fun y j q J=>by
      rcases List.mem_append.1 j with j | j
      ·exact g.out.2.2.1 y j q (by rw [C.out];simp [J])
      ·rw [List.mem_singleton.1 j]
       have hp:(x :: s.drop (k+1)).Pairwise (·<·):=by rw [← C.out];exact HS.out.1.1.sublist (List.drop_sublist _ _)
       exact (List.pairwise_cons.1 hp).1 q J
     go_wp2_with (at_builtin;refine Z4_ rfl _ _ rfl d.heap.size _ _ _ out [x] rfl rfl (World.ownsRow.alloc E.out _) (Row.lit1 _ x) q40_ z40_ j40_ ?_)
     intro v8 w8 x8 x4;have x9:w8.ownsRow d.heap.size 3 1 v8 (out ++ [x]).length (ints (out ++ [x])):=by rw [List.length_append,xb];exact x8
     have x3:Below d.heap.size d w8:=(D.out.alloc xt _).grown x4 j40_ (fun i hi=>(World.ownsRow.lt E.out i hi).1);have xi:=hid x9;have xd:=hid x3;clear x8 x9 x4 x3;go_wp2
     go_roundw
     case rel=>exact ⟨k+1,out ++ [x],x41_,x5,M.out,X.out.1,xr.out,by rw [List.length_append];simp;omega,xi.out,xd.out⟩
     exact mz_
  ·have xs:k=s.length:=by omega
   subst xs;have xo:Hid (out=baseL I [] s):=hid (by rw [← g.out.1,List.drop_length,baseL]);have xp:=hid (Z0_ K.out (le_refl _) g.out.2.2.2.2.2);go_wp2;go_ret;exact ⟨_,rfl,by rw [← xo.out];exact Row.of_own g.out.2.2.2.2.1 rfl,xp.out⟩
end Go.Proofs.YtheeajnkiniopaaGreatDoor.Wp
