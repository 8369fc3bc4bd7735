/- What the laws of what is greedy lean on: a list's numbers one by one, a dual written out, the document's Sub, walked. The document's helper that compares two lists, walked. -/
import Derived.Test.YtheeajnkiniopaaGreatDoorUAdj
import Derived.Test.YtheeajnkiniopaaGreatDoorZA
import Derived.BigQuiet
import Derived.Deep.QuietTactic
import Derived.Test.YtheeajnkiniopaaGreatDoorUWay
import Derived.Test.YtheeajnkiniopaaGreatDoorZN
import Derived.Test.YtheeajnkiniopaaGreatDoorVReach
import Derived.Test.YtheeajnkiniopaaGreatDoorUPure
import Derived.Test.YtheeajnkiniopaaGreatDoorX0A
import Derived.Test.YtheeajnkiniopaaGreatDoorX0B
set_option maxHeartbeats 1000000
set_option maxRecDepth 100000
open Go.Lib (hid)
namespace Go.Proofs.YtheeajnkiniopaaGreatDoor.Wp
open Go.RowKit
theorem Row.nth {w:World} {B:Nat} {A:Option Addr} {n c:Nat} {l:List Int} (h:Row w B (.slice A n c) l) {k:Nat} (j:k<l.length):∃ d,A=some d∧∀ W,Below B w W→W.cell? (d.add k)=some (.int .i64 (l.getD k 0)):=by
 obtain ⟨m,c',g,_,hc⟩:=h;injection g with e1 e2 e3;subst e1 e2 e3;obtain ⟨d,rfl,hab,f⟩:=hc k j;exact ⟨d,rfl,fun W e=>(e.cell x31_).trans f⟩
open Go.RowKit
def sameB (a b:List Int):Bool:=decide (a=b)
theorem Xn7 (J K:Value) (a b:List Int) (w:World) (ha:Row w w.heap.size J a) (hb:Row w w.heap.size K b) (W:a.length≤1048576) (_hlb:b.length≤1048576) :
  Calls Tryz.prog 15 #[J,K] w fun e w'=>e=.returned (.bool (sameB a b))∧∃ q,w'=w.drewN q:=by
 obtain ⟨A,R,rfl,_,C⟩:=ha;obtain ⟨Q,S,rfl,_,D⟩:=hb;have p:=hid C;have r:=hid D;clear C D;by_cases hl:a.length=b.length
 ·have P:((a.length:Int) != (b.length:Int))=false:=by rw [hl];simp
  have s:=hid hl;clear hl
  go_enter Tryz.func15,Tryz.ntmps15
  go_wp2
  go_loopw [5] (fun o wr=>∃ k q:Nat,o=.int .i64 k∧wr=w.drewN q∧k≤a.length∧a.take k=b.take k) (fun o _=>a.length - (intOf o).toNat)
  case atStart=>exact ⟨0,0,rfl,rfl,Nat.zero_le _,rfl⟩
  case round =>
   obtain ⟨k,q,rfl,I,V,H⟩:=hrel;have d:=hid I;clear I;have j:=hid H;clear H;by_cases F:k<a.length
   ·have G:k<b.length:=by have:=s.out;omega
    obtain ⟨L,N,_,z⟩:=p.out k F;obtain ⟨M,O,_,B⟩:=r.out k G;subst N O;have T:wr.cell? (L.add k)=some (.int .i64 (a.getD k 0)):=by rw [d.out];exact z
    have U:wr.cell? (M.add k)=some (.int .i64 (b.getD k 0)):=by rw [d.out];exact B
    have Y:(k:Int)<(a.length:Int):=k29_;have Z:(k:Int)<(b.length:Int):=k29_;have m:∀ l:List Int,k<l.length→l.take (k+1)=l.take k ++ [l.getD k 0]:=by
     intro l h;rw [List.take_succ_eq_append_getElem h];simp [List.getD,h]
    have u:=hid (m a F);have v:=hid (m b G);clear m z B p r;generalize a.getD k 0=x at *
    generalize b.getD k 0=y at *
    by_cases g:x=y
    ·subst g
     go_wp2
     go_quiet (fail)
     go_wp2
     go_roundw
     case rel=>exact ⟨k+1,q+nq,y31_,by rw [d.out,World.drewN_drewN],k29_,by rw [u.out,v.out,j.out]⟩
     exact mz_
    ·have X:(x != y)=true:=by simpa using g
     have c:Hid (sameB a b=false):=by
      show sameB a b=false;unfold sameB;rw [decide_eq_false_iff_not];intro h;have h2:a.take (k+1)=b.take (k+1):=by rw [h]
      rw [u.out,v.out,j.out] at h2;have h3:=List.append_cancel_left h2;simp at h3;exact g h3
     clear g;go_wp2
     go_quiet (fail)
     go_wp2;go_ret;refine ⟨?_,q+nq,by rw [d.out,World.drewN_drewN]⟩;rw [c.out];rfl
   ·have E:k=a.length:=by omega
    have c:Hid (sameB a b=true):=by
     show sameB a b=true;unfold sameB;rw [decide_eq_true_iff];have h:=j.out;rw [E,List.take_length] at h;rw [h,s.out,List.take_length]
    subst E;go_wp2;go_ret;refine ⟨?_,q,d.out⟩;rw [c.out];rfl
 ·have P:((a.length:Int) != (b.length:Int))=true:=by
   rw [bne_iff_ne];omega
  have c:Hid (sameB a b=false):=by
   show sameB a b=false;unfold sameB;rw [decide_eq_false_iff_not];intro h;exact hl (by rw [h])
  clear hl
  go_enter Tryz.func15,Tryz.ntmps15
  go_wp2;go_ret;refine ⟨?_,0,rfl⟩;rw [c.out];rfl
theorem Xa0 (c d:Value) (a b:List Int) (w:World) (ha:Row w w.heap.size c a) (hb:Row w w.heap.size d b) (g:a.length≤1048576) (h:b.length≤1048576) :
  Calls Tryz.prog 15 #[c,d] w (Says w (sameB a b)) :=
 (Xn7 c d a b w ha hb g h).mono fun _ _ ⟨e,q,h2⟩=>⟨e,by rw [h2];exact Y4_ (Below.refl _ _) q⟩
theorem Vq6 (c d:Value) (a b:List Int) (w:World) (ha:Row w w.heap.size c a) (hb:Row w w.heap.size d b) (e:a.length≤1048576) (g:b.length≤1048576) {x:Bool} (h:sameB a b=x) :
  Calls Tryz.prog 15 #[c,d] w (Says w x):=by
 subst h;exact Xa0 c d a b w ha hb e g
open Go
def putsU (f:Int→List Int) (l:List Int) (pp:List (List Int)):List (List Int):=l.foldl (fun q x=>q.set x.toNat (f x)) pp
section
variable {f:Int→List Int} {l:List Int} {pp:List (List Int)}
theorem Zr3 {k:Nat} (h:k<l.length):putsU f (l.take (k+1)) pp=(putsU f (l.take k) pp).set (l.getD k 0).toNat (f (l.getD k 0)):=by
 unfold putsU;rw [List.take_succ_eq_append_getElem h,List.foldl_append,show l.getD k 0=l[k] by simp [List.getD,h]];rfl
theorem H5_:∀ (l:List Int) (pp:List (List Int)),(putsU f l pp).length=pp.length
 | [],_=>rfl
 | x :: l,pp=>by
  show (putsU f l (pp.set x.toNat (f x))).length=_;rw [H5_ l,List.length_set]
theorem M2_ {x:Nat}:∀ {l:List Int} {pp:List (List Int)},(∀ y∈l,y.toNat≠x)→(putsU f l pp).getD x []=pp.getD x []
 | [],_,_=>rfl
 | z :: l,pp,h=>by
  show (putsU f l (pp.set z.toNat (f z))).getD x []=_;rw [M2_ (l:=l) fun y c=>h y (List.mem_cons_of_mem _ c),List.getD_eq_getElem?_getD,List.getElem?_set_ne (h z y30_),← List.getD_eq_getElem?_getD]
theorem Zh2 {x:Nat}:∀ {l:List Int} {pp:List (List Int)},(∀ y∈l,0≤y)→(x:Int)∈l→x<pp.length→(putsU f l pp).getD x []=f (x:Int)
 | [],_,_,h,_=>by cases h
 | z :: l,pp,h0,h,hx=>by
  show (putsU f l (pp.set z.toNat (f z))).getD x []=_;by_cases d:(x:Int)∈l
  ·exact Zh2 (fun y c=>h0 y (List.mem_cons_of_mem _ c)) d (by rw [List.length_set];exact hx)
  ·have e:z=(x:Int):=by
    rcases List.mem_cons.1 h with e | e
    ·exact e.symm
    ·exact absurd e d
   rw [M2_ fun y c g=>d (by have:=h0 y (List.mem_cons_of_mem _ c);rw [← g,Int.toNat_of_nonneg this];exact c),e,Int.toNat_natCast,List.getD_eq_getElem?_getD,List.getElem?_set_self hx];rfl
end
section
variable {ms:List Mat} {c:List Int}
noncomputable def nearU (ms:List Mat) (c:List Int):Nat→List Int
 | 0=>[]
 | r+1=>lev ms c r
theorem Zz2:IsSet []:=⟨List.Pairwise.nil,fun _ h=>by cases h⟩
theorem Xa1 (h:Cls ms c) (r:Nat):IsSet (nearU ms c r):=by
 cases r with
 | zero=>exact Zz2
 | succ r=>exact (D9_ h r).1
theorem T0_ (h:Cls ms c) (r:Nat) (x:Int):x∈Z7_ (lev ms c r) (nearU ms c r)↔Lev ms c r x:=by
 rw [V4_ (D9_ h r).1 (Xa1 h r)];cases r with
 | zero=>exact ⟨fun d=>⟨d.1,fun j f=>absurd f (Nat.not_lt_zero _)⟩,fun d=>⟨d.1,fun e=>by cases e⟩⟩
 | succ r=>exact ⟨fun d=>⟨d.1,fun j f e=>d.2 (P7_ h (Nat.le_of_lt_succ f) e)⟩,fun d=>⟨d.1,d.2 r (Nat.lt_succ_self r)⟩⟩
theorem Vq7 (h:Cls ms c) (r:Nat):IsSet (Z7_ (lev ms c r) (nearU ms c r)):=by
 unfold Z7_ partL;split
 ·exact (D9_ h r).1.filter _
 ·exact Zz2
theorem lev_src {x:Nat}:(x:Int)∈lev ms c 0↔x<c.length∧c.getD x 0=-1:=by
 show (x:Int)∈Z2_ c (-1)↔_;unfold Z2_;rw [List.mem_filter,mem_upTo,Int.toNat_natCast];simp
variable {r:Nat} {pp:List (List Int)}
theorem Yd1 (h:Cls ms c) (d:∀ k,k<r→B1_ ms c k):∀ y∈Z7_ (lev ms c r) (nearU ms c r),0≤y∧y<(c.length:Int):=fun y e=>P9_ h d y ((T0_ h r y).1 e).1
theorem Ym8 (h:Cls ms c) (j:∀ k,k<r→B1_ ms c k) (m:Part ms c r pp):Roomed ms c r pp (putsU (J3_ ms c) (Z7_ (lev ms c r) (nearU ms c r)) pp):=by
 have g:=Yd1 h j;refine ⟨H5_ _ _,fun x d=>.inl (Zh2 (fun y f=>(g y f).1) ((T0_ h r _).2 d) ?_),fun x d=>M2_ fun y f e=>d ?_⟩
 ·have:=g _ ((T0_ h r _).2 d)
  rw [m.len];omega
 ·rw [← e,Int.toNat_of_nonneg (g y f).1]
  exact (T0_ h r y).1 f
theorem Ym9 (h:Cls ms c) (H:∀ k,k<r→B1_ ms c k) (v:Part ms c r pp) {k:Nat} (q:k<(Z7_ (lev ms c r) (nearU ms c r)).length) {x:Nat} (w:(Z7_ (lev ms c r) (nearU ms c r)).getD k 0=(x:Int)) (hc:c.getD x 0=-1) (I:J3_ ms c (x:Int)≠[]) :
  Roomed ms c r pp (putsU (J3_ ms c) ((Z7_ (lev ms c r) (nearU ms c r)).take (k+1)) pp):=by
 have f:=Yd1 h H;have D:=Vq7 h r;have p:=T0_ h r;generalize Z7_ (lev ms c r) (nearU ms c r)=l at *
 have A:(x:Int)∈l:=by rw [← w];exact Q6_ 0 q
 have K:=f _ A;have C:=(p _).1 A;have u:(x:Int)∈lev ms c 0:=lev_src.2 ⟨k29_,hc⟩;have J:r=0:=Classical.byContradiction fun G=>C.2 0 k29_ u;have o:∀ y∈l.take (k+1),y∈l:=fun y g=>List.mem_of_mem_take g;refine ⟨H5_ _ _,fun y g=>?_,fun y g=>M2_ fun z d e=>g ?_⟩
 ·have B:=(p _).2 g
  have L:=f _ B;by_cases s:(y:Int)∈l.take (k+1)
  ·exact .inl (Zh2 (fun z d=>(f z (o z d)).1) s (by rw [v.len];omega))
  ·refine .inr ⟨?_,J,x,?_,⟨u,fun j m=>absurd m (Nat.not_lt_zero _)⟩,I⟩
   ·rw [M2_ fun z d e=>s (by rw [← e,Int.toNat_of_nonneg (f z (o z d)).1];exact d)]
    exact v.off y fun j m=>by omega
   ·obtain ⟨j,m,e⟩:=List.mem_iff_getElem.1 B
    have E:k<j:=Classical.byContradiction fun G=>s (by rw [← e];exact List.mem_take_iff_getElem.2 ⟨j,k29_,rfl⟩);have F:=List.pairwise_iff_getElem.1 D.1 k j q m E;rw [e,show l[k]=(x:Int) by rw [← w];simp [List.getD,q]] at F;omega
 ·rw [← e,Int.toNat_of_nonneg (f z (o z d)).1]
  exact (p z).1 (o z d)
theorem Xa2 (h:Cls ms c) (v:∀ k,k<r→B1_ ms c k) (f:Part ms c r pp) {o:List (List Int)} (m:Roomed ms c r pp o):Part ms c (r+1) (putsU (rowU ms c r) (Z7_ (lev ms c r) (nearU ms c r)) o):=by
 have j:=Yd1 h v;have p:=T0_ h r;generalize Z7_ (lev ms c r) (nearU ms c r)=l at *
 have q:∀ x:Nat,¬ Lev ms c r (x:Int)→(putsU (rowU ms c r) l o).getD x []=pp.getD x []:=fun x d=>by
  rw [M2_ fun z g e=>d (by rw [← e,Int.toNat_of_nonneg (j z g).1];exact (p z).1 g),m.off x d]
 refine ⟨by rw [H5_,m.len,f.len],fun x k u d=>?_,fun x d=>?_⟩
 ·by_cases e:k=r
  ·subst e
   have s:=(p _).2 d;have:=j _ s;exact Zh2 (fun z g=>(j z g).1) s (by rw [m.len,f.len];omega)
  ·rw [q x fun w=>e (Xq0 d w)]
   exact f.on x k k29_ d
 ·rw [q x (d r (Nat.lt_succ_self r))]
  exact f.off x fun k u=>d k k29_
theorem Zr4 (h:Cls ms c) (s:∀ k,k<r→B1_ ms c k) (m:(lev ms c r).length≤(nearU ms c r).length):comeU ms c=nearU ms c r∧StopU ms c:=by
 cases r with
 | zero =>
  have d:lev ms c 0=[]:=List.length_eq_zero_iff.1 (Nat.le_zero.1 m);have o:lev ms c 1=[]:=List.eq_nil_iff_forall_not_mem.2 fun y u=>by
   have p:Lev ms c 1 y:=⟨u,fun j z e=>by
    have:j=0:=k29_;rw [this,d] at e;cases e⟩
   obtain ⟨x,f,_⟩:=Yc4 h p;have:=f.1;rw [d] at this;cases this
  have:=Yc6 h (r:=0) (by rw [d,o]) fun k A x f=>by
   have:k=0:=k29_;rw [this,d] at f;cases f
  rw [d] at this;exact this
 | succ r =>
  have v:=D9_ h r;have w:=D9_ h (r+1);have q:(lev ms c r).length≤(lev ms c (r+1)).length:=by
   rw [X1_ v,X1_ w];exact O4_ fun i _ g=>by
    rw [memP_iff] at g ⊢;exact P7_ h (Nat.le_succ r) g
  exact Yc6 h (Nat.le_antisymm m q) s
theorem Yd2 (h:Cls ms c) (hc:c.length≤64):InN (c.length+ms.length) (endsU ms c.length):=by
 have f:=h.many.2;refine ⟨⟨?_,fun x d=>?_⟩,fun x d=>?_⟩
 ·unfold endsU
  exact ((D4_ (k:=ms.length) k29_).1).map _ fun a b g=>by omega
 ·obtain ⟨k,e,rfl⟩:=mem_ends.1 d
  unfold Fit;omega
 ·obtain ⟨k,e,rfl⟩:=mem_ends.1 d
  omega
theorem Yn0 (h:Cls ms c) (hc:c.length≤64):Z7_ (allL ((c.length+ms.length:Nat):Int)) (allL (c.length:Int))=endsU ms c.length:=by
 have f:=h.many.2;have d:=(Yd2 h hc).1;have hs:IsSet (Z7_ (allL ((c.length+ms.length:Nat):Int)) (allL (c.length:Int))):=by
  unfold Z7_ partL;split
  ·exact (B4_ _).filter _
  ·exact Zz2
 refine hs.ext d fun y=>?_;rw [V4_ (B4_ _) (B4_ _),A3_ k29_ k29_,A3_ k29_ k29_,mem_ends];constructor
 ·rintro ⟨e,h2⟩
  exact ⟨(y - c.length).toNat,k29_,k29_⟩
 ·rintro ⟨k,g,rfl⟩
  omega
theorem Xa3 (h:Cls ms c) (hc:c.length≤64) (x:Int):(Z7_ (allL (c.length:Int)) (lev ms c r)).filter (fun y=>J6_ ms c x y)=rowU ms c r x:=by
 have hs:IsSet (Z7_ (allL (c.length:Int)) (lev ms c r)):=by
  unfold Z7_ partL;split
  ·exact (B4_ _).filter _
  ·exact Zz2
 unfold rowU;refine (hs.filter _).ext ((D4_ hc).filter _) fun y=>?_;rw [List.mem_filter,List.mem_filter,V4_ (B4_ _) (D9_ h r).1,A3_ k29_ k29_,mem_upTo,Bool.and_eq_true,Bool.not_eq_true',← Bool.not_eq_true,memP_iff];constructor
 ·rintro ⟨⟨d,h2⟩,h3⟩
  exact ⟨d,by rw [Int.toNat_of_nonneg d.1];exact h2,h3⟩
 ·rintro ⟨d,h2,h3⟩
  rw [Int.toNat_of_nonneg d.1] at h2;exact ⟨⟨d,h2⟩,h3⟩
theorem Vq8 (h:Cls ms c) (hc:c.length≤64):∀ y∈Z7_ (allL (c.length:Int)) (lev ms c r),(0≤y∧y<(c.length:Int))∧0≤c.getD y.toNat 0∧c.getD y.toNat 0<(ms.length:Int):=by
 intro y d;rw [V4_ (B4_ _) (D9_ h r).1,A3_ k29_ k29_] at d;obtain ⟨g,k⟩:=d;obtain ⟨j,rfl⟩:∃ j:Nat,y=(j:Int):=⟨y.toNat,k29_⟩;have f:=h.rng j k29_;rw [Int.toNat_natCast];refine ⟨g,?_,f.2⟩;have:c.getD j 0≠-1:=fun e=>k (P7_ h (Nat.zero_le r) (lev_src.2 ⟨k29_,e⟩));omega
end
open Go Go.RowKit
section
variable {a b m:Mat} {s:List Int}
end
open Go Go.RowKit
def stepU (c l:List Int) (j:Nat):List Int:=V5_ c (l.take (j+1)) c
theorem Zq1 (c:List Int):∀ (l d:List Int) (y:Int),l≠[]→V5_ c (l ++ [y]) d=(V5_ c l d).set (l.getD (l.length - 1) 0).toNat (nextU c y)
 | [],_,_,h=>absurd rfl h
 | [x],d,y,_=>by
  show V5_ c [x,y] d=_;rw [V5_];rfl
 | x :: z :: l,d,y,_=>by
  have e:=Zq1 c (z :: l) (d.set x.toNat (nextU c z)) y y30_;show V5_ c (x :: z :: (l ++ [y])) d=_;rw [V5_,V5_];have e:V5_ c (z :: (l ++ [y])) (d.set x.toNat (nextU c z))=_:=e;rw [e];congr 2
theorem Yn1 (c:List Int) (x:Int) (l:List Int):stepU c (x :: l) 0=c:=by
 unfold stepU;rw [show (x :: l).take (0+1)=[x] by simp];rfl
theorem Yn2 (c l:List Int) {j:Nat} (h:j+1<l.length):stepU c l (j+1)=(stepU c l j).set (l.getD j 0).toNat (nextU c (l.getD (j+1) 0)):=by
 unfold stepU;rw [List.take_succ_eq_append_getElem (show j+1<l.length by omega),show l[j+1]=l.getD (j+1) 0 by simp [List.getD,h],Zq1 _ _ _ _ (List.ne_nil_of_length_pos y32_)];congr 2;rw [List.length_take,show min (j+1) l.length - 1=j by omega,List.getD_eq_getElem?_getD,List.getD_eq_getElem?_getD,List.getElem?_take_of_lt k29_]
theorem Xa4 (c l:List Int) (h:0<l.length):stepU c l (l.length - 1)=V5_ c l c:=by
 unfold stepU;rw [show l.length - 1+1=l.length by omega,List.take_length]
theorem Xa5 (c l:List Int) (j:Nat):(stepU c l j).length=c.length:=M0_ _ _ _
theorem Xn8 {c l:List Int} {j:Nat} (g:j+1<l.length) (hd:∀ i k,i<k→k<l.length→(l.getD i 0).toNat≠(l.getD k 0).toNat) (hb:∀ i,i+1<l.length→(l.getD i 0).toNat<c.length):(stepU c l j).getD (l.getD (j+1) 0).toNat 0=c.getD (l.getD (j+1) 0).toNat 0:=by
 have e:∀ i,i<j+1→(l.take (j+1)).getD i 0=l.getD i 0:=fun i d=>by
  rw [List.getD_eq_getElem?_getD,List.getD_eq_getElem?_getD,List.getElem?_take_of_lt d]
 have hl:(l.take (j+1)).length=j+1:=y32_;have h:=F3_ c (l.take (j+1)) c (fun i k f m=>by rw [e i k29_,e k k29_];exact hd i k f k29_) (fun i d=>by rw [e i k29_];exact hb i k29_) (l.getD (j+1) 0).toNat;exact h.2 fun i d=>by rw [e i k29_];exact hd i (j+1) k29_ g
end Go.Proofs.YtheeajnkiniopaaGreatDoor.Wp
