/- SplitShifts, walked: it answers true (written by gen_yshift.py). -/
import Derived.Test.YtgpljiijjnaofaaGreatDoorYFx15
import Derived.Test.YtgpljiijjnaofaaGreatDoorYMay15
import Derived.Test.YtgpljiijjnaofaaGreatDoorZS
import Derived.Deep.RegionLaw
import Derived.Deep.RegionHeld3
import Derived.Deep.AppendLies
import Derived.Test.YtgpljiijjnaofaaGreatDoorX0A
import Derived.Test.YtgpljiijjnaofaaGreatDoorX0C
set_option maxHeartbeats 16000000
set_option maxRecDepth 100000
open Go.Lib (hid)
open Nat (le_refl)
namespace Go.Proofs.YtgpljiijjnaofaaGreatDoor
open Go Go.RowKit
namespace Wp
def addL (ws:List Int) (c:Int):List Int:=ws.map fun x=>x+c
theorem Ye1 (ws:List Int) (c:Int):(addL ws c).length=ws.length:=List.length_map ..
theorem Xc4 {ws:List Int} {c:Int} {k:Nat} (h:k<ws.length):addL (ws.take (k+1)) c=addL (ws.take k) c ++ [ws.getD k 0+c]:=by
 unfold addL;rw [List.take_succ_eq_append_getElem h,List.map_append];exact z22_
theorem Zq6 {ws:List Int} {c:Int}:∀ {t:List Int},(∀ x∈t,0≤x∧x<(ws.length:Int))→sumW (addL ws c) t=sumW ws t+(t.length:Int) * c
 | [],_=>by simp [sumW]
 | x :: t,h=>by
  have d:=Zq6 (ws:=ws) (c:=c) (t:=t) fun y e=>h y (List.mem_cons_of_mem _ e);have f:=h x (List.mem_cons_self ..);unfold sumW at d ⊢;rw [List.map_cons,List.sum_cons,d,List.map_cons,List.sum_cons,List.length_cons,Int.natCast_succ,Int.add_mul,Int.one_mul];have:wt (addL ws c) x=wt ws x+c:=by
   unfold wt addL;rw [List.getD_eq_getElem?_getD,List.getD_eq_getElem?_getD,List.getElem?_map,List.getElem?_eq_getElem (show x.toNat<ws.length by omega)];rfl
  omega
theorem Yn8 {a b:Mat} {ws:List Int} {c:Int} (h:may15 a b ws=true) (f:∀ j,j<ws.length→-1073741824≤ws.getD j 0∧ws.getD j 0≤1073741824) (m:-1000000≤c) (o:c≤1000000):may15 a b (addL ws c)=true:=by
 have e:(addL ws c).any outS=false:=List.any_eq_false.2 fun x g=>by
  obtain ⟨y,k,rfl⟩:=List.mem_map.1 g;obtain ⟨j,d,rfl⟩:=List.mem_iff_getElem.1 k;have:=f j d;rw [show ws.getD j 0=ws[j] by simp [List.getD,d]] at this;unfold outS;rw [decide_eq_false k30_,decide_eq_false k30_];decide
 unfold may15 at h ⊢;simp only [Bool.and_eq_true] at h ⊢;exact ⟨h.1,by rw [Ye1];exact h.2.1,by rw [e];rfl,h.2.2.2⟩
theorem Yn9 {a b:Mat} {ws:List Int} (h:may15 a b ws=true):may15 b a ws=true:=by
 unfold may15 at h ⊢;simp only [Bool.and_eq_true,decide_eq_true_iff] at h ⊢;obtain ⟨c,f,h3,d,e⟩:=h;exact ⟨c.symm,k30_,h3,e,d⟩
section
variable {a b:Mat} {ws vs:List Int} {L M:List Trip}
theorem Told.len_le (h:Told a b ws L) (c:Told a b vs M):L.length≤M.length:=by
 have d:=h.pos;have h3:=c.top _ (h.com (k:=L.length - 1) k30_);rw [h.len (L.length - 1) k30_] at h3;omega
theorem Told.swap (h:Told b a vs M):(∀ t,Common a b t→t.length<M.length)∧∀ k,k<M.length→Common a b (setK M k):=⟨fun t c=>h.top t ⟨c.n.symm,c.ib,c.ia⟩,fun k d=>by have:=h.com d;exact ⟨this.n.symm,this.ib,this.ia⟩⟩
theorem Told.len_swap (h:Told a b ws L) (c:Told b a vs M):L.length=M.length:=by
 have f:=h.pos;have h3:=c.pos;have d:=c.swap.1 _ (h.com (k:=L.length - 1) k30_);have e:=h.top _ (c.swap.2 (M.length - 1) k30_);rw [h.len (L.length - 1) k30_] at d;rw [c.len (M.length - 1) k30_] at e;omega
theorem Told.turned (h:Told a b ws L) (d:Told b a ws M) {k:Nat} (e:k<L.length):sumW ws (setK M k)=sumW ws (setK L k):=by
 have f:k<M.length:=by rw [← h.len_swap d];exact e
 have h3:=h.best (d.swap.2 k f);have c:=h.com e;have g:=d.best (t:=setK L k) ⟨c.n.symm,c.ib,c.ia⟩;rw [d.len k f] at h3;rw [h.len k e] at g;omega
theorem Told.shifted {q:Int} (h:Told a b ws L) (hl:ws.length=nN a) (d:Told a b (addL ws q) M) {k:Nat} (e:k<L.length):sumW (addL ws q) (setK M k)=sumW ws (setK L k)+(k:Int) * q:=by
 have g:k<M.length:=Nat.lt_of_lt_of_le e (h.len_le d);have h3:=h.best (d.com g);have f:=d.best (h.com e);have j:=Zq6 (ws:=ws) (c:=q) (t:=setK M k) (by rw [hl];exact (d.com g).set.2);have m:=Zq6 (ws:=ws) (c:=q) (t:=setK L k) (by rw [hl];exact (h.com e).set.2);rw [d.len k g] at h3 j;rw [h.len k e] at f m;rw [j] at f ⊢;rw [m] at f;omega
end
theorem mulw {N i:Nat} {q:Int} (f:N≤65) (hi:i<N) (c:-1000000≤q) (d:q≤1000000):-65000000≤(i:Int) * q∧(i:Int) * q≤65000000:=by
 have e:(i:Int) * q≤(i:Int) * 1000000:=Int.mul_le_mul_of_nonneg_left d k30_;have h3:(i:Int) * (-1000000)≤(i:Int) * q:=Int.mul_le_mul_of_nonneg_left c k30_;omega
theorem Xc5 (w:World) (t:TypeId) (u:Value):∀ (j:Nat) (v:Value),[u][j]?=some v→(w.alloc (.cells #[u] t)).drew.cell? ((⟨w.heap.size,0,none⟩:Addr).add j)=some v:=fun j v h=>M4_ w t u j v h
theorem yh_1 (E:Nat→Addr) (a:Mat) (R:Value) (b:Mat) (S:Value) (q:Int) (Q:Value) (s:List Int) (w:World) (J:MatV w w.heap.size R a) (O:Lim a) (K:MatV w w.heap.size S b) (P:Lim b) (I:Row w w.heap.size Q s) (M:Env E w) (N:fewB 9 a 7=false):Calls Tryz.prog 4 #[R,S,.agg #[Q,.int .i64 q]] w (Truly w):=by
 have T:=hid N;clear N;have U:=hid O;have x3:=hid P;obtain ⟨l1,i1,x1,Y,W⟩:=J.open;obtain ⟨l2,i2,x2,Z,X⟩:=K.open;obtain ⟨x,D,rfl,_⟩:=Y;obtain ⟨v,C,rfl,_⟩:=W;obtain ⟨B,H,rfl,_⟩:=Z;obtain ⟨z,G,rfl,_⟩:=X;obtain ⟨y,F,x0,V,_⟩:=id I;subst x1 x2 x0;obtain ⟨u,hW2⟩:∃ u,u=((w.alloc (.cells #[.int .i64 a.t,.int .i64 a.n,.int .i64 a.a,.int .i64 a.b,.slice x a.l.length D,.slice v a.i.length C] 25)).alloc (.cells #[.int .i64 b.t,.int .i64 b.n,.int .i64 b.a,.int .i64 b.b,.slice B b.l.length H,.slice z b.i.length G] 25)).alloc (.cells #[.slice y s.length F,.int .i64 q] 40):=⟨_,rfl⟩;have L:=hid hW2;have c:Below w.heap.size w u:=by rw [hW2];exact (((Below.refl _ w).alloc (le_refl _) _).alloc y31_ _).alloc j31_ _
 have d:Hid (Blk u w.heap.size 25 #[.int .i64 a.t,.int .i64 a.n,.int .i64 a.a,.int .i64 a.b,.slice x a.l.length D,.slice v a.i.length C]):=hid k34_;have g:Hid (Blk u (w.heap.size+1) 25 #[.int .i64 b.t,.int .i64 b.n,.int .i64 b.a,.int .i64 b.b,.slice B b.l.length H,.slice z b.i.length G]):=hid (by
  rw [hW2];have:=(Blk.new (w.alloc (.cells #[.int .i64 a.t,.int .i64 a.n,.int .i64 a.a,.int .i64 a.b,.slice x a.l.length D,.slice v a.i.length C] 25)) 25 #[.int .i64 b.t,.int .i64 b.n,.int .i64 b.a,.int .i64 b.b,.slice B b.l.length H,.slice z b.i.length G]).alloc (.cells #[.slice y s.length F,.int .i64 q] 40);simpa using this)
 have h:Hid (Blk u (w.heap.size+2) 40 #[.slice y s.length F,.int .i64 q]):=hid (by
  rw [hW2];have:=Blk.new ((w.alloc (.cells #[.int .i64 a.t,.int .i64 a.n,.int .i64 a.a,.int .i64 a.b,.slice x a.l.length D,.slice v a.i.length C] 25)).alloc (.cells #[.int .i64 b.t,.int .i64 b.n,.int .i64 b.a,.int .i64 b.b,.slice B b.l.length H,.slice z b.i.length G] 25)) 40 #[.slice y s.length F,.int .i64 q];simpa using this)
 have Hb0:=hid c;have o:=hid (J.up c);have p:=hid (K.up c);have r:=hid (I.up c);have m:=hid (M.up c);clear J K O P M I V hW2 c
 go_enter Tryz.func4,Tryz.ntmps4
 go_wp2_with fail
 rw [← L.out];refine (V6_ E _ m.out).mono ?_;rintro e w1 ⟨rfl,j⟩;clear L;replace m:=hid (m.out.up j);replace o:=hid (o.out.up j);replace p:=hid (p.out.up j);replace r:=hid (r.out.up j);replace d:=hid (d.out.below j d.out.lt);replace g:=hid (g.out.below j g.out.lt);replace h:=hid (h.out.below j h.out.lt);replace Hb0:=hid (Z0_ Hb0.out (le_refl _) j);clear j;have k0:=d.out.cell 0;have k1:=d.out.cell 1;have k2:=d.out.cell 2;have k3:=d.out.cell 3;have k4:=d.out.cell 4;have k5:=d.out.cell 5
 go_wp2_with fail
 refine (E9_ a _ 7 _ o.out U.out).mono ?_;rintro e w2 ⟨rfl,c⟩;rw [T.out];clear k0 k1 k2 k3 k4 k5;replace m:=hid (m.out.up c);replace o:=hid (o.out.up c);replace p:=hid (p.out.up c);replace r:=hid (r.out.up c);replace d:=hid (d.out.below c d.out.lt);replace g:=hid (g.out.below c g.out.lt);replace h:=hid (h.out.below c h.out.lt);replace Hb0:=hid (Z0_ Hb0.out (le_refl _) c);clear c
 go_wp2_with fail
 refine (V6_ E _ m.out).mono ?_;rintro e w3 ⟨rfl,k⟩;replace m:=hid (m.out.up k);replace o:=hid (o.out.up k);replace p:=hid (p.out.up k);replace r:=hid (r.out.up k);replace d:=hid (d.out.below k d.out.lt);replace g:=hid (g.out.below k g.out.lt);replace h:=hid (h.out.below k h.out.lt);replace Hb0:=hid (Z0_ Hb0.out (le_refl _) k);clear k;exact q2_
theorem yh_2 (E:Nat→Addr) (a:Mat) (T:Value) (b:Mat) (U:Value) (q:Int) (S:Value) (s:List Int) (w:World) (K:MatV w w.heap.size T a) (Q:Lim a) (L:MatV w w.heap.size U b) (R:Lim b) (J:Row w w.heap.size S s) (N:Env E w) (O:fewB 9 a 7=true) (P:fewB 9 b 7=false):Calls Tryz.prog 4 #[T,U,.agg #[S,.int .i64 q]] w (Truly w):=by
 have V:=hid O;have W:=hid P;clear O P;have X:=hid Q;have Y:=hid R;obtain ⟨l1,i1,x5,x2,x0⟩:=K.open;obtain ⟨l2,i2,x6,x3,x1⟩:=L.open;obtain ⟨y,F,rfl,_⟩:=x2;obtain ⟨x,D,rfl,_⟩:=x0;obtain ⟨C,I,rfl,_⟩:=x3;obtain ⟨B,H,rfl,_⟩:=x1;obtain ⟨z,G,x4,Z,_⟩:=id J;subst x5 x6 x4;obtain ⟨v,hW2⟩:∃ v,v=((w.alloc (.cells #[.int .i64 a.t,.int .i64 a.n,.int .i64 a.a,.int .i64 a.b,.slice y a.l.length F,.slice x a.i.length D] 25)).alloc (.cells #[.int .i64 b.t,.int .i64 b.n,.int .i64 b.a,.int .i64 b.b,.slice C b.l.length I,.slice B b.i.length H] 25)).alloc (.cells #[.slice z s.length G,.int .i64 q] 40):=⟨_,rfl⟩;have M:=hid hW2;have g:Below w.heap.size w v:=by rw [hW2];exact (((Below.refl _ w).alloc (le_refl _) _).alloc y31_ _).alloc j31_ _
 have c:Hid (Blk v w.heap.size 25 #[.int .i64 a.t,.int .i64 a.n,.int .i64 a.a,.int .i64 a.b,.slice y a.l.length F,.slice x a.i.length D]):=hid k34_;have d:Hid (Blk v (w.heap.size+1) 25 #[.int .i64 b.t,.int .i64 b.n,.int .i64 b.a,.int .i64 b.b,.slice C b.l.length I,.slice B b.i.length H]):=hid (by
  rw [hW2];have:=(Blk.new (w.alloc (.cells #[.int .i64 a.t,.int .i64 a.n,.int .i64 a.a,.int .i64 a.b,.slice y a.l.length F,.slice x a.i.length D] 25)) 25 #[.int .i64 b.t,.int .i64 b.n,.int .i64 b.a,.int .i64 b.b,.slice C b.l.length I,.slice B b.i.length H]).alloc (.cells #[.slice z s.length G,.int .i64 q] 40);simpa using this)
 have h:Hid (Blk v (w.heap.size+2) 40 #[.slice z s.length G,.int .i64 q]):=hid (by
  rw [hW2];have:=Blk.new ((w.alloc (.cells #[.int .i64 a.t,.int .i64 a.n,.int .i64 a.a,.int .i64 a.b,.slice y a.l.length F,.slice x a.i.length D] 25)).alloc (.cells #[.int .i64 b.t,.int .i64 b.n,.int .i64 b.a,.int .i64 b.b,.slice C b.l.length I,.slice B b.i.length H] 25)) 40 #[.slice z s.length G,.int .i64 q];simpa using this)
 have Hb0:=hid g;have k:=hid (K.up g);have m:=hid (L.up g);have u:=hid (J.up g);have j:=hid (N.up g);clear K L Q R N J Z hW2 g
 go_enter Tryz.func4,Tryz.ntmps4
 go_wp2_with fail
 rw [← M.out];refine (V6_ E _ j.out).mono ?_;rintro e w1 ⟨rfl,o⟩;clear M;replace j:=hid (j.out.up o);replace k:=hid (k.out.up o);replace m:=hid (m.out.up o);replace u:=hid (u.out.up o);replace c:=hid (c.out.below o c.out.lt);replace d:=hid (d.out.below o d.out.lt);replace h:=hid (h.out.below o h.out.lt);replace Hb0:=hid (Z0_ Hb0.out (le_refl _) o);clear o;have k0:=c.out.cell 0;have k1:=c.out.cell 1;have k2:=c.out.cell 2;have k3:=c.out.cell 3;have k4:=c.out.cell 4;have k5:=c.out.cell 5
 go_wp2_with fail
 refine (E9_ a _ 7 _ k.out X.out).mono ?_;rintro e w2 ⟨rfl,g⟩;rw [V.out];clear k0 k1 k2 k3 k4 k5;replace j:=hid (j.out.up g);replace k:=hid (k.out.up g);replace m:=hid (m.out.up g);replace u:=hid (u.out.up g);replace c:=hid (c.out.below g c.out.lt);replace d:=hid (d.out.below g d.out.lt);replace h:=hid (h.out.below g h.out.lt);replace Hb0:=hid (Z0_ Hb0.out (le_refl _) g);clear g;have n0:=d.out.cell 0;have n1:=d.out.cell 1;have n2:=d.out.cell 2;have n3:=d.out.cell 3;have n4:=d.out.cell 4;have n5:=d.out.cell 5
 go_wp2_with fail
 refine (E9_ b _ 7 _ m.out Y.out).mono ?_;rintro e w3 ⟨rfl,p⟩;rw [W.out];clear n0 n1 n2 n3 n4 n5;replace j:=hid (j.out.up p);replace k:=hid (k.out.up p);replace m:=hid (m.out.up p);replace u:=hid (u.out.up p);replace c:=hid (c.out.below p c.out.lt);replace d:=hid (d.out.below p d.out.lt);replace h:=hid (h.out.below p h.out.lt);replace Hb0:=hid (Z0_ Hb0.out (le_refl _) p);clear p
 go_wp2_with fail
 refine (V6_ E _ j.out).mono ?_;rintro e w4 ⟨rfl,r⟩;replace j:=hid (j.out.up r);replace k:=hid (k.out.up r);replace m:=hid (m.out.up r);replace u:=hid (u.out.up r);replace c:=hid (c.out.below r c.out.lt);replace d:=hid (d.out.below r d.out.lt);replace h:=hid (h.out.below r h.out.lt);replace Hb0:=hid (Z0_ Hb0.out (le_refl _) r);clear r;exact q2_
theorem yh_3 (E:Nat→Addr) (a:Mat) (va:Value) (b:Mat) (vb:Value) (q:Int) (sw:Value) (s:List Int) (w:World) (L:MatV w w.heap.size va a) (x6:Lim a) (M:MatV w w.heap.size vb b) (x7:Lim b) (K:Row w w.heap.size sw s) (hE:Env E w) (x4:fewB 9 a 7=true) (x5:fewB 9 b 7=true) (hm:may15 a b s=false):Calls Tryz.prog 4 #[va,vb,.agg #[sw,.int .i64 q]] w (Truly w):=by
 have x2:=hid x4;have x3:=hid x5;have Hm:=hid hm;clear x4 x5 hm;have x8:=hid x6;have x9:=hid x7;obtain ⟨l1,i1,xg,xd,xb⟩:=L.open;obtain ⟨l2,i2,xh,xe,xc⟩:=M.open;obtain ⟨z,G,rfl,_⟩:=xd;obtain ⟨y,F,rfl,_⟩:=xb;obtain ⟨D,J,rfl,_⟩:=xe;obtain ⟨C,I,rfl,_⟩:=xc;obtain ⟨B,H,xf,xa,_⟩:=id K;subst xg xh xf;obtain ⟨x,hW2⟩:∃ x,x=((w.alloc (.cells #[.int .i64 a.t,.int .i64 a.n,.int .i64 a.a,.int .i64 a.b,.slice z a.l.length G,.slice y a.i.length F] 25)).alloc (.cells #[.int .i64 b.t,.int .i64 b.n,.int .i64 b.a,.int .i64 b.b,.slice D b.l.length J,.slice C b.i.length I] 25)).alloc (.cells #[.slice B s.length H,.int .i64 q] 40):=⟨_,rfl⟩;have Z:=hid hW2;have h:Below w.heap.size w x:=by rw [hW2];exact (((Below.refl _ w).alloc (le_refl _) _).alloc y31_ _).alloc j31_ _
 have c:Hid (Blk x w.heap.size 25 #[.int .i64 a.t,.int .i64 a.n,.int .i64 a.a,.int .i64 a.b,.slice z a.l.length G,.slice y a.i.length F]):=hid k34_;have d:Hid (Blk x (w.heap.size+1) 25 #[.int .i64 b.t,.int .i64 b.n,.int .i64 b.a,.int .i64 b.b,.slice D b.l.length J,.slice C b.i.length I]):=hid (by
  rw [hW2];have:=(Blk.new (w.alloc (.cells #[.int .i64 a.t,.int .i64 a.n,.int .i64 a.a,.int .i64 a.b,.slice z a.l.length G,.slice y a.i.length F] 25)) 25 #[.int .i64 b.t,.int .i64 b.n,.int .i64 b.a,.int .i64 b.b,.slice D b.l.length J,.slice C b.i.length I]).alloc (.cells #[.slice B s.length H,.int .i64 q] 40);simpa using this)
 have g:Hid (Blk x (w.heap.size+2) 40 #[.slice B s.length H,.int .i64 q]):=hid (by
  rw [hW2];have:=Blk.new ((w.alloc (.cells #[.int .i64 a.t,.int .i64 a.n,.int .i64 a.a,.int .i64 a.b,.slice z a.l.length G,.slice y a.i.length F] 25)).alloc (.cells #[.int .i64 b.t,.int .i64 b.n,.int .i64 b.a,.int .i64 b.b,.slice D b.l.length J,.slice C b.i.length I] 25)) 40 #[.slice B s.length H,.int .i64 q];simpa using this)
 have Hb0:=hid h;have k:=hid (L.up h);have m:=hid (M.up h);have o:=hid (K.up h);have j:=hid (hE.up h);clear L M x6 x7 hE K xa hW2 h
 go_enter Tryz.func4,Tryz.ntmps4
 go_wp2_with fail
 rw [← Z.out];refine (V6_ E _ j.out).mono ?_;rintro e w1 ⟨rfl,p⟩;clear Z;replace j:=hid (j.out.up p);replace k:=hid (k.out.up p);replace m:=hid (m.out.up p);replace o:=hid (o.out.up p);replace c:=hid (c.out.below p c.out.lt);replace d:=hid (d.out.below p d.out.lt);replace g:=hid (g.out.below p g.out.lt);replace Hb0:=hid (Z0_ Hb0.out (le_refl _) p);clear p;have N:=c.out.cell 0;have O:=c.out.cell 1;have P:=c.out.cell 2;have Q:=c.out.cell 3;have R:=c.out.cell 4;have S:=c.out.cell 5
 go_wp2_with fail
 refine (E9_ a _ 7 _ k.out x8.out).mono ?_;rintro e w2 ⟨rfl,h⟩;rw [x2.out];clear N O P Q R S;replace j:=hid (j.out.up h);replace k:=hid (k.out.up h);replace m:=hid (m.out.up h);replace o:=hid (o.out.up h);replace c:=hid (c.out.below h c.out.lt);replace d:=hid (d.out.below h d.out.lt);replace g:=hid (g.out.below h g.out.lt);replace Hb0:=hid (Z0_ Hb0.out (le_refl _) h);clear h;have T:=d.out.cell 0;have U:=d.out.cell 1;have V:=d.out.cell 2;have W:=d.out.cell 3;have X:=d.out.cell 4;have Y:=d.out.cell 5
 go_wp2_with fail
 refine (E9_ b _ 7 _ m.out x9.out).mono ?_;rintro e w3 ⟨rfl,r⟩;rw [x3.out];clear T U V W X Y;replace j:=hid (j.out.up r);replace k:=hid (k.out.up r);replace m:=hid (m.out.up r);replace o:=hid (o.out.up r);replace c:=hid (c.out.below r c.out.lt);replace d:=hid (d.out.below r d.out.lt);replace g:=hid (g.out.below r g.out.lt);replace Hb0:=hid (Z0_ Hb0.out (le_refl _) r);clear r;have N:=c.out.cell 0;have O:=c.out.cell 1;have P:=c.out.cell 2;have Q:=c.out.cell 3;have R:=c.out.cell 4;have S:=c.out.cell 5;have T:=d.out.cell 0;have U:=d.out.cell 1;have V:=d.out.cell 2;have W:=d.out.cell 3;have X:=d.out.cell 4;have Y:=d.out.cell 5;have x0:=g.out.cell 0;have x1:=g.out.cell 1
 go_wp2_with fail
 refine (M6_ a b _ _ _ s _ k.out m.out (G7_ x2.out) (G7_ x3.out) o.out).mono ?_;rintro e w4 ⟨rfl,u⟩;rw [Hm.out];clear N O P Q R S T U V W X Y x0 x1;replace j:=hid (j.out.up u);replace k:=hid (k.out.up u);replace m:=hid (m.out.up u);replace o:=hid (o.out.up u);replace c:=hid (c.out.below u c.out.lt);replace d:=hid (d.out.below u d.out.lt);replace g:=hid (g.out.below u g.out.lt);replace Hb0:=hid (Z0_ Hb0.out (le_refl _) u);clear u
 go_wp2_with fail
 refine (V6_ E _ j.out).mono ?_;rintro e w5 ⟨rfl,v⟩;replace j:=hid (j.out.up v);replace k:=hid (k.out.up v);replace m:=hid (m.out.up v);replace o:=hid (o.out.up v);replace c:=hid (c.out.below v c.out.lt);replace d:=hid (d.out.below v d.out.lt);replace g:=hid (g.out.below v g.out.lt);replace Hb0:=hid (Z0_ Hb0.out (le_refl _) v);clear v;exact q2_
theorem yh_4 (E:Nat→Addr) (a:Mat) (d:Value) (b:Mat) (g:Value) (q:Int) (c:Value) (s:List Int) (w:World) (hva:MatV w w.heap.size d a) (hla:Lim a) (hvb:MatV w w.heap.size g b) (hlb:Lim b) (hrw:Row w w.heap.size c s) (hE:Env E w) (hfa:fewB 9 a 7=true) (hfb:fewB 9 b 7=true) (hm:may15 a b s=true) (h:q < -1000000):Calls Tryz.prog 4 #[d,g,.agg #[c,.int .i64 q]] w (Truly w):=x0_
theorem yh_5 (E:Nat→Addr) (a:Mat) (d:Value) (b:Mat) (g:Value) (q:Int) (c:Value) (s:List Int) (w:World) (hva:MatV w w.heap.size d a) (hla:Lim a) (hvb:MatV w w.heap.size g b) (hlb:Lim b) (hrw:Row w w.heap.size c s) (hE:Env E w) (hfa:fewB 9 a 7=true) (hfb:fewB 9 b 7=true) (hm:may15 a b s=true) (h:-1000000≤q) (j:1000000<q):Calls Tryz.prog 4 #[d,g,.agg #[c,.int .i64 q]] w (Truly w):=x0_
theorem Va8 (E:Nat→Addr) (a:Mat) (va:Value) (b:Mat) (vb:Value) (q:Int) (sw:Value) (s:List Int) (w:World) (xw:MatV w w.heap.size va a) (yk:Lim a) (xx:MatV w w.heap.size vb b) (yl:Lim b) (xt:Row w w.heap.size sw s) (hE:Env E w) (xr:fewB 9 a 7=true) (xs:fewB 9 b 7=true) (hm:may15 a b s=true) (h0:-1000000≤q) (h1:q≤1000000):Calls Tryz.prog 4 #[va,vb,.agg #[sw,.int .i64 q]] w (Truly w):=by
 have xi:=hid (G7_ xr);have xj:=hid (G7_ xs);have ya:=hid (snil hm).2.1;have zh:=(snil hm).1.n64;have u2:s.length≤64:=by rw [ya.out];exact zh
 have y8:=hid xr;have y9:=hid xs;have Hm:=hid hm;clear xr xs hm;have yc:=hid (fun k h=>Xc4 (ws:=s) (c:=q) (k:=k) h);obtain ⟨i0,hi,yo,yp,yr⟩:=info_parts info3;have zy:decide (q < -1000000)=false:=decide_eq_false k30_;have zz:decide (1000000<q)=false:=decide_eq_false k30_;have z0:=hid yk;have z1:=hid yl;obtain ⟨l1,i1,zl,zf,zb⟩:=xw.open;obtain ⟨l2,i2,zm,xe,zc⟩:=xx.open;obtain ⟨Al,cl,rfl,_⟩:=zf;obtain ⟨Ai,ci,rfl,_⟩:=zb;obtain ⟨Bl,dl,rfl,_⟩:=xe;obtain ⟨Bi,di,rfl,_⟩:=zc;obtain ⟨U,Z,zj,za,_⟩:=id xt;subst zl zm zj;obtain ⟨W2,hW2⟩:∃ W2,W2=((w.alloc (.cells #[.int .i64 a.t,.int .i64 a.n,.int .i64 a.a,.int .i64 a.b,.slice Al a.l.length cl,.slice Ai a.i.length ci] 25)).alloc (.cells #[.int .i64 b.t,.int .i64 b.n,.int .i64 b.a,.int .i64 b.b,.slice Bl b.l.length dl,.slice Bi b.i.length di] 25)).alloc (.cells #[.slice U s.length Z,.int .i64 q] 40):=⟨_,rfl⟩;have y6:=hid hW2;have G:Below w.heap.size w W2:=by rw [hW2];exact (((Below.refl _ w).alloc (le_refl _) _).alloc y31_ _).alloc j31_ _
 have m:Hid (Blk W2 w.heap.size 25 #[.int .i64 a.t,.int .i64 a.n,.int .i64 a.a,.int .i64 a.b,.slice Al a.l.length cl,.slice Ai a.i.length ci]):=hid k34_;have o:Hid (Blk W2 (w.heap.size+1) 25 #[.int .i64 b.t,.int .i64 b.n,.int .i64 b.a,.int .i64 b.b,.slice Bl b.l.length dl,.slice Bi b.i.length di]):=hid (by
  rw [hW2];have:=(Blk.new (w.alloc (.cells #[.int .i64 a.t,.int .i64 a.n,.int .i64 a.a,.int .i64 a.b,.slice Al a.l.length cl,.slice Ai a.i.length ci] 25)) 25 #[.int .i64 b.t,.int .i64 b.n,.int .i64 b.a,.int .i64 b.b,.slice Bl b.l.length dl,.slice Bi b.i.length di]).alloc (.cells #[.slice U s.length Z,.int .i64 q] 40);simpa using this)
 have p:Hid (Blk W2 (w.heap.size+2) 40 #[.slice U s.length Z,.int .i64 q]):=hid (by
  rw [hW2];have:=Blk.new ((w.alloc (.cells #[.int .i64 a.t,.int .i64 a.n,.int .i64 a.a,.int .i64 a.b,.slice Al a.l.length cl,.slice Ai a.i.length ci] 25)).alloc (.cells #[.int .i64 b.t,.int .i64 b.n,.int .i64 b.a,.int .i64 b.b,.slice Bl b.l.length dl,.slice Bi b.i.length di] 25)) 40 #[.slice U s.length Z,.int .i64 q];simpa using this)
 have C:=hid G;have r:=hid (xw.up G);have x:=hid (xx.up G);have y:=hid (xt.up G);have B:=hid (hE.up G);clear xw xx yk yl hE xt za hW2 G
 go_enter Tryz.func4,Tryz.ntmps4
 go_wp2_with fail
 rw [← y6.out];refine (V6_ E _ B.out).mono ?_;rintro e w1 ⟨rfl,x2⟩;clear y6;replace B:=hid (B.out.up x2);replace r:=hid (r.out.up x2);replace x:=hid (x.out.up x2);replace y:=hid (y.out.up x2);replace m:=hid (m.out.below x2 m.out.lt);replace o:=hid (o.out.below x2 o.out.lt);replace p:=hid (p.out.below x2 p.out.lt);replace C:=hid (Z0_ C.out (le_refl _) x2);clear x2;have k0:=m.out.cell 0;have k1:=m.out.cell 1;have k2:=m.out.cell 2;have k3:=m.out.cell 3;have k4:=m.out.cell 4;have k5:=m.out.cell 5
 go_wp2_with fail
 refine (E9_ a _ 7 _ r.out z0.out).mono ?_;rintro e w2 ⟨rfl,G⟩;rw [y8.out];clear k0 k1 k2 k3 k4 k5;replace B:=hid (B.out.up G);replace r:=hid (r.out.up G);replace x:=hid (x.out.up G);replace y:=hid (y.out.up G);replace m:=hid (m.out.below G m.out.lt);replace o:=hid (o.out.below G o.out.lt);replace p:=hid (p.out.below G p.out.lt);replace C:=hid (Z0_ C.out (le_refl _) G);clear G;have n0:=o.out.cell 0;have M:=o.out.cell 1;have O:=o.out.cell 2;have Q:=o.out.cell 3;have n4:=o.out.cell 4;have n5:=o.out.cell 5
 go_wp2_with fail
 refine (E9_ b _ 7 _ x.out z1.out).mono ?_;rintro e w3 ⟨rfl,x3⟩;rw [y9.out];clear n0 M O Q n4 n5;replace B:=hid (B.out.up x3);replace r:=hid (r.out.up x3);replace x:=hid (x.out.up x3);replace y:=hid (y.out.up x3);replace m:=hid (m.out.below x3 m.out.lt);replace o:=hid (o.out.below x3 o.out.lt);replace p:=hid (p.out.below x3 p.out.lt);replace C:=hid (Z0_ C.out (le_refl _) x3);clear x3;have k0:=m.out.cell 0;have k1:=m.out.cell 1;have k2:=m.out.cell 2;have k3:=m.out.cell 3;have k4:=m.out.cell 4;have k5:=m.out.cell 5;have n0:=o.out.cell 0;have M:=o.out.cell 1;have O:=o.out.cell 2;have Q:=o.out.cell 3;have n4:=o.out.cell 4;have n5:=o.out.cell 5;have x0:=p.out.cell 0;have x1:=p.out.cell 1
 go_wp2_with fail
 refine (M6_ a b _ _ _ s _ r.out x.out (G7_ y8.out) (G7_ y9.out) y.out).mono ?_;rintro e J ⟨rfl,x4⟩;rw [Hm.out];clear k0 k1 k2 k3 k4 k5 n0 M O Q n4 n5 x0 x1;replace B:=hid (B.out.up x4);replace r:=hid (r.out.up x4);replace x:=hid (x.out.up x4);replace y:=hid (y.out.up x4);replace m:=hid (m.out.below x4 m.out.lt);replace o:=hid (o.out.below x4 o.out.lt);replace p:=hid (p.out.below x4 p.out.lt);replace C:=hid (Z0_ C.out (le_refl _) x4);clear x4;have x0:=p.out.cell 0;have x1:=p.out.cell 1;have ym:(J.alloc (.cells #[] 3)).ownsRow J.heap.size 3 1 (.slice (some ⟨J.heap.size,0,none⟩) 0 0) 0 [] :=
  World.ownsRow_made J #[] 0 (le_refl _) j32_ rfl
 have ye:Below J.heap.size J (J.alloc (.cells #[] 3)):=(Below.refl _ J).alloc (le_refl _) _;go_wp2
 go_loopw [6,7,8] (fun v6 vd vk wr=>v6=.bool false∧∃ k:Nat,vk=.int .i64 k∧k≤s.length∧(∀ j,j<k→-1073741824≤s.getD j 0∧s.getD j 0≤1073741824)∧wr.ownsRow J.heap.size 3 1 vd (addL (s.take k) q).length (ints (addL (s.take k) q))∧Below J.heap.size J wr) (fun _ _ vk _=>s.length - (intOf vk).toNat)
 case atStart=>exact ⟨rfl,0,rfl,Nat.zero_le _,fun j hj=>absurd hj (Nat.not_lt_zero _),ym,ye⟩
 case round =>
  obtain ⟨rfl,k,rfl,hk,yn,x5,H⟩:=hrel;have xk:=hid yn;have y7:=hid H;have y0:=(p.out.below H p.out.lt).cell 0;have y1:=(p.out.below H p.out.lt).cell 1;clear yn x0 x1;by_cases T:k<s.length
  ·have zg:(k:Int)<(s.length:Int):=by omega
   obtain ⟨ad,hA,yh⟩:=Row.nth y.out T;subst hA;have g1:=yh wr H;have yz:=hid (yc.out k T);have z2:Hid ((addL (s.take k) q).length=k):=hid (by rw [Ye1,List.length_take];omega);have yd:Hid (-1073741824≤s.getD k 0∧s.getD k 0≤1073741824→∀ j,j<k+1→-1073741824≤s.getD j 0∧s.getD j 0≤1073741824):=hid fun h j hj=>if e:j=k then by rw [e];exact h else xk.out j k30_
   clear yh;generalize s.getD k 0=z at *
   generalize addL (s.take k) q=L at *
   by_cases yq:z < -1073741824
   ·clear x5
    go_wp2;go_ret;exact ⟨rfl,Z0_ C.out (le_refl _) H⟩
   ·by_cases zo:1073741824<z
    ·have ys:-1073741824≤z:=by omega
     clear x5 yq;go_wp2;go_ret;exact ⟨rfl,Z0_ C.out (le_refl _) H⟩
    ·have ys:-1073741824≤z:=by omega
     have zp:z≤1073741824:=k30_;have z3:=hid (yd.out ⟨ys,zp⟩);have z9:IntKind.i64.wrap (z+q)=z+q:=Zw1 k30_ k30_;have zx:wrap64 (z+q)=z+q:=by rw [← Zn5];exact z9
     have zn:=H.size;have zt:L.length≤64:=by have:=z2.out;omega
     clear yq zo yd;go_wp2
     go_region_law (refine step_append_lies _ rfl _ _ 26 rfl J.heap.size 3 i0 (.int .i64 0) 1 8 q31_ hi yo yp yr rfl z31_ _ L.length (ints L) rfl (x5.alloc _).drew _ 1 1 [.int .i64 (z+q)] rfl rfl (Xc5 _ _ _) (by intro u hu;simp at hu;subst hu;rfl) z31_ j32_ k30_ j31_ _ rfl ?_;intro g zs w5 zi yi _ _)
     all_goals
      have z4:Below J.heap.size wr w5:=(((Below.refl _ wr).alloc zn (.cells #[.int .i64 (z+q)] 3)).drew).grown yi j31_ (fun i hi=>(x5.lt i hi).1);have g3:=y7.out.trans z4;clear yi g1 y0 y1 x5;go_wp2
      go_roundw
      case rel=>exact ⟨rfl,k+1,z32_,k30_,z3.out,by rw [yz.out,List.length_append];simpa [ints] using zi,g3⟩
      case measure=>simp [intOf];omega
  ·have ze:k=s.length:=by omega
   subst ze;have zg:¬ (s.length:Int)<(s.length:Int):=k30_;rw [List.take_length] at x5;have xh:=hid (Yn8 Hm.out xk.out h0 h1);have yb:=hid (Yn9 Hm.out);obtain ⟨D,hD⟩:∃ D,addL s q=D:=⟨_,rfl⟩;have xz:=hid hD;rw [hD] at x5 xh;have V:Hid (Row wr wr.heap.size u7 D):=hid (Row.of_own x5 rfl);obtain ⟨Ad,cd,zk,-⟩:=id V.out;subst zk;clear hD x5 y7 y0 y1 T hk ye ym hi yo yp yr yc xk;replace B:=hid (B.out.up H);replace r:=hid (r.out.up H);replace x:=hid (x.out.up H);replace y:=hid (y.out.up H);replace m:=hid (m.out.below H m.out.lt);replace o:=hid (o.out.below H o.out.lt);replace p:=hid (p.out.below H p.out.lt);replace C:=hid (Z0_ C.out (le_refl _) H);clear H;have k0:=m.out.cell 0;have k1:=m.out.cell 1;have k2:=m.out.cell 2;have k3:=m.out.cell 3;have k4:=m.out.cell 4;have k5:=m.out.cell 5;have n0:=o.out.cell 0;have M:=o.out.cell 1;have O:=o.out.cell 2;have Q:=o.out.cell 3;have n4:=o.out.cell 4;have n5:=o.out.cell 5;have x0:=p.out.cell 0;have x1:=p.out.cell 1
   go_wp2_with fail
   refine (Zh6 E a b _ _ _ s _ r.out x.out xi.out xj.out y.out B.out Hm.out).mono ?_;rintro e w5 ⟨A,c,L,rfl,hL,ht,hl,S⟩;obtain ⟨ad,_,_,_,_,⟨d,e⟩,_,_⟩:=hL.nth ht.pos;obtain rfl:A=some ad:=(Value.slice.inj e).1;have HL:=hid hL;have HT:=hid ht;have Hl:=hid hl;clear hL ht hl e;clear k0 k1 k2 k3 k4 k5 n0 M O Q n4 n5 x0 x1;replace B:=hid (B.out.up S);replace r:=hid (r.out.up S);replace x:=hid (x.out.up S);replace y:=hid (y.out.up S);replace V:=hid (V.out.up S);replace m:=hid (m.out.below S m.out.lt);replace o:=hid (o.out.below S o.out.lt);replace p:=hid (p.out.below S p.out.lt);replace C:=hid (Z0_ C.out (le_refl _) S);clear S;have k0:=m.out.cell 0;have k1:=m.out.cell 1;have k2:=m.out.cell 2;have k3:=m.out.cell 3;have k4:=m.out.cell 4;have k5:=m.out.cell 5;have n0:=o.out.cell 0;have M:=o.out.cell 1;have O:=o.out.cell 2;have Q:=o.out.cell 3;have n4:=o.out.cell 4;have n5:=o.out.cell 5
   go_wp2_with fail
   refine (Zh6 E a b _ _ _ D _ r.out x.out xi.out xj.out V.out B.out xh.out).mono ?_;rintro e w6 ⟨A2,c2,L2,rfl,xp,xu,xe,R⟩;obtain ⟨xl,_,_,_,_,⟨d2,e2⟩,_,_⟩:=xp.nth xu.pos;obtain rfl:A2=some xl:=(Value.slice.inj e2).1;have xb:=hid xp;have xc:=hid xu;have zq:=hid xe;clear xp xu xe e2;clear k0 k1 k2 k3 k4 k5 n0 M O Q n4 n5;replace B:=hid (B.out.up R);replace r:=hid (r.out.up R);replace x:=hid (x.out.up R);replace y:=hid (y.out.up R);replace HL:=hid (HL.out.up R);replace V:=hid (V.out.up R);replace m:=hid (m.out.below R m.out.lt);replace o:=hid (o.out.below R o.out.lt);replace p:=hid (p.out.below R p.out.lt);replace C:=hid (Z0_ C.out (le_refl _) R);clear R;have k0:=m.out.cell 0;have k1:=m.out.cell 1;have k2:=m.out.cell 2;have k3:=m.out.cell 3;have k4:=m.out.cell 4;have k5:=m.out.cell 5;have n0:=o.out.cell 0;have M:=o.out.cell 1;have O:=o.out.cell 2;have Q:=o.out.cell 3;have n4:=o.out.cell 4;have n5:=o.out.cell 5;have x0:=p.out.cell 0;have x1:=p.out.cell 1
   go_wp2_with fail
   refine (Zh6 E b a _ _ _ s _ x.out r.out xj.out xi.out y.out B.out yb.out).mono ?_;rintro e w7 ⟨A3,c3,L3,rfl,xq,xv,yj,K⟩;obtain ⟨xm,_,_,_,_,⟨d3,e3⟩,_,_⟩:=xq.nth xv.pos;obtain rfl:A3=some xm:=(Value.slice.inj e3).1;have y5:=hid xq;have xf:=hid xv;have zr:=hid yj;clear xq xv yj e3;clear k0 k1 k2 k3 k4 k5 n0 M O Q n4 n5 x0 x1;replace B:=hid (B.out.up K);replace r:=hid (r.out.up K);replace x:=hid (x.out.up K);replace y:=hid (y.out.up K);replace HL:=hid (HL.out.up K);replace xb:=hid (xb.out.up K);replace V:=hid (V.out.up K);replace m:=hid (m.out.below K m.out.lt);replace o:=hid (o.out.below K o.out.lt);replace p:=hid (p.out.below K p.out.lt);replace C:=hid (Z0_ C.out (le_refl _) K);clear K;have e2:L2.length=L.length:=Nat.le_antisymm (xc.out.len_le HT.out) (HT.out.len_le xc.out);have e3:L3.length=L.length:=(HT.out.len_swap xf.out).symm;have y3:Hid (∀ i,i<L.length→sumW D (setK L2 i)=sumW s (setK L i)+(i:Int) * q):=hid fun i hi=>by
    have h:=HT.out.shifted ya.out (xz.out▸xc.out:Told a b (addL s q) L2) hi
    rwa [xz.out] at h
   have y4:Hid (∀ i,i<L.length→sumW s (setK L3 i)=sumW s (setK L i)):=hid fun i hi=>HT.out.turned xf.out hi;obtain ⟨N,hN⟩:∃ N,L.length=N:=⟨_,rfl⟩;rw [hN] at e2 e3;have HN:=hid hN;have yx:=hid e2;have yy:=hid e3;have zu:(0:Int)<(N:Int):=by have:=HT.out.pos;omega
   have z6:¬ ((N:Int)=0):=k30_;have z8:¬ N=0:=k30_;have zw:decide (N=0)=false:=decide_eq_false z8;have z7:decide ((N:Int)=0)=false:=decide_eq_false z6;have zv:((N:Int)==0)=false:=z7;have z5:N≤65:=by have:=Hl.out;omega
   rw [hN,e2,e3];rw [hN] at HL y3 y4;rw [e2] at xb;rw [e3] at y5;clear hN e2 e3;go_wp2
   go_loopw [6,15,16] (fun v6 vi _ wr=>v6=.bool false∧∃ i:Nat,vi=.int .i64 i∧i≤N∧Hid (Below w7.heap.size w7 wr)) (fun _ vi _ _=>N - (intOf vi).toNat)
   case atStart=>exact ⟨rfl,0,rfl,Nat.zero_le _,hid (Below.refl _ _)⟩
   case round =>
    obtain ⟨rfl,i,rfl,hi,x6⟩:=hrel;by_cases T:i<N
    ·have zd:(i:Int)<(N:Int):=by omega
     have u3:IntKind.i64.wrap ((i:Int)+1)=(i:Int)+1:=k31_;have i1:i<L.length:=by rw [HN.out];exact T
     have i2:i<L2.length:=by rw [yx.out];exact T
     have i3:i<L3.length:=by rw [yy.out];exact T
     obtain ⟨S1,c1,g1,r1⟩:=(HL.out.up x6.out).one i1;obtain ⟨S2,xn,g2,r2⟩:=(xb.out.up x6.out).one i2;obtain ⟨S3,xo,g3,r3⟩:=(y5.out.up x6.out).one i3;have b1:=HT.out.small Hm.out i1;have hP:=mulw z5 T h0 h1;obtain ⟨X,hX⟩:∃ X,sumW s (setK L i)=X:=⟨_,rfl⟩;obtain ⟨P,xd⟩:∃ P,(i:Int) * q=P:=⟨_,rfl⟩;obtain ⟨Y,hY⟩:∃ Y,X+P=Y:=⟨_,rfl⟩;have f2:=y3.out i T;have f3:=y4.out i T;rw [hX,xd,hY] at f2;rw [hX] at f3 b1;rw [xd] at hP;have u0:IntKind.i64.wrap ((i:Int) * q)=P:=by rw [xd,IntKind.wrap_i64];omega
     have u1:IntKind.i64.wrap (X+P)=Y:=by rw [← hY,IntKind.wrap_i64];omega
     have xg:=y.out.up x6.out;have y2:=V.out.up x6.out;have xy:Hid (∀ W,Below wr.heap.size wr W→Calls Tryz.prog 13 #[.slice U s.length Z,.slice S1 (setK L i).length c1] W (Tells W X)):=hid fun W F=>by
      rw [← hX];exact HT.out.weighs Hm.out i1 _ _ W (xg.up F) (r1.up F)
     have yv:Hid (∀ W u v t,(u=.slice Ad D.length cd∧v=.slice S2 (setK L2 i).length xn∧t=Y)∨(u=.slice U s.length Z∧v=.slice S3 (setK L3 i).length xo∧t=X)→Below wr.heap.size wr W→Calls Tryz.prog 13 #[u,v] W (Tells W t)):=hid fun W u v t h F=>by
      rcases h with ⟨rfl,rfl,rfl⟩ | ⟨rfl,rfl,rfl⟩
      ·rw [← f2];exact xc.out.weighs xh.out i2 _ _ W (y2.up F) (r2.up F)
      ·rw [← f3];exact xf.out.weighs yb.out i3 _ _ W (xg.up F) (r3.up F)
     have xa:=hid (p.out.below x6.out p.out.lt);have HK:Hid (∀ W,Below wr.drew.heap.size wr.drew W→Below wr.heap.size wr W):=hid fun W F=>Z0_ (Below.refl _ wr).drew (le_refl _) F;generalize (setK L i).length=M at *
     generalize (setK L2 i).length=O at *
     generalize (setK L3 i).length=Q at *
     have x9:Hid (∀ W,Below wr.heap.size wr W→W.cell? ⟨w.heap.size+2,0,none⟩=some (.slice U s.length Z)∧W.cell? ⟨w.heap.size+2,1,none⟩=some (.int .i64 q)∧W.cell? (ad.add (i * 3))=some (.slice S1 M c1)∧W.cell? (xl.add (i * 3))=some (.slice S2 O xn)∧W.cell? (xm.add (i * 3))=some (.slice S3 Q xo)):=hid fun W F=>⟨(xa.out.below F xa.out.lt).cell 0,(xa.out.below F xa.out.lt).cell 1,g1 W F,g2 W F,g3 W F⟩;have I:Hid (Below wr.drew.heap.size wr.drew wr.drew):=hid (Below.refl _ _);clear i1 i2 i3 g1 g2 g3 r1 r2 r3 b1 hP hX xd hY f2 f3 xg y2 xa;go_wp2
     go_region_held3 (fun W=>W.cell? ⟨w.heap.size+2,0,none⟩=some (.slice U s.length Z)∧W.cell? (ad.add (i * 3))=some (.slice S1 M c1))
      (exact ⟨(x9.out _ (HK.out _ I.out)).1,(x9.out _ (HK.out _ I.out)).2.2.1⟩)
      ((go_at_call 13;refine (xy.out _ (HK.out _ I.out)).mono ?_;rintro e x7 ⟨rfl,yf⟩;replace I:=hid (Z0_ I.out (le_refl _) yf);clear yf))
     have yt:=hid (HK.out _ I.out);have x8:Hid (∀ W,Below x7.drew.heap.size x7.drew W→Below wr.heap.size wr W):=hid fun W F=>Z0_ yt.out (le_refl _) (Z0_ (Below.refl _ x7).drew (le_refl _) F);replace I:Hid (Below x7.drew.heap.size x7.drew x7.drew):=hid (Below.refl _ _);clear xy;go_wp2
     go_region_held3 (fun W=>W.cell? ⟨w.heap.size+2,0,none⟩=some (.slice U s.length Z)∧W.cell? ⟨w.heap.size+2,1,none⟩=some (.int .i64 q)∧W.cell? (xl.add (i * 3))=some (.slice S2 O xn)∧W.cell? (xm.add (i * 3))=some (.slice S3 Q xo))
      (exact ⟨(x9.out _ (x8.out _ I.out)).1,(x9.out _ (x8.out _ I.out)).2.1,(x9.out _ (x8.out _ I.out)).2.2.2⟩)
      ((go_at_call 13;refine (yv.out _ _ _ _ (by first | exact .inl ⟨rfl,rfl,rfl⟩ | exact .inr ⟨rfl,rfl,rfl⟩) (x8.out _ I.out)).mono ?_;rintro e u4 ⟨rfl,yg⟩;replace I:=hid (Z0_ I.out (le_refl _) yg);clear yg))
     all_goals
      have yu:=hid (Z0_ x6.out (le_refl _) (x8.out _ I.out));go_wp2
      go_roundw
      case rel=>exact ⟨rfl,i+1,z32_,k30_,yu⟩
      case measure=>simp [intOf];omega
    ·have zd:¬ (i:Int)<(N:Int):=by omega
     have yw:=hid (Z0_ C.out (le_refl _) x6.out);go_wp2;go_ret;exact ⟨rfl,yw.out⟩
theorem SplitShifts_any (E:Nat→Addr) (a:Mat) (d:Value) (b:Mat) (e:Value) (q:Int) (c:Value) (s:List Int) (w:World) (m:MatV w w.heap.size d a) (h:Lim a) (o:MatV w w.heap.size e b) (j:Lim b) (k:Row w w.heap.size c s) (g:Env E w):Calls Tryz.prog 4 #[d,e,.agg #[c,.int .i64 q]] w (Truly w):=by
 cases hfa:fewB 9 a 7 with
 | false=>exact yh_1 E a d b e q c s w m h o j k g hfa
 | true =>
  cases hfb:fewB 9 b 7 with
  | false=>exact yh_2 E a d b e q c s w m h o j k g hfa hfb
  | true =>
   cases hm:may15 a b s with
   | false=>exact yh_3 E a d b e q c s w m h o j k g hfa hfb hm
   | true =>
    by_cases p:q < -1000000
    ·exact yh_4 E a d b e q c s w m h o j k g hfa hfb hm p
    ·by_cases r:1000000<q
     ·exact yh_5 E a d b e q c s w m h o j k g hfa hfb hm k30_ r
     ·exact Va8 E a d b e q c s w m h o j k g hfa hfb hm k30_ k30_
end Wp
end Go.Proofs.YtgpljiijjnaofaaGreatDoor
