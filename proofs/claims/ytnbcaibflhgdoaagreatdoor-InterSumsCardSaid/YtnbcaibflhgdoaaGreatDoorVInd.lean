/- The program's May, Rank and Indep, and the document's May, walked. Matroids written out in memory. -/
import Derived.Test.YtnbcaibflhgdoaaGreatDoorZW
import Derived.Test.YtnbcaibflhgdoaaGreatDoorQTD
import Derived.Test.YtnbcaibflhgdoaaGreatDoorZA
import Derived.Lib.Hide
import Derived.Test.YtnbcaibflhgdoaaGreatDoorZP
import Derived.Test.YtnbcaibflhgdoaaGreatDoorZO
import Derived.Test.YtnbcaibflhgdoaaGreatDoorIRank
import Derived.Deep.RegionHeld3
import Derived.Test.YtnbcaibflhgdoaaGreatDoorZH
import Derived.Test.YtnbcaibflhgdoaaGreatDoorZX
import Derived.Deep.Slices
import Derived.Test.YtnbcaibflhgdoaaGreatDoorX0A
import Derived.Test.YtnbcaibflhgdoaaGreatDoorX0B
set_option maxHeartbeats 8000000
set_option maxRecDepth 100000
open Go.Lib (hid)
open Nat (le_refl)
namespace Go.Proofs.YtnbcaibflhgdoaaGreatDoor
open Go.RowKit
namespace Wp
def mayI (m:Mat) (s:List Int):Bool:=decide (chk m=0) && subB s (allL m.n)
noncomputable def rankT (m:Mat) (s:List Int):Int:=if mayI m s=true then (rkP 4 m (memP s):Nat) else -1
noncomputable def indT (m:Mat) (s:List Int):Bool:=decide (rankT m s=(s.length:Int))
theorem mayI_iff {m:Mat} {s:List Int}:mayI m s=true↔chk m=0∧InN (nN m) s:=by
 unfold mayI;rw [Bool.and_eq_true,decide_eq_true_iff];constructor
 ·rintro ⟨c,d⟩;exact ⟨c,(W8_ (chk_n c).1 (chk_n c).2).1 d⟩
 ·rintro ⟨c,d⟩;exact ⟨c,(W8_ (chk_n c).1 (chk_n c).2).2 d⟩
theorem T9_ (E:Nat→Addr) (m:Mat) (v B:Value) (s:List Int) (w:World) (k:MatV w w.heap.size v m) (hs:Sml m) (j:Row w w.heap.size B s) (J:s.length≤1048576) (u:Env E w):Calls Tryz.prog 31 #[v,B] w (Says w (mayI m s)):=by
 have q:=hid hs;obtain ⟨z,y,K,_,_⟩:=k.open;obtain ⟨N,cs,rfl,_⟩:=id j;have Hb0:=hid (Z1_ w m z y);have r:=hid (k.up Hb0.out);have C:=hid (j.up Hb0.out);have c:=hid (Z3_ w m z y);have g0:=c.out.cell 0;have g1:=c.out.cell 1;have g2:=c.out.cell 2;have g3:=c.out.cell 3;have g4:=c.out.cell 4;have g5:=c.out.cell 5;subst K;unfold boxed at *
 have p:=hid (u.up Hb0.out);obtain ⟨D,d⟩:∃ D,chk m=D:=⟨_,rfl⟩;have o:=hid d;have I:=C1_ m.n;unfold mayI;rw [d];clear k hs j u d;by_cases h:D=0
 ·subst h
  rw [decide_eq_true rfl,Bool.true_and]
  go_enter Tryz.func31,Tryz.ntmps31
  go_wp2_with fail
  refine (Q2_ E m _ _ r.out q.out p.out).mono ?_;rintro e M ⟨rfl,hb1⟩;rw [o.out];have Hb1:=hid (Z0_ Hb0.out (le_refl _) hb1);have F:=hid (C.out.up hb1);have L:=(c.out.below hb1 c.out.lt).cell 1;clear hb1 g0 g1 g2 g3 g4 g5
  go_wp2_with fail
  refine (F0_ m.n _).mono ?_;rintro e Q ⟨P,rfl,x,g⟩;have Hb2:=hid (Z0_ Hb1.out (le_refl _) g);have G:=hid (F.out.up g);have H:=hid x;clear g x L
  go_wp2_with fail
  refine (P1_ _ _ s (allL m.n) _ G.out H.out J I).mono ?_;exact x7_
 ·rw [decide_eq_false h,Bool.false_and]
  have O:(D==0)=false:=x34_;clear h
  go_enter Tryz.func31,Tryz.ntmps31
  go_wp2_with fail
  refine (Q2_ E m _ _ r.out q.out p.out).mono ?_;rintro e M ⟨rfl,hb1⟩;rw [o.out];exact q24_
theorem Zy8 (E:Nat→Addr) (m:Mat) (v d:Value) (s:List Int) (w:World) (j:MatV w w.heap.size v m) (hs:Sml m) (h:Row w w.heap.size d s) (B:s.length≤1048576) (x:Env E w):Calls Tryz.prog 32 #[v,d] w (Tells w (rankT m s)):=by
 have r:=hid hs;obtain ⟨D,C,L,_,_⟩:=j.open;obtain ⟨N,cs,rfl,_⟩:=id h;have Hb0:=hid (Z1_ w m D C);have u:=hid (j.up Hb0.out);have q:=hid (h.up Hb0.out);have c:=hid (Z3_ w m D C);have g0:=c.out.cell 0;have g1:=c.out.cell 1;have g2:=c.out.cell 2;have g3:=c.out.cell 3;have g4:=c.out.cell 4;have g5:=c.out.cell 5;subst L;unfold boxed at *
 have k:=hid (x.up Hb0.out);unfold rankT;rcases hm:mayI m s with _ | _
 ·rw [if_neg y30_]
  have p:=hid hm;clear j hs h x hm
  go_enter Tryz.func32,Tryz.ntmps32
  go_wp2_with fail
  refine (T9_ E m _ _ s _ u.out r.out q.out B k.out).mono ?_;rintro e M ⟨rfl,hb1⟩;rw [p.out];exact q24_
 ·rw [if_pos rfl]
  have p:=hid hm;have o:=hid (mayI_iff.1 hm);obtain ⟨R,y⟩:∃ R:Nat,rkP 4 m (memP s)=R:=⟨_,rfl⟩;have H:Hid (∀ (v d:Value) (W:World),MatV W W.heap.size v m→Row W W.heap.size d s→Env E W→Calls Tryz.prog 65 #[v,d] W (Tells W (R:Int))):=hid fun v d W J K h3=>by rw [← y];exact Yy3 E 4 m v d s W J r.out o.out.1 (chk_ok.1 o.out.1).1 K o.out.2 h3
  rw [y];clear j hs h x hm y
  go_enter Tryz.func32,Tryz.ntmps32
  go_wp2_with fail
  refine (T9_ E m _ _ s _ u.out r.out q.out B k.out).mono ?_;rintro e M ⟨rfl,hb1⟩;rw [p.out];have Hb1:=hid (Z0_ Hb0.out (le_refl _) hb1);have G:=hid (q.out.up hb1);have I:=hid (u.out.up hb1);have F:=hid (k.out.up hb1);have g:=hid (c.out.below hb1 c.out.lt);clear hb1 g0 g1 g2 g3 g4 g5;have g0:=g.out.cell 0;have g1:=g.out.cell 1;have g2:=g.out.cell 2;have g3:=g.out.cell 3;have g4:=g.out.cell 4;have g5:=g.out.cell 5
  go_wp2_with fail
  refine (H.out _ _ _ I.out G.out F.out).mono ?_;rintro e O ⟨rfl,z⟩;have Hb2:=hid (Z0_ Hb1.out (le_refl _) z);clear z g0 g1 g2 g3 g4 g5;exact z2_
theorem Zy9 (E:Nat→Addr) (m:Mat) (v x:Value) (s:List Int) (w:World) (o:MatV w w.heap.size v m) (hs:Sml m) (k:Row w w.heap.size x s) (N:s.length≤1048576) (p:Env E w):Calls Tryz.prog 74 #[v,x] w (Says w (indT m s)):=by
 have D:=hid hs;obtain ⟨u,r,O,_,_⟩:=o.open;obtain ⟨P,cs,rfl,_⟩:=id k;have d:=hid (Z1_ w m u r);have F:=hid (o.up d.out);have C:=hid (k.up d.out);have c:=hid (Z3_ w m u r);have G:=c.out.cell 0;have H:=c.out.cell 1;have I:=c.out.cell 2;have J:=c.out.cell 3;have K:=c.out.cell 4;have L:=c.out.cell 5;subst O;unfold boxed at *
 have y:=hid (p.up d.out);obtain ⟨R,h⟩:∃ R,rankT m s=R:=⟨_,rfl⟩;have z:=hid h;obtain ⟨g,j⟩:∃ g,indT m s=g:=⟨_,rfl⟩;have M:(R==(s.length:Int))=g:=by rw [← j,← h];unfold indT;rw [Bool.eq_iff_iff,beq_iff_eq,decide_eq_true_iff]
 rw [j];clear o hs k p h j
 go_enter Tryz.func74,Tryz.ntmps74
 go_wp2_with fail
 refine (Zy8 E m _ _ s _ F.out D.out C.out N y.out).mono ?_;rintro e Q ⟨rfl,q⟩;rw [z.out];have B:=hid (Z0_ d.out (le_refl _) q);clear q G H I J K L;go_wp2;go_ret;exact ⟨by rw [← M];rfl,B.out⟩
open Go.RowKit
theorem Zk2 (W:World) (B:Nat):Rows2 W B (.slice none 0 0) []:=⟨none,0,rfl,⟨le_refl _,y30_,fun _=>rfl⟩,fun k c=>absurd c x30_⟩
theorem V9_ (W:World) (B:Nat) (t n a b:Int):MatV W B (.agg #[.int .i64 t,.int .i64 n,.int .i64 a,.int .i64 b,.slice none 0 0,.slice none 0 0]) (.mk t n a b [] []):=MatV.shut (Zk2 W B) (MatL.nil_ W B)
theorem J0_ (t n a b:Int):Sml (.mk t n a b [] []):=.mk x30_ x30_ x30_ x30_
end Wp
end Go.Proofs.YtnbcaibflhgdoaaGreatDoor
namespace Go.Proofs.YtnbcaibflhgdoaaGreatDoor.Wp
open Go Go.RowKit
theorem Zq5 {f g:Mat→(Nat→Bool)→Nat}:∀ {l:List Mat},(∀ x∈l,f x=g x)→∀ P,sumR f l P=sumR g l P
 | [],_,_=>rfl
 | x :: r,h,P=>by rw [sumR,sumR,h x x30_,Zq5 fun y c=>h y (by simp [c])]
theorem Zd7:∀ (k j:Nat) (m:Mat),chk m=0→dp 4 m≤k→dp 4 m≤j→rkP k m=rkP j m
 | 0,_,m,_,h,_=>absurd h x37_
 | _+1,0,m,_,_,h=>absurd h x37_
 | k+1,j+1,m,hc,hk,hj=>by
  funext P
  have g:=Zp1 hc;have d:5≤m.t∧m.t≤8→rkP k (inn m)=rkP j (inn m):=fun c=>by
   obtain ⟨_,f,h3⟩:=B1_ hc c;exact Zd7 k j (inn m) f j29_ j29_
  rcases (by omega:m.t=0∨m.t=1∨m.t=2∨m.t=3∨m.t=4∨m.t=5∨m.t=6∨m.t=7∨m.t=8∨9≤m.t) with c | c | c | c | c | c | c | c | c | c
  ·rw [rkP_0 c,rkP_0 c]
  ·rw [rkP_1 c,rkP_1 c]
  ·rw [rkP_2 c,rkP_2 c]
  ·rw [rkP_3 c,rkP_3 c]
  ·rw [rkP_4 c,rkP_4 c]
  ·rw [rkP_5 c,rkP_5 c,d j29_]
  ·rw [rkP_6 c,rkP_6 c,d j29_]
  ·rw [rkP_7 c,rkP_7 c,d j29_]
  ·rw [rkP_8 c,rkP_8 c,d j29_]
  ·rw [rkP_9 c,rkP_9 c]
   exact Zq5 (fun x e=>Zd7 k j x (within hc e).1 (by have:=(within hc e).2;omega) (by have:=(within hc e).2;omega)) P
theorem rk_of {m:Mat} (h:chk m=0):Rk (nN m) (rkP 4 m):=rk_ok 4 m h (chk_ok.1 h).1
theorem Xg8 {m:Mat} (h:chk m=0) (h3:dp 4 m≤3):rkP 3 m=rkP 4 m:=Zd7 3 4 m h h3 j29_
theorem Zk3 (P Q:Nat→Bool):∀ n,cnt (orP P Q) n+cnt (andP P Q) n=cnt P n+cnt Q n
 | 0=>by simp [cnt]
 | n+1=>by
  have c:=Zk3 P Q n;rw [X1_,X1_,X1_,X1_];show _+(if (P n || Q n)=true then 1 else 0)+(_+(if (P n && Q n)=true then 1 else 0))=_;cases P n<;>cases Q n<;>simp<;>omega
theorem C8_ {m:Mat} {s:List Int} (h:mayI m s=true):rankT m s=(rkP 4 m (memP s):Nat):=if_pos h
open Go Go.RowKit
theorem Rk.closed {n:Nat} {f:(Nat→Bool)→Nat} (h:Rk n f) (P S:Nat→Bool) (hs:∀ x,x<n→S x=true→f (insP P x)=f P):∀ k,k≤n→f (addK P S k)=f P
 | 0,_=>by rw [F3_]
 | k+1,hk=>by
  have c:=h.closed P S hs k j29_;cases e:S k
  ·rw [P4_ e];exact c
  ·have d:=h.dim_add P S (x:=k) j29_ k j29_
   have g:=hs k j29_ e;have h3:=h.up' (addK P S k) (x:=k) j29_;rw [K1_ e];omega
theorem C9_ {m:Mat} {s:List Int} (h:mayI m s=true):indT m s=true↔rkP 4 m (memP s)=s.length:=by
 unfold indT;rw [show rankT m s=_ from if_pos h,decide_eq_true_iff];omega
theorem Ys7 {m:Mat} (h:chk m=0):indT m []=true:=by
 have c:mayI m []=true:=mayI_iff.2 ⟨h,Xm8 _⟩;rw [C9_ c,Zc6,(rk_ok 4 m h (chk_ok.1 h).1).zero];rfl
theorem Xc5 {m:Mat} {a s:List Int} (ha:mayI m a=true) (hs:mayI m s=true) (d:∀ x∈s,x∈a) (h:indT m a=true):indT m s=true:=by
 obtain ⟨hc,hA⟩:=mayI_iff.1 ha;obtain ⟨_,g⟩:=mayI_iff.1 hs;have c:=rk_ok 4 m hc (chk_ok.1 hc).1;rw [C9_ ha] at h;rw [C9_ hs,V6_ g];rw [V6_ hA] at h;have p:=c.le_cnt (memP s);have f:=c.submod (memP s) (fun i=>memP a i && !memP s i);have h3:=c.le_cnt (fun i=>memP a i && !memP s i);have e:∀ i,i<nN m→orP (memP s) (fun i=>memP a i && !memP s i) i=memP a i:=fun i _=>by
  unfold orP;cases e1:memP s i
  ·simp [e1]
  ·have:memP a i=true:=memP_iff.2 (d _ (memP_iff.1 e1))
   simp [this]
 rw [c.ext e] at f;have q:cnt (memP a) (nN m)=cnt (memP s) (nN m)+cnt (fun i=>memP a i && !memP s i) (nN m):=by
  have:=K.cntP_split (memP a) (memP s) (nN m);have j:K.cntP (nN m) (fun i=>memP a i && memP s i)=cnt (memP s) (nN m):=(Q0_ fun i _=>by
   cases e1:memP s i
   ·simp
   ·have:memP a i=true:=memP_iff.2 (d _ (memP_iff.1 e1))
    simp [this])
  have k:K.cntP (nN m) (memP a)=cnt (memP a) (nN m):=rfl;have o:K.cntP (nN m) (fun i=>memP a i && !memP s i)=cnt (fun i=>memP a i && !memP s i) (nN m):=rfl;omega
 omega
theorem Yx3 {x:Int} (h:0≤x) (P:Nat→Bool):orP P (memP [x])=insP P x.toNat:=by
 funext i
 unfold orP insP;have:memP [x] i=(i==x.toNat):=by rw [Bool.eq_iff_iff,memP_iff,beq_iff_eq,List.mem_singleton];omega
 rw [this,Bool.or_comm]
open Go Go.RowKit
def remP (P:Nat→Bool) (y:Nat):Nat→Bool:=fun i=>P i && !(i==y)
theorem I1_ (P:Nat→Bool) (y:Nat):remP P y y=false:=by simp [remP]
theorem M2_ {P:Nat→Bool} {y i:Nat} (h:i≠y):remP P y i=P i:=by simp [remP,h]
theorem Xc6 {P:Nat→Bool} {y:Nat} (h:P y=true):insP (remP P y) y=P:=by
 funext i
 by_cases e:i=y
 ·rw [e,X9_,h]
 ·rw [X4_ e,M2_ e]
theorem I2_ {n:Nat} {P:Nat→Bool} {y:Nat} (c:y<n) (h:P y=true):cnt (remP P y) n+1=cnt P n:=by
 have:=Q4_ c (I1_ P y);rw [Xc6 h] at this;omega
section
variable {n:Nat} {f:(Nat→Bool)→Nat}
theorem Rk.part (h:Rk n f) {P Q:Nat→Bool} (hs:∀ i,i<n→P i=true→Q i=true) (k:f Q=cnt Q n):f P=cnt P n:=by
 have c:=h.submod P (fun i=>Q i && !P i);have j:=h.le_cnt (fun i=>Q i && !P i);have h3:=h.le_cnt P;have e:∀ i,i<n→orP P (fun i=>Q i && !P i) i=Q i:=fun i g=>by
  unfold orP;cases e1:P i
  ·simp [e1]
  ·simp [hs i g e1]
 rw [h.ext e] at c;have d:=Zk3 P (fun i=>Q i && !P i) n;rw [Q0_ e,Q0_ (P:=andP P (fun i=>Q i && !P i)) (Q:=noneP) (fun i _=>by simp only [andP,noneP];cases P i<;>simp),B3_] at d;omega
end
theorem V3_ {m:Mat} {s:List Int} (h:indT m s=true):mayI m s=true:=by
 cases hm:mayI m s
 ·unfold indT rankT at h
  rw [hm,if_neg y30_,decide_eq_true_iff] at h;omega
 ·rfl
open Go Go.RowKit
section
variable {n:Nat} {f:(Nat→Bool)→Nat}
def exch (S:Nat→Bool):List (Nat × Nat)→Nat→Bool
 | []=>S
 | (y,x) :: r=>insP (remP (exch S r) y) x
theorem U0_ {S:Nat→Bool}:∀ {r:List (Nat × Nat)},(∀ p∈r,S p.1=true∧S p.2=false)→∀ i,exch S r i=true↔(S i=true∧i∉r.map (·.1))∨i∈r.map (·.2)
 | [],_,i=>by simp [exch]
 | (y,x) :: r,h,i=>by
  have o:=U0_ (S:=S) (r:=r) (fun p j=>h p (by simp [j])) i;have m:=h (y,x) x30_;have k:i∈r.map (·.2)→S i=false:=fun g=>by
   obtain ⟨p,j,rfl⟩:=List.mem_map.1 g;exact (h p (by simp [j])).2
  rw [exch];by_cases e:i=x
  ·rw [e,X9_]
   simp
  ·rw [X4_ e]
   by_cases d:i=y
   ·rw [d,I1_]
    have f:y∉r.map (·.2):=fun g=>by rw [d] at k;have:=k g;rw [m.1] at this;cases this
    constructor
    ·intro h;cases h
    ·rintro (⟨_,c⟩ | c)
     ·exact absurd x30_ c
     ·rw [List.map_cons,List.mem_cons] at c
      rcases c with c | c
      ·exact absurd (d.trans c) e
      ·exact absurd c f
   ·rw [M2_ d,o,List.map_cons,List.map_cons,List.mem_cons,List.mem_cons]
    constructor
    ·rintro (⟨f,c⟩ | c)
     ·exact .inl ⟨f,fun h3=>h3.elim d c⟩
     ·exact .inr (.inr c)
    ·rintro (⟨f,c⟩ | c)
     ·exact .inl ⟨f,fun h3=>c (.inr h3)⟩
     ·exact .inr (c.resolve_left e)
theorem Zk4 (h:Rk n f) {S:Nat→Bool} (m:f S=cnt S n):∀ {r:List (Nat × Nat)},(∀ p∈r,(p.1<n∧p.2<n)∧S p.1=true∧S p.2=false)→(r.map (·.1)).Nodup→(r.map (·.2)).Nodup →
  (∀ p∈r,f (insP (remP S p.1) p.2)=cnt S n)→(r.Pairwise fun p q=>f (insP (remP S p.1) q.2)<cnt S n)→f (exch S r)=cnt S n∧cnt (exch S r) n=cnt S n
 | [],_,_,_,_,_=>⟨m,rfl⟩
 | (y,x) :: r,c,hn1,hn2,hc,hd=>by
  have j:=c (y,x) x30_;have w:y<n:=j.1.1;have v:x<n:=j.1.2;have s:S y=true:=j.2.1;have E:S x=false:=j.2.2;clear j;have u:∀ p∈r,(p.1<n∧p.2<n)∧S p.1=true∧S p.2=false:=fun p h=>c p (by simp [h]);rw [List.map_cons,List.nodup_cons] at hn1 hn2;obtain ⟨G,H⟩:=List.pairwise_cons.1 hd;obtain ⟨K,L⟩:=Zk4 h m u hn1.2 hn2.2 (fun p h=>hc p (by simp [h])) H;have o:=U0_ (S:=S) (r:=r) fun p h=>(u p h).2;have D:exch S r y=true:=(o y).2 (.inl ⟨s,hn1.1⟩);have C:exch S r x=false:=by
   rw [← Bool.not_eq_true,o];rintro (⟨g,_⟩ | g)
   ·rw [E] at g;cases g
   ·exact hn2.1 g
  have M:=I2_ w D;have R:=h.part (P:=remP (exch S r) y) (Q:=exch S r) (fun i _ c=>by
   by_cases e:i=y
   ·rw [e,I1_] at c;cases c
   ·rwa [M2_ e] at c) (K.trans L.symm)
  have N:=I2_ w s;have T:=h.part (P:=remP S y) (Q:=S) (fun i _ c=>by
   by_cases e:i=y
   ·rw [e,I1_] at c;cases c
   ·rwa [M2_ e] at c) m
  have F:=h.closed (remP S y) (remP (exch S r) y) (fun z J k=>by
   have A:z≠y:=fun e=>by rw [e,I1_] at k;cases k
   rw [M2_ A] at k;rcases (o z).1 k with ⟨g,_⟩ | g
   ·rw [G1_ (by rw [M2_ A];exact g)]
   ·obtain ⟨p,I,rfl⟩:=List.mem_map.1 g
    have U:f (insP (remP S y) p.2)<cnt S n:=G p I;have V:=h.up' (remP S y) J;omega) n (le_refl _)
  rw [G2_ h] at F;have m1:f (insP (remP S y) x)=cnt S n:=hc (y,x) x30_;have m2:=h.mono (P:=insP (remP S y) x) (Q:=insP (orP (remP S y) (remP (exch S r) y)) x) fun i _ hi=>k16_;have d:=h.dim_set (P:=remP (exch S r) y) (Q:=orP (remP S y) (remP (exch S r) y)) (fun i _ hi=>by unfold orP;rw [hi];simp) v;have B:remP (exch S r) y x=false:=by
   unfold remP;rw [C];rfl
  have O:=Q4_ v B;have W:=h.le_cnt (insP (remP (exch S r) y) x);rw [exch];omega
theorem Xc7 (h:Rk n f) {S:Nat→Bool} (o:f S=cnt S n) {r:List (Nat × Nat)} (j:∀ p∈r,(p.1<n∧p.2<n)∧S p.1=true∧S p.2=false) (v:(r.map (·.1)).Nodup) (w:(r.map (·.2)).Nodup)
  (hb:∀ p∈r,f (insP S p.2)=f S) (hc:∀ p∈r,f (insP (remP S p.1) p.2)=cnt S n) (hd:r.Pairwise fun p q=>f (insP (remP S p.1) q.2)<cnt S n)
  {x:Nat} (k:x<n) (s:S x=false) (A:x∉r.map (·.2)) (D:f (insP S x)=cnt S n+1):f (insP (exch S r) x)=cnt S n+1∧cnt (insP (exch S r) x) n=cnt S n+1:=by
 obtain ⟨E,F⟩:=Zk4 h o j v w hc hd;have g:=U0_ (S:=S) (r:=r) fun p h=>(j p h).2;have m:exch S r x=false:=by
  rw [← Bool.not_eq_true,g];rintro (⟨c,_⟩ | c)
  ·rw [s] at c;cases c
  ·exact A c
 have u:=h.closed S (exch S r) (fun z _ B=>by
  rcases (g z).1 B with ⟨c,_⟩ | c
  ·rw [G1_ c]
  ·obtain ⟨p,y,rfl⟩:=List.mem_map.1 c
   exact hb p y) n (le_refl _)
 rw [G2_ h] at u;have m2:=h.mono (P:=insP S x) (Q:=insP (orP S (exch S r)) x) fun i _ hi=>k16_;have d:=h.dim_set (P:=exch S r) (Q:=orP S (exch S r)) (fun i _ hi=>by unfold orP;rw [hi];simp) k;have C:=Q4_ k m;have G:=h.le_cnt (insP (exch S r) x);omega
structure Zig (n:Nat) (S:Nat→Bool) (p:Nat→Nat) (k:Nat):Prop where
 lt:∀ i,i≤2 * k→p i<n
 inj:∀ i j,i≤2 * k→j≤2 * k→p i=p j→i=j
 out:∀ i,i≤k→S (p (2 * i))=false
 within:∀ i,i<k→S (p (2 * i+1))=true
def turnP (S:Nat→Bool) (p:Nat→Nat) (k:Nat):Nat→Bool:=fun i=>S i != (List.range (2 * k+1)).any fun j=>p j==i
def pairs (p:Nat→Nat) (k:Nat):List (Nat × Nat):=(List.range k).map fun i=>(p (2 * i+1),p (2 * i+2))
theorem Ys8 {S:Nat→Bool} {p:Nat→Nat} {k:Nat} (c:Zig n S p k):∀ i,insP (exch S (pairs p k)) (p 0) i=turnP S p k i:=by
 intro i;have m:=U0_ (S:=S) (r:=pairs p k) (fun q f=>by
  obtain ⟨j,hj,rfl⟩:=List.mem_map.1 f;rw [List.mem_range] at hj;exact ⟨c.within j hj,c.out (j+1) j29_⟩) i
 have d:((List.range (2 * k+1)).any fun j=>p j==i)=true↔∃ j,j≤2 * k∧p j=i:=by
  rw [List.any_eq_true];constructor
  ·rintro ⟨j,hj,e⟩
   rw [List.mem_range] at hj;exact ⟨j,j29_,by simpa using e⟩
  ·rintro ⟨j,hj,e⟩
   exact ⟨j,List.mem_range.2 j29_,by simpa using e⟩
 have s:i∈(pairs p k).map (·.1)↔∃ j,j<k∧p (2 * j+1)=i:=k9_;have u:i∈(pairs p k).map (·.2)↔∃ j,j<k∧p (2 * j+2)=i:=k9_;rw [s,u] at m;rw [Bool.eq_iff_iff];unfold turnP;have w:insP (exch S (pairs p k)) (p 0) i=true↔i=p 0∨exch S (pairs p k) i=true:=by
  unfold insP;rw [Bool.or_eq_true,beq_iff_eq]
 rw [w,m,bne_iff_ne];cases hS:S i
 ·constructor
  ·intro h
   have:((List.range (2 * k+1)).any fun j=>p j==i)=true:=by
    rw [d];rcases h with h | ⟨h,_⟩ | ⟨j,hj,e⟩
    ·exact ⟨0,j29_,h.symm⟩
    ·cases h
    ·exact ⟨2 * j+2,j29_,e⟩
   rw [this];decide
  ·intro h
   have h3:((List.range (2 * k+1)).any fun j=>p j==i)=true:=by
    cases f:((List.range (2 * k+1)).any fun j=>p j==i)
    ·rw [f] at h;exact absurd rfl h
    ·rfl
   obtain ⟨j,hj,e⟩:=d.1 h3;rcases Nat.mod_two_eq_zero_or_one j with g | g
   ·by_cases v:j=0
    ·subst v;exact .inl e.symm
    ·exact .inr (.inr ⟨(j - 2) / 2,j29_,by rw [show 2 * ((j - 2) / 2)+2=j by omega];exact e⟩)
   ·have:=c.within (j / 2) j29_
    rw [show 2 * (j / 2)+1=j by omega,e,hS] at this;cases this
 ·constructor
  ·intro h
   have:((List.range (2 * k+1)).any fun j=>p j==i)=false:=by
    rw [← Bool.not_eq_true,d];rintro ⟨j,hj,e⟩;rcases h with h | ⟨_,h⟩ | ⟨q,f,o⟩
    ·have:=c.out 0 j29_
     rw [Nat.mul_zero,← h,hS] at this;cases this
    ·rcases Nat.mod_two_eq_zero_or_one j with g | g
     ·have:=c.out (j / 2) j29_
      rw [show 2 * (j / 2)=j by omega,e,hS] at this;cases this
     ·exact h ⟨j / 2,j29_,by rw [show 2 * (j / 2)+1=j by omega];exact e⟩
    ·have:=c.out (q+1) j29_
     rw [show 2 * (q+1)=2 * q+2 by omega,o,hS] at this;cases this
   rw [this];decide
  ·intro h
   refine .inr (.inl ⟨rfl,?_⟩);rintro ⟨j,hj,e⟩;have:((List.range (2 * k+1)).any fun j=>p j==i)=true:=d.2 ⟨2 * j+1,j29_,e⟩;rw [this] at h;exact absurd rfl h
structure Straight (n:Nat) (f:(Nat→Bool)→Nat) (S:Nat→Bool) (p:Nat→Nat) (k:Nat):Prop where
 start:f (insP S (p 0))=cnt S n+1
 noStart:∀ i,i<k→f (insP S (p (2 * i+2)))=f S
 arc:∀ i,i<k→f (insP (remP S (p (2 * i+1))) (p (2 * i+2)))=cnt S n
 noArc:∀ i j,i<j→j<k→f (insP (remP S (p (2 * i+1))) (p (2 * j+2)))<cnt S n
theorem Zk5 (h:Rk n f) {S:Nat→Bool} {p:Nat→Nat} {k:Nat} (o:f S=cnt S n) (g:Zig n S p k) (hs:Straight n f S p k):f (turnP S p k)=cnt S n+1∧cnt (turnP S p k) n=cnt S n+1:=by
 have m:∀ {q:Nat × Nat},q∈pairs p k→∃ j,j<k∧q=(p (2 * j+1),p (2 * j+2)):=fun d=>by
  obtain ⟨j,c,rfl⟩:=List.mem_map.1 d;exact ⟨j,List.mem_range.1 c,rfl⟩
 have s:=Xc7 h o (r:=pairs p k) (x:=p 0) (fun q d=>by
   obtain ⟨j,c,rfl⟩:=m d;exact ⟨⟨g.lt _ j29_,g.lt _ j29_⟩,g.within j c,g.out (j+1) j29_⟩)
  (by
   unfold pairs;rw [List.map_map];refine List.pairwise_map.2 (List.Pairwise.imp_of_mem (fun {i j} hi c hne e=>hne ?_) (List.nodup_range (n:=k)));rw [List.mem_range] at hi c;have:=g.inj _ _ j29_ j29_ e;omega)
  (by
   unfold pairs;rw [List.map_map];refine List.pairwise_map.2 (List.Pairwise.imp_of_mem (fun {i j} hi c hne e=>hne ?_) (List.nodup_range (n:=k)));rw [List.mem_range] at hi c;have:=g.inj _ _ j29_ j29_ e;omega)
  (fun q d=>by
   obtain ⟨j,c,rfl⟩:=m d;exact hs.noStart j c)
  (fun q d=>by
   obtain ⟨j,c,rfl⟩:=m d;exact hs.arc j c)
  (by
   unfold pairs;rw [List.pairwise_map];refine List.Pairwise.imp_of_mem (fun {i j} _ c hij=>?_) List.pairwise_lt_range;exact hs.noArc i j hij (List.mem_range.1 c))
  (g.lt 0 j29_) (g.out 0 j29_)
  (fun d=>by
   obtain ⟨q,d,e⟩:=List.mem_map.1 d;obtain ⟨j,c,rfl⟩:=m d;have:=g.inj (2 * j+2) 0 j29_ j29_ e;omega) hs.start
 rw [← h.ext (P:=insP (exch S (pairs p k)) (p 0)) (Q:=turnP S p k) fun i _=>Ys8 g i,← Q0_ (P:=insP (exch S (pairs p k)) (p 0)) (Q:=turnP S p k) fun i _=>Ys8 g i];exact s
def cutP (S Y:Nat→Bool) (k:Nat):Nat→Bool:=fun i=>S i && !(decide (i<k) && Y i)
theorem Yx4 (h:Rk n f) {S Y:Nat→Bool} (p:f S=cnt S n) {x:Nat} (m:x<n) (o:f (insP S x)=f S) (q:∀ y,y<n→S y=true→Y y=true→f (insP (remP S y) x)<cnt S n) :
  ∀ k,k≤n→f (insP (cutP S Y k) x)=f (cutP S Y k)
 | 0,_=>by
  have e:cutP S Y 0=S:=by funext i;simp [cutP]
  rw [e,o]
 | k+1,hk=>by
  have z:=Yx4 h p m o q k j29_;by_cases d:S k=true∧Y k=true
  ·have g:cutP S Y (k+1)=remP (cutP S Y k) k:=by
    funext i
    unfold cutP remP;by_cases e:i=k
    ·subst e;simp [d.2]
    ·rw [show decide (i<k+1)=decide (i<k) from decide_eq_decide.2 j29_]
     simp [e]
   have r:cutP S Y k k=true:=by simp [cutP,d.1]
   have u:cutP S Y (k+1)=andP (cutP S Y k) (remP S k):=by
    rw [g]
    funext i
    unfold remP andP cutP;cases hs:S i<;>simp [hs]
   have v:orP (cutP S Y k) (remP S k)=S:=by
    funext i
    by_cases e:i=k
    ·subst e;unfold orP;rw [r,d.1];rfl
    ·unfold orP
     rw [M2_ e];unfold cutP;cases S i<;>simp
   have j:k<n:=j29_;have part:∀ {P:Nat→Bool},(∀ i,i<n→P i=true→S i=true)→f P=cnt P n:=fun w=>h.part w p;have E:=part (P:=cutP S Y k) fun i _ c=>by unfold cutP at c;rw [Bool.and_eq_true] at c;exact c.1
   have F:=part (P:=remP S k) fun i _ c=>by unfold remP at c;rw [Bool.and_eq_true] at c;exact c.1
   have G:=part (P:=cutP S Y (k+1)) fun i _ c=>by unfold cutP at c;rw [Bool.and_eq_true] at c;exact c.1
   have s:=I2_ j r;rw [← g] at s;have D:=I2_ j d.1;have hl:=q k j d.1 d.2;have H:=h.up' (remP S k) m;have C:=h.submod (insP (cutP S Y k) x) (insP (remP S k) x);have A:orP (insP (cutP S Y k) x) (insP (remP S k) x)=insP S x:=by
    funext i
    have e:=congrFun v i;simp only [orP] at e;simp only [orP,insP];cases i==x
    ·simpa using e
    ·simp
   have B:andP (insP (cutP S Y k) x) (insP (remP S k) x)=insP (cutP S Y (k+1)) x:=by
    funext i
    have e:=congrFun u i;simp only [andP] at e;simp only [andP,insP];cases i==x
    ·simpa using e.symm
    ·simp
   rw [A,B] at C;have I:=h.up' (cutP S Y (k+1)) m;omega
  ·have g:cutP S Y (k+1)=cutP S Y k:=by
    funext i
    unfold cutP;by_cases e:i=k
    ·subst e
     cases hs:S i
     ·rfl
     ·cases hy:Y i
      ·simp
      ·exact absurd ⟨hs,hy⟩ d
    ·rw [show decide (i<k+1)=decide (i<k) from decide_eq_decide.2 j29_]
   rw [g];exact z
theorem Zq6 (h:Rk n f) {S Y W:Nat→Bool} (m:f S=cnt S n) (q:∀ i,i<n→W i=true→Y i=false) (p:∀ x,x<n→W x=true→S x=false→f (insP S x)=f S)
  (r:∀ x,x<n→W x=true→S x=false→∀ y,y<n→S y=true→Y y=true→f (insP (remP S y) x)<cnt S n) (s:∀ i,i<n→S i=true→Y i=false→W i=true) :
  f W=cnt (andP S W) n:=by
 have e:∀ i,i<n→cutP S Y n i=andP S W i:=fun i c=>by
  unfold cutP andP;rw [decide_eq_true c,Bool.true_and];cases hs:S i
  ·rfl
  ·cases hy:Y i
   ·rw [s i c hs hy];rfl
   ·cases g:W i
    ·rfl
    ·rw [q i c g] at hy;cases hy
 have u:=h.part (P:=andP S W) (Q:=S) (fun i _ c=>by unfold andP at c;rw [Bool.and_eq_true] at c;exact c.1) m;have o:=h.closed (andP S W) W (fun x j g=>by
  cases hs:S x
  ·have k:=Yx4 h m j (p x j g hs) (r x j g hs) n (le_refl _)
   rw [h.ext (P:=cutP S Y n) (Q:=andP S W) e,h.ext (P:=insP (cutP S Y n) x) (Q:=insP (andP S W) x) fun i c=>by
    by_cases d:i=x
    ·rw [d,X9_,X9_]
    ·rw [X4_ d,X4_ d,e i c]] at k
   exact k
  ·rw [G1_ (by unfold andP;rw [hs,g];rfl)]) n (le_refl _)
 rw [G2_ h] at o;have d:orP (andP S W) W=W:=by
  funext i
  unfold orP andP;cases W i<;>simp
 rw [d] at o;omega
end
def Near (adj:List (List Int)) (dst:List Int):Nat→Int→Prop
 | 0,x=>x∈dst
 | n+1,x=>Near adj dst n x∨∃ y∈adj.getD x.toNat [],Near adj dst n y
section
variable {adj:List (List Int)} {dst:List Int}
theorem D9_ {x:Int} {n:Nat}:∀ {m:Nat},n≤m→Near adj dst n x→Near adj dst m x
 | 0,h,hn=>by rw [show n=0 by omega] at hn;exact hn
 | m+1,h,hn=>by
  by_cases e:n=m+1
  ·rw [← e];exact hn
  ·exact .inl (D9_ (m:=m) j29_ hn)
inductive Greedy (adj:List (List Int)) (dst:List Int):List Int→Nat→List Int→Prop
 | stop (S:List Int) (x:Int):x∈S→x∈dst→(∀ y∈S,y<x→y∉dst)→Greedy adj dst S 0 [x]
 | step (S:List Int) (x:Int) (n:Nat) (l:List Int):x∈S→Near adj dst (n+1) x→(∀ y∈S,¬ Near adj dst n y)→(∀ y∈S,y<x→¬ Near adj dst (n+1) y)→Greedy adj dst (adj.getD x.toNat []) n l→Greedy adj dst S (n+1) (x :: l)
theorem Greedy.length {S:List Int} {n:Nat} {l:List Int} (h:Greedy adj dst S n l):l.length=n+1:=by
 induction h with
 | stop=>rfl
 | step _ _ _ _ _ _ _ _ _ ih=>rw [List.length_cons,ih]
theorem Greedy.unique {S:List Int} {n:Nat} {l:List Int} (h:Greedy adj dst S n l):∀ {m:Nat} {k:List Int},Greedy adj dst S m k→l=k:=by
 induction h with
 | stop S x hx hd hl =>
  intro m k c;cases c with
  | stop _ y hy hdy hly =>
   have d:=hl y hy;have e:=hly x hx;rcases Int.lt_trichotomy x y with h | h | h
   ·exact absurd hd (e h)
   ·rw [h]
   ·exact absurd hdy (d h)
  | step _ y n l hy hn hno _ _=>exact absurd (D9_ (Nat.zero_le n) hd) (hno x hx)
 | step S x n l hx hn hno hl _ ih =>
  intro m k c;cases c with
  | stop _ y hy hdy hly=>exact absurd (D9_ (Nat.zero_le n) hdy) (hno y hy)
  | step _ y n' l' hy hn' hno' hl' hg' =>
   have f:n=n':=by
    rcases Nat.lt_trichotomy n n' with h | h | h
    ·exact absurd (D9_ j29_ hn) (hno' x hx)
    ·exact h
    ·exact absurd (D9_ j29_ hn') (hno y hy)
   subst f;have g:x=y:=by
    rcases Int.lt_trichotomy x y with h | h | h
    ·exact absurd hn (hl' x hx h)
    ·exact h
    ·exact absurd hn' (hl y hy h)
   subst g;rw [ih hg']
theorem Greedy.mem {S:List Int} {n:Nat} {x:Int} {l:List Int} (h:Greedy adj dst S n (x :: l)):x∈S:=by cases h<;>assumption
theorem Greedy.near {S:List Int} {n:Nat} {l:List Int} (h:Greedy adj dst S n l):∀ k,k<l.length→Near adj dst (n - k) (l.getD k 0):=by
 induction h with
 | stop S x hx hd hl =>
  intro k c;have:k=0:=by simpa using c
  subst this;exact hd
 | step S x n l hx hn hno hl hg ih =>
  intro k c;cases k with
  | zero=>exact hn
  | succ k =>
   have:=ih k (by simpa using c);rw [List.getD_cons_succ,show n+1 - (k+1)=n - k by omega];exact this
theorem Greedy.none {S:List Int} {n:Nat} {l:List Int} (h:Greedy adj dst S n l):∀ y∈S,∀ m,m<n→¬ Near adj dst m y:=by
 cases h with
 | stop=>intro y _ m c;omega
 | step _ x n l hx hn hno hl hg=>exact fun y d m c h=>hno y d (D9_ j29_ h)
theorem Greedy.straight {S:List Int} {n:Nat} {l:List Int} (h:Greedy adj dst S n l):∀ i k,i+2≤k→k<l.length→l.getD k 0∉adj.getD (l.getD i 0).toNat []:=by
 induction h with
 | stop S x hx hd hl =>
  intro i k g e;have:k<1:=e;omega
 | step S x n l hx hn hno hl hg ih =>
  intro i k g e d;obtain ⟨c,rfl⟩:∃ c,k=c+1:=⟨k - 1,j29_⟩;rw [List.getD_cons_succ] at d;have f:c<l.length:=by simpa using e
  have j:=hg.length;cases i with
  | zero =>
   rw [List.getD_cons_zero] at d;exact hg.none _ d (n - c) j29_ (hg.near c f)
  | succ i =>
   rw [List.getD_cons_succ] at d;exact ih i c j29_ f d
end
section
variable {adj:List (List Int)} {dst:List Int}
theorem Greedy.first {S:List Int} {n:Nat} {l:List Int} (h:Greedy adj dst S n l):l.getD 0 0∈S:=by cases h<;>simpa
theorem Greedy.arcs {S:List Int} {n:Nat} {l:List Int} (h:Greedy adj dst S n l):∀ i,i+1<l.length→l.getD (i+1) 0∈adj.getD (l.getD i 0).toNat []:=by
 induction h with
 | stop=>intro i hi;simp at hi
 | step S x n l hx hn hno hl hg ih =>
  intro i hi;cases i with
  | zero =>
   rw [List.getD_cons_succ,List.getD_cons_zero];exact hg.first
  | succ i =>
   rw [List.getD_cons_succ,List.getD_cons_succ];exact ih i z36_
theorem Greedy.last {S:List Int} {n:Nat} {l:List Int} (h:Greedy adj dst S n l):l.getD n 0∈dst:=by
 have c:=h.near n (by rw [h.length];omega);rw [Nat.sub_self] at c;exact c
theorem Greedy.notFirst {S:List Int} {n:Nat} {l:List Int} (h:Greedy adj dst S n l):∀ i,0<i→i<l.length→l.getD i 0∉S:=fun i e d c=>by
 have:=h.length;exact h.none _ c (n - i) j29_ (h.near i d)
theorem Greedy.notLast {S:List Int} {n:Nat} {l:List Int} (h:Greedy adj dst S n l):∀ i,i<n→l.getD i 0∉dst:=by
 induction h with
 | stop=>intro i c;omega
 | step S x n l hx hn hno hl hg ih =>
  intro i c hd;cases i with
  | zero =>
   rw [List.getD_cons_zero] at hd;exact hno x hx (D9_ (n:=0) j29_ hd)
  | succ i =>
   rw [List.getD_cons_succ] at hd;exact ih i j29_ hd
theorem Greedy.inj {S:List Int} {n:Nat} {l:List Int} (h:Greedy adj dst S n l):∀ i j,i<j→j<l.length→l.getD i 0≠l.getD j 0:=fun i j d g e=>by
 have hl:=h.length;by_cases f:j=n
 ·subst f
  exact h.notLast i d (by rw [e];exact h.last)
 ·have c:=h.arcs j j29_
  rw [← e] at c;exact h.straight i (j+1) j29_ j29_ c
end
open Go Go.RowKit
noncomputable def K8_ (m:Mat) (s:List Int) (x y:Int):Bool:=hasB s y && (!hasB s x && indT m (Y7_ (Z4_ s [y]) [x]))
noncomputable def arcsG (a b:Mat) (s:List Int) (p:Int):List Int:=(upTo (nN a)).filter fun q=>K8_ a s q p || K8_ b s p q
noncomputable def adjG (a b:Mat) (s:List Int):List (List Int):=(upTo (nN a)).map (arcsG a b s)
noncomputable def addG (m:Mat) (s:List Int):List Int:=(upTo (nN m)).filter fun x=>!hasB s x && indT m (Y7_ s [x])
def turnL (s l:List Int):List Int:=if mayB s=true∧(sortL l).length=l.length then Y7_ (Z4_ s (sortL l)) (Z4_ (sortL l) s) else []
structure Common (a b:Mat) (s:List Int):Prop where
 n:a.n=b.n
 ia:indT a s=true
 ib:indT b s=true
theorem mem_upTo {k:Nat} {x:Int}:x∈upTo k↔0≤x∧x<(k:Int):=by
 unfold upTo;rw [List.mem_map];constructor
 ·rintro ⟨i,c,rfl⟩
  rw [List.mem_range] at c;exact ⟨by show (0:Int)≤(i:Int);omega,by show (i:Int)<_;omega⟩
 ·rintro ⟨d,e⟩
  exact ⟨x.toNat,List.mem_range.2 j29_,by show ((x.toNat:Nat):Int)=x;omega⟩
theorem Zd8 {s:List Int} {x:Nat} (hs:IsSet s):hasB s (x:Int)=memP s x:=by
 rw [Bool.eq_iff_iff,D2_ hs,memP_iff]
section
variable {m:Mat} {s:List Int}
theorem Zx0 {n x:Nat} (d:n≤64) (e:x<n):InN n [(x:Int)]:=⟨⟨x30_,fun z c=>by rw [List.mem_singleton.1 c];exact ⟨j29_,j29_⟩⟩,fun z c=>by rw [List.mem_singleton.1 c];omega⟩
theorem Zk6 (j:indT m s=true) {x y:Nat} (hx:x<nN m) (hy:y<nN m):K8_ m s x y=true↔memP s y=true∧memP s x=false∧rkP 4 m (insP (remP (memP s) y) x)=cnt (memP s) (nN m):=by
 obtain ⟨hc,c⟩:=mayI_iff.1 (V3_ j);have h:=(Z7_ hc).2;have d:=Zx0 h hx;have f:=Zx0 h hy;have g:InN (nN m) (Y7_ (Z4_ s [(y:Int)]) [(x:Int)]):=A3_ (Zz0 c f) d;have e:memP (Y7_ (Z4_ s [(y:Int)]) [(x:Int)])=insP (remP (memP s) y) x:=by
  funext i
  rw [Bool.eq_iff_iff,memP_iff,Q9_ (V8_ _ _) d.1,Y3_ c.1 f.1];unfold insP remP;rw [Bool.or_eq_true,Bool.and_eq_true,beq_iff_eq,Bool.not_eq_true',memP_iff];simp only [List.mem_singleton,beq_eq_false_iff_ne,Int.natCast_inj,ne_eq];exact Or.comm
 unfold K8_;rw [Bool.and_eq_true,Bool.and_eq_true,Bool.not_eq_true',Zd8 c.1,Zd8 c.1,C9_ (mayI_iff.2 ⟨hc,g⟩),V6_ g,e];constructor
 ·exact z11_
 ·exact z11_
theorem M3_ (h:indT m s=true) {x:Nat}:(x:Int)∈addG m s↔x<nN m∧memP s x=false∧rkP 4 m (insP (memP s) x)=cnt (memP s) (nN m)+1:=by
 obtain ⟨hc,c⟩:=mayI_iff.1 (V3_ h);have g:=(Z7_ hc).2;unfold addG;rw [List.mem_filter,mem_upTo];constructor
 ·rintro ⟨⟨_,f⟩,d⟩
  have e:x<nN m:=j29_;have h3:=Zx0 g e;rw [Bool.and_eq_true,Bool.not_eq_true',Zd8 c.1,C9_ (mayI_iff.2 ⟨hc,A3_ c h3⟩),V6_ (A3_ c h3),P7_ c.1 h3.1,Yx3 j29_,Int.toNat_natCast] at d;rw [Q4_ e d.1] at d;exact ⟨e,d.1,d.2⟩
 ·rintro ⟨e,f,d⟩
  have h3:=Zx0 g e;refine ⟨⟨j29_,j29_⟩,?_⟩;rw [Bool.and_eq_true,Bool.not_eq_true',Zd8 c.1,C9_ (mayI_iff.2 ⟨hc,A3_ c h3⟩),V6_ (A3_ c h3),P7_ c.1 h3.1,Yx3 j29_,Int.toNat_natCast,Q4_ e f];exact ⟨f,d⟩
theorem R0_ (c:indT m s=true):rkP 4 m (memP s)=cnt (memP s) (nN m):=by
 obtain ⟨hc,d⟩:=mayI_iff.1 (V3_ c);rw [← V6_ d];exact (C9_ (V3_ c)).1 c
end
section
variable {a b:Mat} {s:List Int}
theorem Common.nn (h:Common a b s):nN b=nN a:=by unfold nN;rw [h.n]
theorem Ys9 {x:Nat} (c:x<nN a):(adjG a b s).getD x []=arcsG a b s (x:Int):=by
 unfold adjG upTo;simp [List.getD,c]
theorem E0_:(adjG a b s).length=nN a:=by unfold adjG;rw [List.length_map,A9_]
theorem M4_ (h:Common a b s) {x y:Nat} (c:x<nN a) (d:y<nN a):(y:Int)∈(adjG a b s).getD x [] ↔
  (memP s x=true∧memP s y=false∧rkP 4 a (insP (remP (memP s) x) y)=cnt (memP s) (nN a))∨(memP s y=true∧memP s x=false∧rkP 4 b (insP (remP (memP s) y) x)=cnt (memP s) (nN a)):=by
 rw [Ys9 c];unfold arcsG;rw [List.mem_filter,mem_upTo,Bool.or_eq_true,Zk6 h.ia d c,Zk6 h.ib (by rw [h.nn];exact c) (by rw [h.nn];exact d),h.nn];exact ⟨fun h=>h.2,fun h=>⟨⟨j29_,j29_⟩,h⟩⟩
theorem Vv7 {x:Nat} (d:x<nN a) {y:Int} (c:y∈(adjG a b s).getD x []):0≤y∧y<(nN a:Int):=by
 rw [Ys9 d] at c;exact mem_upTo.1 (List.mem_filter.1 c).1
theorem Xc8 {l:List Int} (d:l.Nodup) (c:∀ x∈l,Fit x):(sortL l).length=l.length:=by
 refine ((List.perm_ext_iff_of_nodup ((Q8_ l).1.imp fun h e=>by omega) d).2 fun x=>?_).length_eq;rw [B5_];exact ⟨fun h=>h.1,fun h=>⟨h,c x h⟩⟩
theorem Zk7 (h:Common a b s) {d:Nat} {l:List Int} (r:Greedy (adjG a b s) (addG b s) (addG a s) d l):(turnL s l).length=s.length+1∧indT a (turnL s l)=true∧indT b (turnL s l)=true∧InN (nN a) (turnL s l):=by
 obtain ⟨F,w⟩:=mayI_iff.1 (V3_ h.ia);obtain ⟨O,_⟩:=mayI_iff.1 (V3_ h.ib);have hn:=(Z7_ F).2;have x8:=r.length;have L:=rk_of F;have A:=rk_of O;rw [h.nn] at A;have Z:=R0_ h.ia;have M:=R0_ h.ib;rw [h.nn] at M;have K:∀ i,i<l.length→0≤l.getD i 0∧l.getD i 0<(nN a:Int):=by
  intro i
  induction i with
  | zero=>intro _;exact mem_upTo.1 (List.mem_filter.1 r.first).1
  | succ i ih =>
   intro c;have v:=ih j29_;have h1:=r.arcs i c;exact Vv7 j29_ h1
 obtain ⟨p,hp⟩:∃ p:Nat→Nat,∀ i,p i=(l.getD i 0).toNat:=⟨_,fun _=>rfl⟩;have q:∀ i,i<l.length→l.getD i 0=(p i:Int):=fun i c=>by rw [hp];have:=K i c;omega
 have o:∀ i,i<l.length→p i<nN a:=fun i c=>by have:=K i c;have:=q i c;omega
 have E:∀ i,i+1<l.length→(p (i+1):Int)∈(adjG a b s).getD (p i) []:=fun i c=>by
  have:=r.arcs i c
  rwa [q i j29_,q (i+1) c,Int.toNat_natCast] at this
 have V:∀ i j,i+2≤j→j<l.length→¬ (p j:Int)∈(adjG a b s).getD (p i) []:=fun i j z g=>by
  have:=r.straight i j z g
  rwa [q i j29_,q j g,Int.toNat_natCast] at this
 have J:∀ i,i<l.length→memP s (p i)=decide (i % 2=1):=by
  intro i
  induction i with
  | zero =>
   intro c;have h1:=r.first;rw [q 0 c,M3_ h.ia] at h1;rw [h1.2.1];rfl
  | succ i ih =>
   intro c;have v:=ih j29_;rcases (M4_ h (o i j29_) (o (i+1) c)).1 (E i c) with ⟨h1,h2,_⟩ | ⟨h1,h2,_⟩
   ·rw [h1] at v
    have:=of_decide_eq_true v.symm;rw [h2];exact (decide_eq_false j29_).symm
   ·rw [h2] at v
    have:=of_decide_eq_false v.symm;rw [h1];exact (decide_eq_true j29_).symm
 have H:=r.last;rw [q d j29_,M3_ h.ib,h.nn] at H;have x7:d % 2=0:=by
  have h1:=J d j29_;rw [H.2.1] at h1;have:=of_decide_eq_false h1.symm;omega
 obtain ⟨k,rfl⟩:∃ k,d=2 * k:=⟨d / 2,j29_⟩;have U:∀ i j,i≤2 * k→j≤2 * k→p i=p j→i=j:=fun i j c g e=>by
  rcases Nat.lt_trichotomy i j with I | x0 | I
  ·exact absurd (by rw [q i j29_,q j j29_,e]) (r.inj i j I j29_)
  ·exact x0
  ·exact absurd (by rw [q i j29_,q j j29_,e]) (r.inj j i I j29_)
 have u:∀ i,i≤k→memP s (p (2 * i))=false:=fun i c=>by rw [J _ j29_];exact decide_eq_false j29_
 have hwi:∀ i,i<k→memP s (p (2 * i+1))=true:=fun i c=>by rw [J _ j29_];exact decide_eq_true j29_
 have hz:Zig (nN a) (memP s) p k:=⟨fun i c=>o i j29_,U,u,hwi⟩;have Y:∀ {f:(Nat→Bool)→Nat},Rk (nN a) f→f (memP s)=cnt (memP s) (nN a)→∀ {x:Nat},x<nN a→¬ f (insP (memP s) x)=cnt (memP s) (nN a)+1→f (insP (memP s) x)=f (memP s):=fun hr hs x hx x3=>by
  have u1:=hr.up' (memP s) hx;have u2:=hr.one' (memP s) hx;omega
 have X:∀ {f:(Nat→Bool)→Nat},Rk (nN a) f→∀ {x y:Nat},x<nN a→y<nN a→memP s y=true→memP s x=false→¬ f (insP (remP (memP s) y) x)=cnt (memP s) (nN a)→f (insP (remP (memP s) y) x)<cnt (memP s) (nN a):=fun hr x y hx hy h1 h2 x3=>q12_;have R:=r.first;rw [q 0 j29_,M3_ h.ia] at R;have x4:Straight (nN a) (rkP 4 a) (memP s) p k:=by
  refine ⟨R.2.2,fun i c=>?_,fun i c=>?_,fun i j z g=>?_⟩
  ·refine Y L Z (o _ j29_) fun e=>r.notFirst (2 * i+2) j29_ j29_ ?_
   rw [q _ j29_,M3_ h.ia];exact ⟨o _ j29_,u (i+1) j29_,e⟩
  ·rcases (M4_ h (o (2 * i+1) j29_) (o (2 * i+2) j29_)).1 (E (2 * i+1) j29_) with ⟨_,_,h3⟩ | ⟨h1,_,_⟩
   ·exact h3
   ·have:=u (i+1) j29_
    rw [show 2 * (i+1)=2 * i+2 by omega,h1] at this;cases this
  ·refine X L (o _ j29_) (o _ j29_) (hwi i j29_) (u (j+1) j29_) fun e=>V (2 * i+1) (2 * j+2) j29_ j29_ ?_
   exact (M4_ h (o _ j29_) (o _ j29_)).2 (.inl ⟨hwi i j29_,u (j+1) j29_,e⟩)
 have x6:Zig (nN a) (memP s) (fun i=>p (2 * k - i)) k:=by
  refine ⟨fun i _=>o _ j29_,fun i j c g e=>by have:=U _ _ j29_ j29_ e;omega,fun i c=>?_,fun i c=>?_⟩
  ·show memP s (p (2 * k - 2 * i))=false
   rw [show 2 * k - 2 * i=2 * (k - i) by omega];exact u _ j29_
  ·show memP s (p (2 * k - (2 * i+1)))=true
   exact q19_
 have x5:Straight (nN a) (rkP 4 b) (memP s) (fun i=>p (2 * k - i)) k:=by
  refine ⟨H.2.2,fun i c=>?_,fun i c=>?_,fun i j z g=>?_⟩
  ·show rkP 4 b (insP (memP s) (p (2 * k - (2 * i+2))))=_
   refine Y A M (o _ j29_) fun e=>r.notLast (2 * k - (2 * i+2)) j29_ ?_;rw [q _ j29_,M3_ h.ib,h.nn];refine ⟨o _ j29_,?_,e⟩;rw [show 2 * k - (2 * i+2)=2 * (k - i - 1) by omega];exact u _ j29_
  ·show rkP 4 b (insP (remP (memP s) (p (2 * k - (2 * i+1)))) (p (2 * k - (2 * i+2))))=_
   have e1:2 * k - (2 * i+1)=2 * k - (2 * i+2)+1:=j29_;have v:=E (2 * k - (2 * i+2)) j29_;rw [← e1] at v;rcases (M4_ h (o _ j29_) (o _ j29_)).1 v with ⟨h1,_,_⟩ | ⟨_,_,h3⟩
   ·have:=u (k - i - 1) j29_
    rw [show 2 * (k - i - 1)=2 * k - (2 * i+2) by omega,h1] at this;cases this
   ·exact h3
  ·show rkP 4 b (insP (remP (memP s) (p (2 * k - (2 * i+1)))) (p (2 * k - (2 * j+2))))<_
   have hy:memP s (p (2 * k - (2 * i+1)))=true:=q19_;have hx:memP s (p (2 * k - (2 * j+2)))=false:=by
    rw [show 2 * k - (2 * j+2)=2 * (k - j - 1) by omega];exact u _ j29_
   refine X A (o _ j29_) (o _ j29_) hy hx fun e=>V (2 * k - (2 * j+2)) (2 * k - (2 * i+1)) j29_ j29_ ?_;exact (M4_ h (o _ j29_) (o _ j29_)).2 (.inr ⟨hy,hx,e⟩)
 have ta:=Zk5 L Z hz x4;have tb:=Zk5 A M x6 x5;have x1:∀ i:Nat,(i:Int)∈l↔∃ j,j≤2 * k∧p j=i:=fun i=>by
  constructor
  ·intro c
   obtain ⟨j,g,e⟩:=List.mem_iff_getElem.1 c;have:=q j g;rw [show l.getD j 0=l[j] by simp [List.getD,g],e] at this;exact ⟨j,j29_,j29_⟩
  ·rintro ⟨j,g,e⟩
   rw [← e,← q j j29_];exact D7_ 0 j29_
 have T:∀ x∈l,0≤x∧x<(nN a:Int):=fun x hx=>by
  obtain ⟨j,g,e⟩:=List.mem_iff_getElem.1 hx;have:=K j g
  rwa [show l.getD j 0=l[j] by simp [List.getD,g],e] at this
 have S:∀ x∈l,Fit x:=fun x hx=>by have:=T x hx;exact ⟨j29_,j29_⟩
 have x2:l.Nodup:=by
  rw [List.nodup_iff_pairwise_ne,List.pairwise_iff_getElem];intro i j c g z e;refine r.inj i j z g ?_;simp [List.getD,c,g,e]
 have B:InN (nN a) (sortL l):=⟨Q8_ l,fun x hx=>T x ((B5_ x l).1 hx).1⟩;have W:turnL s l=Y7_ (Z4_ s (sortL l)) (Z4_ (sortL l) s):=by
  unfold turnL;rw [if_pos ⟨E9_ w.1,Xc8 x2 S⟩]
 have C:InN (nN a) (turnL s l):=by rw [W];exact A3_ (Zz0 w B) (Zz0 B w)
 have hany:∀ i:Nat,((List.range (2 * k+1)).any fun j=>p j==i)=true↔(i:Int)∈l:=fun i=>by
  rw [List.any_eq_true,x1];constructor
  ·rintro ⟨j,g,e⟩;rw [List.mem_range] at g;exact ⟨j,j29_,by simpa using e⟩
  ·rintro ⟨j,g,e⟩;exact ⟨j,List.mem_range.2 j29_,by simpa using e⟩
 have eT:∀ i,memP (turnL s l) i=turnP (memP s) p k i:=fun i=>by
  rw [Bool.eq_iff_iff,memP_iff,W,Q9_ (V8_ _ _) (V8_ _ _),Y3_ w.1 B.1,Y3_ B.1 w.1,B5_];unfold turnP;rw [bne_iff_ne];have Q:(i:Int)∈l→Fit (i:Int):=fun h=>S _ h;rw [← memP_iff];cases h1:memP s i<;>cases h2:((List.range (2 * k+1)).any fun j=>p j==i)
  ·exact z17_
  ·have:=(hany i).1 h2
   simp [this,Q this]
  ·exact z17_
  ·have:=(hany i).1 h2
   simp [this,Q this]
 have N:∀ i,i<nN a→turnP (memP s) (fun i=>p (2 * k - i)) k i=turnP (memP s) p k i:=fun i _=>by
  unfold turnP;congr 1;rw [Bool.eq_iff_iff,List.any_eq_true,List.any_eq_true];constructor
  ·rintro ⟨j,g,e⟩;rw [List.mem_range] at g;exact ⟨2 * k - j,List.mem_range.2 j29_,e⟩
  ·rintro ⟨j,g,e⟩
   rw [List.mem_range] at g;refine ⟨2 * k - j,List.mem_range.2 j29_,?_⟩;show (p (2 * k - (2 * k - j))==i)=true;rw [show 2 * k - (2 * k - j)=j by omega];exact e
 rw [A.ext N,Q0_ N] at tb;have D:memP (turnL s l)=turnP (memP s) p k:=funext eT;have G:(turnL s l).length=s.length+1:=by rw [V6_ C,V6_ w,D];exact ta.2
 refine ⟨G,?_,?_,C⟩
 ·rw [C9_ (mayI_iff.2 ⟨F,C⟩),D,G,V6_ w]
  exact ta.1
 ·rw [C9_ (m:=b) (mayI_iff.2 ⟨O,by rw [h.nn];exact C⟩),D,G,V6_ w]
  exact tb.1
theorem Ye0 (h:Common a b s) {W:List Int} (p:InN (nN a) W) (G:∀ x∈addG a s,x∈W) (v:∀ x:Nat,(x:Int)∈W→∀ y∈(adjG a b s).getD x [],y∈W) (F:∀ x∈W,x∉addG b s) :
  rankT a (Z4_ (allL a.n) W)+rankT b W=(s.length:Int):=by
 obtain ⟨q,C⟩:=mayI_iff.1 (V3_ h.ia);obtain ⟨u,_⟩:=mayI_iff.1 (V3_ h.ib);have j:=chk_n q;have k:=rk_of q;have o:=rk_of u;rw [h.nn] at o;have A:=R0_ h.ia;have r:=R0_ h.ib;rw [h.nn] at r;have z:∀ {f:(Nat→Bool)→Nat},Rk (nN a) f→f (memP s)=cnt (memP s) (nN a)→∀ {x:Nat},x<nN a→¬ f (insP (memP s) x)=cnt (memP s) (nN a)+1→f (insP (memP s) x)=f (memP s):=fun hr hs x hx E=>by
  have H:=hr.up' (memP s) hx;have I:=hr.one' (memP s) hx;omega
 have w:∀ {f:(Nat→Bool)→Nat},Rk (nN a) f→∀ {x y:Nat},x<nN a→y<nN a→memP s y=true→memP s x=false→¬ f (insP (remP (memP s) y) x)=cnt (memP s) (nN a)→f (insP (remP (memP s) y) x)<cnt (memP s) (nN a):=fun hr x y hx hy h1 h2 E=>q12_;have hb:=Zq6 o (Y:=notP (memP W)) (W:=memP W) r (fun i _ c=>by unfold notP;rw [c];rfl)
  (fun x hx c hs=>z o r hx fun e=>F _ (memP_iff.1 c) (by rw [M3_ h.ib,h.nn];exact ⟨hx,hs,e⟩))
  (fun x hx c hs y hy d g=>w o hx hy d hs fun e=>by
   have h1:=v x (memP_iff.1 c) (y:Int) ((M4_ h hx hy).2 (.inr ⟨d,hs,e⟩));unfold notP at g;rw [memP_iff.2 h1] at g;cases g)
  (fun i _ _ hy=>by unfold notP at hy;simpa using hy)
 have ha:=Zq6 k (Y:=memP W) (W:=notP (memP W)) A (fun i _ c=>by unfold notP at c;simpa using c)
  (fun x hx c hs=>z k A hx fun e=>by
   have h1:=G (x:Int) ((M3_ h.ia).2 ⟨hx,hs,e⟩);unfold notP at c;rw [memP_iff.2 h1] at c;cases c)
  (fun x hx c hs y hy d g=>w k hx hy d hs fun e=>by
   have h1:=v y (memP_iff.1 g) (x:Int) ((M4_ h hy hx).2 (.inl ⟨d,hs,e⟩));unfold notP at c;rw [memP_iff.2 h1] at c;cases c)
  (fun i _ _ hy=>by unfold notP;rw [hy];rfl)
 have hO:InN (nN a) (Z4_ (allL a.n) W):=J8_ j.1 j.2 p.1;have B:∀ i,i<nN a→memP (Z4_ (allL a.n) W) i=notP (memP W) i:=fun i D=>N7_ j.1 j.2 p.1 D;rw [C8_ (mayI_iff.2 ⟨q,hO⟩),C8_ (m:=b) (mayI_iff.2 ⟨u,by rw [h.nn];exact p⟩),k.ext B,ha,hb,V6_ C];have hc:=Zk3 (andP (memP s) (notP (memP W))) (andP (memP s) (memP W)) (nN a);rw [Q0_ (P:=orP (andP (memP s) (notP (memP W))) (andP (memP s) (memP W))) (Q:=memP s) (fun i _=>by simp only [orP,andP,notP];cases memP s i<;>cases memP W i<;>rfl),
  Q0_ (P:=andP (andP (memP s) (notP (memP W))) (andP (memP s) (memP W))) (Q:=noneP) (fun i _=>by simp only [andP,notP,noneP];cases memP s i<;>cases memP W i<;>rfl),B3_] at hc
 omega
end
open Go Go.RowKit
def DigP (adj:List (List Int)):Prop:=adj.length≤4096∧∀ x,IsSet (adj.getD x [])∧∀ y∈adj.getD x [],0≤y∧y<(adj.length:Int)
abbrev PtsP (n:Nat) (l:List Int):Prop:=InN n l
def nearK (adj:List (List Int)) (l:List Int):Nat→List Int
 | 0=>l
 | k+1=>Y7_ (nearK adj l k) (adj.getD (l.getD k 0).toNat [])
def nearL (adj:List (List Int)) (l:List Int):List Int:=nearK adj l l.length
def itL (adj:List (List Int)) (l:List Int):Nat→List Int
 | 0=>l
 | k+1=>nearL adj (itL adj l k)
theorem Zk8 {adj:List (List Int)} (l:List Int):∀ k,itL adj (nearL adj l) k=itL adj l (k+1)
 | 0=>rfl
 | k+1=>by
  show nearL adj (itL adj (nearL adj l) k)=nearL adj (itL adj l (k+1));rw [Zk8 l k]
theorem Zd9 {adj:List (List Int)} {l:List Int} {k:Nat} (h:itL adj l (k+1)=itL adj l k):∀ m,itL adj l (k+m)=itL adj l k
 | 0=>rfl
 | m+1=>by
  show nearL adj (itL adj l (k+m))=_;rw [Zd9 h m];exact h
theorem Xr5 {n:Nat} {l:List Int} (h:PtsP n l):l.length≤n:=V1_ h
section
variable {adj:List (List Int)} (hd:DigP adj)
include hd
theorem Zk9 {l:List Int} (hl:PtsP adj.length l):∀ k,k≤l.length→PtsP adj.length (nearK adj l k)∧∀ x,x∈nearK adj l k↔x∈l∨∃ y∈l.take k,x∈adj.getD y.toNat []
 | 0,_=>⟨hl,fun x=>by simp [nearK]⟩
 | k+1,hk=>by
  obtain ⟨d,f⟩:=Zk9 hl k j29_;have e:=Q9_ d.1 (hd.2 (l.getD k 0).toNat).1;have g:l.take (k+1)=l.take k ++ [l.getD k 0]:=by
   rw [List.take_succ_eq_append_getElem (by omega:k<l.length)];simp [List.getD,show k<l.length by omega]
  refine ⟨⟨M7_ _ _,fun x j=>?_⟩,fun x=>?_⟩
  ·rcases (e x).1 j with h | h
   ·exact d.2 x h
   ·exact (hd.2 _).2 x h
  ·show x∈Y7_ (nearK adj l k) (adj.getD (l.getD k 0).toNat [])↔_
   rw [e x,f x,g];constructor
   ·rintro ((h | ⟨y,c,h⟩) | h)
    ·exact .inl h
    ·exact .inr ⟨y,List.mem_append.2 (.inl c),h⟩
    ·exact .inr ⟨_,List.mem_append.2 (.inr (List.mem_singleton.2 rfl)),h⟩
   ·rintro (h | ⟨y,c,h⟩)
    ·exact .inl (.inl h)
    ·rcases List.mem_append.1 c with c | c
     ·exact .inl (.inr ⟨y,c,h⟩)
     ·rw [List.mem_singleton] at c
      rw [c] at h;exact .inr h
theorem I3_ {l:List Int} (hl:PtsP adj.length l):PtsP adj.length (nearL adj l)∧∀ x,x∈nearL adj l↔x∈l∨∃ y∈l,x∈adj.getD y.toNat []:=by
 have:=Zk9 hd hl l.length (le_refl _);rw [List.take_length] at this;exact this
theorem E1_ {l:List Int} (hl:PtsP adj.length l):∀ k,PtsP adj.length (itL adj l k)
 | 0=>hl
 | k+1=>(I3_ hd (E1_ hl k)).1
theorem O6_ {dst:List Int}:∀ k l,PtsP adj.length l→((∃ z∈itL adj l k,z∈dst)↔∃ y∈l,Near adj dst k y)
 | 0,l,_=>Iff.rfl
 | k+1,l,hl=>by
  have d:=I3_ hd hl;rw [← Zk8 l k,O6_ k _ d.1];constructor
  ·rintro ⟨y,c,h⟩
   rcases (d.2 y).1 c with c | ⟨z,e,c⟩
   ·exact ⟨y,c,.inl h⟩
   ·exact ⟨z,e,.inr ⟨y,c,h⟩⟩
  ·rintro ⟨y,c,h | ⟨z,e,h⟩⟩
   ·exact ⟨y,(d.2 y).2 (.inl c),h⟩
   ·exact ⟨z,(d.2 z).2 (.inr ⟨y,c,e⟩),h⟩
theorem Yt0 {l:List Int} (hl:PtsP adj.length l) (k:Nat):∀ x,x∈itL adj l k→x∈itL adj l (k+1):=fun x c=>((I3_ hd (E1_ hd hl k)).2 x).2 (.inl c)
theorem Zl0 {l:List Int} (hl:PtsP adj.length l):∀ k,(∀ m,m<k→itL adj l (m+1)≠itL adj l m)→k≤(itL adj l k).length
 | 0,_=>Nat.zero_le _
 | k+1,h=>by
  have r:=Zl0 hl k fun m d=>h m j29_;have e:=E1_ hd hl k;have c:=E1_ hd hl (k+1);rw [V6_ e] at r;rw [V6_ c];by_cases f:∃ y,y<adj.length∧memP (itL adj l k) y=false∧memP (itL adj l (k+1)) y=true
  ·have:=Zu6 (p:=memP (itL adj l k)) (q:=memP (itL adj l (k+1))) (n:=adj.length) (fun v _ o=>memP_iff.2 (Yt0 hd hl k _ (memP_iff.1 o))) f
   omega
  ·exfalso
   refine h k j29_ (IsSet.ext c.1 e.1 fun x=>⟨fun g=>?_,Yt0 hd hl k x⟩);have hb:=c.2 x g;have j:((x.toNat:Nat):Int)=x:=j29_;cases d:memP (itL adj l k) x.toNat
   ·exact absurd ⟨x.toNat,j29_,d,memP_iff.2 (by rw [j];exact g)⟩ f
   ·have:=memP_iff.1 d
    rwa [j] at this
theorem Yt1 {l:List Int} (hl:PtsP adj.length l):∀ m,itL adj l (adj.length+m)=itL adj l adj.length:=by
 by_cases h:∃ k,k≤adj.length∧itL adj l (k+1)=itL adj l k
 ·obtain ⟨k,f,e⟩:=h
  intro m;have c:=Zd9 e (adj.length+m - k);have d:=Zd9 e (adj.length - k);rw [show k+(adj.length+m - k)=adj.length+m by omega] at c;rw [show k+(adj.length - k)=adj.length by omega] at d;rw [c,d]
 ·exfalso
  have c:=Zl0 hd hl (adj.length+1) fun m g e=>h ⟨m,j29_,e⟩;have d:=Xr5 (E1_ hd hl (adj.length+1));omega
theorem Zq7 {l:List Int} (hl:PtsP adj.length l) {x y:Int} (c:x∈itL adj l adj.length) (d:y∈adj.getD x.toNat []):y∈itL adj l adj.length:=by
 have h:=((I3_ hd (E1_ hd hl adj.length)).2 y).2 (.inr ⟨x,c,d⟩);have e:itL adj l (adj.length+1)=itL adj l adj.length:=Yt1 hd hl 1;rw [← e];exact h
theorem Zs2 {l:List Int} (hl:PtsP adj.length l):∀ k x,x∈l→x∈itL adj l k
 | 0,_,h=>h
 | k+1,x,h=>Yt0 hd hl k x (Zs2 hl k x h)
theorem Zs3 {dst:List Int} {v:Int} (h:0≤v∧v<(adj.length:Int)) {k:Nat} (f:Near adj dst k v):∃ m,m≤adj.length∧m≤k∧Near adj dst m v:=by
 by_cases g:k≤adj.length
 ·exact ⟨k,g,le_refl _,f⟩
 ·have hl:PtsP adj.length [v]:=⟨⟨x30_,fun y c=>by rw [List.mem_singleton] at c;have:=hd.1;rw [c];exact ⟨j29_,j29_⟩⟩,fun y c=>by rw [List.mem_singleton] at c;rw [c];exact h⟩
  have d:=(O6_ hd (dst:=dst) k [v] hl).2 ⟨v,x30_,f⟩;rw [show k=adj.length+(k - adj.length) by omega,Yt1 hd hl] at d;obtain ⟨y,c,e⟩:=(O6_ hd (dst:=dst) adj.length [v] hl).1 d;rw [List.mem_singleton] at c;rw [c] at e;exact ⟨adj.length,le_refl _,j29_,e⟩
end
section
variable {adj:List (List Int)} {dst S:List Int} {i:Nat} {b s:Int}
end
open Go Go.RowKit
theorem U1_ {k:Nat} (h:k≤64):IsSet (upTo k):=by
 by_cases c:k=0
 ·subst c;exact V7_
 ·rw [← Yh6 j29_ j29_]
  exact J9_ _
section
variable {a b m:Mat} {s:List Int}
theorem A6_ (c:nN m≤64):InN (nN m) (addG m s):=⟨(U1_ c).filter _,fun _ d=>mem_upTo.1 (List.mem_filter.1 d).1⟩
theorem Xr6 {x:Nat} (c:nN a≤x):(adjG a b s).getD x []=[]:=by
 rw [List.getD_eq_getElem?_getD,List.getElem?_eq_none (by rw [E0_];exact c)];rfl
theorem Ze0 (d:nN a≤64):DigP (adjG a b s):=by
 refine ⟨by rw [E0_];omega,fun x=>?_⟩;by_cases e:x<nN a
 ·rw [Ys9 e,E0_]
  exact ⟨(U1_ d).filter _,fun y c=>mem_upTo.1 (List.mem_filter.1 c).1⟩
 ·rw [Xr6 j29_]
  exact ⟨V7_,fun y c=>by cases c⟩
theorem Common.n64 (h:Common a b s):nN a≤64:=(Z7_ (mayI_iff.1 (V3_ h.ia)).1).2
theorem Common.set (h:Common a b s):InN (nN a) s:=(mayI_iff.1 (V3_ h.ia)).2
theorem Ye1 (h:Common a b s) (g:meetL (itL (adjG a b s) (addG a s) (adjG a b s).length) (addG b s)=[]) :
  InN (nN a) (itL (adjG a b s) (addG a s) (adjG a b s).length)∧rankT a (Z4_ (allL a.n) (itL (adjG a b s) (addG a s) (adjG a b s).length))+rankT b (itL (adjG a b s) (addG a s) (adjG a b s).length)=(s.length:Int):=by
 have hd:=Ze0 (b:=b) (s:=s) h.n64;have d:PtsP (adjG a b s).length (addG a s):=by rw [E0_];exact A6_ h.n64
 have f:=E1_ hd d (adjG a b s).length;have c:InN (nN a) (itL (adjG a b s) (addG a s) (adjG a b s).length):=by rw [E0_] at f ⊢;exact f
 refine ⟨c,Ye0 h c (Zs2 hd d _) (fun x e y j=>Zq7 hd d e (by rw [Int.toNat_natCast];exact j)) fun x e hb=>?_⟩;have hB:IsSet (addG b s):=(A6_ (by rw [h.nn];exact h.n64)).1;have:=(Zt9 c.1 hB x).2 ⟨e,hb⟩;rw [g] at this;cases this
theorem Xr7 {l:List Int} (hs:IsSet s) (hl:(sortL l).length=l.length):turnL s l=Y7_ (Z4_ s (sortL l)) (Z4_ (sortL l) s):=if_pos ⟨E9_ hs,hl⟩
theorem Xc9 (s l:List Int):IsSet (turnL s l):=by
 unfold turnL;split
 ·exact M7_ _ _
 ·exact V7_
theorem Xd0 {l:List Int} (hs:IsSet s) (hl:(sortL l).length=l.length) (x:Int):x∈turnL s l↔(x∈s∧x∉sortL l)∨(x∈sortL l∧x∉s):=by
 rw [Xr7 hs hl,Q9_ (V8_ _ _) (V8_ _ _),Y3_ hs (Q8_ l),Y3_ (Q8_ l) hs]
theorem Ye2 {x:Int} (c:IsSet [x]):Y7_ [] [x]=[x]:=IsSet.ext (M7_ _ _) c fun y=>by rw [Q9_ V7_ c];simp
theorem Xd1 (hc:chk m=0) {x:Nat} (f:x<nN m):hasB (addG m []) (x:Int)=indT m [(x:Int)]:=by
 have c:=(Z7_ hc).2;have d:=Zx0 c f;have e:hasB [] (x:Int)=false:=by
  rw [← Bool.not_eq_true,D2_ V7_];simp
 rw [Bool.eq_iff_iff,D2_ (A6_ c).1];unfold addG;rw [List.mem_filter,mem_upTo,e,Ye2 d.1];simp;omega
theorem Yt2 (hs:IsSet s):turnL [] s=s:=by
 have hl:(sortL s).length=s.length:=by rw [Zt7 hs]
 refine IsSet.ext (Xc9 _ _) hs fun x=>?_;rw [Xd0 V7_ hl,Zt7 hs];simp
end
inductive Chain (a b:Mat):Nat→List Int→Prop
 | zero:Chain a b 0 []
 | succ {k:Nat} {s l:List Int} {n:Nat} {x:Int}:Chain a b k s→Greedy (adjG a b s) (addG b s) (addG a s) n (x :: l)→Chain a b (k+1) (turnL s (x :: l))
def Stop (a b:Mat) (s:List Int):Prop:=∀ y∈addG a s,∀ k,¬ Near (adjG a b s) (addG b s) k y
noncomputable def comeL (a b:Mat) (s:List Int):List Int:=itL (adjG a b s) (addG a s) (adjG a b s).length
noncomputable def upL (a b:Mat) (s:List Int):List Int:=Z4_ (allL a.n) (comeL a b s)
structure MaxIs (a b:Mat) (s u:List Int):Prop where
 ch:∃ k,Chain a b k s
 stop:Stop a b s
 up:u=upL a b s
section
variable {a b:Mat} {s t u v:List Int}
theorem Ye3 (ha:chk a=0) (hb:chk b=0) (c:a.n=b.n):Common a b []:=⟨c,Ys7 ha,Ys7 hb⟩
theorem I4_ (ha:chk a=0) (hb:chk b=0) (c:a.n=b.n) {k:Nat} (h:Chain a b k s):Common a b s∧s.length=k:=by
 induction h with
 | zero=>exact ⟨Ye3 ha hb c,rfl⟩
 | succ _ hg ih =>
  obtain ⟨e,d,f,_⟩:=Zk7 ih.1 hg;exact ⟨⟨c,d,f⟩,by rw [e,ih.2]⟩
theorem Zl1 {k:Nat} (h:Chain a b k s):∀ {t:List Int},Chain a b k t→s=t:=by
 induction h with
 | zero=>intro t c;cases c;rfl
 | succ _ hg ih =>
  intro t c;cases c with
  | succ hc hg2 =>
   have e:=ih hc;subst e;rw [hg.unique hg2]
theorem Zs4 (h:Common a b s):InN (nN a) (comeL a b s):=by
 have hd:=Ze0 (b:=b) (s:=s) h.n64;have d:PtsP (adjG a b s).length (addG a s):=by rw [E0_];exact A6_ h.n64
 have c:=E1_ hd d (adjG a b s).length;unfold comeL;rw [E0_] at c ⊢;exact c
theorem Yt3 (h:Common a b s) (hs:Stop a b s):rankT a (upL a b s)+rankT b (comeL a b s)=(s.length:Int):=by
 have hd:=Ze0 (b:=b) (s:=s) h.n64;have f:PtsP (adjG a b s).length (addG a s):=by rw [E0_];exact A6_ h.n64
 refine (Ye1 h ?_).2;refine List.eq_nil_iff_forall_not_mem.2 fun x g=>?_;obtain ⟨c,d⟩:=(Zt9 (Zs4 h).1 (A6_ (by rw [h.nn];exact h.n64)).1 x).1 g;obtain ⟨y,j,e⟩:=(O6_ hd _ _ f).1 ⟨x,c,d⟩;exact hs y j _ e
theorem Yt4 {n:Int} (e:0≤n) (g:n≤64) {w:List Int} (d:InN n.toNat w):Z4_ (allL n) (Z4_ (allL n) w)=w:=by
 refine IsSet.ext (V8_ _ _) d.1 fun x=>?_;rw [Y3_ (J9_ n) (V8_ _ _),Y3_ (J9_ n) d.1,A0_ e j29_];constructor
 ·rintro ⟨f,h3⟩
  exact Classical.byContradiction fun c=>h3 ⟨f,c⟩
 ·intro c
  have:=d.2 x c;exact ⟨⟨j29_,j29_⟩,fun h=>h.2 c⟩
noncomputable def Zl2 (a b:Mat) (u:List Int):Int:=rankT a u+rankT b (Z4_ (allL a.n) u)
theorem E2_ (ha:chk a=0) (hb:chk b=0) (f:a.n=b.n) (h:MaxIs a b s u):Common a b s∧InN (nN a) u∧Zl2 a b u=(s.length:Int):=by
 obtain ⟨k,e⟩:=h.ch;obtain ⟨hc,_⟩:=I4_ ha hb f e;have c:=chk_n ha;have d:=Zs4 hc;refine ⟨hc,by rw [h.up];exact J8_ c.1 c.2 d.1,?_⟩;unfold Zl2;rw [h.up,show Z4_ (allL a.n) (upL a b s)=comeL a b s from Yt4 c.1 c.2 d];exact Yt3 hc h.stop
theorem Zl3 {m:Mat} {Q:Nat→Bool} (g:indT m t=true):cnt (andP (memP t) Q) (nN m)≤rkP 4 m Q:=by
 obtain ⟨hc,p⟩:=mayI_iff.1 (V3_ g);have c:=rk_of hc;have e:=R0_ g;have j:=c.submod (andP (memP t) Q) (andP (memP t) (notP Q));have o:=c.le_cnt (andP (memP t) (notP Q));have h3:=c.mono (P:=andP (memP t) Q) (Q:=Q) (fun i _ h=>by unfold andP at h;simp at h;exact h.2);have k:=Zk3 (andP (memP t) Q) (andP (memP t) (notP Q)) (nN m);have d:∀ i,i<nN m→orP (andP (memP t) Q) (andP (memP t) (notP Q)) i=memP t i:=fun i _=>by simp only [orP,andP,notP];cases memP t i<;>cases Q i<;>rfl
 have f:∀ i,i<nN m→andP (andP (memP t) Q) (andP (memP t) (notP Q)) i=noneP i:=fun i _=>by simp only [andP,notP,noneP];cases memP t i<;>cases Q i<;>rfl
 rw [c.ext d,c.ext f,c.zero] at j;rw [Q0_ d,Q0_ f,B3_] at k;omega
theorem Zl4 (h:Common a b t) (e:InN (nN a) u):(t.length:Int)≤Zl2 a b u:=by
 obtain ⟨g,q⟩:=mayI_iff.1 (V3_ h.ia);obtain ⟨r,_⟩:=mayI_iff.1 (V3_ h.ib);have d:=chk_n g;have hO:InN (nN a) (Z4_ (allL a.n) u):=J8_ d.1 d.2 e.1;have s:=Zl3 (Q:=memP u) h.ia;have o:=Zl3 (Q:=memP (Z4_ (allL a.n) u)) h.ib;rw [h.nn] at o;have p:=Zk3 (andP (memP t) (memP u)) (andP (memP t) (memP (Z4_ (allL a.n) u))) (nN a);have f:∀ i,i<nN a→memP (Z4_ (allL a.n) u) i=notP (memP u) i:=fun i c=>N7_ d.1 d.2 e.1 c;have j:∀ i,i<nN a→orP (andP (memP t) (memP u)) (andP (memP t) (memP (Z4_ (allL a.n) u))) i=memP t i:=fun i c=>by
  simp only [orP,andP];rw [f i c];simp only [notP];cases memP t i<;>cases memP u i<;>rfl
 have k:∀ i,i<nN a→andP (andP (memP t) (memP u)) (andP (memP t) (memP (Z4_ (allL a.n) u))) i=noneP i:=fun i c=>by
  simp only [andP,noneP];rw [f i c];simp only [notP];cases memP t i<;>cases memP u i<;>rfl
 rw [Q0_ j,Q0_ k,B3_] at p;unfold Zl2;rw [C8_ (mayI_iff.2 ⟨g,e⟩),C8_ (m:=b) (mayI_iff.2 ⟨r,by rw [h.nn];exact hO⟩),V6_ q];omega
theorem S3_ (ha:chk a=0) (hb:chk b=0) (c:a.n=b.n) (h:MaxIs a b s u) (d:Common a b t):t.length≤s.length:=by
 obtain ⟨_,f,e⟩:=E2_ ha hb c h;have:=Zl4 d f;omega
theorem Ye4 (d:indT a s=true):(s.length:Int)≤rankT a (allL a.n):=by
 obtain ⟨hc,e⟩:=mayI_iff.1 (V3_ d);have c:=chk_n hc;rw [C8_ (mayI_iff.2 ⟨hc,Zp0 c.1 c.2⟩),V6_ e,← R0_ d];have:=(rk_of hc).mono (P:=memP s) (Q:=memP (allL a.n)) (fun i f _=>Yz5 c.1 c.2 f);omega
end
end Go.Proofs.YtnbcaibflhgdoaaGreatDoor.Wp
namespace Go.Proofs.YtnbcaibflhgdoaaGreatDoor.Wp.R
open K (updI Q3_)
structure Dig (adj:List (List Int)):Prop where
 up:∀ x,(adj.getD x []).Pairwise (·<·)
 pt:∀ x,∀ y∈adj.getD x [],0≤y∧y<(adj.length:Int)
structure Pts (n:Nat) (l:List Int):Prop where
 up:l.Pairwise (·<·)
 pt:∀ y∈l,0≤y∧y<(n:Int)
def cAt (come:List Int) (j:Nat):Int:=come.getD j 0
def Z8_ (adj:List (List Int)) (come:List Int) (j:Nat):List Int:=adj.getD (cAt come j).toNat []
theorem G8_ {come:List Int} {q:Int} {j:Nat} (h:j<come.length):cAt (come ++ [q]) j=cAt come j:=by
 unfold cAt;rw [List.getD_eq_getElem?_getD,List.getElem?_append_left h,← List.getD_eq_getElem?_getD]
theorem Zs5 {come:List Int} {q:Int}:cAt (come ++ [q]) come.length=q:=by
 unfold cAt;rw [List.getD_eq_getElem?_getD,List.getElem?_append_right (le_refl _)];simp
theorem C2_ {come:List Int} {j:Nat} (h:j<come.length):cAt come j∈come:=by
 unfold cAt;rw [show come.getD j 0=come[j] by simp [List.getD,h]];exact List.getElem_mem h
theorem Zx1 {come:List Int} {x:Int} (h:x∈come):∃ j,j<come.length∧cAt come j=x:=by
 obtain ⟨j,c,e⟩:=List.mem_iff_getElem.1 h;exact ⟨j,c,by unfold cAt;rw [← e];simp [List.getD,c]⟩
structure Bfs (adj:List (List Int)) (src:List Int) (come:List Int) (ah:Nat→Int) (par:Nat→Nat) (i k:Nat):Prop where
 nodup:come.Nodup
 pt:∀ x∈come,0≤x∧x<(adj.length:Int)
 new:∀ x:Nat,x<adj.length→(ah x=-1↔(x:Int)∉come)
 pre:∃ rest,come=src ++ rest
 start:∀ j,j<src.length→ah (cAt come j).toNat=-2
 old:∀ j,src.length≤j→j<come.length→par j<j∧par j≤i∧ah (cAt come j).toNat=cAt come (par j)∧cAt come j∈Z8_ adj come (par j)∧(par j=i→cAt come j∈(Z8_ adj come i).take k)
 first:∀ j,src.length≤j→j<come.length→∀ m,m<par j→cAt come j∉Z8_ adj come m
 mono:∀ j l,src.length≤j→j<l→l<come.length→par j≤par l∧(par j=par l→cAt come j<cAt come l)
 closed:∀ m,m<i→m<come.length→∀ x∈Z8_ adj come m,x∈come
 some_:i<come.length→∀ x∈(Z8_ adj come i).take k,x∈come
section
variable {adj:List (List Int)} {src come:List Int} {ah:Nat→Int} {par:Nat→Nat} {i k:Nat}
theorem Yt5 (hs:Pts adj.length src) (ha:∀ x:Nat,ah x=if (x:Int)∈src then -2 else -1):Bfs adj src src ah (fun _=>0) 0 0:=by
 refine ⟨hs.up.imp fun o e=>by omega,hs.pt,fun x _=>?_,⟨[],x30_⟩,fun j g=>?_,fun j c d=>by omega,fun j c d=>by omega,fun j l c d h3=>by omega,fun m f=>by omega,fun _ x k=>by simp at k⟩
 ·rw [ha]
  split
  ·rename_i h
   exact ⟨fun e=>by omega,fun e=>absurd h e⟩
  ·rename_i h
   exact ⟨fun _=>h,fun _=>rfl⟩
 ·have f:=C2_ g
  have:=hs.pt _ f;rw [ha,if_pos]
  rwa [Int.toNat_of_nonneg this.1]
theorem Bfs.skip (h:Bfs adj src come ah par i k) (r:i<come.length) (q:Nat) (g:(Z8_ adj come i)[k]?=some (q:Int)) (y:q<adj.length) (ha:ah q≠-1):Bfs adj src come ah par i (k+1):=by
 have u:k<(Z8_ adj come i).length:=(List.getElem?_eq_some_iff.1 g).1;have m:(Z8_ adj come i).take (k+1)=(Z8_ adj come i).take k ++ [(q:Int)]:=by
  rw [List.take_succ_eq_append_getElem u,(List.getElem?_eq_some_iff.1 g).2]
 have s:(q:Int)∈come:=Classical.byContradiction fun v=>ha ((h.new q y).2 v);refine ⟨h.nodup,h.pt,h.new,h.pre,h.start,fun j o p=>?_,h.first,h.mono,h.closed,fun _ x f=>?_⟩
 ·obtain ⟨a,b,c,d,e⟩:=h.old j o p
  exact ⟨a,b,c,d,fun w=>by rw [m];exact List.mem_append.2 (.inl (e w))⟩
 ·rw [m,List.mem_append,List.mem_singleton] at f
  rcases f with f | f
  ·exact h.some_ r x f
  ·rw [f];exact s
theorem G9_ {come:List Int} {q:Int} {m:Nat} (h:m<come.length):Z8_ adj (come ++ [q]) m=Z8_ adj come m:=by unfold Z8_;rw [G8_ h]
theorem Bfs.visit (hd:Dig adj) (h:Bfs adj src come ah par i k) (s:i<come.length) (q:Nat) (u:(Z8_ adj come i)[k]?=some (q:Int)) (I:q<adj.length) (ha:ah q=-1) :
  Bfs adj src (come ++ [(q:Int)]) (updI ah q (cAt come i)) (fun j=>if j=come.length then i else par j) i (k+1):=by
 have B:k<(Z8_ adj come i).length:=(List.getElem?_eq_some_iff.1 u).1;have z:(Z8_ adj come i).take (k+1)=(Z8_ adj come i).take k ++ [(q:Int)]:=by
  rw [List.take_succ_eq_append_getElem B,(List.getElem?_eq_some_iff.1 u).2]
 have w:(q:Int)∉come:=(h.new q I).1 ha;have H:(q:Int)∈Z8_ adj come i:=List.mem_iff_getElem?.2 ⟨k,u⟩;have G:∀ x∈come,x.toNat≠q:=fun x f e=>w (by
  have:=(h.pt x f).1;rw [show (q:Int)=x by omega];exact f)
 have A:∀ x∈come,updI ah q (cAt come i) x.toNat=ah x.toNat:=fun x f=>if_neg (G x f);obtain ⟨rest,E⟩:=h.pre;have K:src.length≤come.length:=by rw [E,List.length_append];omega
 have v:∀ {j},j<(come ++ [(q:Int)]).length→j<come.length∨j=come.length:=fun {j} g=>by rw [List.length_append] at g;simp at g;omega
 refine ⟨?_,fun x f=>?_,fun x f=>?_,⟨rest ++ [(q:Int)],by rw [E,List.append_assoc]⟩,fun j g=>?_,fun j p r=>?_,fun j p r m o=>?_,fun j l p r h3=>?_,fun m o J x f=>?_,fun _ x f=>?_⟩
 ·rw [List.nodup_append]
  refine ⟨h.nodup,x30_,fun a ha b hb e=>w ?_⟩;rw [List.mem_singleton] at hb;rw [← hb,← e];exact ha
 ·rw [List.mem_append,List.mem_singleton] at f
  rcases f with f | f
  ·exact h.pt x f
  ·rw [f];omega
 ·rw [List.mem_append,List.mem_singleton,not_or]
  by_cases e:x=q
  ·subst e
   rw [show updI ah x (cAt come i) x=cAt come i from if_pos rfl];have:=(h.pt _ (C2_ s)).1;exact ⟨fun hc=>by omega,fun hc=>absurd rfl hc.2⟩
  ·rw [show updI ah q (cAt come i) x=ah x from if_neg e,h.new x f]
   exact ⟨fun hc=>⟨hc,j29_⟩,fun hc=>hc.1⟩
 ·rw [G8_ j29_,A _ (C2_ j29_)]
  exact h.start j g
 ·rcases v r with g | g
  ·rw [if_neg j29_,G8_ g,A _ (C2_ g)]
   obtain ⟨a,b,c,d,e⟩:=h.old j p g;rw [G8_ j29_,G9_ j29_];refine ⟨a,b,c,d,fun y=>?_⟩;rw [G9_ s,z];exact List.mem_append.2 (.inl (e y))
  ·subst g
   rw [if_pos rfl,Zs5,G8_ s,G9_ s];refine ⟨s,le_refl _,?_,H,fun _=>?_⟩
   ·rw [Int.toNat_natCast]
    exact if_pos rfl
   ·rw [z]
    exact List.mem_append.2 (.inr x30_)
 ·rcases v r with g | g
  ·rw [if_neg j29_] at o
   have:=(h.old j p g).1;rw [G8_ g,G9_ j29_];exact h.first j p g m o
  ·subst g
   rw [if_pos rfl] at o;rw [Zs5,G9_ j29_];exact fun f=>w (h.closed m o j29_ _ f)
 ·rcases v h3 with hl | hl
  ·rw [if_neg j29_,if_neg j29_,G8_ j29_,G8_ hl]
   exact h.mono j l p r hl
  ·subst hl
   rw [if_neg j29_,if_pos rfl,G8_ r,Zs5];obtain ⟨_,b,_,_,e⟩:=h.old j p r;refine ⟨b,fun y=>?_⟩;have o:=e y;obtain ⟨m,F,C⟩:=List.mem_iff_getElem.1 o;rw [List.length_take] at F;rw [List.getElem_take] at C;have:=List.pairwise_iff_getElem.1 (hd.up (cAt come i).toNat) m k (by show m<(Z8_ adj come i).length;omega) B j29_;rw [← C,← (List.getElem?_eq_some_iff.1 u).2];exact this
 ·have D:m<come.length:=by omega
  rw [G9_ D] at f;exact List.mem_append.2 (.inl (h.closed m o D x f))
 ·rw [G9_ s,z,List.mem_append,List.mem_singleton] at f
  rcases f with f | f
  ·exact List.mem_append.2 (.inl (h.some_ s x f))
  ·rw [f];exact List.mem_append.2 (.inr x30_)
theorem Bfs.next (h:Bfs adj src come ah par i k) (o:(Z8_ adj come i).length≤k):Bfs adj src come ah par (i+1) 0:=by
 refine ⟨h.nodup,h.pt,h.new,h.pre,h.start,fun j h1 h2=>?_,h.first,h.mono,fun m p g x f=>?_,fun _ x f=>by simp at f⟩
 ·exact x17_
 ·by_cases e:m=i
  ·subst e
   exact h.some_ g x (by rw [List.take_of_length_le o];exact f)
  ·exact h.closed m j29_ g x f
theorem Bfs.len (h:Bfs adj src come ah par i k):come.length≤adj.length:=by
 have:=Q3_ (b:=(List.range adj.length).map Int.ofNat) h.nodup fun x c=>by
  have:=h.pt x c;exact y10_
 simpa using this
def Done (adj:List (List Int)) (src come:List Int) (ah:Nat→Int) (par:Nat→Nat):Prop:=Bfs adj src come ah par come.length 0
theorem Done.closed (h:Done adj src come ah par) {x y:Int} (d:x∈come) (e:y∈adj.getD x.toNat []):y∈come:=by
 obtain ⟨j,c,rfl⟩:=Zx1 d;exact Bfs.closed h j c c y e
theorem Done.has (h:Done adj src come ah par) {x:Int} (c:x∈src):x∈come:=by
 obtain ⟨rest,e⟩:=Bfs.pre h;rw [e];exact List.mem_append.2 (.inl c)
theorem Done.least (h:Done adj src come ah par) (S:Int→Prop) (f:∀ x∈src,S x) (g:∀ x y,x∈come→S x→y∈adj.getD x.toNat []→S y):∀ x∈come,S x:=by
 have p:∀ m j,j<m→j<come.length→S (cAt come j):=by
  intro m
  induction m with
  | zero=>intro j c;omega
  | succ m ih =>
   intro j c k;obtain ⟨rest,e⟩:=Bfs.pre h;by_cases hs:j<src.length
   ·refine f _ ?_
    have:cAt come j=cAt src j:=by
     unfold cAt;rw [e,List.getD_eq_getElem?_getD,List.getElem?_append_left hs,← List.getD_eq_getElem?_getD]
    rw [this];exact C2_ hs
   ·obtain ⟨a,_,_,d,_⟩:=Bfs.old h j j29_ k
    exact g _ _ (C2_ j29_) (ih _ j29_ j29_) d
 intro x o;obtain ⟨j,c,rfl⟩:=Zx1 o;exact p (j+1) j j29_ c
inductive Way (come:List Int) (par:Nat→Nat) (ns:Nat):Nat→List Int→Prop
 | start (j:Nat):j<ns→Way come par ns j [cAt come j]
 | next (j:Nat) (l:List Int):ns≤j→Way come par ns (par j) l→Way come par ns j (l ++ [cAt come j])
theorem Vv8 (h:Done adj src come ah par):∀ j,j<come.length→∃ l,Way come par src.length j l:=by
 have e:∀ m j,j<m→j<come.length→∃ l,Way come par src.length j l:=by
  intro m
  induction m with
  | zero=>intro j c;omega
  | succ m ih =>
   intro j c d;by_cases hs:j<src.length
   ·exact ⟨_,.start j hs⟩
   ·obtain ⟨a,_⟩:=Bfs.old h j j29_ d
    obtain ⟨l,hl⟩:=ih (par j) j29_ j29_;exact ⟨_,.next j l j29_ hl⟩
 exact fun j c=>e (j+1) j j29_ c
end
end Go.Proofs.YtnbcaibflhgdoaaGreatDoor.Wp.R
namespace Go.Proofs.YtnbcaibflhgdoaaGreatDoor.Wp.R
open K (updI Q3_)
def Zq8 (p:Int) (st:List Int × (Nat→Int)) (q:Int):List Int × (Nat→Int):=if st.2 q.toNat=-1 then (st.1 ++ [q],updI st.2 q.toNat p) else st
def J7_ (adj:List (List Int)) (st:List Int × (Nat→Int)) (i k:Nat):List Int × (Nat→Int):=((Z8_ adj st.1 i).take k).foldl (Zq8 (cAt st.1 i)) st
def stepS (adj:List (List Int)) (st:List Int × (Nat→Int)) (i:Nat):List Int × (Nat→Int):=if i<st.1.length then J7_ adj st i (Z8_ adj st.1 i).length else st
def Vv9 (src:List Int):List Int × (Nat→Int):=(src,fun x=>if (x:Int)∈src then -2 else -1)
def runS (adj:List (List Int)) (src:List Int):Nat→List Int × (Nat→Int)
 | 0=>Vv9 src
 | i+1=>stepS adj (runS adj src i) i
def finS (adj:List (List Int)) (src:List Int):List Int × (Nat→Int):=runS adj src adj.length
section
variable {adj:List (List Int)} {src:List Int} {st:List Int × (Nat→Int)} {i k:Nat}
theorem Ye5:J7_ adj st i 0=st:=rfl
theorem Zq9 (h:k<(Z8_ adj st.1 i).length):J7_ adj st i (k+1)=Zq8 (cAt st.1 i) (J7_ adj st i k) ((Z8_ adj st.1 i).getD k 0):=by
 unfold J7_;rw [List.take_succ_eq_append_getElem h,List.foldl_append];rw [show (Z8_ adj st.1 i).getD k 0=(Z8_ adj st.1 i)[k] by simp [List.getD,h]];rfl
theorem Zx2 (hd:Dig adj) (par:Nat→Nat) (hi:i<st.1.length) (h:Bfs adj src st.1 st.2 par i 0):∀ k,k≤(Z8_ adj st.1 i).length→(∃ rest,(J7_ adj st i k).1=st.1 ++ rest)∧∃ d,Bfs adj src (J7_ adj st i k).1 (J7_ adj st i k).2 d i k
 | 0,_=>⟨⟨[],by simp [Ye5]⟩,par,h⟩
 | k+1,hk=>by
  obtain ⟨⟨rest,hr⟩,d,hb⟩:=Zx2 hd par hi h k j29_;have c:k<(Z8_ adj st.1 i).length:=j29_;have f:i<(J7_ adj st i k).1.length:=by rw [hr,List.length_append];omega
  have hc:cAt (J7_ adj st i k).1 i=cAt st.1 i:=z16_;have ha:Z8_ adj (J7_ adj st i k).1 i=Z8_ adj st.1 i:=by unfold Z8_;rw [hc]
  have m:(Z8_ adj st.1 i)[k]∈Z8_ adj st.1 i:=List.getElem_mem c;have o:=hd.pt _ _ m;obtain ⟨q,g⟩:∃ q:Nat,(Z8_ adj st.1 i)[k]=(q:Int):=⟨(Z8_ adj st.1 i)[k].toNat,j29_⟩;have j:(Z8_ adj (J7_ adj st i k).1 i)[k]?=some (q:Int):=by rw [ha,List.getElem?_eq_getElem c,g]
  rw [Zq9 c,show (Z8_ adj st.1 i).getD k 0=(q:Int) by rw [← g];simp [List.getD,c]];unfold Zq8;rw [Int.toNat_natCast];split
  ·rename_i e
   have:=hb.visit hd f q j j29_ e;rw [hc] at this;exact ⟨⟨rest ++ [(q:Int)],by rw [hr,List.append_assoc]⟩,_,this⟩
  ·rename_i e
   exact ⟨⟨rest,hr⟩,d,hb.skip f q j j29_ e⟩
theorem Xd2 (hd:Dig adj) (par:Nat→Nat) (h:Bfs adj src st.1 st.2 par i 0):∃ f,Bfs adj src (stepS adj st i).1 (stepS adj st i).2 f (i+1) 0:=by
 unfold stepS;split
 ·rename_i hi
  obtain ⟨⟨rest,hr⟩,f,hb⟩:=Zx2 hd par hi h (Z8_ adj st.1 i).length (le_refl _);refine ⟨f,hb.next ?_⟩;have hc:cAt (J7_ adj st i (Z8_ adj st.1 i).length).1 i=cAt st.1 i:=z16_;unfold Z8_ at hb ⊢;rw [show adj.getD (cAt st.1 i).toNat []=Z8_ adj st.1 i from rfl] at *
  rw [hc];exact le_refl _
 ·rename_i hi
  refine ⟨par,h.nodup,h.pt,h.new,h.pre,h.start,fun j h1 h2=>?_,h.first,h.mono,fun m k g=>?_,fun h1=>by omega⟩
  ·exact x17_
  ·exact h.closed m j29_ g
theorem Zs6 (hd:Dig adj) (hs:Pts adj.length src):∀ i,∃ par,Bfs adj src (runS adj src i).1 (runS adj src i).2 par i 0
 | 0=>⟨fun _=>0,Yt5 hs fun _=>rfl⟩
 | i+1=>by
  obtain ⟨par,h⟩:=Zs6 hd hs i;exact Xd2 hd par h
theorem fin_done (hd:Dig adj) (hs:Pts adj.length src):∃ par,Done adj src (finS adj src).1 (finS adj src).2 par:=by
 obtain ⟨par,h⟩:=Zs6 hd hs adj.length;have hl:=h.len;refine ⟨par,h.nodup,h.pt,h.new,h.pre,h.start,fun j f g=>?_,h.first,h.mono,fun m k o=>h.closed m (by unfold finS at k;omega) o,fun f=>by omega⟩;obtain ⟨a,b,c,d,e⟩:=h.old j f g;unfold finS at *
 exact ⟨a,j29_,c,d,fun p=>by omega⟩
theorem Yx5 (hl:(runS adj src i).1.length≤i):∀ m,i≤m→runS adj src m=runS adj src i
 | 0,h=>by
  have:i=0:=j29_;rw [this]
 | m+1,h=>by
  by_cases e:i=m+1
  ·rw [e]
  ·have c:=Yx5 hl m j29_
   show stepS adj (runS adj src m) m=_;rw [c];unfold stepS;rw [if_neg j29_]
end
end Go.Proofs.YtnbcaibflhgdoaaGreatDoor.Wp.R
namespace Go.Proofs.YtnbcaibflhgdoaaGreatDoor.Wp.R
section
variable {adj:List (List Int)} {src come:List Int} {ah:Nat→Int} {par:Nat→Nat}
theorem Yt6 (h:Done adj src come ah par) {j:Nat} (c:j<src.length):cAt come j∈src:=by
 obtain ⟨rest,e⟩:=Bfs.pre h;have:cAt come j=cAt src j:=by
  unfold cAt;rw [e,List.getD_eq_getElem?_getD,List.getElem?_append_left c,← List.getD_eq_getElem?_getD]
 rw [this];exact C2_ c
structure WayF (adj:List (List Int)) (src come:List Int) (j:Nat) (l:List Int):Prop where
 pos:0<l.length
 last:l.getD (l.length - 1) 0=cAt come j
 head:l.getD 0 0∈src
 each:∀ i,i<l.length→∃ m,m≤j∧l.getD i 0=cAt come m∧(i+1<l.length→m<j)∧(0<i→src.length≤m)
 arc:∀ i,i+1<l.length→l.getD (i+1) 0∈adj.getD (l.getD i 0).toNat []
end
end Go.Proofs.YtnbcaibflhgdoaaGreatDoor.Wp.R
namespace Go.Proofs.YtnbcaibflhgdoaaGreatDoor.Wp.R
inductive Lev (par:Nat→Nat) (ns:Nat):Nat→Nat→Prop
 | z (j:Nat):j<ns→Lev par ns j 0
 | s (j k:Nat):ns≤j→Lev par ns (par j) k→Lev par ns j (k+1)
section
variable {adj:List (List Int)} {src dst come:List Int} {ah:Nat→Int} {par:Nat→Nat}
theorem Xg9 (h:Done adj src come ah par):∀ j,j<come.length→∃ k,Lev par src.length j k:=by
 have f:∀ m j,j<m→j<come.length→∃ k,Lev par src.length j k:=by
  intro m
  induction m with
  | zero=>intro j c;omega
  | succ m ih =>
   intro j c d;by_cases hs:j<src.length
   ·exact ⟨0,.z j hs⟩
   ·obtain ⟨a,_⟩:=Bfs.old h j j29_ d
    obtain ⟨k,e⟩:=ih (par j) j29_ j29_;exact ⟨k+1,.s j k j29_ e⟩
 exact fun j c=>f (j+1) j j29_ c
theorem U2_ (h:Done adj src come ah par):∀ {i a:Nat},Lev par src.length i a→∀ {j b:Nat},Lev par src.length j b→i≤j→j<come.length→a≤b:=by
 intro i a d
 induction d with
 | z=>intros;omega
 | s i k hs hk ih =>
  intro j b f m c;cases f with
  | z _ hz=>omega
  | s _ b' hs' hb =>
   obtain ⟨o,_⟩:=Bfs.old h j hs' c;have g:par i≤par j:=by
    by_cases e:i=j
    ·rw [e];exact le_refl _
    ·exact ((Bfs.mono h i j hs j29_ c).1)
   have:=ih hb g j29_;omega
theorem Yx6 (h:Done adj src come ah par) {i a b:Nat} (e:i<come.length) (c:Lev par src.length i a) (d:Lev par src.length i b):a=b :=
 Nat.le_antisymm (U2_ h c d (le_refl _) e) (U2_ h d c (le_refl _) e)
theorem Zs7 (h:Done adj src come ah par) {i a:Nat} (d:i<come.length) (ha:Lev par src.length i a) {y:Int} (g:y∈adj.getD (cAt come i).toNat []) :
  ∃ m b,m<come.length∧cAt come m=y∧Lev par src.length m b∧b≤a+1∧(src.length≤m→par m≤i):=by
 obtain ⟨m,c,e⟩:=Zx1 (h.closed (C2_ d) g);obtain ⟨b,hb⟩:=Xg9 h m c;have f:src.length≤m→par m≤i:=fun hs=>by
  refine Nat.le_of_not_lt fun j=>?_;exact Bfs.first h m hs c i j (by rw [e];exact g)
 refine ⟨m,b,c,e,hb,?_,f⟩;cases hb with
 | z=>omega
 | s _ b' hs hb' =>
  have:=U2_ h hb' ha (f hs) d;omega
theorem Ze1 (h:Done adj src come ah par) {j D:Nat} (f:∀ i,i<j→cAt come i∉dst) (d:Lev par src.length j D):∀ (n i a:Nat),i<come.length→Lev par src.length i a→Near adj dst n (cAt come i)→D≤a+n
 | 0,i,a,hi,ha,c=>by
  have g:j≤i:=Nat.le_of_not_lt fun k=>f i k c;exact U2_ h d ha g hi
 | n+1,i,a,hi,ha,c=>by
  rcases c with c | ⟨y,p,c⟩
  ·have:=Ze1 h f d n i a hi ha c
   omega
  ·obtain ⟨m,b,o,e,hb,q,_⟩:=Zs7 h hi ha p
   rw [← e] at c;have:=Ze1 h f d n m b o hb c;omega
theorem Zl5 (h:Done adj src come ah par) (hs:src.Pairwise (·<·)) {i m:Nat} (c:i<src.length) (f:m<src.length) (j:cAt come m<cAt come i):m<i:=by
 obtain ⟨rest,e⟩:=Bfs.pre h;have g:∀ k,k<src.length→∀ d:k<src.length,cAt come k=src[k]:=fun k d _=>by
  unfold cAt;rw [e,List.getD_eq_getElem?_getD,List.getElem?_append_left d,List.getElem?_eq_getElem d];rfl
 rw [g m f f,g i c c] at j;refine Nat.lt_of_not_le fun o=>?_;by_cases e:i=m
 ·subst e;omega
 ·have:=List.pairwise_iff_getElem.1 hs i m c f j29_
  omega
def NoE (adj:List (List Int)) (dst come:List Int) (par:Nat→Nat) (ns i k n:Nat):Prop:=∀ m,m<i→Lev par ns m k→¬ Near adj dst n (cAt come m)
theorem Ye6 (h:Done adj src come ah par) (hs:src.Pairwise (·<·)) {j D:Nat} (U:∀ i,i<j→cAt come i∉dst) (R:Lev par src.length j D) {i:Nat} {l:List Int} (I:Way come par src.length i l) :
  i<come.length→∀ k n tail,Lev par src.length i k→k+n=D→Near adj dst n (cAt come i)→NoE adj dst come par src.length i k n→((n=0∧tail=[])∨∃ f,n=f+1∧Greedy adj dst (adj.getD (cAt come i).toNat []) f tail)→Greedy adj dst src D (l ++ tail):=by
 have g:=Ze1 h U R
 induction I with
 | start i his =>
  intro v k n tail w L d hE C;have S:k=0:=Yx6 h v w (.z i his);subst S;have hsm:∀ y∈src,∃ m,m<src.length∧m<come.length∧cAt come m=y:=fun y hy=>by
   obtain ⟨rest,e⟩:=Bfs.pre h;obtain ⟨m,hm,J⟩:=Zx1 hy;refine ⟨m,hm,by rw [e,List.length_append];omega,?_⟩;rw [← J];unfold cAt;rw [e,List.getD_eq_getElem?_getD,List.getElem?_append_left hm,← List.getD_eq_getElem?_getD]
  rcases C with ⟨rfl,rfl⟩ | ⟨f,rfl,u⟩
  ·have:D=0:=by omega
   subst this;refine .stop _ _ (Yt6 h his) d fun y hy hlt=>?_;exact j19_
  ·have:D=f+1:=by omega
   subst this;refine .step _ _ _ _ (Yt6 h his) d (fun y hy hc=>?_) (fun y hy hlt=>?_) u
   ·obtain ⟨m,hm,T,rfl⟩:=hsm y hy
    have:=g _ _ _ T (.z m hm) hc;omega
   ·exact j19_
 | next i l hsi I ih =>
  intro v k n tail w L d hE C;obtain ⟨X,_,_,P,_⟩:=Bfs.old h i hsi v;have B:par i<come.length:=j29_;cases w with
  | z _ hz=>omega
  | s _ k' _ hk' =>
  have r:cAt come i∈adj.getD (cAt come (par i)).toNat []:=P;have O:Near adj dst (n+1) (cAt come (par i)):=.inr ⟨_,r,d⟩;have E:∀ q,q<come.length→Lev par src.length q k'→∀ y∈adj.getD (cAt come q).toNat [],Near adj dst n y→∃ m,m<come.length∧cAt come m=y∧Lev par src.length m (k' + 1)∧src.length≤m∧par m≤q:=fun q F o y hy c=>by
   obtain ⟨m,b,hm,e,hb,x,A⟩:=Zs7 h F o hy;rw [← e] at c;have W:=g n m b hm hb c;have Q:b=k' + 1:=j29_;subst Q;have hsm:src.length≤m:=Nat.le_of_not_lt fun hlt=>by
    have:=Yx6 h hm hb (.z m hlt);omega
   exact ⟨m,hm,e,hb,hsm,A hsm⟩
  have M:NoE adj dst come par src.length (par i) k' (n+1):=fun q F o c=>by
   have G:q<come.length:=j29_;rcases c with c | ⟨y,hy,c⟩
   ·have:=g n q k' G o c
    omega
   ·obtain ⟨m,hm,e,hb,hsm,A⟩:=E q G o y hy c
    rw [← e] at c;refine hE m (Nat.lt_of_not_le fun x=>?_) hb c;by_cases p:i=m
    ·subst p;omega
    ·have:=(Bfs.mono h i m hsi j29_ hm).1
     omega
  have H:∀ y∈adj.getD (cAt come (par i)).toNat [],y<cAt come i→¬ Near adj dst n y:=fun y hy hlt c=>by
   obtain ⟨m,hm,e,hb,hsm,A⟩:=E (par i) B hk' y hy c;rw [← e] at c hlt;refine hE m (Nat.lt_of_not_le fun x=>?_) hb c;by_cases p:i=m
   ·subst p;omega
   ·obtain ⟨V,K⟩:=Bfs.mono h i m hsi j29_ hm
    have:=K j29_;omega
  have N:Greedy adj dst (adj.getD (cAt come (par i)).toNat []) n (cAt come i :: tail):=by
   rcases C with ⟨rfl,rfl⟩ | ⟨f,rfl,u⟩
   ·exact .stop _ _ r d fun y hy hlt hc=>H y hy hlt hc
   ·refine .step _ _ _ _ r d (fun y hy hc=>?_) H u
    obtain ⟨m,b,hm,e,hb,x,_⟩:=Zs7 h B hk' hy;rw [← e] at hc;have:=g f m b hm hb hc;omega
  have:=ih B k' (n+1) (cAt come i :: tail) hk' j29_ O M (.inr ⟨n,rfl,N⟩);rw [List.append_assoc];exact this
theorem greedy_first (h:Done adj src come ah par) (hs:src.Pairwise (·<·)) {j:Nat} (d:j<come.length) (f:cAt come j∈dst) (e:∀ i,i<j→cAt come i∉dst) {l:List Int} (k:Way come par src.length j l):∃ n,Greedy adj dst src n l:=by
 obtain ⟨D,c⟩:=Xg9 h j d;have:=Ye6 h hs e c k d D 0 [] c j29_ f (fun m g _ hc=>e m g hc) (.inl ⟨rfl,rfl⟩);rw [List.append_nil] at this;exact ⟨D,this⟩
end
end Go.Proofs.YtnbcaibflhgdoaaGreatDoor.Wp.R
namespace Go.Proofs.YtnbcaibflhgdoaaGreatDoor.Wp
def sum2 (x y:Mat):Mat:=.mk 9 (x.n+y.n) 0 0 [] [x,y]
def catL (n:Nat) (s t:List Int):List Int:=s ++ t.map fun x=>x+(n:Int)
section
variable {n k:Nat} {s t:List Int}
theorem Yx7 (hs:InN n s) (e:InN k t) (g:n+k≤64):InN (n+k) (catL n s t):=by
 unfold catL;refine ⟨⟨List.pairwise_append.2 ⟨hs.1.1,?_,fun x c y f=>?_⟩,fun x c=>?_⟩,fun x c=>?_⟩
 ·rw [List.pairwise_map]
  exact e.1.1.imp fun h=>by omega
 ·obtain ⟨z,d,rfl⟩:=List.mem_map.1 f
  have:=hs.2 x c;have:=e.2 z d;omega
 ·rcases List.mem_append.1 c with h | h
  ·exact hs.1.2 x h
  ·obtain ⟨z,d,rfl⟩:=List.mem_map.1 h
   have:=e.2 z d;exact ⟨j29_,j29_⟩
 ·rcases List.mem_append.1 c with h | h
  ·have:=hs.2 x h;omega
  ·obtain ⟨z,d,rfl⟩:=List.mem_map.1 h
   have:=e.2 z d;omega
theorem Yt7:(catL n s t).length=s.length+t.length:=by unfold catL;simp
theorem Vj0 (c:InN k t) {i:Nat} (f:i<n):memP (catL n s t) i=memP s i:=by
 rw [Bool.eq_iff_iff,memP_iff,memP_iff];unfold catL;rw [List.mem_append];constructor
 ·rintro (h | h)
  ·exact h
  ·obtain ⟨z,d,e⟩:=List.mem_map.1 h
   have:=c.2 z d;omega
 ·exact .inl
theorem Vj1 (hs:InN n s) {i:Nat}:memP (catL n s t) (n+i)=memP t i:=by
 rw [Bool.eq_iff_iff,memP_iff,memP_iff];unfold catL;rw [List.mem_append];constructor
 ·rintro (h | h)
  ·have:=hs.2 _ h
   omega
  ·obtain ⟨z,d,e⟩:=List.mem_map.1 h
   have c:z=(i:Int):=j29_
   rwa [← c]
 ·intro h
  exact .inr (List.mem_map.2 ⟨_,h,j29_⟩)
end
section
variable {x y a b:Mat} {s t u v p q:List Int}
theorem Yt8 (e:chk x=0) (f:chk y=0) (c:dp 4 x≤3) (d:dp 4 y≤3) (P:Nat→Bool):rkP 4 (sum2 x y) P=rkP 4 x P+rkP 4 y fun i=>P (nN x+i):=by
 rw [rkP_9 (m:=sum2 x y) (by show (9:Int)≤9;omega)];show rkP 3 x P+(rkP 3 y (fun i=>P (nN x+i))+0)=_;rw [Xg8 e c,Xg8 f d,Nat.add_zero]
theorem Xh0 (c:chk x=0) (d:chk y=0):nN (sum2 x y)=nN x+nN y:=by
 have e:=chk_n c;have f:=chk_n d;show (x.n+y.n).toNat=x.n.toNat+y.n.toNat;omega
theorem Zx3 (hc:chk (sum2 x y)=0) (c:chk x=0) (d:chk y=0) (f:dp 4 x≤3) (g:dp 4 y≤3) (hs:InN (nN x) s) (e:InN (nN y) t) :
  rankT (sum2 x y) (catL (nN x) s t)=rankT x s+rankT y t:=by
 have k:=Xh0 c d;have m:=(Z7_ hc).2;have h:InN (nN (sum2 x y)) (catL (nN x) s t):=by rw [k];exact Yx7 hs e j29_
 rw [C8_ (mayI_iff.2 ⟨hc,h⟩),C8_ (mayI_iff.2 ⟨c,hs⟩),C8_ (mayI_iff.2 ⟨d,e⟩),Yt8 c d f g,
  (rk_of c).ext (Q:=memP s) (fun i j=>Vj0 e j),(rk_of d).ext (Q:=memP t) (fun i _=>Vj1 hs)]
 omega
theorem Yx8 (hc:chk (sum2 x y)=0) (g:chk x=0) (h:chk y=0) (d:dp 4 x≤3) (e:dp 4 y≤3) (hs:indT x s=true) (c:indT y t=true):indT (sum2 x y) (catL (nN x) s t)=true:=by
 have f:=Zx3 hc g h d e (mayI_iff.1 (V3_ hs)).2 (mayI_iff.1 (V3_ c)).2;unfold indT at hs c ⊢;rw [decide_eq_true_iff] at hs c ⊢;rw [f,hs,c,Yt7];omega
theorem Xd3 {n k:Nat} {m:Int} (y:m=((n+k:Nat):Int)) (j:n+k≤64) (hs:InN n s) (f:InN k t):Z4_ (allL m) (catL n s t)=catL n (Z4_ (allL (n:Int)) s) (Z4_ (allL (k:Int)) t):=by
 have u:InN n (Z4_ (allL (n:Int)) s):=by have:=J8_ (n:=(n:Int)) j29_ j29_ hs.1;rwa [Int.toNat_natCast] at this
 have v:InN k (Z4_ (allL (k:Int)) t):=by have:=J8_ (n:=(k:Int)) j29_ j29_ f.1;rwa [Int.toNat_natCast] at this
 have q:=Yx7 hs f j;refine IsSet.ext (V8_ _ _) (Yx7 u v j).1 fun x=>?_;rw [Y3_ (J9_ m) q.1,A0_ j29_ j29_];unfold catL;rw [List.mem_append,List.mem_append,List.mem_map,List.mem_map,Y3_ (J9_ _) hs.1,A0_ j29_ j29_];constructor
 ·rintro ⟨d,c⟩
  by_cases r:x<(n:Int)
  ·exact .inl ⟨⟨d.1,r⟩,fun h=>c (.inl h)⟩
  ·refine .inr ⟨x - (n:Int),(Y3_ (J9_ _) f.1 _).2 ⟨(A0_ j29_ j29_ _).2 ⟨j29_,j29_⟩,fun h=>c (.inr ⟨_,h,j29_⟩)⟩,j29_⟩
 ·rintro (⟨d,c⟩ | ⟨z,g,rfl⟩)
  ·refine ⟨⟨d.1,j29_⟩,?_⟩
   rintro (h | ⟨z,g,e⟩)
   ·exact c h
   ·have:=f.2 z g
    omega
  ·obtain ⟨d,c⟩:=(Y3_ (J9_ _) f.1 z).1 g
   rw [A0_ j29_ j29_] at d;refine ⟨⟨j29_,j29_⟩,?_⟩;rintro (h | ⟨w,o,e⟩)
   ·have:=hs.2 _ h
    omega
   ·have p:w=z:=by omega
    rw [p] at o;exact c o
theorem Xd4 {c e d f:Mat} (g:chk c=0) (c1:chk e=0) (c2:chk d=0) (c3:chk f=0) (B:dp 4 c≤3) (C:dp 4 e≤3) (D:dp 4 d≤3) (E:dp 4 f≤3)
  (P:c.n=e.n) (Q:d.n=f.n) (h:chk (sum2 c d)=0) (j:chk (sum2 e f)=0) (hs:MaxIs c e s u) (R:MaxIs d f t v) (G:MaxIs (sum2 c d) (sum2 e f) p q):p.length=s.length+t.length:=by
 have y:(sum2 c d).n=(sum2 e f).n:=by show c.n+d.n=e.n+f.n;omega
 obtain ⟨r,m,H⟩:=E2_ g c1 P hs;obtain ⟨w,o,I⟩:=E2_ c2 c3 Q R;obtain ⟨S,_,_⟩:=E2_ h j y G;have m0:=Z7_ g;have m2:=Z7_ c2;have x:nN e=nN c:=r.nn;have J:nN f=nN d:=w.nn;have N:=Xh0 g c2;have T:=(Z7_ h).2;have U:=(mayI_iff.1 (V3_ r.ia)).2;have V:=(mayI_iff.1 (V3_ w.ia)).2;have L:Common (sum2 c d) (sum2 e f) (catL (nN c) s t):=⟨y,Yx8 h g c2 B D r.ia w.ia,by
  have:=Yx8 j c1 c3 C E r.ib w.ib
  rwa [x] at this⟩
 have M:=S3_ h j y G L;rw [Yt7] at M;have O:InN (nN (sum2 c d)) (catL (nN c) u v):=by rw [N];exact Yx7 m o j29_
 have F:=Zl4 S O;unfold Zl2 at F H I;have K:Z4_ (allL (sum2 c d).n) (catL (nN c) u v)=catL (nN e) (Z4_ (allL c.n) u) (Z4_ (allL d.n) v):=by
  rw [Xd3 (n:=nN c) (k:=nN d) (by show c.n+d.n=_;omega) j29_ m o,m0.1,m2.1,x]
 have z:=chk_n g;have A:=chk_n c2;rw [Zx3 h g c2 B D m o,K,Zx3 j c1 c3 C E (by rw [x];exact J8_ z.1 z.2 m.1) (by rw [J];exact J8_ A.1 A.2 o.1)] at F;omega
end
end Go.Proofs.YtnbcaibflhgdoaaGreatDoor.Wp
namespace Go.Proofs.YtnbcaibflhgdoaaGreatDoor
open Go Go.RowKit
namespace Wp
def ptB (right:Int) (l:List Int):Bool:=mayB l && (decide (l.length=0) || decide (l.getD (l.length - 1) 0<right))
def digB (adj:List (List Int)):Bool:=decide (adj.length≤4096) && adj.all (ptB adj.length)
theorem digB_off {adj:List (List Int)} (h:4096<(adj.length:Int)):digB adj=false:=x19_
theorem digB_miss {adj:List (List Int)} {i:Nat} (hi:i<adj.length) (h:ptB adj.length (adj.getD i [])=false):digB adj=false:=by
 unfold digB;exact y3_
theorem digB_all {adj:List (List Int)} (h3:¬ 4096<(adj.length:Int)) (h:∀ i,i<adj.length→ptB adj.length (adj.getD i [])=true):digB adj=true:=z26_
theorem Xr8 {n:Nat} {l:List Int} (h:ptB n l=true):PtsP n l:=by
 unfold ptB at h;rw [Bool.and_eq_true,mayB_iff] at h;obtain ⟨⟨h1,c⟩,h3⟩:=h;refine ⟨⟨h1,c⟩,fun x hx=>⟨(c x hx).1,?_⟩⟩;exact k3_
theorem digB_dig {adj:List (List Int)} (h:digB adj=true):DigP adj:=by
 unfold digB at h;rw [Bool.and_eq_true,decide_eq_true_iff,List.all_eq_true] at h;refine ⟨h.1,fun x=>?_⟩;rcases Nat.lt_or_ge x adj.length with c | c
 ·rw [show adj.getD x []=adj[x] by simp [List.getD,c]]
  exact Xr8 (h.2 _ (List.getElem_mem c))
 ·rw [List.getD_eq_getElem?_getD,List.getElem?_eq_none c]
  exact ⟨⟨List.Pairwise.nil,fun y d=>by simp at d⟩,fun y d=>by simp at d⟩
section
variable {adj:List (List Int)} (hd:DigP adj)
include hd
end
open Go Go.RowKit
section
variable {adj:List (List Int)} (hd:DigP adj)
include hd
end
structure Rest (adj:List (List Int)) (dst l out:List Int) (x:Int):Prop where
 ex:∃ S m rest,Greedy adj dst S m (x :: rest)∧l=out ++ rest
def Vj2 (adj:List (List Int)) (src dst l:List Int) (b:Bool):Prop:=(b=true∧∃ n,Greedy adj dst src n l)∨(b=false∧l=[]∧∀ y∈src,∀ k,¬ Near adj dst k y)
theorem Ye7 {adj:List (List Int)} {src dst l:List Int} {b:Bool} (hd:DigP adj) (hs:PtsP adj.length src) (h:Vj2 adj src dst l b):l.length≤adj.length+1:=by
 rcases h with ⟨_,n,c⟩ | ⟨_,rfl,_⟩
 ·rw [c.length]
  have d:=c.length;cases l with
  | nil=>simp at d
  | cons x l =>
   have e:=hs.2 x c.mem;obtain ⟨m,f,g,h3⟩:=Zs3 hd e (c.near 0 x30_);have:=Nat.lt_or_ge m n;rcases this with h | h
   ·exact absurd h3 (c.none x c.mem m h)
   ·omega
 ·simp
end Wp
end Go.Proofs.YtnbcaibflhgdoaaGreatDoor
namespace Go.Proofs.YtnbcaibflhgdoaaGreatDoor.Wp
open Go Go.RowKit
end Go.Proofs.YtnbcaibflhgdoaaGreatDoor.Wp
namespace Go.Proofs.YtnbcaibflhgdoaaGreatDoor
open Go Go.RowKit
namespace Wp
theorem Row.nthV {w:World} {B:Nat} {A:Option Addr} {n c:Nat} {l:List Int} (h:Row w B (.slice A n c) l) {k:Nat} (j:k<l.length):∃ d,A=some d∧∀ W,Below B w W→W.cell? (d.add k)=some (.int .i64 (l.getD k 0)):=by
 obtain ⟨m,o,g,_,hc⟩:=h;injection g with e1 e2 e3;subst e1 e2 e3;obtain ⟨d,rfl,hab,f⟩:=hc k j;exact ⟨d,rfl,fun W e=>(e.cell x31_).trans f⟩
open Go Go.RowKit
open Go Go.RowKit
theorem S4_ (n:Int) (k c2 c3 c4 c5 g q:Value) (s:List Int) (w:World) (p:Row w w.heap.size g s) (I:s.length≤1048576) :
  Calls Tryz.prog 43 #[.agg #[k,.int .i64 n,c2,c3,c4,c5,g,q]] w (Gives w (Z4_ (allL n) s)):=by
 obtain ⟨c,hW0⟩:∃ c,c=w.alloc (.cells #[k,.int .i64 n,c2,c3,c4,c5,g,q] 59):=⟨_,rfl⟩;have D:=hid hW0;have m:Below w.heap.size w c:=z35_;have v:Blk c w.heap.size 59 #[k,.int .i64 n,c2,c3,c4,c5,g,q]:=by rw [hW0];exact Blk.new w _ _
 have E:=hid m;have h:=hid v;have j:=hid ((p.up m).up (Below.refl _ c).drew);have H:=C1_ n;have G:Hid (∀ W,Below c.drew.heap.size c.drew W→W.cell? ⟨w.heap.size,1,none⟩=some (.int .i64 n)∧W.cell? ⟨w.heap.size,6,none⟩=some g):=hid fun W r=>⟨(h.out.drew.below r h.out.lt).cell 1,(h.out.drew.below r h.out.lt).cell 6⟩;have d:Hid (Below c.drew.heap.size c.drew c.drew):=hid (Below.refl _ _);obtain ⟨z,cs,rfl,_⟩:=id p;clear hW0 m v p
 go_enter Tryz.func43,Tryz.ntmps43
 go_wp2;rw [← D.out]
 go_region_held3 (fun W=>W.cell? ⟨w.heap.size,1,none⟩=some (.int .i64 n)∧W.cell? ⟨w.heap.size,6,none⟩=some (.slice z s.length cs))
  (exact G.out _ d.out)
  (first
  | (go_at_call 51;refine (F0_ n _).mono ?_;rintro e L ⟨K,rfl,x,o⟩;replace d:=hid (Z0_ d.out (le_refl _) o);replace j:=hid (j.out.up o);have B:=hid x;clear x o)
  | (go_at_call 50;refine (B6_ _ _ (allL n) s _ B.out j.out H I).mono ?_;rintro e M ⟨J,rfl,y,u⟩;replace d:=hid (Z0_ d.out (le_refl _) u);have C:=hid y;clear y u))
 all_goals
  have F:=hid (Z0_ E.out.drew (le_refl _) d.out);go_simp;go_wp2;go_ret;exact ⟨J,rfl,C.out,F.out⟩
theorem Zx4 (E:Nat→Addr) (m:Mat) (h c1 c2 c3 c4 c5 B y J:Value) (s:List Int) (x:Int) (w:World) (I:MatV w w.heap.size (.agg #[h,c1,c2,c3,c4,c5]) m) (hs:Sml m) (u:Row w w.heap.size J s) (U:s.length≤1000) (D:Env E w) :
  Calls Tryz.prog 75 #[.agg #[h,c1,c2,c3,c4,c5,B,y],J,.int .i64 x] w (Says w (indT m (Y7_ s [x]))):=by
 obtain ⟨d,hW0⟩:∃ d,d=w.alloc (.cells #[h,c1,c2,c3,c4,c5,B,y] 59):=⟨_,rfl⟩;have M:=hid hW0;have o:Below w.heap.size w d:=z35_;have G:Blk d w.heap.size 59 #[h,c1,c2,c3,c4,c5,B,y]:=by rw [hW0];exact Blk.new w _ _
 have O:=hid o;have c:=hid G;have p:=(Below.refl d.heap.size d).drew;have K:=hid ((u.up o).up p);have r:=hid ((I.up o).up p);have q:=hid ((D.up o).up p);have Q:=hid hs;have C:Hid (∀ W,Below d.drew.heap.size d.drew W→W.cell? ⟨w.heap.size,0,none⟩=some h∧W.cell? ⟨w.heap.size,1,none⟩=some c1∧W.cell? ⟨w.heap.size,2,none⟩=some c2∧W.cell? ⟨w.heap.size,3,none⟩=some c3∧W.cell? ⟨w.heap.size,4,none⟩=some c4∧W.cell? ⟨w.heap.size,5,none⟩=some c5):=hid fun W j=>⟨(c.out.drew.below j c.out.lt).cell 0,(c.out.drew.below j c.out.lt).cell 1,(c.out.drew.below j c.out.lt).cell 2,(c.out.drew.below j c.out.lt).cell 3,(c.out.drew.below j c.out.lt).cell 4,(c.out.drew.below j c.out.lt).cell 5⟩;have g:Hid (Below d.drew.heap.size d.drew d.drew):=hid (Below.refl _ _);have S:Hid ((Y7_ s [x]).length≤1048576):=hid (by have:=Zf1 s [x];simp only [List.length_cons,List.length_nil] at this;omega);have R:s.length≤1048576:=j29_;obtain ⟨z,v⟩:∃ z,indT m (Y7_ s [x])=z:=⟨_,rfl⟩;have N:=hid v;rw [v];obtain ⟨T,cs,rfl,_⟩:=id u;clear hW0 o G u I D hs p v
 go_enter Tryz.func75,Tryz.ntmps75
 go_wp2;rw [← M.out]
 go_region_held3 (fun W=>W.cell? ⟨w.heap.size,0,none⟩=some h∧W.cell? ⟨w.heap.size,1,none⟩=some c1∧W.cell? ⟨w.heap.size,2,none⟩=some c2∧W.cell? ⟨w.heap.size,3,none⟩=some c3∧W.cell? ⟨w.heap.size,4,none⟩=some c4∧W.cell? ⟨w.heap.size,5,none⟩=some c5)
  (first | exact C.out _ g.out | exact C.out _ (g.out.alloc (le_refl _) _))
  (first
  | (go_at_call 54;refine (Zz8 _ _ s [x] _ (K.out.upA _) (Row.here (Row.lit1 _ x)) R x30_).mono ?_;rintro e X ⟨V,rfl,H,k⟩;replace k:=Z0_ ((Below.refl _ d.drew).alloc (le_refl _) _) (le_refl _) k;replace g:=hid k;replace r:=hid (r.out.up k);replace q:=hid (q.out.up k);have L:=hid H;clear H k)
  | (go_at_call 74;refine (Zy9 E m _ _ _ _ r.out Q.out L.out S.out q.out).mono ?_;rintro e Y ⟨rfl,F⟩;rw [N.out];replace g:=hid (Z0_ g.out (le_refl _) F);clear F))
 all_goals
  have P:=hid (Z0_ O.out.drew (le_refl _) g.out);go_simp;go_wp2;go_ret;exact ⟨rfl,P.out⟩
theorem Zs8 (a b:List Int):(Z4_ a b).length≤a.length:=y20_
theorem S5_ (E:Nat→Addr) (m:Mat) (o c1 c2 c3 c4 c5 I H:Value) (s M:List Int) (x y:Int) (w:World) (Y:MatV w w.heap.size (.agg #[o,c1,c2,c3,c4,c5]) m) (hs:Sml m) (N:Row w w.heap.size I s) (K:Row w w.heap.size H M) (x5:s.length≤64) (x4:M.length≤64) (S:Env E w) :
  Calls Tryz.prog 44 #[.agg #[o,c1,c2,c3,c4,c5,I,H],.int .i64 x,.int .i64 y] w (Says w (hasB M x || indT m (Y7_ (Z4_ s [y]) [x]))):=by
 obtain ⟨g,hW0⟩:∃ g,g=w.alloc (.cells #[o,c1,c2,c3,c4,c5,I,H] 59):=⟨_,rfl⟩;have Q:=hid hW0;have p:Below w.heap.size w g:=z35_;have U:Blk g w.heap.size 59 #[o,c1,c2,c3,c4,c5,I,H]:=by rw [hW0];exact Blk.new w _ _
 have R:=hid p;have c:=hid U;have u:=(Below.refl g.heap.size g).drew;have v:=hid (N.up p);have D:=hid (K.up p);have k:=hid (Y.up p);have j:=hid (S.up p);have Hs:=hid hs;have V:M.length≤1048576:=j29_;have x3:s.length≤1048576:=j29_;have x2:(Z4_ s [y]).length≤1000:=Nat.le_trans (Zs8 _ _) j29_;obtain ⟨J,cs,rfl,_⟩:=id N;obtain ⟨C,G,rfl,_⟩:=id K;obtain ⟨q,L⟩:∃ q,hasB M x=q:=⟨_,rfl⟩;have P:=hid L;obtain ⟨z,O⟩:∃ z,indT m (Y7_ (Z4_ s [y]) [x])=z:=⟨_,rfl⟩;have HZ:=hid O;rw [L,O];clear hW0 p U N K Y S hs O L;cases q
 ·have F:Hid (∀ W,Below g.drew.heap.size g.drew W→W.cell? ⟨w.heap.size,0,none⟩=some o∧W.cell? ⟨w.heap.size,1,none⟩=some c1∧W.cell? ⟨w.heap.size,2,none⟩=some c2∧W.cell? ⟨w.heap.size,3,none⟩=some c3∧W.cell? ⟨w.heap.size,4,none⟩=some c4∧W.cell? ⟨w.heap.size,5,none⟩=some c5∧W.cell? ⟨w.heap.size,6,none⟩=some (.slice J s.length cs)∧W.cell? ⟨w.heap.size,7,none⟩=some (.slice C M.length G)):=hid fun W d=>⟨(c.out.drew.below d c.out.lt).cell 0,(c.out.drew.below d c.out.lt).cell 1,(c.out.drew.below d c.out.lt).cell 2,(c.out.drew.below d c.out.lt).cell 3,(c.out.drew.below d c.out.lt).cell 4,(c.out.drew.below d c.out.lt).cell 5,(c.out.drew.below d c.out.lt).cell 6,(c.out.drew.below d c.out.lt).cell 7⟩
  have h:Hid (Below g.drew.heap.size g.drew g.drew):=hid (Below.refl _ _);replace v:=hid (v.out.up u);replace D:=hid (D.out.up u);replace k:=hid (k.out.up u);replace j:=hid (j.out.up u);clear u;rw [Bool.false_or]
  go_enter Tryz.func44,Tryz.ntmps44
  go_wp2;rw [← Q.out]
  go_region_held3 (fun W=>W.cell? ⟨w.heap.size,0,none⟩=some o∧W.cell? ⟨w.heap.size,1,none⟩=some c1∧W.cell? ⟨w.heap.size,2,none⟩=some c2∧W.cell? ⟨w.heap.size,3,none⟩=some c3∧W.cell? ⟨w.heap.size,4,none⟩=some c4∧W.cell? ⟨w.heap.size,5,none⟩=some c5∧W.cell? ⟨w.heap.size,6,none⟩=some (.slice J s.length cs)∧W.cell? ⟨w.heap.size,7,none⟩=some (.slice C M.length G))
   (first | exact F.out _ h.out | exact F.out _ (h.out.alloc h.out.size _))
   (first
   | (go_at_call 76;refine (Ys1 _ M x _ D.out V).mono ?_;rintro e w1 ⟨rfl,B⟩;rw [P.out];replace h:=hid (Z0_ h.out (le_refl _) B);replace v:=hid (v.out.up B);replace k:=hid (k.out.up B);replace j:=hid (j.out.up B);clear B)
   | (go_at_call 50;refine (B6_ _ _ s [y] _ (v.out.upA _) (Row.here (Row.lit1 _ y)) x3 x30_).mono ?_;rintro e w2 ⟨v2,rfl,X,r⟩;replace r:=Z0_ ((Below.refl _ _).alloc (le_refl _) _) (le_refl _) r;replace k:=hid (k.out.up r);replace j:=hid (j.out.up r);replace h:=hid (Z0_ h.out (le_refl _) r);have Z:=hid X;clear X r)
   | (go_at_call 75;refine (Zx4 E m _ _ _ _ _ _ _ _ _ _ x _ k.out Hs.out Z.out x2 j.out).mono ?_;rintro e w3 ⟨rfl,T⟩;rw [HZ.out];replace h:=hid (Z0_ h.out (le_refl _) T);clear T))
  all_goals
   have x0:=hid (Z0_ R.out.drew (le_refl _) h.out);go_simp;go_wp2;go_ret;exact ⟨rfl,x0.out⟩
 ·have F:Hid (∀ W,Below g.heap.size g W→W.cell? ⟨w.heap.size,0,none⟩=some o∧W.cell? ⟨w.heap.size,1,none⟩=some c1∧W.cell? ⟨w.heap.size,2,none⟩=some c2∧W.cell? ⟨w.heap.size,3,none⟩=some c3∧W.cell? ⟨w.heap.size,4,none⟩=some c4∧W.cell? ⟨w.heap.size,5,none⟩=some c5∧W.cell? ⟨w.heap.size,6,none⟩=some (.slice J s.length cs)∧W.cell? ⟨w.heap.size,7,none⟩=some (.slice C M.length G)):=hid fun W d=>⟨(c.out.below d c.out.lt).cell 0,(c.out.below d c.out.lt).cell 1,(c.out.below d c.out.lt).cell 2,(c.out.below d c.out.lt).cell 3,(c.out.below d c.out.lt).cell 4,(c.out.below d c.out.lt).cell 5,(c.out.below d c.out.lt).cell 6,(c.out.below d c.out.lt).cell 7⟩
  have Hh:Hid (∀ W,Below g.heap.size g W→Calls Tryz.prog 76 #[.slice C M.length G,.int .i64 x] W fun e w'=>e=.returned (.bool true)∧Below g.heap.size g w'):=hid fun W d=>(Ys1 _ M x W (D.out.up d) V).mono fun _ _ ⟨h2,h3⟩=>⟨by rw [h2,P.out],Z0_ d (le_refl _) h3⟩;rw [Bool.true_or];clear u
  go_enter Tryz.func44,Tryz.ntmps44
  go_wp2;rw [← Q.out];refine Z5_ g.heap.size g k29_ k29_ (Below.refl _ _) ?_
  iterate 15 (first
   | go_big_quiet_skip
   | go_big_quiet_step (with_reducible exact Hh.out _)
   | (go_big_quiet_want;apply Exists.intro;refine ⟨fun W d=>?_,?_⟩;(· obtain ⟨k0,k1,k2,k3,k4,k5,k6,k7⟩:=F.out W d;go_simp;first | exact rfl | exact ⟨rfl,rfl⟩);go_simp;go_big_quiet_on))
  refine wpQuiet_nil ?_;intro w7 x1;go_wp2;go_ret;exact ⟨rfl,Z0_ R.out (le_refl _) x1⟩
def O7_ (w:World) (c0 c1 c2 c3 c4 c5 sv:Value) (M:List Int) (e:Ending) (w':World):Prop:=∃ (A:Option Addr) (n c:Nat),e=.returned (.agg #[c0,c1,c2,c3,c4,c5,sv,.slice A n c])∧w'.ownsRow 0 3 1 (.slice A n c) M.length (ints M)∧Below w.heap.size w w'
theorem Row.storeS {w:World} {B:Nat} {v:Value} {l:List Int} (h:Row w B v l) {p:Addr} {A:Option Addr} {n c:Nat} (d:w.cell? p=some (.slice A n c)) (u:Value):Row (w.setCell p u) B v l:=by
 obtain ⟨f,j,r,q,m⟩:=h;refine ⟨f,j,r,q,fun k o=>?_⟩;obtain ⟨g,hA,hB,hc⟩:=m k o;refine ⟨g,hA,hB,?_⟩;rw [World.cell?_setCell_other _ _ _ _ (fun e=>by rw [e,hc] at d;cases d)];exact hc
theorem Y1_ (w:World) (g i:Nat) (u:Value):w.grownBy (w.setCell ⟨g,i,none⟩ u) (some g):=H3_ (World.grownBy.refl w (some g)) (.inl rfl) u
theorem sw_no {a b:Nat} (c:a≤b+1) (d:b+3≤a):False:=j29_
theorem Yt9 {p:Int→Bool} {o:List Int} {k:Nat} (c:k<o.length):(o.take (k+1)).filter p=(o.take k).filter p ++ if p (o.getD k 0)=true then [o.getD k 0] else []:=by
 rw [List.take_succ_eq_append_getElem c,List.filter_append,show o[k]=o.getD k 0 by simp [List.getD,c],List.filter_cons];split<;>rfl
theorem Za0 (E:Nat→Addr) (m:Mat) (d c:Option Addr) (r j q g:Nat) (sv:Value) (s:List Int) (w:World) (hv:MatV w w.heap.size (.agg #[.int .i64 m.t,.int .i64 m.n,.int .i64 m.a,.int .i64 m.b,.slice d r j,.slice c q g]) m) (hs:Sml m) (hr:Row w w.heap.size sv s) (yi:s.length≤64) (xy:(Z4_ (allL m.n) s).length≤64) (hE:Env E w) :
  Calls Tryz.prog 42 #[.agg #[.int .i64 m.t,.int .i64 m.n,.int .i64 m.a,.int .i64 m.b,.slice d r j,.slice c q g],sv] w (O7_ w (.int .i64 m.t) (.int .i64 m.n) (.int .i64 m.a) (.int .i64 m.b) (.slice d r j) (.slice c q g) sv ((Z4_ (allL m.n) s).filter fun x=>indT m (Y7_ s [x]))):=by
 have xm:=hv;obtain ⟨z,cs,yd,_⟩:=id hr;subst yd;obtain ⟨o,X⟩:∃ o,Z4_ (allL m.n) s=o:=⟨_,rfl⟩;obtain ⟨p,hp⟩:∃ p:Int→Bool,p=fun x=>indT m (Y7_ s [x]):=⟨_,rfl⟩;rw [← hp,X];rw [X] at xy;have HO:=hid X;have HP:=hid hp;obtain ⟨K,M⟩:∃ K,K=((w.alloc (.cells #[.int .i64 m.t,.int .i64 m.n,.int .i64 m.a,.int .i64 m.b,.slice d r j,.slice c q g] 25)).alloc (.cells #[.int .i64 0,.int .i64 0,.int .i64 0,.int .i64 0,.slice none 0 0,.slice none 0 0,.slice none 0 0,.slice none 0 0] 59)).alloc (.cells #[.int .i64 m.t,.int .i64 m.n,.int .i64 m.a,.int .i64 m.b,.slice d r j,.slice c q g,.slice z s.length cs,.slice none 0 0] 59):=⟨_,rfl⟩;have x9:=hid M;have xi:Below w.heap.size w K:=by rw [M];exact (((Below.refl _ w).alloc (le_refl _) _).alloc x30_ _).alloc j30_ _
 have xp:Blk K (w.heap.size+1) 59 #[.int .i64 0,.int .i64 0,.int .i64 0,.int .i64 0,.slice none 0 0,.slice none 0 0,.slice none 0 0,.slice none 0 0]:=by
  rw [M];have:=(Blk.new (w.alloc (.cells #[.int .i64 m.t,.int .i64 m.n,.int .i64 m.a,.int .i64 m.b,.slice d r j,.slice c q g] 25)) 59 #[.int .i64 0,.int .i64 0,.int .i64 0,.int .i64 0,.slice none 0 0,.slice none 0 0,.slice none 0 0,.slice none 0 0]).alloc (.cells #[.int .i64 m.t,.int .i64 m.n,.int .i64 m.a,.int .i64 m.b,.slice d r j,.slice c q g,.slice z s.length cs,.slice none 0 0] 59);simpa using this
 have xk:Blk K (w.heap.size+1+1) 59 #[.int .i64 m.t,.int .i64 m.n,.int .i64 m.a,.int .i64 m.b,.slice d r j,.slice c q g,.slice z s.length cs,.slice none 0 0]:=by
  rw [M];have:=Blk.new ((w.alloc (.cells #[.int .i64 m.t,.int .i64 m.n,.int .i64 m.a,.int .i64 m.b,.slice d r j,.slice c q g] 25)).alloc (.cells #[.int .i64 0,.int .i64 0,.int .i64 0,.int .i64 0,.slice none 0 0,.slice none 0 0,.slice none 0 0,.slice none 0 0] 59)) 59 #[.int .i64 m.t,.int .i64 m.n,.int .i64 m.a,.int .i64 m.b,.slice d r j,.slice c q g,.slice z s.length cs,.slice none 0 0];simpa using this
 have xo:K.heap.size=w.heap.size+3:=by rw [M];simp
 have x0:=hid xi;have x5:=hid xp;have x3:=hid xk;have xd:=hid xo;have Hr:=hid hr;have HV:=hid xm;have HE:=hid hE;have Hs:=hid hs;have yb:s.length≤1048576:=j29_;have yc:s.length≤1000:=j29_;have yh:(o.length:Int)≤64:=j29_;clear M xi xp xk xo hr xm hE hs X hp
 go_enter Tryz.func42,Tryz.ntmps42
 go_wp2_with fail
 rw [← x9.out];refine (S4_ m.n _ _ _ _ _ _ _ s _ (Hr.out.up x0.out) yb).mono ?_;rintro e G ⟨vo,rfl,x7,O⟩;rw [HO.out] at x7;have N:=hid x7;obtain ⟨Ao,co,rfl,_⟩:=x7;have xa:=hid (Z0_ x0.out (le_refl _) O);have xg:=hid (x5.out.below O x5.out.lt);have xc:=hid (x3.out.below O x3.out.lt);have Q:Hid (w.heap.size+3≤G.heap.size):=hid (by rw [← xd.out];exact O.size);clear O x5 x3 x0 x9 xd;go_wp2
 go_loopw [14] (fun vk wr=>∃ (k:Nat) (B:Option Addr) (nm C:Nat),vk=.int .i64 (k:Int)∧k≤o.length∧Hid (Blk wr (w.heap.size+1) 59 #[.int .i64 0,.int .i64 0,.int .i64 0,.int .i64 0,.slice none 0 0,.slice none 0 0,.slice none 0 0,.slice none 0 0]∧Blk wr (w.heap.size+1+1) 59 #[.int .i64 m.t,.int .i64 m.n,.int .i64 m.a,.int .i64 m.b,.slice d r j,.slice c q g,.slice z s.length cs,.slice B nm C]∧wr.ownsRow G.heap.size 3 1 (.slice B nm C) ((o.take k).filter p).length (ints ((o.take k).filter p))∧Row wr G.heap.size (.slice Ao o.length co) o∧Below w.heap.size w wr∧G.heap.size≤wr.heap.size)) (fun vk _=>o.length - (intOf vk).toNat)
 case atStart=>exact ⟨0,none,0,0,rfl,Nat.zero_le _,xg.out,xc.out,World.ownsRow_nil _ _ _ _,N.out,xa.out,le_refl _⟩
 case round =>
  obtain ⟨k,B,nm,C,rfl,hk,I⟩:=hrel;clear xg xc N xa;have u:=hid I.out.1;have y:=hid I.out.2.1;have x4:=hid I.out.2.2.1;have N:=hid I.out.2.2.2.1;have x1:=hid I.out.2.2.2.2.1;have xf:=hid I.out.2.2.2.2.2;clear I;by_cases xl:k<o.length
  ·have y9:(k:Int)<(o.length:Int):=by omega
   obtain ⟨ao,hA,xj⟩:=Row.nthV N.out xl;subst hA;have gx:=xj wr (Below.refl _ _);have xe:=hid (Yt9 (p:=p) xl);have yg:((o.take k).filter p).length≤64:=Nat.le_trans (List.length_filter_le _ _) k33_;generalize o.getD k 0=x at *
   generalize (o.take k).filter p=L at *
   have HC:Hid (∀ W,Below w.heap.size w W→Calls Tryz.prog 75 #[.agg #[.int .i64 m.t,.int .i64 m.n,.int .i64 m.a,.int .i64 m.b,.slice d r j,.slice c q g,.slice z s.length cs,.slice B nm C],.slice z s.length cs,.int .i64 x] W (Says W (p x))):=hid fun W hW=>by rw [HP.out];exact Zx4 E m _ _ _ _ _ _ _ _ _ s x W (HV.out.up hW) Hs.out (Hr.out.up hW) yc (HE.out.up hW)
   have xr:=hid (HC.out wr x1.out);have d0:=y.out.cell 0;have d1:=y.out.cell 1;have d2:=y.out.cell 2;have d3:=y.out.cell 3;have d4:=y.out.cell 4;have d5:=y.out.cell 5;have d6:=y.out.cell 6;have S:=y.out.cell 7;have yj:IntKind.i64.wrap ((k:Int)+1)=(k:Int)+1:=k30_;clear xj HC
   go_wp2_with fail
   refine xr.out.mono ?_;rintro e w2 ⟨rfl,J⟩;have xh:=hid (u.out.below J u.out.lt);have x2:=hid (y.out.below J y.out.lt);have P:=hid (O5_ x4.out J);have x8:=hid (N.out.below (J.mono xf.out));have xb:=hid (Z0_ x1.out (le_refl _) J);have R:=hid (Nat.le_trans xf.out J.size);clear J d0 d1 d2 d3 d4 d5 d6 S gx;rcases hpx:p x with _ | _
   ·have Hn:Hid ((o.take (k+1)).filter p=L):=hid (by rw [xe.out,if_neg (by rw [hpx];decide),List.append_nil])
    clear hpx;go_wp2
    go_roundw
    case rel=>exact ⟨k+1,B,nm,C,y31_,j29_,xh.out,x2.out,by rw [Hn.out];exact P.out,x8.out,xb.out,R.out⟩
    case measure=>simp [intOf];omega
   ·have Hn:Hid ((o.take (k+1)).filter p=L ++ [x]):=hid (by rw [xe.out,if_pos hpx])
    have S:=x2.out.cell 7;clear hpx;have ye:G.heap.size≤w2.heap.size+1:=Nat.le_trans R.out (Nat.le_succ _)
    go_wp2_with (at_builtin;refine Y8_ rfl _ _ rfl G.heap.size _ _ _ L [x] rfl rfl (World.ownsRow.alloc P.out _) (Row.lit1 _ x) j29_ x30_ (by simp;exact ye) ?_)
    intro v8 Z Y V;have x6:∀ i,(Value.slice B nm C).ownBlock=some i→w.heap.size+3≤i:=fun i hi=>Nat.le_trans Q.out (World.ownsRow.lt P.out i hi).1;have xq:=(xh.out.alloc (.cells #[.int .i64 x] 3)).grown V (fun e=>by have:=x6 _ e.symm;omega);have U:=(x2.out.alloc (.cells #[.int .i64 x] 3)).grown V (fun e=>by have:=x6 _ e.symm;omega);have T:Below G.heap.size w2 Z:=((Below.refl _ w2).alloc R.out (.cells #[.int .i64 x] 3)).grown V j30_ (fun i hi=>(World.ownsRow.lt P.out i hi).1);obtain ⟨D,F,yf⟩:=H4_ Y;subst yf;have e7:=U.cell 7;have f7:=U.frozen 7;have xx:=hid (xq.far (p:=⟨w.heap.size+1+1,7,none⟩) (by show w.heap.size+1≠w.heap.size+1+1;omega) (.slice D (L.length+1) F));have xu:=hid (U.set_ 7 (.slice D (L.length+1) F));have xv:Hid ((Z.setCell ⟨w.heap.size+1+1,7,none⟩ (.slice D (L.length+1) F)).ownsRow G.heap.size 3 1 (.slice D (L.length+1) F) (L.length+1) (ints (L ++ [x]))):=hid (World.ownsRow.kept Y (H3_ (World.grownBy.refl Z (some (w.heap.size+1+1))) (.inl rfl) _) (by
     rcases hb:(Value.slice D (L.length+1) F).ownBlock with _ | i
     ·exact .inl rfl
     ·right
      intro e;injection e with e;have h1:=(World.ownsRow.lt Y i hb).1;have h2:=Q.out;omega))
    have xs:=hid ((x8.out.below T).storeS e7 (.slice D (L.length+1) F));have xt:=hid ((xb.out.trans (T.mono (by have:=Q.out;omega))).setCell (p:=⟨w.heap.size+1+1,7,none⟩) (by show w.heap.size≤w.heap.size+1+1;omega) (.slice D (L.length+1) F));have xw:Hid (G.heap.size≤(Z.setCell ⟨w.heap.size+1+1,7,none⟩ (.slice D (L.length+1) F)).heap.size):=hid (by simp [World.setCell];exact Nat.le_trans R.out T.size);clear Y V xq U T x6 S;go_wp2
    go_roundw
    case rel=>exact ⟨k+1,D,L.length+1,F,y31_,j29_,xx.out,xu.out,by rw [Hn.out,List.length_append];exact xv.out,xs.out,xt.out,xw.out⟩
    case measure=>simp [intOf];omega
  ·have y8:k=o.length:=by omega
   have HL:Hid ((o.take k).filter p=o.filter p):=hid (by rw [y8,List.take_length]);have y9:¬ (k:Int)<(o.length:Int):=j29_;have d0:=y.out.cell 0;have d1:=y.out.cell 1;have d2:=y.out.cell 2;have d3:=y.out.cell 3;have d4:=y.out.cell 4;have d5:=y.out.cell 5;have d6:=y.out.cell 6;have S:=y.out.cell 7;have z0:=u.out.cell 0;have z1:=u.out.cell 1;have z2:=u.out.cell 2;have z3:=u.out.cell 3;have z4:=u.out.cell 4;have z5:=u.out.cell 5;have z6:=u.out.cell 6;have z7:=u.out.cell 7;have y0:=u.out.frozen 0;have y1:=u.out.frozen 1;have y2:=u.out.frozen 2;have y3:=u.out.frozen 3;have y4:=u.out.frozen 4;have y5:=u.out.frozen 5;have y6:=u.out.frozen 6;have y7:=u.out.frozen 7;go_wp2;have H:Blk ((((((((wr.setCell ⟨w.heap.size+1,0,none⟩ (.int .i64 m.t)).setCell ⟨w.heap.size+1,1,none⟩ (.int .i64 m.n)).setCell ⟨w.heap.size+1,2,none⟩ (.int .i64 m.a)).setCell ⟨w.heap.size+1,3,none⟩ (.int .i64 m.b)).setCell ⟨w.heap.size+1,4,none⟩ (.slice d r j)).setCell ⟨w.heap.size+1,5,none⟩ (.slice c q g)).setCell ⟨w.heap.size+1,6,none⟩ (.slice z s.length cs)).setCell ⟨w.heap.size+1,7,none⟩ (.slice B nm C)) (w.heap.size+1) 59 #[.int .i64 m.t,.int .i64 m.n,.int .i64 m.a,.int .i64 m.b,.slice d r j,.slice c q g,.slice z s.length cs,.slice B nm C]:=by
    have h:=((((((((u.out.set_ 0 (.int .i64 m.t)).set_ 1 (.int .i64 m.n)).set_ 2 (.int .i64 m.a)).set_ 3 (.int .i64 m.b)).set_ 4 (.slice d r j)).set_ 5 (.slice c q g)).set_ 6 (.slice z s.length cs)).set_ 7 (.slice B nm C));exact k19_
   have xz:Below w.heap.size w ((((((((wr.setCell ⟨w.heap.size+1,0,none⟩ (.int .i64 m.t)).setCell ⟨w.heap.size+1,1,none⟩ (.int .i64 m.n)).setCell ⟨w.heap.size+1,2,none⟩ (.int .i64 m.a)).setCell ⟨w.heap.size+1,3,none⟩ (.int .i64 m.b)).setCell ⟨w.heap.size+1,4,none⟩ (.slice d r j)).setCell ⟨w.heap.size+1,5,none⟩ (.slice c q g)).setCell ⟨w.heap.size+1,6,none⟩ (.slice z s.length cs)).setCell ⟨w.heap.size+1,7,none⟩ (.slice B nm C)):=((((((((x1.out.setCell (p:=⟨w.heap.size+1,0,none⟩) (Nat.le_succ _) _).setCell (p:=⟨w.heap.size+1,1,none⟩) (Nat.le_succ _) _).setCell (p:=⟨w.heap.size+1,2,none⟩) (Nat.le_succ _) _).setCell (p:=⟨w.heap.size+1,3,none⟩) (Nat.le_succ _) _).setCell (p:=⟨w.heap.size+1,4,none⟩) (Nat.le_succ _) _).setCell (p:=⟨w.heap.size+1,5,none⟩) (Nat.le_succ _) _).setCell (p:=⟨w.heap.size+1,6,none⟩) (Nat.le_succ _) _).setCell (p:=⟨w.heap.size+1,7,none⟩) (Nat.le_succ _) _);have ya:=X0_ (X0_ (X0_ (X0_ (X0_ (X0_ (X0_ (Y1_ wr (w.heap.size+1) 0 (.int .i64 m.t)) (Y1_ _ (w.heap.size+1) 1 (.int .i64 m.n))) (Y1_ _ (w.heap.size+1) 2 (.int .i64 m.a))) (Y1_ _ (w.heap.size+1) 3 (.int .i64 m.b))) (Y1_ _ (w.heap.size+1) 4 (.slice d r j))) (Y1_ _ (w.heap.size+1) 5 (.slice c q g))) (Y1_ _ (w.heap.size+1) 6 (.slice z s.length cs))) (Y1_ _ (w.heap.size+1) 7 (.slice B nm C));generalize ((((((((wr.setCell ⟨w.heap.size+1,0,none⟩ (.int .i64 m.t)).setCell ⟨w.heap.size+1,1,none⟩ (.int .i64 m.n)).setCell ⟨w.heap.size+1,2,none⟩ (.int .i64 m.a)).setCell ⟨w.heap.size+1,3,none⟩ (.int .i64 m.b)).setCell ⟨w.heap.size+1,4,none⟩ (.slice d r j)).setCell ⟨w.heap.size+1,5,none⟩ (.slice c q g)).setCell ⟨w.heap.size+1,6,none⟩ (.slice z s.length cs)).setCell ⟨w.heap.size+1,7,none⟩ (.slice B nm C))=w9 at *
   have xn:=World.ownsRow.kept x4.out ya (.inr fun e=>sw_no (World.ownsRow.lt x4.out _ e).1 Q.out);have k0:w9.cell? ⟨w.heap.size+1,0,none⟩=some (.int .i64 m.t):=H.cell 0;have k1:w9.cell? ⟨w.heap.size+1,1,none⟩=some (.int .i64 m.n):=H.cell 1;have k2:w9.cell? ⟨w.heap.size+1,2,none⟩=some (.int .i64 m.a):=H.cell 2;have k3:w9.cell? ⟨w.heap.size+1,3,none⟩=some (.int .i64 m.b):=H.cell 3;have k4:w9.cell? ⟨w.heap.size+1,4,none⟩=some (.slice d r j):=H.cell 4;have k5:w9.cell? ⟨w.heap.size+1,5,none⟩=some (.slice c q g):=H.cell 5;have k6:w9.cell? ⟨w.heap.size+1,6,none⟩=some (.slice z s.length cs):=H.cell 6;have k7:w9.cell? ⟨w.heap.size+1,7,none⟩=some (.slice B nm C):=H.cell 7;refine bodyPost_ret (v:=.agg #[.int .i64 m.t,.int .i64 m.n,.int .i64 m.a,.int .i64 m.b,.slice d r j,.slice c q g,.slice z s.length cs,.slice B nm C]) ?_ rfl ?_
   ·simp [results,Tryz.results42,go_sem,k0,k1,k2,k3,k4,k5,k6,k7]
   ·rw [HL.out] at xn
    exact ⟨_,_,_,rfl,L.own_le xn (Nat.zero_le _),xz⟩
open Go Go.RowKit
theorem Zx5 (a b:List Int):(Z4_ a b).length≤a.length:=y20_
open Go Go.RowKit
end Wp
end Go.Proofs.YtnbcaibflhgdoaaGreatDoor
namespace Go.Proofs.YtnbcaibflhgdoaaGreatDoor.Wp
open Go Go.RowKit
section
variable {n:Nat} {f:(Nat→Bool)→Nat} {I:List Int→Bool}
end
inductive SDR (l:List (List Int)):List Int→List Int→Prop
 | nil:SDR l [] []
 | cons {x r:Int} {s rs:List Int}:r∈l.getD x.toNat []→r∉rs→SDR l s rs→SDR l (x :: s) (r :: rs)
section
variable {k:Nat} {m:Mat} {s:List Int} (hc:chk m=0) (hd:dp 4 m≤k+1) (hs:InN (nN m) s)
include hc hs
include hd
end
end Go.Proofs.YtnbcaibflhgdoaaGreatDoor.Wp
