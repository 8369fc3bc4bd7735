/- The program's May, Rank and Indep, and the document's May, walked. Matroids written out in memory. -/
import Derived.Test.YtgpljiijjnaofaaGreatDoorZW
import Derived.Test.YtgpljiijjnaofaaGreatDoorZT
import Derived.Test.YtgpljiijjnaofaaGreatDoorQTB
import Derived.Test.YtgpljiijjnaofaaGreatDoorGPlaces
import Derived.Test.YtgpljiijjnaofaaGreatDoorIUnion
import Derived.Test.YtgpljiijjnaofaaGreatDoorMShelf
import Derived.Test.YtgpljiijjnaofaaGreatDoorZX
import Derived.BigQuiet
import Derived.Deep.QuietTactic
import Derived.Test.YtgpljiijjnaofaaGreatDoorGGreat
import Derived.Test.YtgpljiijjnaofaaGreatDoorZO
import Derived.Test.YtgpljiijjnaofaaGreatDoorIRank
import Derived.Deep.RegionHeld3
import Derived.Test.YtgpljiijjnaofaaGreatDoorX0A
import Derived.Test.YtgpljiijjnaofaaGreatDoorX0C
set_option maxHeartbeats 16000000
set_option maxRecDepth 100000
open Go.Lib (hid)
open Nat (le_refl)
namespace Go.Proofs.YtgpljiijjnaofaaGreatDoor
open Go.RowKit
namespace Wp
def mayI (m:Mat) (s:List Int):Bool:=decide (chk m=0) && subB s (allL m.n)
noncomputable def rankT (m:Mat) (s:List Int):Int:=if mayI m s=true then (rkP 4 m (memP s):Nat) else -1
noncomputable def indT (m:Mat) (s:List Int):Bool:=decide (rankT m s=(s.length:Int))
theorem mayI_iff {m:Mat} {s:List Int}:mayI m s=true↔chk m=0∧InN (nN m) s:=by
 unfold mayI;rw [Bool.and_eq_true,decide_eq_true_iff];constructor
 ·rintro ⟨c,d⟩;exact ⟨c,(S0_ (chk_n c).1 (chk_n c).2).1 d⟩
 ·rintro ⟨c,d⟩;exact ⟨c,(S0_ (chk_n c).1 (chk_n c).2).2 d⟩
theorem Yc9 (E:Nat→Addr) (m:Mat) (v B:Value) (s:List Int) (w:World) (k:MatV w w.heap.size v m) (hs:Sml m) (j:Row w w.heap.size B s) (J:s.length≤1048576) (u:Env E w):Calls Tryz.prog 131 #[v,B] w (Says w (mayI m s)):=by
 have q:=hid hs;obtain ⟨z,y,K,_,_⟩:=k.open;obtain ⟨N,cs,rfl,_⟩:=id j;have Hb0:=hid (Z1_ w m z y);have r:=hid (k.up Hb0.out);have C:=hid (j.up Hb0.out);have c:=hid (Z3_ w m z y);have g0:=c.out.cell 0;have g1:=c.out.cell 1;have g2:=c.out.cell 2;have g3:=c.out.cell 3;have g4:=c.out.cell 4;have g5:=c.out.cell 5;subst K;unfold boxed at *
 have p:=hid (u.up Hb0.out);obtain ⟨D,d⟩:∃ D,chk m=D:=⟨_,rfl⟩;have o:=hid d;have I:=G1_ m.n;unfold mayI;rw [d];clear k hs j u d;by_cases h:D=0
 ·subst h
  rw [decide_eq_true rfl,Bool.true_and]
  go_enter Tryz.func131,Tryz.ntmps131
  go_wp2_with fail
  refine (Q1_ E m _ _ r.out q.out p.out).mono ?_;rintro e M ⟨rfl,hb1⟩;rw [o.out];have Hb1:=hid (Z0_ Hb0.out (le_refl _) hb1);have F:=hid (C.out.up hb1);have L:=(c.out.below hb1 c.out.lt).cell 1;clear hb1 g0 g1 g2 g3 g4 g5
  go_wp2_with fail
  refine (I4_ m.n _).mono ?_;rintro e Q ⟨P,rfl,x,g⟩;have Hb2:=hid (Z0_ Hb1.out (le_refl _) g);have G:=hid (F.out.up g);have H:=hid x;clear g x L
  go_wp2_with fail
  refine (S6_ _ _ s (allL m.n) _ G.out H.out J I).mono ?_;exact x7_
 ·rw [decide_eq_false h,Bool.false_and]
  have O:(D==0)=false:=j35_;clear h
  go_enter Tryz.func131,Tryz.ntmps131
  go_wp2_with fail
  refine (Q1_ E m _ _ r.out q.out p.out).mono ?_;rintro e M ⟨rfl,hb1⟩;rw [o.out];exact x26_
theorem Xq5 (E:Nat→Addr) (m:Mat) (v d:Value) (s:List Int) (w:World) (j:MatV w w.heap.size v m) (hs:Sml m) (h:Row w w.heap.size d s) (B:s.length≤1048576) (x:Env E w):Calls Tryz.prog 112 #[v,d] w (Tells w (rankT m s)):=by
 have r:=hid hs;obtain ⟨D,C,L,_,_⟩:=j.open;obtain ⟨N,cs,rfl,_⟩:=id h;have Hb0:=hid (Z1_ w m D C);have u:=hid (j.up Hb0.out);have q:=hid (h.up Hb0.out);have c:=hid (Z3_ w m D C);have g0:=c.out.cell 0;have g1:=c.out.cell 1;have g2:=c.out.cell 2;have g3:=c.out.cell 3;have g4:=c.out.cell 4;have g5:=c.out.cell 5;subst L;unfold boxed at *
 have k:=hid (x.up Hb0.out);unfold rankT;rcases hm:mayI m s with _ | _
 ·rw [if_neg z31_]
  have p:=hid hm;clear j hs h x hm
  go_enter Tryz.func112,Tryz.ntmps112
  go_wp2_with fail
  refine (Yc9 E m _ _ s _ u.out r.out q.out B k.out).mono ?_;rintro e M ⟨rfl,hb1⟩;rw [p.out];exact x26_
 ·rw [if_pos rfl]
  have p:=hid hm;have o:=hid (mayI_iff.1 hm);obtain ⟨R,y⟩:∃ R:Nat,rkP 4 m (memP s)=R:=⟨_,rfl⟩;have H:Hid (∀ (v d:Value) (W:World),MatV W W.heap.size v m→Row W W.heap.size d s→Env E W→Calls Tryz.prog 132 #[v,d] W (Tells W (R:Int))):=hid fun v d W J K h3=>by rw [← y];exact Ya7 E 4 m v d s W J r.out o.out.1 (chk_ok.1 o.out.1).1 K o.out.2 h3
  rw [y];clear j hs h x hm y
  go_enter Tryz.func112,Tryz.ntmps112
  go_wp2_with fail
  refine (Yc9 E m _ _ s _ u.out r.out q.out B k.out).mono ?_;rintro e M ⟨rfl,hb1⟩;rw [p.out];have Hb1:=hid (Z0_ Hb0.out (le_refl _) hb1);have G:=hid (q.out.up hb1);have I:=hid (u.out.up hb1);have F:=hid (k.out.up hb1);have g:=hid (c.out.below hb1 c.out.lt);clear hb1 g0 g1 g2 g3 g4 g5;have g0:=g.out.cell 0;have g1:=g.out.cell 1;have g2:=g.out.cell 2;have g3:=g.out.cell 3;have g4:=g.out.cell 4;have g5:=g.out.cell 5
  go_wp2_with fail
  refine (H.out _ _ _ I.out G.out F.out).mono ?_;rintro e O ⟨rfl,z⟩;have Hb2:=hid (Z0_ Hb1.out (le_refl _) z);clear z g0 g1 g2 g3 g4 g5;exact j2_
theorem Zj6 (E:Nat→Addr) (m:Mat) (v x:Value) (s:List Int) (w:World) (o:MatV w w.heap.size v m) (hs:Sml m) (k:Row w w.heap.size x s) (N:s.length≤1048576) (p:Env E w):Calls Tryz.prog 83 #[v,x] w (Says w (indT m s)):=by
 have D:=hid hs;obtain ⟨u,r,O,_,_⟩:=o.open;obtain ⟨P,cs,rfl,_⟩:=id k;have d:=hid (Z1_ w m u r);have F:=hid (o.up d.out);have C:=hid (k.up d.out);have c:=hid (Z3_ w m u r);have G:=c.out.cell 0;have H:=c.out.cell 1;have I:=c.out.cell 2;have J:=c.out.cell 3;have K:=c.out.cell 4;have L:=c.out.cell 5;subst O;unfold boxed at *
 have y:=hid (p.up d.out);obtain ⟨R,h⟩:∃ R,rankT m s=R:=⟨_,rfl⟩;have z:=hid h;obtain ⟨g,j⟩:∃ g,indT m s=g:=⟨_,rfl⟩;have M:(R==(s.length:Int))=g:=by rw [← j,← h];unfold indT;rw [Bool.eq_iff_iff,beq_iff_eq,decide_eq_true_iff]
 rw [j];clear o hs k p h j
 go_enter Tryz.func83,Tryz.ntmps83
 go_wp2_with fail
 refine (Xq5 E m _ _ s _ F.out D.out C.out N y.out).mono ?_;rintro e Q ⟨rfl,q⟩;rw [z.out];have B:=hid (Z0_ d.out (le_refl _) q);clear q G H I J K L;go_wp2;go_ret;exact ⟨by rw [← M];rfl,B.out⟩
open Go.RowKit
theorem Xq6 (W:World) (B:Nat):Rows2 W B (.slice none 0 0) []:=⟨none,0,rfl,⟨le_refl _,z31_,fun _=>rfl⟩,fun k c=>absurd c y31_⟩
theorem B8_ (W:World) (B:Nat) (t n a b:Int):MatV W B (.agg #[.int .i64 t,.int .i64 n,.int .i64 a,.int .i64 b,.slice none 0 0,.slice none 0 0]) (.mk t n a b [] []):=MatV.shut (Xq6 W B) (MatL.nil_ W B)
def uM:Mat:=.mk 0 3 2 0 [] []
def cM:Mat:=.mk 6 2 0 0 [[1]] [uM]
theorem B9_ (t n a b:Int):Sml (.mk t n a b [] []):=.mk y31_ y31_ y31_ y31_
end Wp
end Go.Proofs.YtgpljiijjnaofaaGreatDoor
namespace Go.Proofs.YtgpljiijjnaofaaGreatDoor.Wp
open Go Go.RowKit
theorem rk_of {m:Mat} (h:chk m=0):Rk (nN m) (rkP 4 m):=rk_ok 4 m h (chk_ok.1 h).1
theorem Zr4 (P Q:Nat→Bool):∀ n,cnt (orP P Q) n+cnt (andP P Q) n=cnt P n+cnt Q n
 | 0=>by simp [cnt]
 | n+1=>by
  have c:=Zr4 P Q n;rw [X4_,X4_,X4_,X4_];show _+(if (P n || Q n)=true then 1 else 0)+(_+(if (P n && Q n)=true then 1 else 0))=_;cases P n<;>cases Q n<;>simp<;>omega
theorem Zz0 {m:Mat} {s:List Int} (h:mayI m s=true):rankT m s=(rkP 4 m (memP s):Nat):=if_pos h
open Go Go.RowKit
theorem Rk.closed {n:Nat} {f:(Nat→Bool)→Nat} (h:Rk n f) (P S:Nat→Bool) (hs:∀ x,x<n→S x=true→f (insP P x)=f P):∀ k,k≤n→f (addK P S k)=f P
 | 0,_=>by rw [G8_]
 | k+1,hk=>by
  have c:=h.closed P S hs k k30_;cases e:S k
  ·rw [R7_ e];exact c
  ·have d:=h.dim_add P S (x:=k) k30_ k k30_
   have g:=hs k k30_ e;have h3:=h.up' (addK P S k) (x:=k) k30_;rw [M0_ e];omega
theorem D3_ {m:Mat} {s:List Int} (h:mayI m s=true):indT m s=true↔rkP 4 m (memP s)=s.length:=by
 unfold indT;rw [show rankT m s=_ from if_pos h,decide_eq_true_iff];omega
theorem Xo7 {m:Mat} {a s:List Int} (ha:mayI m a=true) (hs:mayI m s=true) (d:∀ x∈s,x∈a) (h:indT m a=true):indT m s=true:=by
 obtain ⟨hc,hA⟩:=mayI_iff.1 ha;obtain ⟨_,g⟩:=mayI_iff.1 hs;have c:=rk_ok 4 m hc (chk_ok.1 hc).1;rw [D3_ ha] at h;rw [D3_ hs,V2_ g];rw [V2_ hA] at h;have p:=c.le_cnt (memP s);have f:=c.submod (memP s) (fun i=>memP a i && !memP s i);have h3:=c.le_cnt (fun i=>memP a i && !memP s i);have e:∀ i,i<nN m→orP (memP s) (fun i=>memP a i && !memP s i) i=memP a i:=fun i _=>by
  unfold orP;cases e1:memP s i
  ·simp [e1]
  ·have:memP a i=true:=memP_iff.2 (d _ (memP_iff.1 e1))
   simp [this]
 rw [c.ext e] at f;have q:cnt (memP a) (nN m)=cnt (memP s) (nN m)+cnt (fun i=>memP a i && !memP s i) (nN m):=by
  have:=K.cntP_split (memP a) (memP s) (nN m);have j:K.cntP (nN m) (fun i=>memP a i && memP s i)=cnt (memP s) (nN m):=(V8_ fun i _=>by
   cases e1:memP s i
   ·simp
   ·have:memP a i=true:=memP_iff.2 (d _ (memP_iff.1 e1))
    simp [this])
  have k:K.cntP (nN m) (memP a)=cnt (memP a) (nN m):=rfl;have o:K.cntP (nN m) (fun i=>memP a i && !memP s i)=cnt (fun i=>memP a i && !memP s i) (nN m):=rfl;omega
 omega
theorem Yd0 {x:Int} (h:0≤x) (P:Nat→Bool):orP P (memP [x])=insP P x.toNat:=by
 funext i
 unfold orP insP;have:memP [x] i=(i==x.toNat):=by rw [Bool.eq_iff_iff,memP_iff,beq_iff_eq,List.mem_singleton];omega
 rw [this,Bool.or_comm]
open Go Go.RowKit
def remP (P:Nat→Bool) (y:Nat):Nat→Bool:=fun i=>P i && !(i==y)
theorem E6_ (P:Nat→Bool) (y:Nat):remP P y y=false:=by simp [remP]
theorem G5_ {P:Nat→Bool} {y i:Nat} (h:i≠y):remP P y i=P i:=by simp [remP,h]
theorem Xo8 {P:Nat→Bool} {y:Nat} (h:P y=true):insP (remP P y) y=P:=by
 funext i
 by_cases e:i=y
 ·rw [e,Y0_,h]
 ·rw [Z8_ e,G5_ e]
theorem L5_ {n:Nat} {P:Nat→Bool} {y:Nat} (c:y<n) (h:P y=true):cnt (remP P y) n+1=cnt P n:=by
 have:=V9_ c (E6_ P y);rw [Xo8 h] at this;omega
section
variable {n:Nat} {f:(Nat→Bool)→Nat}
theorem Rk.part (h:Rk n f) {P Q:Nat→Bool} (hs:∀ i,i<n→P i=true→Q i=true) (j:f Q=cnt Q n):f P=cnt P n:=by
 have c:=h.submod P (fun i=>Q i && !P i);have g:=h.le_cnt (fun i=>Q i && !P i);have h3:=h.le_cnt P;have e:∀ i,i<n→orP P (fun i=>Q i && !P i) i=Q i:=fun i hi=>by
  unfold orP;cases e1:P i
  ·simp [e1]
  ·simp [hs i hi e1]
 rw [h.ext e] at c;have d:=Zr4 P (fun i=>Q i && !P i) n;rw [V8_ e,V8_ (P:=andP P (fun i=>Q i && !P i)) (Q:=noneP) (fun i _=>by simp only [andP,noneP];cases P i<;>simp),B3_] at d;omega
end
theorem J0_ {m:Mat} {s:List Int} (h:indT m s=true):mayI m s=true:=by
 cases hm:mayI m s
 ·unfold indT rankT at h
  rw [hm,if_neg z31_,decide_eq_true_iff] at h;omega
 ·rfl
open Go Go.RowKit
section
variable {n:Nat} {f:(Nat→Bool)→Nat}
def exch (S:Nat→Bool):List (Nat × Nat)→Nat→Bool
 | []=>S
 | (y,x) :: r=>insP (remP (exch S r) y) x
theorem F6_ {S:Nat→Bool}:∀ {r:List (Nat × Nat)},(∀ p∈r,S p.1=true∧S p.2=false)→∀ i,exch S r i=true↔(S i=true∧i∉r.map (·.1))∨i∈r.map (·.2)
 | [],_,i=>by simp [exch]
 | (y,x) :: r,h,i=>by
  have m:=F6_ (S:=S) (r:=r) (fun p g=>h p (by simp [g])) i;have k:=h (y,x) y31_;have j:i∈r.map (·.2)→S i=false:=fun hi=>by
   obtain ⟨p,g,rfl⟩:=List.mem_map.1 hi;exact (h p (by simp [g])).2
  rw [exch];by_cases e:i=x
  ·rw [e,Y0_]
   simp
  ·rw [Z8_ e]
   by_cases d:i=y
   ·rw [d,E6_]
    have f:y∉r.map (·.2):=fun hi=>by rw [d] at j;have:=j hi;rw [k.1] at this;cases this
    constructor
    ·intro h;cases h
    ·rintro (⟨_,c⟩ | c)
     ·exact absurd y31_ c
     ·rw [List.map_cons,List.mem_cons] at c
      rcases c with c | c
      ·exact absurd (d.trans c) e
      ·exact absurd c f
   ·rw [G5_ d,m,List.map_cons,List.map_cons,List.mem_cons,List.mem_cons]
    constructor
    ·rintro (⟨f,c⟩ | c)
     ·exact .inl ⟨f,fun h3=>h3.elim d c⟩
     ·exact .inr (.inr c)
    ·rintro (⟨f,c⟩ | c)
     ·exact .inl ⟨f,fun h3=>c (.inr h3)⟩
     ·exact .inr (c.resolve_left e)
theorem Zr5 (h:Rk n f) {S:Nat→Bool} (m:f S=cnt S n):∀ {r:List (Nat × Nat)},(∀ p∈r,(p.1<n∧p.2<n)∧S p.1=true∧S p.2=false)→(r.map (·.1)).Nodup→(r.map (·.2)).Nodup →
  (∀ p∈r,f (insP (remP S p.1) p.2)=cnt S n)→(r.Pairwise fun p q=>f (insP (remP S p.1) q.2)<cnt S n)→f (exch S r)=cnt S n∧cnt (exch S r) n=cnt S n
 | [],_,_,_,_,_=>⟨m,rfl⟩
 | (y,x) :: r,c,hn1,hn2,hc,hd=>by
  have j:=c (y,x) y31_;have w:y<n:=j.1.1;have v:x<n:=j.1.2;have s:S y=true:=j.2.1;have E:S x=false:=j.2.2;clear j;have u:∀ p∈r,(p.1<n∧p.2<n)∧S p.1=true∧S p.2=false:=fun p h=>c p (by simp [h]);rw [List.map_cons,List.nodup_cons] at hn1 hn2;obtain ⟨G,H⟩:=List.pairwise_cons.1 hd;obtain ⟨K,L⟩:=Zr5 h m u hn1.2 hn2.2 (fun p h=>hc p (by simp [h])) H;have o:=F6_ (S:=S) (r:=r) fun p h=>(u p h).2;have D:exch S r y=true:=(o y).2 (.inl ⟨s,hn1.1⟩);have C:exch S r x=false:=by
   rw [← Bool.not_eq_true,o];rintro (⟨g,_⟩ | g)
   ·rw [E] at g;cases g
   ·exact hn2.1 g
  have M:=L5_ w D;have R:=h.part (P:=remP (exch S r) y) (Q:=exch S r) (fun i _ c=>by
   by_cases e:i=y
   ·rw [e,E6_] at c;cases c
   ·rwa [G5_ e] at c) (K.trans L.symm)
  have N:=L5_ w s;have T:=h.part (P:=remP S y) (Q:=S) (fun i _ c=>by
   by_cases e:i=y
   ·rw [e,E6_] at c;cases c
   ·rwa [G5_ e] at c) m
  have F:=h.closed (remP S y) (remP (exch S r) y) (fun z J k=>by
   have A:z≠y:=fun e=>by rw [e,E6_] at k;cases k
   rw [G5_ A] at k;rcases (o z).1 k with ⟨g,_⟩ | g
   ·rw [G0_ (by rw [G5_ A];exact g)]
   ·obtain ⟨p,I,rfl⟩:=List.mem_map.1 g
    have U:f (insP (remP S y) p.2)<cnt S n:=G p I;have V:=h.up' (remP S y) J;omega) n (le_refl _)
  rw [F2_ h] at F;have m1:f (insP (remP S y) x)=cnt S n:=hc (y,x) y31_;have m2:=h.mono (P:=insP (remP S y) x) (Q:=insP (orP (remP S y) (remP (exch S r) y)) x) fun i _ hi=>k17_;have d:=h.dim_set (P:=remP (exch S r) y) (Q:=orP (remP S y) (remP (exch S r) y)) (fun i _ hi=>by unfold orP;rw [hi];simp) v;have B:remP (exch S r) y x=false:=by
   unfold remP;rw [C];rfl
  have O:=V9_ v B;have W:=h.le_cnt (insP (remP (exch S r) y) x);rw [exch];omega
theorem Xo9 (h:Rk n f) {S:Nat→Bool} (o:f S=cnt S n) {r:List (Nat × Nat)} (j:∀ p∈r,(p.1<n∧p.2<n)∧S p.1=true∧S p.2=false) (v:(r.map (·.1)).Nodup) (w:(r.map (·.2)).Nodup)
  (hb:∀ p∈r,f (insP S p.2)=f S) (hc:∀ p∈r,f (insP (remP S p.1) p.2)=cnt S n) (hd:r.Pairwise fun p q=>f (insP (remP S p.1) q.2)<cnt S n)
  {x:Nat} (k:x<n) (s:S x=false) (A:x∉r.map (·.2)) (D:f (insP S x)=cnt S n+1):f (insP (exch S r) x)=cnt S n+1∧cnt (insP (exch S r) x) n=cnt S n+1:=by
 obtain ⟨E,F⟩:=Zr5 h o j v w hc hd;have g:=F6_ (S:=S) (r:=r) fun p h=>(j p h).2;have m:exch S r x=false:=by
  rw [← Bool.not_eq_true,g];rintro (⟨c,_⟩ | c)
  ·rw [s] at c;cases c
  ·exact A c
 have u:=h.closed S (exch S r) (fun z _ B=>by
  rcases (g z).1 B with ⟨c,_⟩ | c
  ·rw [G0_ c]
  ·obtain ⟨p,y,rfl⟩:=List.mem_map.1 c
   exact hb p y) n (le_refl _)
 rw [F2_ h] at u;have m2:=h.mono (P:=insP S x) (Q:=insP (orP S (exch S r)) x) fun i _ hi=>k17_;have d:=h.dim_set (P:=exch S r) (Q:=orP S (exch S r)) (fun i _ hi=>by unfold orP;rw [hi];simp) k;have C:=V9_ k m;have G:=h.le_cnt (insP (exch S r) x);omega
structure Zig (n:Nat) (S:Nat→Bool) (p:Nat→Nat) (k:Nat):Prop where
 lt:∀ i,i≤2 * k→p i<n
 inj:∀ i j,i≤2 * k→j≤2 * k→p i=p j→i=j
 out:∀ i,i≤k→S (p (2 * i))=false
 within:∀ i,i<k→S (p (2 * i+1))=true
def turnP (S:Nat→Bool) (p:Nat→Nat) (k:Nat):Nat→Bool:=fun i=>S i != (List.range (2 * k+1)).any fun j=>p j==i
def pairs (p:Nat→Nat) (k:Nat):List (Nat × Nat):=(List.range k).map fun i=>(p (2 * i+1),p (2 * i+2))
theorem Zh7 {S:Nat→Bool} {p:Nat→Nat} {k:Nat} (c:Zig n S p k):∀ i,insP (exch S (pairs p k)) (p 0) i=turnP S p k i:=by
 intro i;have m:=F6_ (S:=S) (r:=pairs p k) (fun q f=>by
  obtain ⟨j,hj,rfl⟩:=List.mem_map.1 f;rw [List.mem_range] at hj;exact ⟨c.within j hj,c.out (j+1) k30_⟩) i
 have d:((List.range (2 * k+1)).any fun j=>p j==i)=true↔∃ j,j≤2 * k∧p j=i:=by
  rw [List.any_eq_true];constructor
  ·rintro ⟨j,hj,e⟩
   rw [List.mem_range] at hj;exact ⟨j,k30_,by simpa using e⟩
  ·rintro ⟨j,hj,e⟩
   exact ⟨j,List.mem_range.2 k30_,by simpa using e⟩
 have s:i∈(pairs p k).map (·.1)↔∃ j,j<k∧p (2 * j+1)=i:=j10_;have u:i∈(pairs p k).map (·.2)↔∃ j,j<k∧p (2 * j+2)=i:=j10_;rw [s,u] at m;rw [Bool.eq_iff_iff];unfold turnP;have w:insP (exch S (pairs p k)) (p 0) i=true↔i=p 0∨exch S (pairs p k) i=true:=by
  unfold insP;rw [Bool.or_eq_true,beq_iff_eq]
 rw [w,m,bne_iff_ne];cases hS:S i
 ·constructor
  ·intro h
   have:((List.range (2 * k+1)).any fun j=>p j==i)=true:=by
    rw [d];rcases h with h | ⟨h,_⟩ | ⟨j,hj,e⟩
    ·exact ⟨0,k30_,h.symm⟩
    ·cases h
    ·exact ⟨2 * j+2,k30_,e⟩
   rw [this];decide
  ·intro h
   have h3:((List.range (2 * k+1)).any fun j=>p j==i)=true:=by
    cases f:((List.range (2 * k+1)).any fun j=>p j==i)
    ·rw [f] at h;exact absurd rfl h
    ·rfl
   obtain ⟨j,hj,e⟩:=d.1 h3;rcases Nat.mod_two_eq_zero_or_one j with g | g
   ·by_cases v:j=0
    ·subst v;exact .inl e.symm
    ·exact .inr (.inr ⟨(j - 2) / 2,k30_,by rw [show 2 * ((j - 2) / 2)+2=j by omega];exact e⟩)
   ·have:=c.within (j / 2) k30_
    rw [show 2 * (j / 2)+1=j by omega,e,hS] at this;cases this
 ·constructor
  ·intro h
   have:((List.range (2 * k+1)).any fun j=>p j==i)=false:=by
    rw [← Bool.not_eq_true,d];rintro ⟨j,hj,e⟩;rcases h with h | ⟨_,h⟩ | ⟨q,f,o⟩
    ·have:=c.out 0 k30_
     rw [Nat.mul_zero,← h,hS] at this;cases this
    ·rcases Nat.mod_two_eq_zero_or_one j with g | g
     ·have:=c.out (j / 2) k30_
      rw [show 2 * (j / 2)=j by omega,e,hS] at this;cases this
     ·exact h ⟨j / 2,k30_,by rw [show 2 * (j / 2)+1=j by omega];exact e⟩
    ·have:=c.out (q+1) k30_
     rw [show 2 * (q+1)=2 * q+2 by omega,o,hS] at this;cases this
   rw [this];decide
  ·intro h
   refine .inr (.inl ⟨rfl,?_⟩);rintro ⟨j,hj,e⟩;have:((List.range (2 * k+1)).any fun j=>p j==i)=true:=d.2 ⟨2 * j+1,k30_,e⟩;rw [this] at h;exact absurd rfl h
structure Straight (n:Nat) (f:(Nat→Bool)→Nat) (S:Nat→Bool) (p:Nat→Nat) (k:Nat):Prop where
 start:f (insP S (p 0))=cnt S n+1
 noStart:∀ i,i<k→f (insP S (p (2 * i+2)))=f S
 arc:∀ i,i<k→f (insP (remP S (p (2 * i+1))) (p (2 * i+2)))=cnt S n
 noArc:∀ i j,i<j→j<k→f (insP (remP S (p (2 * i+1))) (p (2 * j+2)))<cnt S n
def cutP (S Y:Nat→Bool) (k:Nat):Nat→Bool:=fun i=>S i && !(decide (i<k) && Y i)
theorem Yd1 (h:Rk n f) {S Y:Nat→Bool} (o:f S=cnt S n) {x:Nat} (j:x<n) (m:f (insP S x)=f S) (p:∀ y,y<n→S y=true→Y y=true→f (insP (remP S y) x)<cnt S n) :
  ∀ k,k≤n→f (insP (cutP S Y k) x)=f (cutP S Y k)
 | 0,_=>by
  have e:cutP S Y 0=S:=by funext i;simp [cutP]
  rw [e,m]
 | k+1,hk=>by
  have w:=Yd1 h o j m p k k30_;by_cases c:S k=true∧Y k=true
  ·have d:cutP S Y (k+1)=remP (cutP S Y k) k:=by
    funext i
    unfold cutP remP;by_cases e:i=k
    ·subst e;simp [c.2]
    ·rw [show decide (i<k+1)=decide (i<k) from decide_eq_decide.2 k30_]
     simp [e]
   have q:cutP S Y k k=true:=by simp [cutP,c.1]
   have s:cutP S Y (k+1)=andP (cutP S Y k) (remP S k):=by
    rw [d]
    funext i
    unfold remP andP cutP;cases hs:S i<;>simp [hs]
   have u:orP (cutP S Y k) (remP S k)=S:=by
    funext i
    by_cases e:i=k
    ·subst e;unfold orP;rw [q,c.1];rfl
    ·unfold orP
     rw [G5_ e];unfold cutP;cases S i<;>simp
   have g:k<n:=k30_;have part:∀ {P:Nat→Bool},(∀ i,i<n→P i=true→S i=true)→f P=cnt P n:=fun v=>h.part v o;have D:=part (P:=cutP S Y k) fun i _ hi=>by unfold cutP at hi;rw [Bool.and_eq_true] at hi;exact hi.1
   have E:=part (P:=remP S k) fun i _ hi=>by unfold remP at hi;rw [Bool.and_eq_true] at hi;exact hi.1
   have F:=part (P:=cutP S Y (k+1)) fun i _ hi=>by unfold cutP at hi;rw [Bool.and_eq_true] at hi;exact hi.1
   have r:=L5_ g q;rw [← d] at r;have C:=L5_ g c.1;have hl:=p k g c.1 c.2;have G:=h.up' (remP S k) j;have B:=h.submod (insP (cutP S Y k) x) (insP (remP S k) x);have z:orP (insP (cutP S Y k) x) (insP (remP S k) x)=insP S x:=by
    funext i
    have e:=congrFun u i;simp only [orP] at e;simp only [orP,insP];cases i==x
    ·simpa using e
    ·simp
   have A:andP (insP (cutP S Y k) x) (insP (remP S k) x)=insP (cutP S Y (k+1)) x:=by
    funext i
    have e:=congrFun s i;simp only [andP] at e;simp only [andP,insP];cases i==x
    ·simpa using e.symm
    ·simp
   rw [z,A] at B;have H:=h.up' (cutP S Y (k+1)) j;omega
  ·have d:cutP S Y (k+1)=cutP S Y k:=by
    funext i
    unfold cutP;by_cases e:i=k
    ·subst e
     cases hs:S i
     ·rfl
     ·cases hy:Y i
      ·simp
      ·exact absurd ⟨hs,hy⟩ c
    ·rw [show decide (i<k+1)=decide (i<k) from decide_eq_decide.2 k30_]
   rw [d];exact w
theorem T0_ (h:Rk n f) {S Y W:Nat→Bool} (k:f S=cnt S n) (p:∀ i,i<n→W i=true→Y i=false) (o:∀ x,x<n→W x=true→S x=false→f (insP S x)=f S)
  (q:∀ x,x<n→W x=true→S x=false→∀ y,y<n→S y=true→Y y=true→f (insP (remP S y) x)<cnt S n) (r:∀ i,i<n→S i=true→Y i=false→W i=true) :
  f W=cnt (andP S W) n:=by
 have e:∀ i,i<n→cutP S Y n i=andP S W i:=fun i hi=>by
  unfold cutP andP;rw [decide_eq_true hi,Bool.true_and];cases hs:S i
  ·rfl
  ·cases hy:Y i
   ·rw [r i hi hs hy];rfl
   ·cases d:W i
    ·rfl
    ·rw [p i hi d] at hy;cases hy
 have s:=h.part (P:=andP S W) (Q:=S) (fun i _ hi=>by unfold andP at hi;rw [Bool.and_eq_true] at hi;exact hi.1) k;have m:=h.closed (andP S W) W (fun x g d=>by
  cases hs:S x
  ·have j:=Yd1 h k g (o x g d hs) (q x g d hs) n (le_refl _)
   rw [h.ext (P:=cutP S Y n) (Q:=andP S W) e,h.ext (P:=insP (cutP S Y n) x) (Q:=insP (andP S W) x) fun i hi=>by
    by_cases c:i=x
    ·rw [c,Y0_,Y0_]
    ·rw [Z8_ c,Z8_ c,e i hi]] at j
   exact j
  ·rw [G0_ (by unfold andP;rw [hs,d];rfl)]) n (le_refl _)
 rw [F2_ h] at m;have c:orP (andP S W) W=W:=by
  funext i
  unfold orP andP;cases W i<;>simp
 rw [c] at m;omega
end
def Near (adj:List (List Int)) (dst:List Int):Nat→Int→Prop
 | 0,x=>x∈dst
 | n+1,x=>Near adj dst n x∨∃ y∈adj.getD x.toNat [],Near adj dst n y
section
variable {adj:List (List Int)} {dst:List Int}
theorem R1_ {x:Int} {n:Nat}:∀ {m:Nat},n≤m→Near adj dst n x→Near adj dst m x
 | 0,h,hn=>by rw [show n=0 by omega] at hn;exact hn
 | m+1,h,hn=>by
  by_cases e:n=m+1
  ·rw [← e];exact hn
  ·exact .inl (R1_ (m:=m) k30_ hn)
inductive Greedy (adj:List (List Int)) (dst:List Int):List Int→Nat→List Int→Prop
 | stop (S:List Int) (x:Int):x∈S→x∈dst→(∀ y∈S,y<x→y∉dst)→Greedy adj dst S 0 [x]
 | step (S:List Int) (x:Int) (n:Nat) (l:List Int):x∈S→Near adj dst (n+1) x→(∀ y∈S,¬ Near adj dst n y)→(∀ y∈S,y<x→¬ Near adj dst (n+1) y)→Greedy adj dst (adj.getD x.toNat []) n l→Greedy adj dst S (n+1) (x :: l)
theorem Greedy.length {S:List Int} {n:Nat} {l:List Int} (h:Greedy adj dst S n l):l.length=n+1:=by
 induction h with
 | stop=>rfl
 | step _ _ _ _ _ _ _ _ _ ih=>rw [List.length_cons,ih]
theorem Greedy.near {S:List Int} {n:Nat} {l:List Int} (h:Greedy adj dst S n l):∀ k,k<l.length→Near adj dst (n - k) (l.getD k 0):=by
 induction h with
 | stop S x hx hd hl =>
  intro k c;have:k=0:=by simpa using c
  subst this;exact hd
 | step S x n l hx hn hno hl hg ih =>
  intro k c;cases k with
  | zero=>exact hn
  | succ k =>
   have:=ih k (by simpa using c);rw [List.getD_cons_succ,show n+1 - (k+1)=n - k by omega];exact this
theorem Greedy.none {S:List Int} {n:Nat} {l:List Int} (h:Greedy adj dst S n l):∀ y∈S,∀ m,m<n→¬ Near adj dst m y:=by
 cases h with
 | stop=>intro y _ m c;omega
 | step _ x n l hx hn hno hl hg=>exact fun y d m c h=>hno y d (R1_ k30_ h)
theorem Greedy.straight {S:List Int} {n:Nat} {l:List Int} (h:Greedy adj dst S n l):∀ i k,i+2≤k→k<l.length→l.getD k 0∉adj.getD (l.getD i 0).toNat []:=by
 induction h with
 | stop S x hx hd hl =>
  intro i k g e;have:k<1:=e;omega
 | step S x n l hx hn hno hl hg ih =>
  intro i k g e d;obtain ⟨c,rfl⟩:∃ c,k=c+1:=⟨k - 1,k30_⟩;rw [List.getD_cons_succ] at d;have f:c<l.length:=by simpa using e
  have j:=hg.length;cases i with
  | zero =>
   rw [List.getD_cons_zero] at d;exact hg.none _ d (n - c) k30_ (hg.near c f)
  | succ i =>
   rw [List.getD_cons_succ] at d;exact ih i c k30_ f d
end
section
variable {adj:List (List Int)} {dst:List Int}
theorem Greedy.first {S:List Int} {n:Nat} {l:List Int} (h:Greedy adj dst S n l):l.getD 0 0∈S:=by cases h<;>simpa
theorem Greedy.arcs {S:List Int} {n:Nat} {l:List Int} (h:Greedy adj dst S n l):∀ i,i+1<l.length→l.getD (i+1) 0∈adj.getD (l.getD i 0).toNat []:=by
 induction h with
 | stop=>intro i hi;simp at hi
 | step S x n l hx hn hno hl hg ih =>
  intro i hi;cases i with
  | zero =>
   rw [List.getD_cons_succ,List.getD_cons_zero];exact hg.first
  | succ i =>
   rw [List.getD_cons_succ,List.getD_cons_succ];exact ih i x39_
theorem Greedy.last {S:List Int} {n:Nat} {l:List Int} (h:Greedy adj dst S n l):l.getD n 0∈dst:=by
 have c:=h.near n (by rw [h.length];omega);rw [Nat.sub_self] at c;exact c
theorem Greedy.notFirst {S:List Int} {n:Nat} {l:List Int} (h:Greedy adj dst S n l):∀ i,0<i→i<l.length→l.getD i 0∉S:=fun i d hi c=>by
 have:=h.length;exact h.none _ c (n - i) k30_ (h.near i hi)
theorem Greedy.notLast {S:List Int} {n:Nat} {l:List Int} (h:Greedy adj dst S n l):∀ i,i<n→l.getD i 0∉dst:=by
 induction h with
 | stop=>intro i hi;omega
 | step S x n l hx hn hno hl hg ih =>
  intro i hi hd;cases i with
  | zero =>
   rw [List.getD_cons_zero] at hd;exact hno x hx (R1_ (n:=0) k30_ hd)
  | succ i =>
   rw [List.getD_cons_succ] at hd;exact ih i k30_ hd
theorem Greedy.inj {S:List Int} {n:Nat} {l:List Int} (h:Greedy adj dst S n l):∀ i j,i<j→j<l.length→l.getD i 0≠l.getD j 0:=fun i j d g e=>by
 have hl:=h.length;by_cases f:j=n
 ·subst f
  exact h.notLast i d (by rw [e];exact h.last)
 ·have c:=h.arcs j k30_
  rw [← e] at c;exact h.straight i (j+1) k30_ k30_ c
end
open Go Go.RowKit
noncomputable def M9_ (m:Mat) (s:List Int) (x y:Int):Bool:=hasB s y && (!hasB s x && indT m (X2_ (Z4_ s [y]) [x]))
noncomputable def arcsG (a b:Mat) (s:List Int) (p:Int):List Int:=(upTo (nN a)).filter fun q=>M9_ a s q p || M9_ b s p q
noncomputable def adjG (a b:Mat) (s:List Int):List (List Int):=(upTo (nN a)).map (arcsG a b s)
noncomputable def addG (m:Mat) (s:List Int):List Int:=(upTo (nN m)).filter fun x=>!hasB s x && indT m (X2_ s [x])
def turnL (s l:List Int):List Int:=if mayB s=true∧(sortL l).length=l.length then X2_ (Z4_ s (sortL l)) (Z4_ (sortL l) s) else []
structure Common (a b:Mat) (s:List Int):Prop where
 n:a.n=b.n
 ia:indT a s=true
 ib:indT b s=true
theorem mem_upTo {k:Nat} {x:Int}:x∈upTo k↔0≤x∧x<(k:Int):=by
 unfold upTo;rw [List.mem_map];constructor
 ·rintro ⟨i,hi,rfl⟩
  rw [List.mem_range] at hi;exact ⟨by show (0:Int)≤(i:Int);omega,by show (i:Int)<_;omega⟩
 ·rintro ⟨c,d⟩
  exact ⟨x.toNat,List.mem_range.2 k30_,by show ((x.toNat:Nat):Int)=x;omega⟩
theorem T1_ {s:List Int} {x:Nat} (hs:IsSet s):hasB s (x:Int)=memP s x:=by
 rw [Bool.eq_iff_iff,L1_ hs,memP_iff]
section
variable {m:Mat} {s:List Int}
theorem Zc9 {n x:Nat} (d:n≤64) (e:x<n):InN n [(x:Int)]:=⟨⟨y31_,fun z c=>by rw [List.mem_singleton.1 c];exact ⟨k30_,k30_⟩⟩,fun z c=>by rw [List.mem_singleton.1 c];omega⟩
theorem Zr6 (hi:indT m s=true) {x y:Nat} (hx:x<nN m) (hy:y<nN m):M9_ m s x y=true↔memP s y=true∧memP s x=false∧rkP 4 m (insP (remP (memP s) y) x)=cnt (memP s) (nN m):=by
 obtain ⟨hc,c⟩:=mayI_iff.1 (J0_ hi);have h:=(Y7_ hc).2;have d:=Zc9 h hx;have f:=Zc9 h hy;have g:InN (nN m) (X2_ (Z4_ s [(y:Int)]) [(x:Int)]):=A0_ (Zx6 c f) d;have e:memP (X2_ (Z4_ s [(y:Int)]) [(x:Int)])=insP (remP (memP s) y) x:=by
  funext i
  rw [Bool.eq_iff_iff,memP_iff,E3_ (Q2_ _ _) d.1,Y2_ c.1 f.1];unfold insP remP;rw [Bool.or_eq_true,Bool.and_eq_true,beq_iff_eq,Bool.not_eq_true',memP_iff];simp only [List.mem_singleton,beq_eq_false_iff_ne,Int.natCast_inj,ne_eq];exact Or.comm
 unfold M9_;rw [Bool.and_eq_true,Bool.and_eq_true,Bool.not_eq_true',T1_ c.1,T1_ c.1,D3_ (mayI_iff.2 ⟨hc,g⟩),V2_ g,e];constructor
 ·exact j12_
 ·exact j12_
theorem I5_ (hi:indT m s=true) {x:Nat}:(x:Int)∈addG m s↔x<nN m∧memP s x=false∧rkP 4 m (insP (memP s) x)=cnt (memP s) (nN m)+1:=by
 obtain ⟨hc,c⟩:=mayI_iff.1 (J0_ hi);have g:=(Y7_ hc).2;unfold addG;rw [List.mem_filter,mem_upTo];constructor
 ·rintro ⟨⟨_,f⟩,d⟩
  have e:x<nN m:=k30_;have h3:=Zc9 g e;rw [Bool.and_eq_true,Bool.not_eq_true',T1_ c.1,D3_ (mayI_iff.2 ⟨hc,A0_ c h3⟩),V2_ (A0_ c h3),S1_ c.1 h3.1,Yd0 k30_,Int.toNat_natCast] at d;rw [V9_ e d.1] at d;exact ⟨e,d.1,d.2⟩
 ·rintro ⟨e,f,d⟩
  have h3:=Zc9 g e;refine ⟨⟨k30_,k30_⟩,?_⟩;rw [Bool.and_eq_true,Bool.not_eq_true',T1_ c.1,D3_ (mayI_iff.2 ⟨hc,A0_ c h3⟩),V2_ (A0_ c h3),S1_ c.1 h3.1,Yd0 k30_,Int.toNat_natCast,V9_ e f];exact ⟨f,d⟩
theorem I6_ (hi:indT m s=true):rkP 4 m (memP s)=cnt (memP s) (nN m):=by
 obtain ⟨hc,c⟩:=mayI_iff.1 (J0_ hi);rw [← V2_ c];exact (D3_ (J0_ hi)).1 hi
end
section
variable {a b:Mat} {s:List Int}
theorem Common.nn (h:Common a b s):nN b=nN a:=by unfold nN;rw [h.n]
theorem Xq7 {x:Nat} (c:x<nN a):(adjG a b s).getD x []=arcsG a b s (x:Int):=by
 unfold adjG upTo;simp [List.getD,c]
theorem J8_:(adjG a b s).length=nN a:=by unfold adjG;rw [List.length_map,Q4_]
theorem G6_ (h:Common a b s) {x y:Nat} (c:x<nN a) (d:y<nN a):(y:Int)∈(adjG a b s).getD x [] ↔
  (memP s x=true∧memP s y=false∧rkP 4 a (insP (remP (memP s) x) y)=cnt (memP s) (nN a))∨(memP s y=true∧memP s x=false∧rkP 4 b (insP (remP (memP s) y) x)=cnt (memP s) (nN a)):=by
 rw [Xq7 c];unfold arcsG;rw [List.mem_filter,mem_upTo,Bool.or_eq_true,Zr6 h.ia d c,Zr6 h.ib (by rw [h.nn];exact c) (by rw [h.nn];exact d),h.nn];exact ⟨fun h=>h.2,fun h=>⟨⟨k30_,k30_⟩,h⟩⟩
theorem Xt2 {x:Nat} (d:x<nN a) {y:Int} (c:y∈(adjG a b s).getD x []):0≤y∧y<(nN a:Int):=by
 rw [Xq7 d] at c;exact mem_upTo.1 (List.mem_filter.1 c).1
theorem Xp0 {l:List Int} (d:l.Nodup) (c:∀ x∈l,Fit x):(sortL l).length=l.length:=by
 refine ((List.perm_ext_iff_of_nodup ((E2_ l).1.imp fun h e=>by omega) d).2 fun x=>?_).length_eq;rw [B6_];exact ⟨fun h=>h.1,fun h=>⟨h,c x h⟩⟩
theorem Ym7 (h:Common a b s) {W:List Int} (v:InN (nN a) W) (K:∀ x∈addG a s,x∈W) (B:∀ x:Nat,(x:Int)∈W→∀ y∈(adjG a b s).getD x [],y∈W) (J:∀ x∈W,x∉addG b s) :
  rankT a (Z4_ (allL a.n) W)+rankT b W=(s.length:Int):=by
 obtain ⟨w,H⟩:=mayI_iff.1 (J0_ h.ia);obtain ⟨A,_⟩:=mayI_iff.1 (J0_ h.ib);have p:=chk_n w;have r:=rk_of w;have u:=rk_of A;rw [h.nn] at u;have D:=I6_ h.ia;have z:=I6_ h.ib;rw [h.nn] at z;have one:∀ {f:(Nat→Bool)→Nat},Rk (nN a) f→f (memP s)=cnt (memP s) (nN a)→∀ {x:Nat},x<nN a→¬ f (insP (memP s) x)=cnt (memP s) (nN a)+1→f (insP (memP s) x)=f (memP s):=fun q hs x d I=>by
  have M:=q.up' (memP s) d;have N:=q.one' (memP s) d;omega
 have C:∀ {f:(Nat→Bool)→Nat},Rk (nN a) f→∀ {x y:Nat},x<nN a→y<nN a→memP s y=true→memP s x=false→¬ f (insP (remP (memP s) y) x)=cnt (memP s) (nN a)→f (insP (remP (memP s) y) x)<cnt (memP s) (nN a):=fun q x y d g j F I=>by
  have L:=q.le_cnt (insP (remP (memP s) y) x);have c1:=L5_ g j;have c2:=V9_ d (P:=remP (memP s) y) (by unfold remP;rw [F];rfl);omega
 have hb:=T0_ u (Y:=notP (memP W)) (W:=memP W) z (fun i _ c=>by unfold notP;rw [c];rfl)
  (fun x d c hs=>one u z d fun e=>J _ (memP_iff.1 c) (by rw [I5_ h.ib,h.nn];exact ⟨d,hs,e⟩))
  (fun x d c hs y g k o=>C u d g k hs fun e=>by
   have j:=B x (memP_iff.1 c) (y:Int) ((G6_ h d g).2 (.inr ⟨k,hs,e⟩));unfold notP at o;rw [memP_iff.2 j] at o;cases o)
  (fun i _ _ g=>by unfold notP at g;simpa using g)
 have ha:=T0_ r (Y:=memP W) (W:=notP (memP W)) D (fun i _ c=>by unfold notP at c;simpa using c)
  (fun x d c hs=>one r D d fun e=>by
   have j:=K (x:Int) ((I5_ h.ia).2 ⟨d,hs,e⟩);unfold notP at c;rw [memP_iff.2 j] at c;cases c)
  (fun x d c hs y g k o=>C r d g k hs fun e=>by
   have j:=B y (memP_iff.1 o) (x:Int) ((G6_ h g d).2 (.inl ⟨k,hs,e⟩));unfold notP at c;rw [memP_iff.2 j] at c;cases c)
  (fun i _ _ g=>by unfold notP;rw [g];rfl)
 have G:InN (nN a) (Z4_ (allL a.n) W):=D2_ p.1 p.2 v.1;have E:∀ i,i<nN a→memP (Z4_ (allL a.n) W) i=notP (memP W) i:=fun i hi=>O9_ p.1 p.2 v.1 hi;rw [Zz0 (mayI_iff.2 ⟨w,G⟩),Zz0 (m:=b) (mayI_iff.2 ⟨A,by rw [h.nn];exact v⟩),r.ext E,ha,hb,V2_ H];have hc:=Zr4 (andP (memP s) (notP (memP W))) (andP (memP s) (memP W)) (nN a);rw [V8_ (P:=orP (andP (memP s) (notP (memP W))) (andP (memP s) (memP W))) (Q:=memP s) (fun i _=>by simp only [orP,andP,notP];cases memP s i<;>cases memP W i<;>rfl),
  V8_ (P:=andP (andP (memP s) (notP (memP W))) (andP (memP s) (memP W))) (Q:=noneP) (fun i _=>by simp only [andP,notP,noneP];cases memP s i<;>cases memP W i<;>rfl),B3_] at hc
 omega
end
open Go Go.RowKit
noncomputable def takeK (m:Mat) (on:Int→Nat→Bool):List Int→List Int→List Int
 | s,[]=>s
 | s,x :: o=>if on x s.length=true then takeK m on (if indT m (X2_ s [x])=true then X2_ s [x] else s) o else s
def outW (x:Int):Bool:=decide (x < -1099511627776) || decide (1099511627776<x)
def mayW (m:Mat) (w:List Int):Bool:=decide (chk m=0) && (decide ((w.length:Int)=m.n) && !w.any outW)
noncomputable def takeT (m:Mat) (w:List Int) (on:Int→Nat→Bool):List Int:=if mayW m w=true then takeK m on [] (Vg3 w) else []
def wt (w:List Int) (x:Int):Int:=w.getD x.toNat 0
def addW (w:List Int) (s:List Int):Int:=s.foldl (fun n x=>IntKind.i64.wrap (n+wt w x)) 0
def C5_ (w s:List Int):Int:=if mayB s=true∧(∀ x∈s,x<(w.length:Int)) then addW w s else 0
def sumW (w s:List Int):Int:=(s.map fun x=>wt w x).sum
section
variable {m:Mat} {on:Int→Nat→Bool} {n:Nat}
end
def sumP (f:Nat→Int) (P:Nat→Bool):Nat→Int
 | 0=>0
 | n+1=>sumP f P n+if P n=true then f n else 0
theorem Zz1 {f g:Nat→Int} {P Q:Nat→Bool}:∀ {n:Nat},(∀ i,i<n→P i=Q i)→(∀ i,i<n→f i=g i)→sumP f P n=sumP g Q n
 | 0,_,_=>rfl
 | n+1,h,k=>by rw [sumP,sumP,Zz1 (fun i hi=>h i k30_) (fun i hi=>k i k30_),h n k30_,k n k30_]
theorem Zd0 (f:Nat→Int) (P:Nat→Bool):∀ n,((pickN n P).map f).sum=sumP f P n
 | 0=>rfl
 | n+1=>by
  have c:=Zd0 f P n;unfold pickN at c ⊢;rw [List.range_succ,List.filter_append,List.map_append,List.sum_append_int,c,sumP];cases h:P n<;>simp [List.filter,h]
theorem Zr7 {n:Nat} {s:List Int} (w:List Int) (h:InN n s):sumW w s=sumP (fun i=>w.getD i 0) (memP s) n:=by
 rw [← Zd0,← Zf6 h];rfl
theorem Yd2 (w:List Int) {c:Int} (hc:0≤c) (d:∀ x∈w,-c≤x∧x≤c):∀ (s:List Int) (n:Int),-(4611686018427387904 - c * s.length)≤n→n≤4611686018427387904 - c * s.length→s.foldl (fun n x=>IntKind.i64.wrap (n+wt w x)) n=n+sumW w s∧-(c * s.length)≤sumW w s∧sumW w s≤c * s.length
 | [],n,_,_=>by simp [sumW]
 | x :: s,n,h1,h2=>by
  have o:-c≤wt w x∧wt w x≤c:=by
   unfold wt;by_cases h:x.toNat<w.length
   ·exact d _ (Y4_ 0 h)
   ·rw [List.getD_eq_getElem?_getD,List.getElem?_eq_none k30_]
    simp;omega
  have e:c * ((x :: s).length:Int)=c * (s.length:Int)+c:=by
   rw [List.length_cons,Int.natCast_succ,Int.mul_add,Int.mul_one]
  rw [e] at h1 h2 ⊢;have m:0≤c * (s.length:Int):=Int.mul_nonneg hc k30_;have g:IntKind.i64.wrap (n+wt w x)=n+wt w x:=Zw1 k30_ k30_;obtain ⟨f,j,k⟩:=Yd2 w hc d s (n+wt w x) k30_ k30_;rw [List.foldl_cons,g,f];unfold sumW at *
  rw [List.map_cons,List.sum_cons];refine ⟨k30_,k30_,k30_⟩
open Go Go.RowKit
theorem Xt3 {α:Type} {Q:α→α→Prop} {w:α→Int} (p:α):∀ {t:List α},t.Pairwise (fun x y=>w x≤w y∧Q x y)→(∀ q∈t,(w q<w p→Q q p)∧(w p≤w q→Q p q))→∃ c:List α,c.Perm (p :: t)∧c.Pairwise (fun x y=>w x≤w y∧Q x y)
 | [],_,_=>⟨[p],.refl _,List.pairwise_singleton _ _⟩
 | q :: t,h,hq=>by
  obtain ⟨d,g⟩:=List.pairwise_cons.1 h;by_cases j:w q<w p
  ·obtain ⟨c,e,k⟩:=Xt3 p g (fun x hx=>hq x q34_)
   refine ⟨q :: c,(e.cons q).trans (List.Perm.swap p q t),List.pairwise_cons.2 ⟨fun x hx=>?_,k⟩⟩;rcases List.mem_cons.1 (e.mem_iff.1 hx) with rfl | hx
   ·exact ⟨k30_,(hq q y31_).1 j⟩
   ·exact d x hx
  ·refine ⟨p :: q :: t,.refl _,List.pairwise_cons.2 ⟨fun x hx=>?_,h⟩⟩
   have f:w p≤w x:=by
    rcases List.mem_cons.1 hx with e | hx
    ·rw [e];omega
    ·have:=(d x hx).1;omega
   exact ⟨f,(hq x hx).2 f⟩
theorem Xq8 {α:Type} {Q:α→α→Prop} {w:α→Int}:∀ {r:List α},(∀ p∈r,∀ q∈r,w p<w q→Q p q)→r.Pairwise (fun p q=>w p=w q→Q p q)→∃ t:List α,t.Perm r∧t.Pairwise (fun x y=>w x≤w y∧Q x y)
 | [],_,_=>⟨[],.refl _,.nil⟩
 | p :: r,h1,h2=>by
  obtain ⟨h3,g⟩:=List.pairwise_cons.1 h2;obtain ⟨t,e,j⟩:=Xq8 (fun x hx y m=>h1 x q34_ y (by simp [m])) g;obtain ⟨o,f,k⟩:=Xt3 p j (fun q h=>by
   have d:=e.mem_iff.1 h;refine ⟨fun c=>h1 q (by simp [d]) p y31_ c,fun s=>?_⟩;by_cases c:w p<w q
   ·exact h1 p y31_ q (by simp [d]) c
   ·exact h3 q d k30_)
  exact ⟨o,f.trans (e.cons p),k⟩
section
variable {n:Nat} {f:(Nat→Bool)→Nat}
def Ex (n:Nat) (f:(Nat→Bool)→Nat) (S:Nat→Bool) (w:Nat→Int):Prop:=∀ y x,y<n→x<n→S y=true→S x=false→f (insP (remP S y) x)=cnt S n→w x≤w y
def lev (w:Nat→Int) (c:Int):Nat→Bool:=fun i=>decide (c≤w i)
def Th (n:Nat) (f:(Nat→Bool)→Nat) (S:Nat→Bool) (w:Nat→Int):Prop:=∀ c,(∀ i,i<n→S i=true→c≤w i)∨f (lev w c)=cnt (andP S (lev w c)) n
theorem lev_iff {w:Nat→Int} {c:Int} {i:Nat}:lev w c i=true↔c≤w i:=by unfold lev;exact decide_eq_true_iff
theorem M5_ {S:Nat→Bool} {x y:Nat} (e:x<n) (f:y<n) (d:S y=true) (c:S x=false):cnt (insP (remP S y) x) n=cnt S n:=by
 have c1:=L5_ f d;have c2:=V9_ e (P:=remP S y) (by unfold remP;rw [c];rfl);omega
theorem Yd3 (h:Rk n f) {S:Nat→Bool} {x y:Nat} (d:x<n) (k:y<n) (j:S y=true) (c:S x=false) (ha:f (insP S x)=cnt S n+1):f (insP (remP S y) x)=cnt S n:=by
 have g:f (insP S x)=cnt (insP S x) n:=by rw [V9_ d c];exact ha
 rw [h.part (P:=insP (remP S y) x) (Q:=insP S x) (fun i _ hi=>?_) g,M5_ d k j c];by_cases e:i=x
 ·rw [e,Y0_]
 ·rw [Z8_ e] at hi ⊢
  unfold remP at hi;rw [Bool.and_eq_true] at hi;exact hi.1
theorem Zh8 (h:Rk n f) {S:Nat→Bool} {w:Nat→Int} (s:f S=cnt S n) (o:Ex n f S w):Th n f S w:=fun c=>by
 by_cases m:∀ i,i<n→S i=true→c≤w i
 ·exact .inl m
 ·right
  obtain ⟨B,q,j,D⟩:∃ y,y<n∧S y=true∧w y<c:=by
   refine Classical.byContradiction fun z=>m fun i hi u=>?_;refine Classical.byContradiction fun C=>z ⟨i,hi,u,k30_⟩
  refine T0_ h s (Y:=fun i=>decide (w i<c)) (W:=lev w c) (fun i _ hi=>?_) (fun x d g hs=>?_) (fun x d g hs y p k v=>?_) (fun i _ _ hi=>?_)
  ·have:=lev_iff.1 hi
   exact decide_eq_false k30_
  ·have E:=h.up' S d
   have F:=h.one' S d;by_cases e:f (insP S x)=cnt S n+1
   ·have r:=o B x q d j hs (Yd3 h d q j hs e)
    have:=lev_iff.1 g;omega
   ·omega
  ·have A:=h.le_cnt (insP (remP S y) x)
   rw [M5_ d p k hs] at A;by_cases e:f (insP (remP S y) x)=cnt S n
   ·have r:=o y x p d k hs e
    have:=lev_iff.1 g;have:=of_decide_eq_true v;omega
   ·omega
  ·have:=of_decide_eq_false hi
   exact lev_iff.2 k30_
theorem Yd4 (h:Rk n f) {S:Nat→Bool} {w:Nat→Int} (r:Th n f S w):Ex n f S w:=fun y x j g d c q=>by
 rcases r (w x) with p | u
 ·exact p y j d
 ·by_cases v:w y<w x
  ·have o:f (insP (remP S y) x)=cnt (insP (remP S y) x) n:=by rw [M5_ g j d c,q]
   have m:=h.part (P:=insP (andP S (lev w (w x))) x) (Q:=insP (remP S y) x) (fun i _ hi=>by
    by_cases e:i=x
    ·rw [e,Y0_]
    ·rw [Z8_ e] at hi ⊢
     unfold andP at hi;rw [Bool.and_eq_true,lev_iff] at hi;unfold remP;rw [hi.1,Bool.true_and,Bool.not_eq_true'];exact beq_false_of_ne fun k=>by rw [k] at hi;omega) o
   rw [V9_ g (by unfold andP;rw [c];rfl)] at m;have s:=h.mono (P:=insP (andP S (lev w (w x))) x) (Q:=lev w (w x)) fun i _ hi=>by
    by_cases e:i=x
    ·rw [e];exact lev_iff.2 (Int.le_refl _)
    ·exact j17_
   omega
  ·omega
structure WStraight (n:Nat) (f:(Nat→Bool)→Nat) (S:Nat→Bool) (p:Nat→Nat) (k:Nat) (w:Nat→Int):Prop where
 start:f (insP S (p 0))=cnt S n+1
 best:∀ z,z<n→S z=false→f (insP S z)=cnt S n+1→w z≤w (p 0)
 noStart:∀ i,i<k→w (p (2 * i+2))=w (p 0)→f (insP S (p (2 * i+2)))=f S
 arc:∀ i,i<k→f (insP (remP S (p (2 * i+1))) (p (2 * i+2)))=cnt S n
 tight:∀ i,i<k→w (p (2 * i+1))=w (p (2 * i+2))
 noArc:∀ i j,i<j→j<k→w (p (2 * i+1))=w (p (2 * j+2))→f (insP (remP S (p (2 * i+1))) (p (2 * j+2)))<cnt S n
 ex:Ex n f S w
theorem A4_ {p:Nat→Nat} {k:Nat} {q:Nat × Nat} (d:q∈pairs p k):∃ j,j<k∧q=(p (2 * j+1),p (2 * j+2)):=by
 obtain ⟨j,c,rfl⟩:=List.mem_map.1 d;exact ⟨j,List.mem_range.1 c,rfl⟩
theorem Xq9 {S:Nat→Bool} {r t:List (Nat × Nat)} (e:t.Perm r) (h:∀ p∈r,S p.1=true∧S p.2=false) (i:Nat):exch S t i=exch S r i:=by
 rw [Bool.eq_iff_iff,F6_ h,F6_ (fun p c=>h p (e.mem_iff.1 c)),(e.map (·.1)).mem_iff,(e.map (·.2)).mem_iff]
theorem Zd1 (h:Rk n f) {S:Nat→Bool} {p:Nat→Nat} {k:Nat} {w:Nat→Int} (C:f S=cnt S n) (hz:Zig n S p k) (hs:WStraight n f S p k w):f (turnP S p k)=cnt S n+1∧cnt (turnP S p k) n=cnt S n+1:=by
 have d:∀ q∈pairs p k,(q.1<n∧q.2<n)∧S q.1=true∧S q.2=false:=fun q hq=>x15_;obtain ⟨t,e,F⟩:=Xq8 (r:=pairs p k) (Q:=fun p q=>f (insP (remP S p.1) q.2)<cnt S n) (w:=fun q=>w q.1) (fun a ha b hb E=>by
   obtain ⟨⟨s,_⟩,u,_⟩:=d a ha;obtain ⟨⟨_,v⟩,_,y⟩:=d b hb;have H:=h.le_cnt (insP (remP S a.1) b.2);rw [M5_ v s u y] at H;by_cases e:f (insP (remP S a.1) b.2)=cnt S n
   ·have B:=hs.ex a.1 b.2 s v u y e
    obtain ⟨j,hj,rfl⟩:=A4_ hb;have:=hs.tight j hj;simp only at B E;omega
   ·omega) (by
   unfold pairs;rw [List.pairwise_map];refine List.Pairwise.imp_of_mem (fun {i j} _ hj m hw=>?_) List.pairwise_lt_range;have hj:=List.mem_range.1 hj;have:=hs.tight j hj;exact hs.noArc i j m hj (by simp only at hw;omega))
 have A:∀ (g:Nat→Nat),(∀ i,g i≤2 * k∨k≤i)→(∀ i j,g i=g j→i=j)→((List.range k).map fun i=>p (g i)).Nodup:=fun g hg hi=>j8_;have G:=Xo9 h C (r:=t) (x:=p 0) (fun q hq=>d q (e.mem_iff.1 hq))
  ((e.map (·.1)).nodup_iff.2 (by unfold pairs;rw [List.map_map];exact A (fun i=>2 * i+1) (fun i=>by omega) (fun i j m=>by omega)))
  ((e.map (·.2)).nodup_iff.2 (by unfold pairs;rw [List.map_map];exact A (fun i=>2 * i+2) (fun i=>by omega) (fun i j m=>by omega)))
  (fun q hq=>by
   obtain ⟨j,hj,rfl⟩:=A4_ (e.mem_iff.1 hq);have o:p (2 * j+2)<n:=hz.lt _ k30_;have D:S (p (2 * j+2))=false:=hz.out (j+1) k30_;show f (insP S (p (2 * j+2)))=f S;by_cases ha:f (insP S (p (2 * j+2)))=cnt S n+1
   ·have K:=hs.best _ o D ha
    have L:=hs.ex (p (2 * j+1)) (p 0) (hz.lt _ k30_) (hz.lt _ k30_) (hz.within j hj) (hz.out 0 k30_) (Yd3 h (hz.lt _ k30_) (hz.lt _ k30_) (hz.within j hj) (hz.out 0 k30_) hs.start);have M:=hs.tight j hj;exact hs.noStart j hj k30_
   ·have I:=h.up' S o
    have J:=h.one' S o;omega)
  (fun q hq=>by
   obtain ⟨j,hj,rfl⟩:=A4_ (e.mem_iff.1 hq);exact hs.arc j hj)
  (F.imp fun h=>h.2)
  (hz.lt 0 k30_) (hz.out 0 k30_)
  (fun hq=>by
   obtain ⟨q,hq,c⟩:=List.mem_map.1 hq;obtain ⟨j,hj,rfl⟩:=A4_ (e.mem_iff.1 hq);have:=hz.inj (2 * j+2) 0 k30_ k30_ c;omega) hs.start
 have z:∀ i,insP (exch S t) (p 0) i=turnP S p k i:=fun i=>by
  rw [← Zh7 hz i];by_cases c:i=p 0
  ·rw [c,Y0_,Y0_]
  ·rw [Z8_ c,Z8_ c]
   exact Xq9 e (fun q hq=>(d q hq).2) i
 rw [← h.ext (P:=insP (exch S t) (p 0)) (Q:=turnP S p k) fun i _=>z i,← V8_ (P:=insP (exch S t) (p 0)) (Q:=turnP S p k) fun i _=>z i];exact G
theorem Yd5 {S L:Nat→Bool}:∀ {r:List (Nat × Nat)},(∀ p∈r,(p.1<n∧p.2<n)∧S p.1=true∧S p.2=false)→(r.map (·.1)).Nodup→(r.map (·.2)).Nodup→(∀ p∈r,L p.1=L p.2)→cnt (andP (exch S r) L) n=cnt (andP S L) n
 | [],_,_,_,_=>rfl
 | (y,x) :: r,hp,hn1,hn2,hL=>by
  have d:=hp (y,x) y31_;have j:∀ p∈r,(p.1<n∧p.2<n)∧S p.1=true∧S p.2=false:=fun p h=>hp p (by simp [h]);rw [List.map_cons,List.nodup_cons] at hn1 hn2;have o:=Yd5 j hn1.2 hn2.2 fun p h=>hL p (by simp [h]);have g:=F6_ (S:=S) (r:=r) fun p h=>(j p h).2;have m:exch S r y=true:=(g y).2 (.inl ⟨d.2.1,hn1.1⟩);have k:exch S r x=false:=by
   rw [← Bool.not_eq_true,g];rintro (⟨f,_⟩ | f)
   ·rw [d.2.2] at f;cases f
   ·exact hn2.1 f
  have hl:L y=L x:=hL (y,x) y31_;rw [← o,exch];cases hLx:L x
  ·rw [hLx] at hl
   refine V8_ fun i _=>?_;unfold andP;by_cases e:i=x
   ·rw [e,hLx,Bool.and_false,Bool.and_false]
   ·rw [Z8_ e]
    by_cases c:i=y
    ·rw [c,hl,Bool.and_false,Bool.and_false]
    ·rw [G5_ c]
  ·rw [hLx] at hl
   rw [← M5_ (S:=andP (exch S r) L) (x:=x) (y:=y) d.1.2 d.1.1 (by unfold andP;rw [m,hl];rfl) (by unfold andP;rw [k];rfl)];refine V8_ fun i _=>?_;by_cases e:i=x
   ·rw [e,Y0_];unfold andP;rw [Y0_,hLx];rfl
   ·rw [Z8_ e]
    unfold andP;rw [Z8_ e];by_cases c:i=y
    ·rw [c,E6_,E6_];rfl
    ·rw [G5_ c,G5_ c]
theorem Xa0 (h:Rk n f) {S:Nat→Bool} {p:Nat→Nat} {k:Nat} {w:Nat→Int} (M:f S=cnt S n) (hz:Zig n S p k) (hs:WStraight n f S p k w):Th n f (turnP S p k) w:=fun c=>by
 have D:∀ q∈pairs p k,(q.1<n∧q.2<n)∧S q.1=true∧S q.2=false:=fun q hq=>x15_;have H:∀ (g:Nat→Nat),(∀ i,g i≤2 * k∨k≤i)→(∀ i j,g i=g j→i=j)→((List.range k).map fun i=>p (g i)).Nodup:=fun g hg hi=>j8_;have s:p 0<n:=hz.lt 0 k30_;have u:S (p 0)=false:=hz.out 0 k30_;have E:=F6_ (S:=S) (r:=pairs p k) fun q hq=>(D q hq).2;have N:cnt (andP (turnP S p k) (lev w c)) n=cnt (andP S (lev w c)) n+if c≤w (p 0) then 1 else 0:=by
  have C:=Yd5 (n:=n) (S:=S) (L:=lev w c) (r:=pairs p k) D (by unfold pairs;rw [List.map_map];exact H (fun i=>2 * i+1) (fun i=>by omega) (fun i j R=>by omega))
   (by unfold pairs;rw [List.map_map];exact H (fun i=>2 * i+2) (fun i=>by omega) (fun i j R=>by omega)) (fun q hq=>by
    obtain ⟨j,hj,rfl⟩:=A4_ hq;show lev w c (p (2 * j+1))=lev w c (p (2 * j+2));unfold lev;rw [hs.tight j hj])
  have J:exch S (pairs p k) (p 0)=false:=by
   rw [← Bool.not_eq_true,E];rintro (⟨d,_⟩ | d)
   ·rw [u] at d;cases d
   ·obtain ⟨q,hq,o⟩:=List.mem_map.1 d
    obtain ⟨j,hj,rfl⟩:=A4_ hq;have:=hz.inj (2 * j+2) 0 k30_ k30_ o;omega
  rw [← C];by_cases m:c≤w (p 0)
  ·rw [if_pos m,← V9_ s (P:=andP (exch S (pairs p k)) (lev w c)) (by unfold andP;rw [J];rfl)]
   refine V8_ fun i _=>?_;show (turnP S p k i && lev w c i)=_;rw [← Zh7 hz i];by_cases e:i=p 0
   ·rw [e,Y0_,Y0_,lev_iff.2 m];rfl
   ·rw [Z8_ e,Z8_ e];rfl
  ·rw [if_neg m,Nat.add_zero]
   refine V8_ fun i _=>?_;show (turnP S p k i && lev w c i)=(exch S (pairs p k) i && lev w c i);rw [← Zh7 hz i];by_cases e:i=p 0
   ·have:lev w c (p 0)=false:=by rw [← Bool.not_eq_true,lev_iff];exact m
    rw [e,this,Bool.and_false,Bool.and_false]
   ·rw [Z8_ e]
 have B:f (lev w c)=cnt (andP S (lev w c)) n→f (lev w c)=cnt (andP (turnP S p k) (lev w c)) n:=fun y=>by
  rw [N];by_cases m:c≤w (p 0)
  ·have K:f (insP S (p 0))=cnt (insP S (p 0)) n:=by rw [V9_ s u];exact hs.start
   have d:=h.part (P:=insP (andP S (lev w c)) (p 0)) (Q:=insP S (p 0)) (fun i _ hi=>by
    by_cases e:i=p 0
    ·rw [e,Y0_]
    ·rw [Z8_ e] at hi ⊢
     unfold andP at hi;rw [Bool.and_eq_true] at hi;exact hi.1) K
   rw [V9_ s (by unfold andP;rw [u];rfl)] at d;have I:=h.mono (P:=insP (andP S (lev w c)) (p 0)) (Q:=lev w c) fun i _ hi=>by
    by_cases e:i=p 0
    ·rw [e];exact lev_iff.2 m
    ·exact j17_
   omega
  ·rw [if_neg m];exact y
 rcases Zh8 h M hs.ex c with hall | y
 ·by_cases F:∀ z,z<n→lev w c z=true→f (insP S z)=f S
  ·right
   refine B ?_;have O:=h.closed S (lev w c) F n (le_refl _);rw [F2_ h] at O;have I:=h.mono (P:=lev w c) (Q:=orP S (lev w c)) fun i _ hi=>by unfold orP;rw [hi,Bool.or_true]
   have C:cnt (andP S (lev w c)) n=cnt S n:=V8_ fun i hi=>q19_;have h3:=h.mono (P:=S) (Q:=lev w c) fun i hi hSi=>lev_iff.2 (hall i hi hSi);omega
  ·left
   obtain ⟨z,A,U,G⟩:∃ z,z<n∧lev w c z=true∧f (insP S z)≠f S:=by
    refine Classical.byContradiction fun T=>F fun z hz hl=>?_;exact Classical.byContradiction fun hne=>T ⟨z,hz,hl,hne⟩
   have v:S z=false:=by
    rw [← Bool.not_eq_true];intro v;rw [G0_ v] at G;exact G rfl
   have W:=h.up' S A;have X:=h.one' S A;have hb:=hs.best z A v k30_;have:=lev_iff.1 U;intro i hi x;rw [← Zh7 hz i] at x;by_cases e:i=p 0
   ·rw [e];omega
   ·rw [Z8_ e] at x
    rcases (E i).1 x with ⟨d,_⟩ | d
    ·exact hall i hi d
    ·obtain ⟨q,hq,o⟩:=List.mem_map.1 d
     obtain ⟨j,hj,rfl⟩:=A4_ hq;have h3:=hs.tight j hj;have V:=hall (p (2 * j+1)) (hz.lt _ k30_) (hz.within j hj);rw [← o];show c≤w (p (2 * j+2));omega
 ·exact .inr (B y)
end
theorem Zh9 (w:Nat→Int) (c:Int) (P:Nat→Bool):∀ n,sumP (fun i=>min (w i) (c+1)) P n=sumP (fun i=>min (w i) c) P n+(cnt (andP P (lev w (c+1))) n:Int)
 | 0=>by simp [sumP,cnt]
 | n+1=>by
  have e:=Zh9 w c P n;rw [sumP,sumP,X4_];unfold andP lev;unfold andP lev at e;cases hP:P n
  ·simp only [Bool.false_and,Bool.false_eq_true,if_false]
   omega
  ·by_cases d:c+1≤w n
   ·simp only [Bool.true_and,if_true,decide_eq_true d]
    omega
   ·simp only [Bool.true_and,if_true,decide_eq_false d,Bool.false_eq_true,if_false]
    omega
theorem Zi0 (c:Int) (P:Nat→Bool):∀ n,sumP (fun _=>c) P n=c * (cnt P n:Int)
 | 0=>by simp [sumP,cnt]
 | n+1=>by
  rw [sumP,X4_,Zi0 c P n];cases P n
  ·simp
  ·simp only [if_true]
   rw [show ((cnt P n+1:Nat):Int)=(cnt P n:Int)+1 from rfl,Int.mul_add,Int.mul_one]
theorem Zj7 (w:Nat→Int):∀ n:Nat,∃ (m:Int) (k:Nat),∀ i,i<n→m≤w i∧w i≤m+(k:Int)
 | 0=>⟨0,0,fun i hi=>by omega⟩
 | n+1=>by
  obtain ⟨m,k,h⟩:=Zj7 w n;refine ⟨min m (w n),(max (m+k) (w n) - min m (w n)).toNat,fun i hi=>?_⟩;by_cases e:i=n
  ·subst e;omega
  ·have:=h i k30_;omega
theorem Ym8 {n:Nat} {w:Nat→Int} {S T:Nat→Bool} (hl:∀ c,cnt (andP T (lev w c)) n≤cnt (andP S (lev w c)) n) (hc:cnt T n=cnt S n):sumP w T n≤sumP w S n:=by
 obtain ⟨m,k,hb⟩:=Zj7 w n;have d:∀ j:Nat,sumP (fun i=>min (w i) (m+(j:Int))) T n≤sumP (fun i=>min (w i) (m+(j:Int))) S n:=by
  intro j
  induction j with
  | zero =>
   have e:∀ P,sumP (fun i=>min (w i) (m+((0:Nat):Int))) P n=sumP (fun _=>m) P n:=fun P=>Zz1 (fun _ _=>rfl) fun i hi=>by have:=(hb i hi).1;omega
   rw [e,e,Zi0,Zi0,hc];exact Int.le_refl _
  | succ j ih =>
   rw [show (m+((j+1:Nat):Int))=(m+(j:Int))+1 by omega,Zh9,Zh9];have:=hl (m+(j:Int)+1);omega
 have e:∀ P,sumP (fun i=>min (w i) (m+(k:Int))) P n=sumP w P n:=fun P=>Zz1 (fun _ _=>rfl) fun i hi=>by have:=(hb i hi).2;omega
 have:=d k
 rwa [e,e] at this
theorem Xa1 {n:Nat} {f:(Nat→Bool)→Nat} (h:Rk n f) {S T:Nat→Bool} {w:Nat→Int} (j:Th n f S w) (d:f T=cnt T n) (hc:cnt T n=cnt S n):sumP w T n≤sumP w S n:=by
 refine Ym8 (fun c=>?_) hc;rcases j c with hall | g
 ·have e:cnt (andP S (lev w c)) n=cnt S n:=V8_ fun i hi=>q19_
  rw [e,← hc,← d,← h.part (P:=andP T (lev w c)) (Q:=T) (fun i _ hi=>by unfold andP at hi;rw [Bool.and_eq_true] at hi;exact hi.1) d];exact h.mono fun i _ hi=>by unfold andP at hi;rw [Bool.and_eq_true] at hi;exact hi.1
 ·rw [← g,← h.part (P:=andP T (lev w c)) (Q:=T) (fun i _ hi=>by unfold andP at hi;rw [Bool.and_eq_true] at hi;exact hi.1) d]
  exact h.mono fun i _ hi=>by unfold andP at hi;rw [Bool.and_eq_true] at hi;exact hi.2
theorem Yd6 (f g:Nat→Int) (P:Nat→Bool):∀ n,sumP (fun i=>f i+g i) P n=sumP f P n+sumP g P n
 | 0=>rfl
 | n+1=>by
  have c:=Yd6 f g P n;rw [sumP,sumP,sumP];split<;>omega
open Go Go.RowKit
def DigP (adj:List (List Int)):Prop:=adj.length≤4096∧∀ x,IsSet (adj.getD x [])∧∀ y∈adj.getD x [],0≤y∧y<(adj.length:Int)
abbrev PtsP (n:Nat) (l:List Int):Prop:=InN n l
def nearK (adj:List (List Int)) (l:List Int):Nat→List Int
 | 0=>l
 | k+1=>X2_ (nearK adj l k) (adj.getD (l.getD k 0).toNat [])
def nearL (adj:List (List Int)) (l:List Int):List Int:=nearK adj l l.length
def itL (adj:List (List Int)) (l:List Int):Nat→List Int
 | 0=>l
 | k+1=>nearL adj (itL adj l k)
theorem Zr8 {adj:List (List Int)} (l:List Int):∀ k,itL adj (nearL adj l) k=itL adj l (k+1)
 | 0=>rfl
 | k+1=>by
  show nearL adj (itL adj (nearL adj l) k)=nearL adj (itL adj l (k+1));rw [Zr8 l k]
theorem Zi1 {adj:List (List Int)} {l:List Int} {k:Nat} (h:itL adj l (k+1)=itL adj l k):∀ m,itL adj l (k+m)=itL adj l k
 | 0=>rfl
 | m+1=>by
  show nearL adj (itL adj l (k+m))=_;rw [Zi1 h m];exact h
theorem Yx7 {n:Nat} {l:List Int} (h:PtsP n l):l.length≤n:=X1_ h
section
variable {adj:List (List Int)} (hd:DigP adj)
include hd
theorem Zr9 {l:List Int} (hl:PtsP adj.length l):∀ k,k≤l.length→PtsP adj.length (nearK adj l k)∧∀ x,x∈nearK adj l k↔x∈l∨∃ y∈l.take k,x∈adj.getD y.toNat []
 | 0,_=>⟨hl,fun x=>by simp [nearK]⟩
 | k+1,hk=>by
  obtain ⟨d,f⟩:=Zr9 hl k k30_;have e:=E3_ d.1 (hd.2 (l.getD k 0).toNat).1;have g:l.take (k+1)=l.take k ++ [l.getD k 0]:=by
   rw [List.take_succ_eq_append_getElem (by omega:k<l.length)];simp [List.getD,show k<l.length by omega]
  refine ⟨⟨Zo5 _ _,fun x j=>?_⟩,fun x=>?_⟩
  ·rcases (e x).1 j with h | h
   ·exact d.2 x h
   ·exact (hd.2 _).2 x h
  ·show x∈X2_ (nearK adj l k) (adj.getD (l.getD k 0).toNat [])↔_
   rw [e x,f x,g];constructor
   ·rintro ((h | ⟨y,c,h⟩) | h)
    ·exact .inl h
    ·exact .inr ⟨y,List.mem_append.2 (.inl c),h⟩
    ·exact .inr ⟨_,List.mem_append.2 (.inr (List.mem_singleton.2 rfl)),h⟩
   ·rintro (h | ⟨y,c,h⟩)
    ·exact .inl (.inl h)
    ·rcases List.mem_append.1 c with c | c
     ·exact .inl (.inr ⟨y,c,h⟩)
     ·rw [List.mem_singleton] at c
      rw [c] at h;exact .inr h
theorem E7_ {l:List Int} (hl:PtsP adj.length l):PtsP adj.length (nearL adj l)∧∀ x,x∈nearL adj l↔x∈l∨∃ y∈l,x∈adj.getD y.toNat []:=by
 have:=Zr9 hd hl l.length (le_refl _);rw [List.take_length] at this;exact this
theorem A5_ {l:List Int} (hl:PtsP adj.length l):∀ k,PtsP adj.length (itL adj l k)
 | 0=>hl
 | k+1=>(E7_ hd (A5_ hl k)).1
theorem H2_ {dst:List Int}:∀ k l,PtsP adj.length l→((∃ z∈itL adj l k,z∈dst)↔∃ y∈l,Near adj dst k y)
 | 0,l,_=>Iff.rfl
 | k+1,l,hl=>by
  have d:=E7_ hd hl;rw [← Zr8 l k,H2_ k _ d.1];constructor
  ·rintro ⟨y,c,h⟩
   rcases (d.2 y).1 c with c | ⟨z,e,c⟩
   ·exact ⟨y,c,.inl h⟩
   ·exact ⟨z,e,.inr ⟨y,c,h⟩⟩
  ·rintro ⟨y,c,h | ⟨z,e,h⟩⟩
   ·exact ⟨y,(d.2 y).2 (.inl c),h⟩
   ·exact ⟨z,(d.2 z).2 (.inr ⟨y,c,e⟩),h⟩
theorem Xa2 {l:List Int} (hl:PtsP adj.length l) (k:Nat):∀ x,x∈itL adj l k→x∈itL adj l (k+1):=fun x c=>((E7_ hd (A5_ hd hl k)).2 x).2 (.inl c)
theorem Zs0 {l:List Int} (hl:PtsP adj.length l):∀ k,(∀ m,m<k→itL adj l (m+1)≠itL adj l m)→k≤(itL adj l k).length
 | 0,_=>Nat.zero_le _
 | k+1,h=>by
  have r:=Zs0 hl k fun m d=>h m k30_;have e:=A5_ hd hl k;have c:=A5_ hd hl (k+1);rw [V2_ e] at r;rw [V2_ c];by_cases f:∃ y,y<adj.length∧memP (itL adj l k) y=false∧memP (itL adj l (k+1)) y=true
  ·have:=Yo7 (p:=memP (itL adj l k)) (q:=memP (itL adj l (k+1))) (n:=adj.length) (fun v _ o=>memP_iff.2 (Xa2 hd hl k _ (memP_iff.1 o))) f
   omega
  ·exfalso
   refine h k k30_ (IsSet.ext c.1 e.1 fun x=>⟨fun g=>?_,Xa2 hd hl k x⟩);have hb:=c.2 x g;have j:((x.toNat:Nat):Int)=x:=k30_;cases d:memP (itL adj l k) x.toNat
   ·exact absurd ⟨x.toNat,k30_,d,memP_iff.2 (by rw [j];exact g)⟩ f
   ·have:=memP_iff.1 d
    rwa [j] at this
theorem Xa3 {l:List Int} (hl:PtsP adj.length l):∀ m,itL adj l (adj.length+m)=itL adj l adj.length:=by
 by_cases h:∃ k,k≤adj.length∧itL adj l (k+1)=itL adj l k
 ·obtain ⟨k,f,e⟩:=h
  intro m;have c:=Zi1 e (adj.length+m - k);have d:=Zi1 e (adj.length - k);rw [show k+(adj.length+m - k)=adj.length+m by omega] at c;rw [show k+(adj.length - k)=adj.length by omega] at d;rw [c,d]
 ·exfalso
  have c:=Zs0 hd hl (adj.length+1) fun m g e=>h ⟨m,k30_,e⟩;have d:=Yx7 (A5_ hd hl (adj.length+1));omega
theorem T2_ {l:List Int} (hl:PtsP adj.length l) {x y:Int} (c:x∈itL adj l adj.length) (d:y∈adj.getD x.toNat []):y∈itL adj l adj.length:=by
 have h:=((E7_ hd (A5_ hd hl adj.length)).2 y).2 (.inr ⟨x,c,d⟩);have e:itL adj l (adj.length+1)=itL adj l adj.length:=Xa3 hd hl 1;rw [← e];exact h
theorem Zi2 {l:List Int} (hl:PtsP adj.length l):∀ k x,x∈l→x∈itL adj l k
 | 0,_,h=>h
 | k+1,x,h=>Xa2 hd hl k x (Zi2 hl k x h)
theorem Zj8 {dst:List Int} {v:Int} (h:0≤v∧v<(adj.length:Int)) {k:Nat} (f:Near adj dst k v):∃ m,m≤adj.length∧m≤k∧Near adj dst m v:=by
 by_cases g:k≤adj.length
 ·exact ⟨k,g,le_refl _,f⟩
 ·have hl:PtsP adj.length [v]:=⟨⟨y31_,fun y c=>by rw [List.mem_singleton] at c;have:=hd.1;rw [c];exact ⟨k30_,k30_⟩⟩,fun y c=>by rw [List.mem_singleton] at c;rw [c];exact h⟩
  have d:=(H2_ hd (dst:=dst) k [v] hl).2 ⟨v,y31_,f⟩;rw [show k=adj.length+(k - adj.length) by omega,Xa3 hd hl] at d;obtain ⟨y,c,e⟩:=(H2_ hd (dst:=dst) adj.length [v] hl).1 d;rw [List.mem_singleton] at c;rw [c] at e;exact ⟨adj.length,le_refl _,k30_,e⟩
end
section
variable {adj:List (List Int)} {dst S:List Int} {i:Nat} {b s:Int}
end
open Go Go.RowKit
theorem Zz2 {k:Nat} (h:k≤64):IsSet (upTo k):=by
 by_cases c:k=0
 ·subst c;exact A2_
 ·rw [← Xv1 k30_ k30_]
  exact C3_ _
section
variable {a b m:Mat} {s:List Int}
theorem J9_ (c:nN m≤64):InN (nN m) (addG m s):=⟨(Zz2 c).filter _,fun _ d=>mem_upTo.1 (List.mem_filter.1 d).1⟩
theorem Va3 {x:Nat} (c:nN a≤x):(adjG a b s).getD x []=[]:=by
 rw [List.getD_eq_getElem?_getD,List.getElem?_eq_none (by rw [J8_];exact c)];rfl
theorem T3_ (d:nN a≤64):DigP (adjG a b s):=by
 refine ⟨by rw [J8_];omega,fun x=>?_⟩;by_cases e:x<nN a
 ·rw [Xq7 e,J8_]
  exact ⟨(Zz2 d).filter _,fun y c=>mem_upTo.1 (List.mem_filter.1 c).1⟩
 ·rw [Va3 k30_]
  exact ⟨A2_,fun y c=>by cases c⟩
theorem Common.n64 (h:Common a b s):nN a≤64:=(Y7_ (mayI_iff.1 (J0_ h.ia)).1).2
theorem Common.set (h:Common a b s):InN (nN a) s:=(mayI_iff.1 (J0_ h.ia)).2
theorem Ym9 (h:Common a b s) (g:meetL (itL (adjG a b s) (addG a s) (adjG a b s).length) (addG b s)=[]) :
  InN (nN a) (itL (adjG a b s) (addG a s) (adjG a b s).length)∧rankT a (Z4_ (allL a.n) (itL (adjG a b s) (addG a s) (adjG a b s).length))+rankT b (itL (adjG a b s) (addG a s) (adjG a b s).length)=(s.length:Int):=by
 have hd:=T3_ (b:=b) (s:=s) h.n64;have d:PtsP (adjG a b s).length (addG a s):=by rw [J8_];exact J9_ h.n64
 have f:=A5_ hd d (adjG a b s).length;have c:InN (nN a) (itL (adjG a b s) (addG a s) (adjG a b s).length):=by rw [J8_] at f ⊢;exact f
 refine ⟨c,Ym7 h c (Zi2 hd d _) (fun x e y j=>T2_ hd d e (by rw [Int.toNat_natCast];exact j)) fun x e hb=>?_⟩;have hB:IsSet (addG b s):=(J9_ (by rw [h.nn];exact h.n64)).1;have:=(M3_ c.1 hB x).2 ⟨e,hb⟩;rw [g] at this;cases this
end
end Go.Proofs.YtgpljiijjnaofaaGreatDoor.Wp
namespace Go.Proofs.YtgpljiijjnaofaaGreatDoor
open Go.RowKit
namespace Wp
theorem Row.nth {w:World} {B:Nat} {A:Option Addr} {n c:Nat} {l:List Int} (h:Row w B (.slice A n c) l) {k:Nat} (hk:k<l.length):∃ ad,A=some ad∧∀ W,Below B w W→W.cell? (ad.add k)=some (.int .i64 (l.getD k 0)):=z10_
open Go.RowKit
theorem Zi3 (v:Value) (l:List Int) (x:Int) (B:Nat) (w:World) (o:Row w B v l) (hl:l.length≤1048576) :
  Calls Tryz.prog 86 #[v,.int .i64 x] w fun e w'=>e=.returned (.bool (l.contains x))∧w'=w:=by
 obtain ⟨A,c,rfl,_,d⟩:=o;rcases l with _ | ⟨y,r⟩
 ·exact Tryz.slices_Contains_int_empty A c x w
 ·obtain ⟨g,rfl,z,hc⟩:=d 0 y31_
  obtain ⟨b,q,s⟩:=g;have p:s=none:=k38_;subst p;have h:=Tryz.slices_Contains_int b q (y :: r).length c (y :: r) x w (le_refl _) k30_ (fun j m=>by
   obtain ⟨u,hA,_,k⟩:=d j m;injection hA with hA;subst hA;rw [← k];congr 1;unfold Addr.add;split
   ·simp
   ·rfl)
  rw [List.take_length] at h;exact h
theorem Vh8 {l:List Int} {x:Int} (h:mayB l=false):hasB l x=false:=by unfold hasB;rw [h];rfl
theorem Va4 {l:List Int} {x:Int} (h:mayB l=true):hasB l x=l.contains x:=by unfold hasB;rw [h];rfl
theorem Zi4 (v:Value) (l:List Int) (x:Int) (w:World) (m:Row w w.heap.size v l) (hl:l.length≤1048576) :
  Calls Tryz.prog 55 #[v,.int .i64 x] w (Says w (hasB l x)):=by
 have g:=hid m;clear m;rcases hm:mayB l with _ | _
 ·have c:=hid (Vh8 (x:=x) hm)
  go_enter Tryz.func55,Tryz.ntmps55
  go_wp2_with fail
  refine (may_any v l w g.out k30_).mono ?_;rintro e o ⟨rfl,d⟩;rw [hm];go_wp2;go_ret;exact V3_ c.out rfl d
 ·have c:=hid (Va4 (x:=x) hm)
  obtain ⟨j,k⟩:∃ j,j=l.contains x:=⟨_,rfl⟩;have h:=hid (Zi3 v l x w.heap.size);rw [← k] at c h;clear k
  go_enter Tryz.func55,Tryz.ntmps55
  go_wp2_with fail
  refine (may_any v l w g.out k30_).mono ?_;rintro e o ⟨rfl,d⟩;rw [hm]
  go_wp2_with fail
  refine (h.out o (g.out.below d) hl).mono ?_;rintro e p ⟨rfl,rfl⟩;go_wp2;go_ret;exact V3_ c.out rfl d
theorem Fam.bel {w w':World} {B:Nat} {vs:List Value} {c:List (List Int)} (h:Fam w B vs c) (hb:Below w.heap.size w w'):Fam w' B vs c:=h.new (Y5_ hb none)
open Go.RowKit
def sameB (a b:List Int):Bool:=decide (a=b)
theorem Xp1 (K L:Value) (a b:List Int) (w:World) (ha:Row w w.heap.size K a) (hb:Row w w.heap.size L b) (V:a.length≤1048576) (_hlb:b.length≤1048576) :
  Calls Tryz.prog 16 #[K,L] w fun e w'=>e=.returned (.bool (sameB a b))∧∃ q,w'=w.drewN q:=by
 obtain ⟨A,Q,rfl,_,D⟩:=ha;obtain ⟨A',R,rfl,_,E⟩:=hb;have p:=hid D;have r:=hid E;clear D E;by_cases hl:a.length=b.length
 ·have P:((a.length:Int) != (b.length:Int))=false:=by rw [hl];simp
  have s:=hid hl;clear hl
  go_enter Tryz.func16,Tryz.ntmps16
  go_wp2
  go_loopw [5] (fun o wr=>∃ k q:Nat,o=.int .i64 k∧wr=w.drewN q∧k≤a.length∧a.take k=b.take k) (fun o _=>a.length - (intOf o).toNat)
  case atStart=>exact ⟨0,0,rfl,rfl,Nat.zero_le _,rfl⟩
  case round =>
   obtain ⟨k,q,rfl,J,U,I⟩:=hrel;have d:=hid J;clear J;have j:=hid I;clear I;by_cases G:k<a.length
   ·have H:k<b.length:=by have:=s.out;omega
    obtain ⟨M,hA,_,B⟩:=p.out k G;obtain ⟨N,O,_,C⟩:=r.out k H;subst hA O;have S:wr.cell? (M.add k)=some (.int .i64 (a.getD k 0)):=by rw [d.out];exact B
    have T:wr.cell? (N.add k)=some (.int .i64 (b.getD k 0)):=by rw [d.out];exact C
    have X:(k:Int)<(a.length:Int):=k30_;have Y:(k:Int)<(b.length:Int):=k30_;have m:∀ l:List Int,k<l.length→l.take (k+1)=l.take k ++ [l.getD k 0]:=by
     intro l h;rw [List.take_succ_eq_append_getElem h];exact z22_
    have u:=hid (m a G);have v:=hid (m b H);clear m B C p r;generalize a.getD k 0=x at *
    generalize b.getD k 0=y at *
    by_cases g:x=y
    ·subst g
     go_wp2
     go_quiet (fail)
     go_wp2
     go_roundw
     case rel=>exact ⟨k+1,q+nq,z32_,by rw [d.out,World.drewN_drewN],k30_,by rw [u.out,v.out,j.out]⟩
     case measure=>simp [intOf];omega
    ·have W:(x != y)=true:=by simpa using g
     have c:Hid (sameB a b=false):=by
      show sameB a b=false;unfold sameB;rw [decide_eq_false_iff_not];intro h;have z:a.take (k+1)=b.take (k+1):=by rw [h]
      rw [u.out,v.out,j.out] at z;have h3:=List.append_cancel_left z;simp at h3;exact g h3
     clear g;go_wp2
     go_quiet (fail)
     go_wp2;go_ret;refine ⟨?_,q+nq,by rw [d.out,World.drewN_drewN]⟩;rw [c.out];rfl
   ·have F:k=a.length:=by omega
    have c:Hid (sameB a b=true):=by
     show sameB a b=true;unfold sameB;rw [decide_eq_true_iff];have h:=j.out;rw [F,List.take_length] at h;rw [h,s.out,List.take_length]
    subst F;go_wp2;go_ret;refine ⟨?_,q,d.out⟩;rw [c.out];rfl
 ·have P:((a.length:Int) != (b.length:Int))=true:=by
   rw [bne_iff_ne];omega
  have c:Hid (sameB a b=false):=by
   show sameB a b=false;unfold sameB;rw [decide_eq_false_iff_not];intro h;exact hl (by rw [h])
  clear hl
  go_enter Tryz.func16,Tryz.ntmps16
  go_wp2;go_ret;refine ⟨?_,0,rfl⟩;rw [c.out];rfl
theorem Xa4 (c d:Value) (a b:List Int) (w:World) (ha:Row w w.heap.size c a) (hb:Row w w.heap.size d b) (h:a.length≤1048576) (j:b.length≤1048576) :
  Calls Tryz.prog 16 #[c,d] w (Says w (sameB a b)) :=
 (Xp1 c d a b w ha hb h j).mono fun _ _ ⟨e,q,g⟩=>⟨e,by rw [g];exact Y8_ (Below.refl _ _) q⟩
theorem Va5 (c d:Value) (a b:List Int) (w:World) (ha:Row w w.heap.size c a) (hb:Row w w.heap.size d b) (e:a.length≤1048576) (g:b.length≤1048576) {x:Bool} (h:sameB a b=x) :
  Calls Tryz.prog 16 #[c,d] w (Says w x):=by
 subst h;exact Xa4 c d a b w ha hb e g
open Go.RowKit
def Goes (w:World) (g:Nat) (lb:Array Value) (N:Nat) (on:Int→Nat→Bool):Prop :=
 ∀ (x:Int) (n:Nat) (W:World),0≤x→x<(N:Int)→Below w.heap.size w W→Calls Tryz.prog g (#[.int .i64 x,.int .i64 (n:Int)] ++ lb) W fun e W'=>e=.returned (.bool (on x n))∧Below W.heap.size W W'
end Wp
end Go.Proofs.YtgpljiijjnaofaaGreatDoor
namespace Go.Proofs.YtgpljiijjnaofaaGreatDoor.Wp
open Go Go.RowKit
end Go.Proofs.YtgpljiijjnaofaaGreatDoor.Wp
namespace Go.Proofs.YtgpljiijjnaofaaGreatDoor
open Go Go.RowKit
namespace Wp
theorem Row.nthV {w:World} {B:Nat} {A:Option Addr} {n c:Nat} {l:List Int} (h:Row w B (.slice A n c) l) {k:Nat} (hk:k<l.length):∃ ad,A=some ad∧∀ W,Below B w W→W.cell? (ad.add k)=some (.int .i64 (l.getD k 0)):=z10_
open Go Go.RowKit
open Go Go.RowKit
def mayP (a b:Mat):Bool:=decide (a.n=b.n) && ((chk a==0) && (chk b==0))
theorem Xa5 (a b:Mat) (N O:Value) (w:World) (ha:MatV w w.heap.size N a) (hb:MatV w w.heap.size O b) (K:Sml a) (L:Sml b):Calls Tryz.prog 15 #[N,O] w (Says w (mayP a b)):=by
 obtain ⟨H,D⟩:∃ c,chk a=c:=⟨_,rfl⟩;obtain ⟨I,E⟩:∃ c,chk b=c:=⟨_,rfl⟩;obtain ⟨y,F⟩:∃ y,decide (a.n=b.n)=y:=⟨_,rfl⟩;have G:(a.n==b.n)=y:=by rw [← F];rfl
 have S:=hid G;have J:mayP a b=((H==0) && ((I==0) && y)):=by unfold mayP;rw [D,E,F];cases y<;>simp
 rw [J];have P:=hid D;have Q:=hid E;clear D E J F G;have T:=hid K;have U:=hid L;obtain ⟨la,ia,Z,X,V⟩:=ha.open;obtain ⟨lb,ib,x0,Y,W⟩:=hb.open;obtain ⟨s,z,rfl,_⟩:=X;obtain ⟨r,x,rfl,_⟩:=V;obtain ⟨v,C,rfl,_⟩:=Y;obtain ⟨u,B,rfl,_⟩:=W;subst Z x0;obtain ⟨p,hW2⟩:∃ p,p=(w.alloc (.cells #[.int .i64 a.t,.int .i64 a.n,.int .i64 a.a,.int .i64 a.b,.slice s a.l.length z,.slice r a.i.length x] 25)).alloc (.cells #[.int .i64 b.t,.int .i64 b.n,.int .i64 b.a,.int .i64 b.b,.slice v b.l.length C,.slice u b.i.length B] 25):=⟨_,rfl⟩;have R:=hid hW2;have q:Below w.heap.size w p:=by rw [hW2];exact ((Below.refl _ w).alloc (le_refl _) _).alloc y31_ _
 have h:Hid (Blk p w.heap.size 25 #[.int .i64 a.t,.int .i64 a.n,.int .i64 a.a,.int .i64 a.b,.slice s a.l.length z,.slice r a.i.length x]):=hid k36_;have d:Hid (Blk p (w.heap.size+1) 25 #[.int .i64 b.t,.int .i64 b.n,.int .i64 b.a,.int .i64 b.b,.slice v b.l.length C,.slice u b.i.length B]):=hid (by
  rw [hW2];have:=Blk.new (w.alloc (.cells #[.int .i64 a.t,.int .i64 a.n,.int .i64 a.a,.int .i64 a.b,.slice s a.l.length z,.slice r a.i.length x] 25)) 25 #[.int .i64 b.t,.int .i64 b.n,.int .i64 b.a,.int .i64 b.b,.slice v b.l.length C,.slice u b.i.length B];simpa using this)
 have g:=hid q;have m:=hid (ha.up q);have o:=hid (hb.up q);clear hW2 q ha hb K L
 go_enter Tryz.func15,Tryz.ntmps15
 go_wp2_with fail
 rw [← R.out];refine (Zb9 a _ _ m.out T.out).mono ?_;rintro e w3 ⟨rfl,j⟩;rw [P.out];replace m:=hid (m.out.up j);replace o:=hid (o.out.up j);replace h:=hid (h.out.below j h.out.lt);replace d:=hid (d.out.below j d.out.lt);replace g:=hid (Z0_ g.out (le_refl _) j);clear j;cases hx:(H==0)
 ·go_wp2
  go_ret;exact ⟨by rw [hx];rfl,g.out⟩
 ·have n0:=d.out.cell 0
  have M:=d.out.cell 1;have n2:=d.out.cell 2;have n3:=d.out.cell 3;have n4:=d.out.cell 4;have n5:=d.out.cell 5
  go_wp2_with fail
  refine (Zb9 b _ _ o.out U.out).mono ?_;rintro e w4 ⟨rfl,k⟩;rw [Q.out];clear n0 M n2 n3 n4 n5;replace m:=hid (m.out.up k);replace o:=hid (o.out.up k);replace h:=hid (h.out.below k h.out.lt);replace d:=hid (d.out.below k d.out.lt);replace g:=hid (Z0_ g.out (le_refl _) k);clear k;cases hz:(I==0)
  ·go_wp2
   go_ret;exact ⟨by rw [hx,hz];rfl,g.out⟩
  ·have k1:=h.out.cell 1
   have M:=d.out.cell 1;have G:=S.out;cases y
   all_goals
    go_wp2;go_ret;exact ⟨by rw [hx,hz];rfl,g.out⟩
end Wp
end Go.Proofs.YtgpljiijjnaofaaGreatDoor
