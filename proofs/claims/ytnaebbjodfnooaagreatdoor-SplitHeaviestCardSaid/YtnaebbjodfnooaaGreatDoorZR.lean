/- The program's May, Rank and Indep, and the document's May, walked. Matroids written out in memory. -/
import Derived.Test.YtnaebbjodfnooaaGreatDoorZW
import Derived.Test.YtnaebbjodfnooaaGreatDoorQTD
import Derived.Test.YtnaebbjodfnooaaGreatDoorGPlaces
import Derived.Test.YtnaebbjodfnooaaGreatDoorIUnion
import Derived.Test.YtnaebbjodfnooaaGreatDoorMShelf
import Derived.Test.YtnaebbjodfnooaaGreatDoorIJRef
import Derived.BigQuiet
import Derived.Deep.QuietTactic
import Derived.Test.YtnaebbjodfnooaaGreatDoorGGreat
import Derived.Test.YtnaebbjodfnooaaGreatDoorZO
import Derived.Test.YtnaebbjodfnooaaGreatDoorISub
import Derived.Deep.RegionHeld3
import Derived.Test.YtnaebbjodfnooaaGreatDoorX0A
import Derived.Test.YtnaebbjodfnooaaGreatDoorX0C
set_option maxHeartbeats 8000000
set_option maxRecDepth 100000
open Go.Lib (hid)
open Nat (le_refl)
namespace Go.Proofs.YtnaebbjodfnooaaGreatDoor.Wp
open Go.RowKit
def mayI (m:Mat) (s:List Int):Bool:=decide (chk m=0) && subB s (allL m.n)
noncomputable def rankT (m:Mat) (s:List Int):Int:=if mayI m s=true then (rkP 4 m (memP s):Nat) else -1
noncomputable def indT (m:Mat) (s:List Int):Bool:=decide (rankT m s=(s.length:Int))
theorem mayI_iff {m:Mat} {s:List Int}:mayI m s=true↔chk m=0∧InN (nN m) s:=by
 unfold mayI;rw [Bool.and_eq_true,decide_eq_true_iff];constructor
 ·rintro ⟨c,d⟩;exact ⟨c,(P3_ (chk_n c).1 (chk_n c).2).1 d⟩
 ·rintro ⟨c,d⟩;exact ⟨c,(P3_ (chk_n c).1 (chk_n c).2).2 d⟩
theorem Vq5 (m:Mat) (s:List Int):mayI m s=(decide (chk m=0) && okA m.n s):=by
 unfold mayI;by_cases h:chk m=0
 ·rw [T0_ (chk_n h).1 (chk_n h).2]
 ·rw [decide_eq_false h];rfl
theorem Yp3 (E:Nat→Addr) (m:Mat) (v z:Value) (s:List Int) (w:World) (k:MatV w w.heap.size v m) (hs:Sml m) (j:Row w w.heap.size z s) (I:s.length≤1048576) (r:Env E w):Calls Tryz.prog 128 #[v,z] w (Says w (mayI m s)):=by
 have p:=hid hs;obtain ⟨y,x,J,_,_⟩:=k.open;obtain ⟨L,cs,rfl,_⟩:=id j;have Hb0:=hid (Z1_ w m y x);have q:=hid (k.up Hb0.out);have B:=hid (j.up Hb0.out);have c:=hid (Z3_ w m y x);have g0:=c.out.cell 0;have g1:=c.out.cell 1;have g2:=c.out.cell 2;have g3:=c.out.cell 3;have g4:=c.out.cell 4;have g5:=c.out.cell 5;subst J;unfold boxed at *
 have o:=hid (r.up Hb0.out);obtain ⟨D,d⟩:∃ D,chk m=D:=⟨_,rfl⟩;have HD:=hid d;have H:=F5_ m.n;unfold mayI;rw [d];clear k hs j r d;by_cases h:D=0
 ·subst h
  rw [decide_eq_true rfl,Bool.true_and]
  go_enter Tryz.func128,Tryz.ntmps128
  go_wp2_with fail
  refine (B3_ E m _ _ q.out p.out o.out).mono ?_;rintro e w1 ⟨rfl,hb1⟩;rw [HD.out];have Hb1:=hid (Z0_ Hb0.out (le_refl _) hb1);have C:=hid (B.out.up hb1);have K:=(c.out.below hb1 c.out.lt).cell 1;clear hb1 g0 g1 g2 g3 g4 g5
  go_wp2_with fail
  refine (M2_ m.n _).mono ?_;rintro e O ⟨N,rfl,u,g⟩;have Hb2:=hid (Z0_ Hb1.out (le_refl _) g);have F:=hid (C.out.up g);have G:=hid u;clear g u K
  go_wp2_with fail
  refine (Zy0 _ _ s (allL m.n) _ F.out G.out I H).mono ?_;exact z4_
 ·rw [decide_eq_false h,Bool.false_and]
  have M:(D==0)=false:=y41_;clear h
  go_enter Tryz.func128,Tryz.ntmps128
  go_wp2_with fail
  refine (B3_ E m _ _ q.out p.out o.out).mono ?_;exact j36_
theorem Zl4 (m:Mat) (v u:Value) (s:List Int) (w:World) (j:MatV w w.heap.size v m) (hs:Sml m) (g:Row w w.heap.size u s):Calls Tryz.prog 39 #[v,u] w (Says w (mayI m s)):=by
 have k:=hid hs;obtain ⟨r,q,z,_,_⟩:=j.open;obtain ⟨C,cs,rfl,_⟩:=id g;have Hb0:=hid (Z1_ w m r q);have o:=hid (j.up Hb0.out);have x:=hid (g.up Hb0.out);have c:=hid (Z3_ w m r q);have g0:=c.out.cell 0;have g1:=c.out.cell 1;have g2:=c.out.cell 2;have g3:=c.out.cell 3;have g4:=c.out.cell 4;have g5:=c.out.cell 5;subst z;unfold boxed at *
 obtain ⟨D,d⟩:∃ D,chk m=D:=⟨_,rfl⟩;have HD:=hid d;rw [Vq5,d];clear j hs g d;by_cases h:D=0
 ·subst h
  rw [decide_eq_true rfl,Bool.true_and]
  go_enter Tryz.func39,Tryz.ntmps39
  go_wp2_with fail
  refine (Q8_ m _ _ o.out k.out).mono ?_;rintro e w1 ⟨rfl,hb1⟩;rw [HD.out];have Hb1:=hid (Z0_ Hb0.out (le_refl _) hb1);have y:=hid (x.out.up hb1);have B:=(c.out.below hb1 c.out.lt).cell 1;clear hb1 g0 g1 g2 g3 g4 g5
  go_wp2_with fail
  refine (E5_ _ s m.n _ y.out).mono ?_;rintro e F ⟨rfl,p⟩;have Hb2:=hid (Z0_ Hb1.out (le_refl _) p);clear p B;exact y2_
 ·rw [decide_eq_false h,Bool.false_and]
  have E:(D==0)=false:=y41_;clear h
  go_enter Tryz.func39,Tryz.ntmps39
  go_wp2_with fail
  refine (Q8_ m _ _ o.out k.out).mono ?_;exact j36_
theorem Xl5 (E:Nat→Addr) (m:Mat) (v d:Value) (s:List Int) (w:World) (j:MatV w w.heap.size v m) (hs:Sml m) (h:Row w w.heap.size d s) (z:s.length≤1048576) (x:Env E w):Calls Tryz.prog 109 #[v,d] w (Tells w (rankT m s)):=by
 have r:=hid hs;obtain ⟨C,B,K,_,_⟩:=j.open;obtain ⟨M,cs,rfl,_⟩:=id h;have Hb0:=hid (Z1_ w m C B);have u:=hid (j.up Hb0.out);have q:=hid (h.up Hb0.out);have c:=hid (Z3_ w m C B);have g0:=c.out.cell 0;have g1:=c.out.cell 1;have g2:=c.out.cell 2;have g3:=c.out.cell 3;have g4:=c.out.cell 4;have g5:=c.out.cell 5;subst K;unfold boxed at *
 have k:=hid (x.up Hb0.out);unfold rankT;rcases hm:mayI m s with _ | _
 ·rw [if_neg q38_]
  have p:=hid hm;clear j hs h x hm
  go_enter Tryz.func109,Tryz.ntmps109
  go_wp2_with fail
  refine (Yp3 E m _ _ s _ u.out r.out q.out z k.out).mono ?_;rintro e L ⟨rfl,hb1⟩;rw [p.out];exact j29_
 ·rw [if_pos rfl]
  have p:=hid hm;have o:=hid (mayI_iff.1 hm);obtain ⟨R,y⟩:∃ R:Nat,rkP 4 m (memP s)=R:=⟨_,rfl⟩;have G:Hid (∀ (v d:Value) (W:World),MatV W W.heap.size v m→Row W W.heap.size d s→Env E W→Calls Tryz.prog 129 #[v,d] W (Tells W (R:Int))):=hid fun v d W I J h3=>by rw [← y];exact Ym6 E 4 m v d s W I r.out o.out.1 (chk_ok.1 o.out.1).1 J o.out.2 h3
  rw [y];clear j hs h x hm y
  go_enter Tryz.func109,Tryz.ntmps109
  go_wp2_with fail
  refine (Yp3 E m _ _ s _ u.out r.out q.out z k.out).mono ?_;rintro e L ⟨rfl,hb1⟩;rw [p.out];have Hb1:=hid (Z0_ Hb0.out (le_refl _) hb1);have F:=hid (q.out.up hb1);have H:=hid (u.out.up hb1);have D:=hid (k.out.up hb1);have g:=hid (c.out.below hb1 c.out.lt);clear hb1 g0 g1 g2 g3 g4 g5;have g0:=g.out.cell 0;have g1:=g.out.cell 1;have g2:=g.out.cell 2;have g3:=g.out.cell 3;have g4:=g.out.cell 4;have g5:=g.out.cell 5
  go_wp2_with fail
  refine (G.out _ _ _ H.out F.out D.out).mono ?_;exact j33_
theorem Ze9 (E:Nat→Addr) (m:Mat) (v x:Value) (s:List Int) (w:World) (o:MatV w w.heap.size v m) (hs:Sml m) (k:Row w w.heap.size x s) (N:s.length≤1048576) (p:Env E w):Calls Tryz.prog 80 #[v,x] w (Says w (indT m s)):=by
 have D:=hid hs;obtain ⟨u,r,O,_,_⟩:=o.open;obtain ⟨P,cs,rfl,_⟩:=id k;have d:=hid (Z1_ w m u r);have F:=hid (o.up d.out);have C:=hid (k.up d.out);have c:=hid (Z3_ w m u r);have G:=c.out.cell 0;have H:=c.out.cell 1;have I:=c.out.cell 2;have J:=c.out.cell 3;have K:=c.out.cell 4;have L:=c.out.cell 5;subst O;unfold boxed at *
 have y:=hid (p.up d.out);obtain ⟨R,h⟩:∃ R,rankT m s=R:=⟨_,rfl⟩;have z:=hid h;obtain ⟨g,j⟩:∃ g,indT m s=g:=⟨_,rfl⟩;have M:(R==(s.length:Int))=g:=by rw [← j,← h];unfold indT;rw [Bool.eq_iff_iff,beq_iff_eq,decide_eq_true_iff]
 rw [j];clear o hs k p h j
 go_enter Tryz.func80,Tryz.ntmps80
 go_wp2_with fail
 refine (Xl5 E m _ _ s _ F.out D.out C.out N y.out).mono ?_;rintro e Q ⟨rfl,q⟩;rw [z.out];have B:=hid (Z0_ d.out (le_refl _) q);clear q G H I J K L;go_wp2;go_ret;exact ⟨by rw [← M];rfl,B.out⟩
open Go.RowKit
theorem Xl6 (W:World) (B:Nat):Rows2 W B (.slice none 0 0) []:=⟨none,0,rfl,⟨le_refl _,q38_,fun _=>rfl⟩,fun k c=>absurd c j37_⟩
theorem F2_ (W:World) (B:Nat) (t n a b:Int):MatV W B (.agg #[.int .i64 t,.int .i64 n,.int .i64 a,.int .i64 b,.slice none 0 0,.slice none 0 0]) (.mk t n a b [] []):=MatV.shut (Xl6 W B) (MatL.nil_ W B)
def uM:Mat:=.mk 0 3 2 0 [] []
def cM:Mat:=.mk 6 2 0 0 [[1]] [uM]
theorem F3_ (t n a b:Int):Sml (.mk t n a b [] []):=.mk j37_ j37_ j37_ j37_
open Go
theorem rk_of {m:Mat} (h:chk m=0):Rk (nN m) (rkP 4 m):=rk_ok 4 m h (chk_ok.1 h).1
theorem Yj2 (P Q:Nat→Bool):∀ n,cnt (orP P Q) n+cnt (andP P Q) n=cnt P n+cnt Q n
 | 0=>by simp [cnt]
 | n+1=>by
  have c:=Yj2 P Q n;rw [X6_,X6_,X6_,X6_];show _+(if (P n || Q n)=true then 1 else 0)+(_+(if (P n && Q n)=true then 1 else 0))=_;cases P n<;>cases Q n<;>simp<;>omega
theorem Zq5 {m:Mat} {s:List Int} (h:mayI m s=true):rankT m s=(rkP 4 m (memP s):Nat):=if_pos h
open Go Go.RowKit
theorem Rk.closed {n:Nat} {f:(Nat→Bool)→Nat} (h:Rk n f) (P S:Nat→Bool) (hs:∀ x,x<n→S x=true→f (insP P x)=f P):∀ k,k≤n→f (addK P S k)=f P
 | 0,_=>by rw [H2_]
 | k+1,hk=>by
  have c:=h.closed P S hs k x37_;cases e:S k
  ·rw [S0_ e];exact c
  ·have d:=h.dim_add P S (x:=k) x37_ k x37_
   have g:=hs k x37_ e;have h3:=h.up' (addK P S k) (x:=k) x37_;rw [L5_ e];omega
theorem E4_ {m:Mat} {s:List Int} (h:mayI m s=true):indT m s=true↔rkP 4 m (memP s)=s.length:=by
 unfold indT;rw [show rankT m s=_ from if_pos h,decide_eq_true_iff];omega
theorem Vq6 {m:Mat} {a s:List Int} (ha:mayI m a=true) (hs:mayI m s=true) (d:∀ x∈s,x∈a) (h:indT m a=true):indT m s=true:=by
 obtain ⟨hc,hA⟩:=mayI_iff.1 ha;obtain ⟨_,g⟩:=mayI_iff.1 hs;have c:=rk_ok 4 m hc (chk_ok.1 hc).1;rw [E4_ ha] at h;rw [E4_ hs,X3_ g];rw [X3_ hA] at h;have p:=c.le_cnt (memP s);have f:=c.submod (memP s) (fun i=>memP a i && !memP s i);have h3:=c.le_cnt (fun i=>memP a i && !memP s i);have e:∀ i,i<nN m→orP (memP s) (fun i=>memP a i && !memP s i) i=memP a i:=fun i _=>by
  unfold orP;cases e1:memP s i
  ·simp [e1]
  ·have:memP a i=true:=memP_iff.2 (d _ (memP_iff.1 e1))
   simp [this]
 rw [c.ext e] at f;have q:cnt (memP a) (nN m)=cnt (memP s) (nN m)+cnt (fun i=>memP a i && !memP s i) (nN m):=by
  have:=K.cntP_split (memP a) (memP s) (nN m);have j:K.cntP (nN m) (fun i=>memP a i && memP s i)=cnt (memP s) (nN m):=(V9_ fun i _=>by
   cases e1:memP s i
   ·simp
   ·have:memP a i=true:=memP_iff.2 (d _ (memP_iff.1 e1))
    simp [this])
  have k:K.cntP (nN m) (memP a)=cnt (memP a) (nN m):=rfl;have o:K.cntP (nN m) (fun i=>memP a i && !memP s i)=cnt (fun i=>memP a i && !memP s i) (nN m):=rfl;omega
 omega
theorem Zr6 {x:Int} (h:0≤x) (P:Nat→Bool):orP P (memP [x])=insP P x.toNat:=by
 funext i
 unfold orP insP;have:memP [x] i=(i==x.toNat):=by rw [Bool.eq_iff_iff,memP_iff,beq_iff_eq,List.mem_singleton];omega
 rw [this,Bool.or_comm]
open Go Go.RowKit
def remP (P:Nat→Bool) (y:Nat):Nat→Bool:=fun i=>P i && !(i==y)
theorem H7_ (P:Nat→Bool) (y:Nat):remP P y y=false:=by simp [remP]
theorem K3_ {P:Nat→Bool} {y i:Nat} (h:i≠y):remP P y i=P i:=by simp [remP,h]
theorem Vq7 {P:Nat→Bool} {y:Nat} (h:P y=true):insP (remP P y) y=P:=by
 funext i
 by_cases e:i=y
 ·rw [e,Y7_,h]
 ·rw [Y5_ e,K3_ e]
theorem O8_ {n:Nat} {P:Nat→Bool} {y:Nat} (c:y<n) (h:P y=true):cnt (remP P y) n+1=cnt P n:=by
 have:=J6_ c (H7_ P y);rw [Vq7 h] at this;omega
section
variable {n:Nat} {f:(Nat→Bool)→Nat}
theorem Rk.part (h:Rk n f) {P Q:Nat→Bool} (hs:∀ i,i<n→P i=true→Q i=true) (j:f Q=cnt Q n):f P=cnt P n:=by
 have c:=h.submod P (fun i=>Q i && !P i);have g:=h.le_cnt (fun i=>Q i && !P i);have h3:=h.le_cnt P;have e:∀ i,i<n→orP P (fun i=>Q i && !P i) i=Q i:=fun i hi=>by
  unfold orP;cases e1:P i
  ·simp [e1]
  ·simp [hs i hi e1]
 rw [h.ext e] at c;have d:=Yj2 P (fun i=>Q i && !P i) n;rw [V9_ e,V9_ (P:=andP P (fun i=>Q i && !P i)) (Q:=noneP) (fun i _=>by simp only [andP,noneP];cases P i<;>simp),B5_] at d;omega
end
theorem J7_ {m:Mat} {s:List Int} (h:indT m s=true):mayI m s=true:=by
 cases hm:mayI m s
 ·unfold indT rankT at h
  rw [hm,if_neg q38_,decide_eq_true_iff] at h;omega
 ·rfl
open Go Go.RowKit
section
variable {n:Nat} {f:(Nat→Bool)→Nat}
def exch (S:Nat→Bool):List (Nat × Nat)→Nat→Bool
 | []=>S
 | (y,x) :: r=>insP (remP (exch S r) y) x
theorem I4_ {S:Nat→Bool}:∀ {r:List (Nat × Nat)},(∀ p∈r,S p.1=true∧S p.2=false)→∀ i,exch S r i=true↔(S i=true∧i∉r.map (·.1))∨i∈r.map (·.2)
 | [],_,i=>by simp [exch]
 | (y,x) :: r,h,i=>by
  have m:=I4_ (S:=S) (r:=r) (fun p g=>h p (by simp [g])) i;have k:=h (y,x) j37_;have j:i∈r.map (·.2)→S i=false:=fun hi=>by
   obtain ⟨p,g,rfl⟩:=List.mem_map.1 hi;exact (h p (by simp [g])).2
  rw [exch];by_cases e:i=x
  ·rw [e,Y7_]
   simp
  ·rw [Y5_ e]
   by_cases d:i=y
   ·rw [d,H7_]
    have f:y∉r.map (·.2):=fun hi=>by rw [d] at j;have:=j hi;rw [k.1] at this;cases this
    constructor
    ·intro h;cases h
    ·rintro (⟨_,c⟩ | c)
     ·exact absurd j37_ c
     ·rw [List.map_cons,List.mem_cons] at c
      rcases c with c | c
      ·exact absurd (d.trans c) e
      ·exact absurd c f
   ·rw [K3_ d,m,List.map_cons,List.map_cons,List.mem_cons,List.mem_cons]
    constructor
    ·rintro (⟨f,c⟩ | c)
     ·exact .inl ⟨f,fun h3=>h3.elim d c⟩
     ·exact .inr (.inr c)
    ·rintro (⟨f,c⟩ | c)
     ·exact .inl ⟨f,fun h3=>c (.inr h3)⟩
     ·exact .inr (c.resolve_left e)
theorem Yj3 (h:Rk n f) {S:Nat→Bool} (m:f S=cnt S n):∀ {r:List (Nat × Nat)},(∀ p∈r,(p.1<n∧p.2<n)∧S p.1=true∧S p.2=false)→(r.map (·.1)).Nodup→(r.map (·.2)).Nodup →
  (∀ p∈r,f (insP (remP S p.1) p.2)=cnt S n)→(r.Pairwise fun p q=>f (insP (remP S p.1) q.2)<cnt S n)→f (exch S r)=cnt S n∧cnt (exch S r) n=cnt S n
 | [],_,_,_,_,_=>⟨m,rfl⟩
 | (y,x) :: r,c,hn1,hn2,hc,hd=>by
  have j:=c (y,x) j37_;have w:y<n:=j.1.1;have v:x<n:=j.1.2;have s:S y=true:=j.2.1;have E:S x=false:=j.2.2;clear j;have u:∀ p∈r,(p.1<n∧p.2<n)∧S p.1=true∧S p.2=false:=fun p h=>c p (by simp [h]);rw [List.map_cons,List.nodup_cons] at hn1 hn2;obtain ⟨G,H⟩:=List.pairwise_cons.1 hd;obtain ⟨K,L⟩:=Yj3 h m u hn1.2 hn2.2 (fun p h=>hc p (by simp [h])) H;have o:=I4_ (S:=S) (r:=r) fun p h=>(u p h).2;have D:exch S r y=true:=(o y).2 (.inl ⟨s,hn1.1⟩);have C:exch S r x=false:=by
   rw [← Bool.not_eq_true,o];rintro (⟨g,_⟩ | g)
   ·rw [E] at g;cases g
   ·exact hn2.1 g
  have M:=O8_ w D;have R:=h.part (P:=remP (exch S r) y) (Q:=exch S r) (fun i _ c=>by
   by_cases e:i=y
   ·rw [e,H7_] at c;cases c
   ·rwa [K3_ e] at c) (K.trans L.symm)
  have N:=O8_ w s;have T:=h.part (P:=remP S y) (Q:=S) (fun i _ c=>by
   by_cases e:i=y
   ·rw [e,H7_] at c;cases c
   ·rwa [K3_ e] at c) m
  have F:=h.closed (remP S y) (remP (exch S r) y) (fun z J k=>by
   have A:z≠y:=fun e=>by rw [e,H7_] at k;cases k
   rw [K3_ A] at k;rcases (o z).1 k with ⟨g,_⟩ | g
   ·rw [H1_ (by rw [K3_ A];exact g)]
   ·obtain ⟨p,I,rfl⟩:=List.mem_map.1 g
    have U:f (insP (remP S y) p.2)<cnt S n:=G p I;have V:=h.up' (remP S y) J;omega) n (le_refl _)
  rw [C5_ h] at F;have m1:f (insP (remP S y) x)=cnt S n:=hc (y,x) j37_;have m2:=h.mono (P:=insP (remP S y) x) (Q:=insP (orP (remP S y) (remP (exch S r) y)) x) fun i _ hi=>y21_;have d:=h.dim_set (P:=remP (exch S r) y) (Q:=orP (remP S y) (remP (exch S r) y)) (fun i _ hi=>by unfold orP;rw [hi];simp) v;have B:remP (exch S r) y x=false:=by
   unfold remP;rw [C];rfl
  have O:=J6_ v B;have W:=h.le_cnt (insP (remP (exch S r) y) x);rw [exch];omega
theorem Vq8 (h:Rk n f) {S:Nat→Bool} (o:f S=cnt S n) {r:List (Nat × Nat)} (j:∀ p∈r,(p.1<n∧p.2<n)∧S p.1=true∧S p.2=false) (v:(r.map (·.1)).Nodup) (w:(r.map (·.2)).Nodup)
  (hb:∀ p∈r,f (insP S p.2)=f S) (hc:∀ p∈r,f (insP (remP S p.1) p.2)=cnt S n) (hd:r.Pairwise fun p q=>f (insP (remP S p.1) q.2)<cnt S n)
  {x:Nat} (k:x<n) (s:S x=false) (A:x∉r.map (·.2)) (D:f (insP S x)=cnt S n+1):f (insP (exch S r) x)=cnt S n+1∧cnt (insP (exch S r) x) n=cnt S n+1:=by
 obtain ⟨E,F⟩:=Yj3 h o j v w hc hd;have g:=I4_ (S:=S) (r:=r) fun p h=>(j p h).2;have m:exch S r x=false:=by
  rw [← Bool.not_eq_true,g];rintro (⟨c,_⟩ | c)
  ·rw [s] at c;cases c
  ·exact A c
 have u:=h.closed S (exch S r) (fun z _ B=>by
  rcases (g z).1 B with ⟨c,_⟩ | c
  ·rw [H1_ c]
  ·obtain ⟨p,y,rfl⟩:=List.mem_map.1 c
   exact hb p y) n (le_refl _)
 rw [C5_ h] at u;have m2:=h.mono (P:=insP S x) (Q:=insP (orP S (exch S r)) x) fun i _ hi=>y21_;have d:=h.dim_set (P:=exch S r) (Q:=orP S (exch S r)) (fun i _ hi=>by unfold orP;rw [hi];simp) k;have C:=J6_ k m;have G:=h.le_cnt (insP (exch S r) x);omega
structure Zig (n:Nat) (S:Nat→Bool) (p:Nat→Nat) (k:Nat):Prop where
 lt:∀ i,i≤2 * k→p i<n
 inj:∀ i j,i≤2 * k→j≤2 * k→p i=p j→i=j
 out:∀ i,i≤k→S (p (2 * i))=false
 within:∀ i,i<k→S (p (2 * i+1))=true
def turnP (S:Nat→Bool) (p:Nat→Nat) (k:Nat):Nat→Bool:=fun i=>S i != (List.range (2 * k+1)).any fun j=>p j==i
def pairs (p:Nat→Nat) (k:Nat):List (Nat × Nat):=(List.range k).map fun i=>(p (2 * i+1),p (2 * i+2))
theorem Zr7 {S:Nat→Bool} {p:Nat→Nat} {k:Nat} (c:Zig n S p k):∀ i,insP (exch S (pairs p k)) (p 0) i=turnP S p k i:=by
 intro i;have m:=I4_ (S:=S) (r:=pairs p k) (fun q f=>by
  obtain ⟨j,hj,rfl⟩:=List.mem_map.1 f;rw [List.mem_range] at hj;exact ⟨c.within j hj,c.out (j+1) x37_⟩) i
 have d:((List.range (2 * k+1)).any fun j=>p j==i)=true↔∃ j,j≤2 * k∧p j=i:=by
  rw [List.any_eq_true];constructor
  ·rintro ⟨j,hj,e⟩
   rw [List.mem_range] at hj;exact ⟨j,x37_,by simpa using e⟩
  ·rintro ⟨j,hj,e⟩
   exact ⟨j,List.mem_range.2 x37_,by simpa using e⟩
 have s:i∈(pairs p k).map (·.1)↔∃ j,j<k∧p (2 * j+1)=i:=k12_;have u:i∈(pairs p k).map (·.2)↔∃ j,j<k∧p (2 * j+2)=i:=k12_;rw [s,u] at m;rw [Bool.eq_iff_iff];unfold turnP;have w:insP (exch S (pairs p k)) (p 0) i=true↔i=p 0∨exch S (pairs p k) i=true:=by
  unfold insP;rw [Bool.or_eq_true,beq_iff_eq]
 rw [w,m,bne_iff_ne];cases hS:S i
 ·constructor
  ·intro h
   have:((List.range (2 * k+1)).any fun j=>p j==i)=true:=by
    rw [d];rcases h with h | ⟨h,_⟩ | ⟨j,hj,e⟩
    ·exact ⟨0,x37_,h.symm⟩
    ·cases h
    ·exact ⟨2 * j+2,x37_,e⟩
   rw [this];decide
  ·intro h
   have h3:((List.range (2 * k+1)).any fun j=>p j==i)=true:=by
    cases f:((List.range (2 * k+1)).any fun j=>p j==i)
    ·rw [f] at h;exact absurd rfl h
    ·rfl
   obtain ⟨j,hj,e⟩:=d.1 h3;rcases Nat.mod_two_eq_zero_or_one j with g | g
   ·by_cases v:j=0
    ·subst v;exact .inl e.symm
    ·exact .inr (.inr ⟨(j - 2) / 2,x37_,by rw [show 2 * ((j - 2) / 2)+2=j by omega];exact e⟩)
   ·have:=c.within (j / 2) x37_
    rw [show 2 * (j / 2)+1=j by omega,e,hS] at this;cases this
 ·constructor
  ·intro h
   have:((List.range (2 * k+1)).any fun j=>p j==i)=false:=by
    rw [← Bool.not_eq_true,d];rintro ⟨j,hj,e⟩;rcases h with h | ⟨_,h⟩ | ⟨q,f,o⟩
    ·have:=c.out 0 x37_
     rw [Nat.mul_zero,← h,hS] at this;cases this
    ·rcases Nat.mod_two_eq_zero_or_one j with g | g
     ·have:=c.out (j / 2) x37_
      rw [show 2 * (j / 2)=j by omega,e,hS] at this;cases this
     ·exact h ⟨j / 2,x37_,by rw [show 2 * (j / 2)+1=j by omega];exact e⟩
    ·have:=c.out (q+1) x37_
     rw [show 2 * (q+1)=2 * q+2 by omega,o,hS] at this;cases this
   rw [this];decide
  ·intro h
   refine .inr (.inl ⟨rfl,?_⟩);rintro ⟨j,hj,e⟩;have:((List.range (2 * k+1)).any fun j=>p j==i)=true:=d.2 ⟨2 * j+1,x37_,e⟩;rw [this] at h;exact absurd rfl h
structure Straight (n:Nat) (f:(Nat→Bool)→Nat) (S:Nat→Bool) (p:Nat→Nat) (k:Nat):Prop where
 start:f (insP S (p 0))=cnt S n+1
 noStart:∀ i,i<k→f (insP S (p (2 * i+2)))=f S
 arc:∀ i,i<k→f (insP (remP S (p (2 * i+1))) (p (2 * i+2)))=cnt S n
 noArc:∀ i j,i<j→j<k→f (insP (remP S (p (2 * i+1))) (p (2 * j+2)))<cnt S n
def cutP (S Y:Nat→Bool) (k:Nat):Nat→Bool:=fun i=>S i && !(decide (i<k) && Y i)
theorem Yp4 (h:Rk n f) {S Y:Nat→Bool} (o:f S=cnt S n) {x:Nat} (j:x<n) (m:f (insP S x)=f S) (p:∀ y,y<n→S y=true→Y y=true→f (insP (remP S y) x)<cnt S n) :
  ∀ k,k≤n→f (insP (cutP S Y k) x)=f (cutP S Y k)
 | 0,_=>by
  have e:cutP S Y 0=S:=by funext i;simp [cutP]
  rw [e,m]
 | k+1,hk=>by
  have w:=Yp4 h o j m p k x37_;by_cases c:S k=true∧Y k=true
  ·have d:cutP S Y (k+1)=remP (cutP S Y k) k:=by
    funext i
    unfold cutP remP;by_cases e:i=k
    ·subst e;simp [c.2]
    ·rw [show decide (i<k+1)=decide (i<k) from decide_eq_decide.2 x37_]
     simp [e]
   have q:cutP S Y k k=true:=by simp [cutP,c.1]
   have s:cutP S Y (k+1)=andP (cutP S Y k) (remP S k):=by
    rw [d]
    funext i
    unfold remP andP cutP;cases hs:S i<;>simp [hs]
   have u:orP (cutP S Y k) (remP S k)=S:=by
    funext i
    by_cases e:i=k
    ·subst e;unfold orP;rw [q,c.1];rfl
    ·unfold orP
     rw [K3_ e];unfold cutP;cases S i<;>simp
   have g:k<n:=x37_;have part:∀ {P:Nat→Bool},(∀ i,i<n→P i=true→S i=true)→f P=cnt P n:=fun v=>h.part v o;have D:=part (P:=cutP S Y k) fun i _ hi=>by unfold cutP at hi;rw [Bool.and_eq_true] at hi;exact hi.1
   have E:=part (P:=remP S k) fun i _ hi=>by unfold remP at hi;rw [Bool.and_eq_true] at hi;exact hi.1
   have F:=part (P:=cutP S Y (k+1)) fun i _ hi=>by unfold cutP at hi;rw [Bool.and_eq_true] at hi;exact hi.1
   have r:=O8_ g q;rw [← d] at r;have C:=O8_ g c.1;have hl:=p k g c.1 c.2;have G:=h.up' (remP S k) j;have B:=h.submod (insP (cutP S Y k) x) (insP (remP S k) x);have z:orP (insP (cutP S Y k) x) (insP (remP S k) x)=insP S x:=by
    funext i
    have e:=congrFun u i;simp only [orP] at e;simp only [orP,insP];cases i==x
    ·simpa using e
    ·simp
   have A:andP (insP (cutP S Y k) x) (insP (remP S k) x)=insP (cutP S Y (k+1)) x:=by
    funext i
    have e:=congrFun s i;simp only [andP] at e;simp only [andP,insP];cases i==x
    ·simpa using e.symm
    ·simp
   rw [z,A] at B;have H:=h.up' (cutP S Y (k+1)) j;omega
  ·have d:cutP S Y (k+1)=cutP S Y k:=by
    funext i
    unfold cutP;by_cases e:i=k
    ·subst e
     cases hs:S i
     ·rfl
     ·cases hy:Y i
      ·simp
      ·exact absurd ⟨hs,hy⟩ c
    ·rw [show decide (i<k+1)=decide (i<k) from decide_eq_decide.2 x37_]
   rw [d];exact w
theorem Zy7 (h:Rk n f) {S Y W:Nat→Bool} (k:f S=cnt S n) (p:∀ i,i<n→W i=true→Y i=false) (o:∀ x,x<n→W x=true→S x=false→f (insP S x)=f S)
  (q:∀ x,x<n→W x=true→S x=false→∀ y,y<n→S y=true→Y y=true→f (insP (remP S y) x)<cnt S n) (r:∀ i,i<n→S i=true→Y i=false→W i=true) :
  f W=cnt (andP S W) n:=by
 have e:∀ i,i<n→cutP S Y n i=andP S W i:=fun i hi=>by
  unfold cutP andP;rw [decide_eq_true hi,Bool.true_and];cases hs:S i
  ·rfl
  ·cases hy:Y i
   ·rw [r i hi hs hy];rfl
   ·cases d:W i
    ·rfl
    ·rw [p i hi d] at hy;cases hy
 have s:=h.part (P:=andP S W) (Q:=S) (fun i _ hi=>by unfold andP at hi;rw [Bool.and_eq_true] at hi;exact hi.1) k;have m:=h.closed (andP S W) W (fun x g d=>by
  cases hs:S x
  ·have j:=Yp4 h k g (o x g d hs) (q x g d hs) n (le_refl _)
   rw [h.ext (P:=cutP S Y n) (Q:=andP S W) e,h.ext (P:=insP (cutP S Y n) x) (Q:=insP (andP S W) x) fun i hi=>by
    by_cases c:i=x
    ·rw [c,Y7_,Y7_]
    ·rw [Y5_ c,Y5_ c,e i hi]] at j
   exact j
  ·rw [H1_ (by unfold andP;rw [hs,d];rfl)]) n (le_refl _)
 rw [C5_ h] at m;have c:orP (andP S W) W=W:=by
  funext i
  unfold orP andP;cases W i<;>simp
 rw [c] at m;omega
end
def Near (adj:List (List Int)) (dst:List Int):Nat→Int→Prop
 | 0,x=>x∈dst
 | n+1,x=>Near adj dst n x∨∃ y∈adj.getD x.toNat [],Near adj dst n y
section
variable {adj:List (List Int)} {dst:List Int}
theorem W4_ {x:Int} {n:Nat}:∀ {m:Nat},n≤m→Near adj dst n x→Near adj dst m x
 | 0,h,hn=>by rw [show n=0 by omega] at hn;exact hn
 | m+1,h,hn=>by
  by_cases e:n=m+1
  ·rw [← e];exact hn
  ·exact .inl (W4_ (m:=m) x37_ hn)
inductive Greedy (adj:List (List Int)) (dst:List Int):List Int→Nat→List Int→Prop
 | stop (S:List Int) (x:Int):x∈S→x∈dst→(∀ y∈S,y<x→y∉dst)→Greedy adj dst S 0 [x]
 | step (S:List Int) (x:Int) (n:Nat) (l:List Int):x∈S→Near adj dst (n+1) x→(∀ y∈S,¬ Near adj dst n y)→(∀ y∈S,y<x→¬ Near adj dst (n+1) y)→Greedy adj dst (adj.getD x.toNat []) n l→Greedy adj dst S (n+1) (x :: l)
theorem Greedy.length {S:List Int} {n:Nat} {l:List Int} (h:Greedy adj dst S n l):l.length=n+1:=by
 induction h with
 | stop=>rfl
 | step _ _ _ _ _ _ _ _ _ ih=>rw [List.length_cons,ih]
theorem Greedy.near {S:List Int} {n:Nat} {l:List Int} (h:Greedy adj dst S n l):∀ k,k<l.length→Near adj dst (n - k) (l.getD k 0):=by
 induction h with
 | stop S x hx hd hl =>
  intro k c;have:k=0:=by simpa using c
  subst this;exact hd
 | step S x n l hx hn hno hl hg ih =>
  intro k c;cases k with
  | zero=>exact hn
  | succ k =>
   have:=ih k (by simpa using c);rw [List.getD_cons_succ,show n+1 - (k+1)=n - k by omega];exact this
theorem Greedy.none {S:List Int} {n:Nat} {l:List Int} (h:Greedy adj dst S n l):∀ y∈S,∀ m,m<n→¬ Near adj dst m y:=by
 cases h with
 | stop=>intro y _ m c;omega
 | step _ x n l hx hn hno hl hg=>exact fun y d m c h=>hno y d (W4_ x37_ h)
theorem Greedy.straight {S:List Int} {n:Nat} {l:List Int} (h:Greedy adj dst S n l):∀ i k,i+2≤k→k<l.length→l.getD k 0∉adj.getD (l.getD i 0).toNat []:=by
 induction h with
 | stop S x hx hd hl =>
  intro i k g e;have:k<1:=e;omega
 | step S x n l hx hn hno hl hg ih =>
  intro i k g e d;obtain ⟨c,rfl⟩:∃ c,k=c+1:=⟨k - 1,x37_⟩;rw [List.getD_cons_succ] at d;have f:c<l.length:=by simpa using e
  have j:=hg.length;cases i with
  | zero =>
   rw [List.getD_cons_zero] at d;exact hg.none _ d (n - c) x37_ (hg.near c f)
  | succ i =>
   rw [List.getD_cons_succ] at d;exact ih i c x37_ f d
end
section
variable {adj:List (List Int)} {dst:List Int}
theorem Greedy.first {S:List Int} {n:Nat} {l:List Int} (h:Greedy adj dst S n l):l.getD 0 0∈S:=by cases h<;>simpa
theorem Greedy.arcs {S:List Int} {n:Nat} {l:List Int} (h:Greedy adj dst S n l):∀ i,i+1<l.length→l.getD (i+1) 0∈adj.getD (l.getD i 0).toNat []:=by
 induction h with
 | stop=>intro i hi;simp at hi
 | step S x n l hx hn hno hl hg ih =>
  intro i hi;cases i with
  | zero =>
   rw [List.getD_cons_succ,List.getD_cons_zero];exact hg.first
  | succ i =>
   rw [List.getD_cons_succ,List.getD_cons_succ];exact ih i j46_
theorem Greedy.last {S:List Int} {n:Nat} {l:List Int} (h:Greedy adj dst S n l):l.getD n 0∈dst:=by
 have c:=h.near n (by rw [h.length];omega);rw [Nat.sub_self] at c;exact c
theorem Greedy.notFirst {S:List Int} {n:Nat} {l:List Int} (h:Greedy adj dst S n l):∀ i,0<i→i<l.length→l.getD i 0∉S:=fun i d hi c=>by
 have:=h.length;exact h.none _ c (n - i) x37_ (h.near i hi)
theorem Greedy.notLast {S:List Int} {n:Nat} {l:List Int} (h:Greedy adj dst S n l):∀ i,i<n→l.getD i 0∉dst:=by
 induction h with
 | stop=>intro i hi;omega
 | step S x n l hx hn hno hl hg ih =>
  intro i hi hd;cases i with
  | zero =>
   rw [List.getD_cons_zero] at hd;exact hno x hx (W4_ (n:=0) x37_ hd)
  | succ i =>
   rw [List.getD_cons_succ] at hd;exact ih i x37_ hd
theorem Greedy.inj {S:List Int} {n:Nat} {l:List Int} (h:Greedy adj dst S n l):∀ i j,i<j→j<l.length→l.getD i 0≠l.getD j 0:=fun i j d g e=>by
 have hl:=h.length;by_cases f:j=n
 ·subst f
  exact h.notLast i d (by rw [e];exact h.last)
 ·have c:=h.arcs j x37_
  rw [← e] at c;exact h.straight i (j+1) x37_ x37_ c
end
open Go Go.RowKit
noncomputable def R5_ (m:Mat) (s:List Int) (x y:Int):Bool:=hasB s y && (!hasB s x && indT m (Y3_ (Z5_ s [y]) [x]))
noncomputable def arcsG (a b:Mat) (s:List Int) (p:Int):List Int:=(upTo (nN a)).filter fun q=>R5_ a s q p || R5_ b s p q
noncomputable def adjG (a b:Mat) (s:List Int):List (List Int):=(upTo (nN a)).map (arcsG a b s)
noncomputable def addG (m:Mat) (s:List Int):List Int:=(upTo (nN m)).filter fun x=>!hasB s x && indT m (Y3_ s [x])
def turnL (s l:List Int):List Int:=if mayB s=true∧(sortL l).length=l.length then Y3_ (Z5_ s (sortL l)) (Z5_ (sortL l) s) else []
structure Common (a b:Mat) (s:List Int):Prop where
 n:a.n=b.n
 ia:indT a s=true
 ib:indT b s=true
theorem mem_upTo {k:Nat} {x:Int}:x∈upTo k↔0≤x∧x<(k:Int):=by
 unfold upTo;rw [List.mem_map];constructor
 ·rintro ⟨i,hi,rfl⟩
  rw [List.mem_range] at hi;exact ⟨by show (0:Int)≤(i:Int);omega,by show (i:Int)<_;omega⟩
 ·rintro ⟨c,d⟩
  exact ⟨x.toNat,List.mem_range.2 x37_,by show ((x.toNat:Nat):Int)=x;omega⟩
theorem Zy8 {s:List Int} {x:Nat} (hs:IsSet s):hasB s (x:Int)=memP s x:=by
 rw [Bool.eq_iff_iff,O2_ hs,memP_iff]
section
variable {m:Mat} {s:List Int}
theorem Zl5 {n x:Nat} (d:n≤64) (e:x<n):InN n [(x:Int)]:=⟨⟨j37_,fun z c=>by rw [List.mem_singleton.1 c];exact ⟨x37_,x37_⟩⟩,fun z c=>by rw [List.mem_singleton.1 c];omega⟩
theorem Yj4 (hi:indT m s=true) {x y:Nat} (hx:x<nN m) (hy:y<nN m):R5_ m s x y=true↔memP s y=true∧memP s x=false∧rkP 4 m (insP (remP (memP s) y) x)=cnt (memP s) (nN m):=by
 obtain ⟨hc,c⟩:=mayI_iff.1 (J7_ hi);have h:=(Y0_ hc).2;have d:=Zl5 h hx;have f:=Zl5 h hy;have g:InN (nN m) (Y3_ (Z5_ s [(y:Int)]) [(x:Int)]):=A8_ (Zg1 c f) d;have e:memP (Y3_ (Z5_ s [(y:Int)]) [(x:Int)])=insP (remP (memP s) y) x:=by
  funext i
  rw [Bool.eq_iff_iff,memP_iff,Q2_ (Q1_ _ _) d.1,Y4_ c.1 f.1];unfold insP remP;rw [Bool.or_eq_true,Bool.and_eq_true,beq_iff_eq,Bool.not_eq_true',memP_iff];simp only [List.mem_singleton,beq_eq_false_iff_ne,Int.natCast_inj,ne_eq];exact Or.comm
 unfold R5_;rw [Bool.and_eq_true,Bool.and_eq_true,Bool.not_eq_true',Zy8 c.1,Zy8 c.1,E4_ (mayI_iff.2 ⟨hc,g⟩),X3_ g,e];constructor
 ·exact x15_
 ·exact x15_
theorem M7_ (hi:indT m s=true) {x:Nat}:(x:Int)∈addG m s↔x<nN m∧memP s x=false∧rkP 4 m (insP (memP s) x)=cnt (memP s) (nN m)+1:=by
 obtain ⟨hc,c⟩:=mayI_iff.1 (J7_ hi);have g:=(Y0_ hc).2;unfold addG;rw [List.mem_filter,mem_upTo];constructor
 ·rintro ⟨⟨_,f⟩,d⟩
  have e:x<nN m:=x37_;have h3:=Zl5 g e;rw [Bool.and_eq_true,Bool.not_eq_true',Zy8 c.1,E4_ (mayI_iff.2 ⟨hc,A8_ c h3⟩),X3_ (A8_ c h3),L1_ c.1 h3.1,Zr6 x37_,Int.toNat_natCast] at d;rw [J6_ e d.1] at d;exact ⟨e,d.1,d.2⟩
 ·rintro ⟨e,f,d⟩
  have h3:=Zl5 g e;refine ⟨⟨x37_,x37_⟩,?_⟩;rw [Bool.and_eq_true,Bool.not_eq_true',Zy8 c.1,E4_ (mayI_iff.2 ⟨hc,A8_ c h3⟩),X3_ (A8_ c h3),L1_ c.1 h3.1,Zr6 x37_,Int.toNat_natCast,J6_ e f];exact ⟨f,d⟩
theorem M8_ (hi:indT m s=true):rkP 4 m (memP s)=cnt (memP s) (nN m):=by
 obtain ⟨hc,c⟩:=mayI_iff.1 (J7_ hi);rw [← X3_ c];exact (E4_ (J7_ hi)).1 hi
end
section
variable {a b:Mat} {s:List Int}
theorem Common.nn (h:Common a b s):nN b=nN a:=by unfold nN;rw [h.n]
theorem Xl7 {x:Nat} (c:x<nN a):(adjG a b s).getD x []=arcsG a b s (x:Int):=by
 unfold adjG upTo;simp [List.getD,c]
theorem B0_:(adjG a b s).length=nN a:=by unfold adjG;rw [List.length_map,Q3_]
theorem K4_ (h:Common a b s) {x y:Nat} (c:x<nN a) (d:y<nN a):(y:Int)∈(adjG a b s).getD x [] ↔
  (memP s x=true∧memP s y=false∧rkP 4 a (insP (remP (memP s) x) y)=cnt (memP s) (nN a))∨(memP s y=true∧memP s x=false∧rkP 4 b (insP (remP (memP s) y) x)=cnt (memP s) (nN a)):=by
 rw [Xl7 c];unfold arcsG;rw [List.mem_filter,mem_upTo,Bool.or_eq_true,Yj4 h.ia d c,Yj4 h.ib (by rw [h.nn];exact c) (by rw [h.nn];exact d),h.nn];exact ⟨fun h=>h.2,fun h=>⟨⟨x37_,x37_⟩,h⟩⟩
theorem Vf9 {x:Nat} (d:x<nN a) {y:Int} (c:y∈(adjG a b s).getD x []):0≤y∧y<(nN a:Int):=by
 rw [Xl7 d] at c;exact mem_upTo.1 (List.mem_filter.1 c).1
theorem Vq9 {l:List Int} (d:l.Nodup) (c:∀ x∈l,Fit x):(sortL l).length=l.length:=by
 refine ((List.perm_ext_iff_of_nodup ((J8_ l).1.imp fun h e=>by omega) d).2 fun x=>?_).length_eq;rw [B4_];exact ⟨fun h=>h.1,fun h=>⟨h,c x h⟩⟩
theorem Xv1 (h:Common a b s) {W:List Int} (v:InN (nN a) W) (K:∀ x∈addG a s,x∈W) (B:∀ x:Nat,(x:Int)∈W→∀ y∈(adjG a b s).getD x [],y∈W) (J:∀ x∈W,x∉addG b s) :
  rankT a (Z5_ (allL a.n) W)+rankT b W=(s.length:Int):=by
 obtain ⟨w,H⟩:=mayI_iff.1 (J7_ h.ia);obtain ⟨A,_⟩:=mayI_iff.1 (J7_ h.ib);have p:=chk_n w;have r:=rk_of w;have u:=rk_of A;rw [h.nn] at u;have D:=M8_ h.ia;have z:=M8_ h.ib;rw [h.nn] at z;have one:∀ {f:(Nat→Bool)→Nat},Rk (nN a) f→f (memP s)=cnt (memP s) (nN a)→∀ {x:Nat},x<nN a→¬ f (insP (memP s) x)=cnt (memP s) (nN a)+1→f (insP (memP s) x)=f (memP s):=fun q hs x d I=>by
  have M:=q.up' (memP s) d;have N:=q.one' (memP s) d;omega
 have C:∀ {f:(Nat→Bool)→Nat},Rk (nN a) f→∀ {x y:Nat},x<nN a→y<nN a→memP s y=true→memP s x=false→¬ f (insP (remP (memP s) y) x)=cnt (memP s) (nN a)→f (insP (remP (memP s) y) x)<cnt (memP s) (nN a):=fun q x y d g j F I=>by
  have L:=q.le_cnt (insP (remP (memP s) y) x);have c1:=O8_ g j;have c2:=J6_ d (P:=remP (memP s) y) (by unfold remP;rw [F];rfl);omega
 have hb:=Zy7 u (Y:=notP (memP W)) (W:=memP W) z (fun i _ c=>by unfold notP;rw [c];rfl)
  (fun x d c hs=>one u z d fun e=>J _ (memP_iff.1 c) (by rw [M7_ h.ib,h.nn];exact ⟨d,hs,e⟩))
  (fun x d c hs y g k o=>C u d g k hs fun e=>by
   have j:=B x (memP_iff.1 c) (y:Int) ((K4_ h d g).2 (.inr ⟨k,hs,e⟩));unfold notP at o;rw [memP_iff.2 j] at o;cases o)
  (fun i _ _ g=>by unfold notP at g;simpa using g)
 have ha:=Zy7 r (Y:=memP W) (W:=notP (memP W)) D (fun i _ c=>by unfold notP at c;simpa using c)
  (fun x d c hs=>one r D d fun e=>by
   have j:=K (x:Int) ((M7_ h.ia).2 ⟨d,hs,e⟩);unfold notP at c;rw [memP_iff.2 j] at c;cases c)
  (fun x d c hs y g k o=>C r d g k hs fun e=>by
   have j:=B y (memP_iff.1 o) (x:Int) ((K4_ h g d).2 (.inl ⟨k,hs,e⟩));unfold notP at c;rw [memP_iff.2 j] at c;cases c)
  (fun i _ _ g=>by unfold notP;rw [g];rfl)
 have G:InN (nN a) (Z5_ (allL a.n) W):=D3_ p.1 p.2 v.1;have E:∀ i,i<nN a→memP (Z5_ (allL a.n) W) i=notP (memP W) i:=fun i hi=>P4_ p.1 p.2 v.1 hi;rw [Zq5 (mayI_iff.2 ⟨w,G⟩),Zq5 (m:=b) (mayI_iff.2 ⟨A,by rw [h.nn];exact v⟩),r.ext E,ha,hb,X3_ H];have hc:=Yj2 (andP (memP s) (notP (memP W))) (andP (memP s) (memP W)) (nN a);rw [V9_ (P:=orP (andP (memP s) (notP (memP W))) (andP (memP s) (memP W))) (Q:=memP s) (fun i _=>by simp only [orP,andP,notP];cases memP s i<;>cases memP W i<;>rfl),
  V9_ (P:=andP (andP (memP s) (notP (memP W))) (andP (memP s) (memP W))) (Q:=noneP) (fun i _=>by simp only [andP,notP,noneP];cases memP s i<;>cases memP W i<;>rfl),B5_] at hc
 omega
end
open Go Go.RowKit
noncomputable def takeK (m:Mat) (on:Int→Nat→Bool):List Int→List Int→List Int
 | s,[]=>s
 | s,x :: o=>if on x s.length=true then takeK m on (if indT m (Y3_ s [x])=true then Y3_ s [x] else s) o else s
def outW (x:Int):Bool:=decide (x < -1099511627776) || decide (1099511627776<x)
def mayW (m:Mat) (w:List Int):Bool:=decide (chk m=0) && (decide ((w.length:Int)=m.n) && !w.any outW)
noncomputable def takeT (m:Mat) (w:List Int) (on:Int→Nat→Bool):List Int:=if mayW m w=true then takeK m on [] (Jy5 w) else []
def wt (w:List Int) (x:Int):Int:=w.getD x.toNat 0
def addW (w:List Int) (s:List Int):Int:=s.foldl (fun n x=>IntKind.i64.wrap (n+wt w x)) 0
def J3_ (w s:List Int):Int:=if mayB s=true∧(∀ x∈s,x<(w.length:Int)) then addW w s else 0
def sumW (w s:List Int):Int:=(s.map fun x=>wt w x).sum
section
variable {m:Mat} {on:Int→Nat→Bool} {n:Nat}
end
def sumP (f:Nat→Int) (P:Nat→Bool):Nat→Int
 | 0=>0
 | n+1=>sumP f P n+if P n=true then f n else 0
theorem Zq6 {f g:Nat→Int} {P Q:Nat→Bool}:∀ {n:Nat},(∀ i,i<n→P i=Q i)→(∀ i,i<n→f i=g i)→sumP f P n=sumP g Q n
 | 0,_,_=>rfl
 | n+1,h,k=>by rw [sumP,sumP,Zq6 (fun i hi=>h i x37_) (fun i hi=>k i x37_),h n x37_,k n x37_]
theorem Zl6 (f:Nat→Int) (P:Nat→Bool):∀ n,((pickN n P).map f).sum=sumP f P n
 | 0=>rfl
 | n+1=>by
  have c:=Zl6 f P n;unfold pickN at c ⊢;rw [List.range_succ,List.filter_append,List.map_append,List.sum_append_int,c,sumP];cases h:P n<;>simp [List.filter,h]
theorem Yj5 {n:Nat} {s:List Int} (w:List Int) (h:InN n s):sumW w s=sumP (fun i=>w.getD i 0) (memP s) n:=by
 rw [← Zl6,← Zt2 h];rfl
theorem Yp5 (w:List Int) {c:Int} (hc:0≤c) (d:∀ x∈w,-c≤x∧x≤c):∀ (s:List Int) (n:Int),-(4611686018427387904 - c * s.length)≤n→n≤4611686018427387904 - c * s.length→s.foldl (fun n x=>IntKind.i64.wrap (n+wt w x)) n=n+sumW w s∧-(c * s.length)≤sumW w s∧sumW w s≤c * s.length
 | [],n,_,_=>by simp [sumW]
 | x :: s,n,h1,h2=>by
  have o:-c≤wt w x∧wt w x≤c:=by
   unfold wt;by_cases h:x.toNat<w.length
   ·exact d _ (Y9_ 0 h)
   ·rw [List.getD_eq_getElem?_getD,List.getElem?_eq_none x37_]
    simp;omega
  have e:c * ((x :: s).length:Int)=c * (s.length:Int)+c:=by
   rw [List.length_cons,Int.natCast_succ,Int.mul_add,Int.mul_one]
  rw [e] at h1 h2 ⊢;have m:0≤c * (s.length:Int):=Int.mul_nonneg hc x37_;have g:IntKind.i64.wrap (n+wt w x)=n+wt w x:=Xc6 x37_ x37_;obtain ⟨f,j,k⟩:=Yp5 w hc d s (n+wt w x) x37_ x37_;rw [List.foldl_cons,g,f];unfold sumW at *
  rw [List.map_cons,List.sum_cons];refine ⟨x37_,x37_,x37_⟩
open Go Go.RowKit
theorem Vg0 {α:Type} {Q:α→α→Prop} {w:α→Int} (p:α):∀ {t:List α},t.Pairwise (fun x y=>w x≤w y∧Q x y)→(∀ q∈t,(w q<w p→Q q p)∧(w p≤w q→Q p q))→∃ c:List α,c.Perm (p :: t)∧c.Pairwise (fun x y=>w x≤w y∧Q x y)
 | [],_,_=>⟨[p],.refl _,List.pairwise_singleton _ _⟩
 | q :: t,h,hq=>by
  obtain ⟨d,g⟩:=List.pairwise_cons.1 h;by_cases j:w q<w p
  ·obtain ⟨c,e,k⟩:=Vg0 p g (fun x hx=>hq x x41_)
   refine ⟨q :: c,(e.cons q).trans (List.Perm.swap p q t),List.pairwise_cons.2 ⟨fun x hx=>?_,k⟩⟩;rcases List.mem_cons.1 (e.mem_iff.1 hx) with rfl | hx
   ·exact ⟨x37_,(hq q j37_).1 j⟩
   ·exact d x hx
  ·refine ⟨p :: q :: t,.refl _,List.pairwise_cons.2 ⟨fun x hx=>?_,h⟩⟩
   have f:w p≤w x:=by
    rcases List.mem_cons.1 hx with e | hx
    ·rw [e];omega
    ·have:=(d x hx).1;omega
   exact ⟨f,(hq x hx).2 f⟩
theorem Xl8 {α:Type} {Q:α→α→Prop} {w:α→Int}:∀ {r:List α},(∀ p∈r,∀ q∈r,w p<w q→Q p q)→r.Pairwise (fun p q=>w p=w q→Q p q)→∃ t:List α,t.Perm r∧t.Pairwise (fun x y=>w x≤w y∧Q x y)
 | [],_,_=>⟨[],.refl _,.nil⟩
 | p :: r,h1,h2=>by
  obtain ⟨h3,g⟩:=List.pairwise_cons.1 h2;obtain ⟨t,e,j⟩:=Xl8 (fun x hx y hy=>h1 x x41_ y q41_) g;obtain ⟨m,f,k⟩:=Vg0 p j (fun q h=>by
   have d:=e.mem_iff.1 h;refine ⟨fun c=>h1 q (by simp [d]) p j37_ c,fun o=>?_⟩;by_cases c:w p<w q
   ·exact h1 p j37_ q (by simp [d]) c
   ·exact h3 q d x37_)
  exact ⟨m,f.trans (e.cons p),k⟩
section
variable {n:Nat} {f:(Nat→Bool)→Nat}
def Ex (n:Nat) (f:(Nat→Bool)→Nat) (S:Nat→Bool) (w:Nat→Int):Prop:=∀ y x,y<n→x<n→S y=true→S x=false→f (insP (remP S y) x)=cnt S n→w x≤w y
def lev (w:Nat→Int) (c:Int):Nat→Bool:=fun i=>decide (c≤w i)
def Th (n:Nat) (f:(Nat→Bool)→Nat) (S:Nat→Bool) (w:Nat→Int):Prop:=∀ c,(∀ i,i<n→S i=true→c≤w i)∨f (lev w c)=cnt (andP S (lev w c)) n
theorem lev_iff {w:Nat→Int} {c:Int} {i:Nat}:lev w c i=true↔c≤w i:=by unfold lev;exact decide_eq_true_iff
theorem R0_ {S:Nat→Bool} {x y:Nat} (e:x<n) (f:y<n) (d:S y=true) (c:S x=false):cnt (insP (remP S y) x) n=cnt S n:=by
 have c1:=O8_ f d;have c2:=J6_ e (P:=remP S y) (by unfold remP;rw [c];rfl);omega
theorem Yp6 (h:Rk n f) {S:Nat→Bool} {x y:Nat} (d:x<n) (k:y<n) (j:S y=true) (c:S x=false) (ha:f (insP S x)=cnt S n+1):f (insP (remP S y) x)=cnt S n:=by
 have g:f (insP S x)=cnt (insP S x) n:=by rw [J6_ d c];exact ha
 rw [h.part (P:=insP (remP S y) x) (Q:=insP S x) (fun i _ hi=>?_) g,R0_ d k j c];by_cases e:i=x
 ·rw [e,Y7_]
 ·rw [Y5_ e] at hi ⊢
  unfold remP at hi;rw [Bool.and_eq_true] at hi;exact hi.1
theorem Zr8 (h:Rk n f) {S:Nat→Bool} {w:Nat→Int} (s:f S=cnt S n) (o:Ex n f S w):Th n f S w:=fun c=>by
 by_cases m:∀ i,i<n→S i=true→c≤w i
 ·exact .inl m
 ·right
  obtain ⟨B,q,j,D⟩:∃ y,y<n∧S y=true∧w y<c:=by
   refine Classical.byContradiction fun z=>m fun i hi u=>?_;refine Classical.byContradiction fun C=>z ⟨i,hi,u,x37_⟩
  refine Zy7 h s (Y:=fun i=>decide (w i<c)) (W:=lev w c) (fun i _ hi=>?_) (fun x d g hs=>?_) (fun x d g hs y p k v=>?_) (fun i _ _ hi=>?_)
  ·have:=lev_iff.1 hi
   exact decide_eq_false x37_
  ·have E:=h.up' S d
   have F:=h.one' S d;by_cases e:f (insP S x)=cnt S n+1
   ·have r:=o B x q d j hs (Yp6 h d q j hs e)
    have:=lev_iff.1 g;omega
   ·omega
  ·have A:=h.le_cnt (insP (remP S y) x)
   rw [R0_ d p k hs] at A;by_cases e:f (insP (remP S y) x)=cnt S n
   ·have r:=o y x p d k hs e
    have:=lev_iff.1 g;have:=of_decide_eq_true v;omega
   ·omega
  ·have:=of_decide_eq_false hi
   exact lev_iff.2 x37_
theorem Yp7 (h:Rk n f) {S:Nat→Bool} {w:Nat→Int} (r:Th n f S w):Ex n f S w:=fun y x j g d c q=>by
 rcases r (w x) with p | u
 ·exact p y j d
 ·by_cases v:w y<w x
  ·have o:f (insP (remP S y) x)=cnt (insP (remP S y) x) n:=by rw [R0_ g j d c,q]
   have m:=h.part (P:=insP (andP S (lev w (w x))) x) (Q:=insP (remP S y) x) (fun i _ hi=>by
    by_cases e:i=x
    ·rw [e,Y7_]
    ·rw [Y5_ e] at hi ⊢
     unfold andP at hi;rw [Bool.and_eq_true,lev_iff] at hi;unfold remP;rw [hi.1,Bool.true_and,Bool.not_eq_true'];exact beq_false_of_ne fun k=>by rw [k] at hi;omega) o
   rw [J6_ g (by unfold andP;rw [c];rfl)] at m;have s:=h.mono (P:=insP (andP S (lev w (w x))) x) (Q:=lev w (w x)) fun i _ hi=>by
    by_cases e:i=x
    ·rw [e];exact lev_iff.2 (Int.le_refl _)
    ·exact x21_
   omega
  ·omega
structure WStraight (n:Nat) (f:(Nat→Bool)→Nat) (S:Nat→Bool) (p:Nat→Nat) (k:Nat) (w:Nat→Int):Prop where
 start:f (insP S (p 0))=cnt S n+1
 best:∀ z,z<n→S z=false→f (insP S z)=cnt S n+1→w z≤w (p 0)
 noStart:∀ i,i<k→w (p (2 * i+2))=w (p 0)→f (insP S (p (2 * i+2)))=f S
 arc:∀ i,i<k→f (insP (remP S (p (2 * i+1))) (p (2 * i+2)))=cnt S n
 tight:∀ i,i<k→w (p (2 * i+1))=w (p (2 * i+2))
 noArc:∀ i j,i<j→j<k→w (p (2 * i+1))=w (p (2 * j+2))→f (insP (remP S (p (2 * i+1))) (p (2 * j+2)))<cnt S n
 ex:Ex n f S w
theorem C9_ {p:Nat→Nat} {k:Nat} {q:Nat × Nat} (d:q∈pairs p k):∃ j,j<k∧q=(p (2 * j+1),p (2 * j+2)):=by
 obtain ⟨j,c,rfl⟩:=List.mem_map.1 d;exact ⟨j,List.mem_range.1 c,rfl⟩
theorem Xl9 {S:Nat→Bool} {r t:List (Nat × Nat)} (e:t.Perm r) (h:∀ p∈r,S p.1=true∧S p.2=false) (i:Nat):exch S t i=exch S r i:=by
 rw [Bool.eq_iff_iff,I4_ h,I4_ (fun p c=>h p (e.mem_iff.1 c)),(e.map (·.1)).mem_iff,(e.map (·.2)).mem_iff]
theorem Zl7 (h:Rk n f) {S:Nat→Bool} {p:Nat→Nat} {k:Nat} {w:Nat→Int} (C:f S=cnt S n) (hz:Zig n S p k) (hs:WStraight n f S p k w):f (turnP S p k)=cnt S n+1∧cnt (turnP S p k) n=cnt S n+1:=by
 have d:∀ q∈pairs p k,(q.1<n∧q.2<n)∧S q.1=true∧S q.2=false:=fun q hq=>q18_;obtain ⟨t,e,F⟩:=Xl8 (r:=pairs p k) (Q:=fun p q=>f (insP (remP S p.1) q.2)<cnt S n) (w:=fun q=>w q.1) (fun a ha b hb E=>by
   obtain ⟨⟨s,_⟩,u,_⟩:=d a ha;obtain ⟨⟨_,v⟩,_,y⟩:=d b hb;have H:=h.le_cnt (insP (remP S a.1) b.2);rw [R0_ v s u y] at H;by_cases e:f (insP (remP S a.1) b.2)=cnt S n
   ·have B:=hs.ex a.1 b.2 s v u y e
    obtain ⟨j,hj,rfl⟩:=C9_ hb;have:=hs.tight j hj;simp only at B E;omega
   ·omega) (by
   unfold pairs;rw [List.pairwise_map];refine List.Pairwise.imp_of_mem (fun {i j} _ hj m hw=>?_) List.pairwise_lt_range;have hj:=List.mem_range.1 hj;have:=hs.tight j hj;exact hs.noArc i j m hj (by simp only at hw;omega))
 have A:∀ (g:Nat→Nat),(∀ i,g i≤2 * k∨k≤i)→(∀ i j,g i=g j→i=j)→((List.range k).map fun i=>p (g i)).Nodup:=fun g hg hi=>y10_;have G:=Vq8 h C (r:=t) (x:=p 0) (fun q hq=>d q (e.mem_iff.1 hq))
  ((e.map (·.1)).nodup_iff.2 (by unfold pairs;rw [List.map_map];exact A (fun i=>2 * i+1) (fun i=>by omega) (fun i j m=>by omega)))
  ((e.map (·.2)).nodup_iff.2 (by unfold pairs;rw [List.map_map];exact A (fun i=>2 * i+2) (fun i=>by omega) (fun i j m=>by omega)))
  (fun q hq=>by
   obtain ⟨j,hj,rfl⟩:=C9_ (e.mem_iff.1 hq);have o:p (2 * j+2)<n:=hz.lt _ x37_;have D:S (p (2 * j+2))=false:=hz.out (j+1) x37_;show f (insP S (p (2 * j+2)))=f S;by_cases ha:f (insP S (p (2 * j+2)))=cnt S n+1
   ·have K:=hs.best _ o D ha
    have L:=hs.ex (p (2 * j+1)) (p 0) (hz.lt _ x37_) (hz.lt _ x37_) (hz.within j hj) (hz.out 0 x37_) (Yp6 h (hz.lt _ x37_) (hz.lt _ x37_) (hz.within j hj) (hz.out 0 x37_) hs.start);have M:=hs.tight j hj;exact hs.noStart j hj x37_
   ·have I:=h.up' S o
    have J:=h.one' S o;omega)
  (fun q hq=>by
   obtain ⟨j,hj,rfl⟩:=C9_ (e.mem_iff.1 hq);exact hs.arc j hj)
  (F.imp fun h=>h.2)
  (hz.lt 0 x37_) (hz.out 0 x37_)
  (fun hq=>by
   obtain ⟨q,hq,c⟩:=List.mem_map.1 hq;obtain ⟨j,hj,rfl⟩:=C9_ (e.mem_iff.1 hq);have:=hz.inj (2 * j+2) 0 x37_ x37_ c;omega) hs.start
 have z:∀ i,insP (exch S t) (p 0) i=turnP S p k i:=fun i=>by
  rw [← Zr7 hz i];by_cases c:i=p 0
  ·rw [c,Y7_,Y7_]
  ·rw [Y5_ c,Y5_ c]
   exact Xl9 e (fun q hq=>(d q hq).2) i
 rw [← h.ext (P:=insP (exch S t) (p 0)) (Q:=turnP S p k) fun i _=>z i,← V9_ (P:=insP (exch S t) (p 0)) (Q:=turnP S p k) fun i _=>z i];exact G
theorem Yp8 {S L:Nat→Bool}:∀ {r:List (Nat × Nat)},(∀ p∈r,(p.1<n∧p.2<n)∧S p.1=true∧S p.2=false)→(r.map (·.1)).Nodup→(r.map (·.2)).Nodup→(∀ p∈r,L p.1=L p.2)→cnt (andP (exch S r) L) n=cnt (andP S L) n
 | [],_,_,_,_=>rfl
 | (y,x) :: r,hp,hn1,hn2,hL=>by
  have d:=hp (y,x) j37_;have j:∀ p∈r,(p.1<n∧p.2<n)∧S p.1=true∧S p.2=false:=fun p h=>hp p (by simp [h]);rw [List.map_cons,List.nodup_cons] at hn1 hn2;have o:=Yp8 j hn1.2 hn2.2 fun p h=>hL p (by simp [h]);have g:=I4_ (S:=S) (r:=r) fun p h=>(j p h).2;have m:exch S r y=true:=(g y).2 (.inl ⟨d.2.1,hn1.1⟩);have k:exch S r x=false:=by
   rw [← Bool.not_eq_true,g];rintro (⟨f,_⟩ | f)
   ·rw [d.2.2] at f;cases f
   ·exact hn2.1 f
  have hl:L y=L x:=hL (y,x) j37_;rw [← o,exch];cases hLx:L x
  ·rw [hLx] at hl
   refine V9_ fun i _=>?_;unfold andP;by_cases e:i=x
   ·rw [e,hLx,Bool.and_false,Bool.and_false]
   ·rw [Y5_ e]
    by_cases c:i=y
    ·rw [c,hl,Bool.and_false,Bool.and_false]
    ·rw [K3_ c]
  ·rw [hLx] at hl
   rw [← R0_ (S:=andP (exch S r) L) (x:=x) (y:=y) d.1.2 d.1.1 (by unfold andP;rw [m,hl];rfl) (by unfold andP;rw [k];rfl)];refine V9_ fun i _=>?_;by_cases e:i=x
   ·rw [e,Y7_];unfold andP;rw [Y7_,hLx];rfl
   ·rw [Y5_ e]
    unfold andP;rw [Y5_ e];by_cases c:i=y
    ·rw [c,H7_,H7_];rfl
    ·rw [K3_ c,K3_ c]
theorem Xm0 (h:Rk n f) {S:Nat→Bool} {p:Nat→Nat} {k:Nat} {w:Nat→Int} (M:f S=cnt S n) (hz:Zig n S p k) (hs:WStraight n f S p k w):Th n f (turnP S p k) w:=fun c=>by
 have D:∀ q∈pairs p k,(q.1<n∧q.2<n)∧S q.1=true∧S q.2=false:=fun q hq=>q18_;have H:∀ (g:Nat→Nat),(∀ i,g i≤2 * k∨k≤i)→(∀ i j,g i=g j→i=j)→((List.range k).map fun i=>p (g i)).Nodup:=fun g hg hi=>y10_;have s:p 0<n:=hz.lt 0 x37_;have u:S (p 0)=false:=hz.out 0 x37_;have E:=I4_ (S:=S) (r:=pairs p k) fun q hq=>(D q hq).2;have N:cnt (andP (turnP S p k) (lev w c)) n=cnt (andP S (lev w c)) n+if c≤w (p 0) then 1 else 0:=by
  have C:=Yp8 (n:=n) (S:=S) (L:=lev w c) (r:=pairs p k) D (by unfold pairs;rw [List.map_map];exact H (fun i=>2 * i+1) (fun i=>by omega) (fun i j R=>by omega))
   (by unfold pairs;rw [List.map_map];exact H (fun i=>2 * i+2) (fun i=>by omega) (fun i j R=>by omega)) (fun q hq=>by
    obtain ⟨j,hj,rfl⟩:=C9_ hq;show lev w c (p (2 * j+1))=lev w c (p (2 * j+2));unfold lev;rw [hs.tight j hj])
  have J:exch S (pairs p k) (p 0)=false:=by
   rw [← Bool.not_eq_true,E];rintro (⟨d,_⟩ | d)
   ·rw [u] at d;cases d
   ·obtain ⟨q,hq,o⟩:=List.mem_map.1 d
    obtain ⟨j,hj,rfl⟩:=C9_ hq;have:=hz.inj (2 * j+2) 0 x37_ x37_ o;omega
  rw [← C];by_cases m:c≤w (p 0)
  ·rw [if_pos m,← J6_ s (P:=andP (exch S (pairs p k)) (lev w c)) (by unfold andP;rw [J];rfl)]
   refine V9_ fun i _=>?_;show (turnP S p k i && lev w c i)=_;rw [← Zr7 hz i];by_cases e:i=p 0
   ·rw [e,Y7_,Y7_,lev_iff.2 m];rfl
   ·rw [Y5_ e,Y5_ e];rfl
  ·rw [if_neg m,Nat.add_zero]
   refine V9_ fun i _=>?_;show (turnP S p k i && lev w c i)=(exch S (pairs p k) i && lev w c i);rw [← Zr7 hz i];by_cases e:i=p 0
   ·have:lev w c (p 0)=false:=by rw [← Bool.not_eq_true,lev_iff];exact m
    rw [e,this,Bool.and_false,Bool.and_false]
   ·rw [Y5_ e]
 have B:f (lev w c)=cnt (andP S (lev w c)) n→f (lev w c)=cnt (andP (turnP S p k) (lev w c)) n:=fun y=>by
  rw [N];by_cases m:c≤w (p 0)
  ·have K:f (insP S (p 0))=cnt (insP S (p 0)) n:=by rw [J6_ s u];exact hs.start
   have d:=h.part (P:=insP (andP S (lev w c)) (p 0)) (Q:=insP S (p 0)) (fun i _ hi=>by
    by_cases e:i=p 0
    ·rw [e,Y7_]
    ·rw [Y5_ e] at hi ⊢
     unfold andP at hi;rw [Bool.and_eq_true] at hi;exact hi.1) K
   rw [J6_ s (by unfold andP;rw [u];rfl)] at d;have I:=h.mono (P:=insP (andP S (lev w c)) (p 0)) (Q:=lev w c) fun i _ hi=>by
    by_cases e:i=p 0
    ·rw [e];exact lev_iff.2 m
    ·exact x21_
   omega
  ·rw [if_neg m];exact y
 rcases Zr8 h M hs.ex c with hall | y
 ·by_cases F:∀ z,z<n→lev w c z=true→f (insP S z)=f S
  ·right
   refine B ?_;have O:=h.closed S (lev w c) F n (le_refl _);rw [C5_ h] at O;have I:=h.mono (P:=lev w c) (Q:=orP S (lev w c)) fun i _ hi=>by unfold orP;rw [hi,Bool.or_true]
   have C:cnt (andP S (lev w c)) n=cnt S n:=V9_ fun i hi=>k22_;have h3:=h.mono (P:=S) (Q:=lev w c) fun i hi hSi=>lev_iff.2 (hall i hi hSi);omega
  ·left
   obtain ⟨z,A,U,G⟩:∃ z,z<n∧lev w c z=true∧f (insP S z)≠f S:=by
    refine Classical.byContradiction fun T=>F fun z hz hl=>?_;exact Classical.byContradiction fun hne=>T ⟨z,hz,hl,hne⟩
   have v:S z=false:=by
    rw [← Bool.not_eq_true];intro v;rw [H1_ v] at G;exact G rfl
   have W:=h.up' S A;have X:=h.one' S A;have hb:=hs.best z A v x37_;have:=lev_iff.1 U;intro i hi x;rw [← Zr7 hz i] at x;by_cases e:i=p 0
   ·rw [e];omega
   ·rw [Y5_ e] at x
    rcases (E i).1 x with ⟨d,_⟩ | d
    ·exact hall i hi d
    ·obtain ⟨q,hq,o⟩:=List.mem_map.1 d
     obtain ⟨j,hj,rfl⟩:=C9_ hq;have h3:=hs.tight j hj;have V:=hall (p (2 * j+1)) (hz.lt _ x37_) (hz.within j hj);rw [← o];show c≤w (p (2 * j+2));omega
 ·exact .inr (B y)
end
theorem Zr9 (w:Nat→Int) (c:Int) (P:Nat→Bool):∀ n,sumP (fun i=>min (w i) (c+1)) P n=sumP (fun i=>min (w i) c) P n+(cnt (andP P (lev w (c+1))) n:Int)
 | 0=>by simp [sumP,cnt]
 | n+1=>by
  have e:=Zr9 w c P n;rw [sumP,sumP,X6_];unfold andP lev;unfold andP lev at e;cases hP:P n
  ·simp only [Bool.false_and,Bool.false_eq_true,if_false]
   omega
  ·by_cases d:c+1≤w n
   ·simp only [Bool.true_and,if_true,decide_eq_true d]
    omega
   ·simp only [Bool.true_and,if_true,decide_eq_false d,Bool.false_eq_true,if_false]
    omega
theorem Zs0 (c:Int) (P:Nat→Bool):∀ n,sumP (fun _=>c) P n=c * (cnt P n:Int)
 | 0=>by simp [sumP,cnt]
 | n+1=>by
  rw [sumP,X6_,Zs0 c P n];cases P n
  ·simp
  ·simp only [if_true]
   rw [show ((cnt P n+1:Nat):Int)=(cnt P n:Int)+1 from rfl,Int.mul_add,Int.mul_one]
theorem Zf0 (w:Nat→Int):∀ n:Nat,∃ (m:Int) (k:Nat),∀ i,i<n→m≤w i∧w i≤m+(k:Int)
 | 0=>⟨0,0,fun i hi=>by omega⟩
 | n+1=>by
  obtain ⟨m,k,h⟩:=Zf0 w n;refine ⟨min m (w n),(max (m+k) (w n) - min m (w n)).toNat,fun i hi=>?_⟩;by_cases e:i=n
  ·subst e;omega
  ·have:=h i x37_;omega
theorem Xv2 {n:Nat} {w:Nat→Int} {S T:Nat→Bool} (hl:∀ c,cnt (andP T (lev w c)) n≤cnt (andP S (lev w c)) n) (hc:cnt T n=cnt S n):sumP w T n≤sumP w S n:=by
 obtain ⟨m,k,hb⟩:=Zf0 w n;have d:∀ j:Nat,sumP (fun i=>min (w i) (m+(j:Int))) T n≤sumP (fun i=>min (w i) (m+(j:Int))) S n:=by
  intro j
  induction j with
  | zero =>
   have e:∀ P,sumP (fun i=>min (w i) (m+((0:Nat):Int))) P n=sumP (fun _=>m) P n:=fun P=>Zq6 (fun _ _=>rfl) fun i hi=>by have:=(hb i hi).1;omega
   rw [e,e,Zs0,Zs0,hc];exact Int.le_refl _
  | succ j ih =>
   rw [show (m+((j+1:Nat):Int))=(m+(j:Int))+1 by omega,Zr9,Zr9];have:=hl (m+(j:Int)+1);omega
 have e:∀ P,sumP (fun i=>min (w i) (m+(k:Int))) P n=sumP w P n:=fun P=>Zq6 (fun _ _=>rfl) fun i hi=>by have:=(hb i hi).2;omega
 have:=d k
 rwa [e,e] at this
theorem Xm1 {n:Nat} {f:(Nat→Bool)→Nat} (h:Rk n f) {S T:Nat→Bool} {w:Nat→Int} (j:Th n f S w) (d:f T=cnt T n) (hc:cnt T n=cnt S n):sumP w T n≤sumP w S n:=by
 refine Xv2 (fun c=>?_) hc;rcases j c with hall | g
 ·have e:cnt (andP S (lev w c)) n=cnt S n:=V9_ fun i hi=>k22_
  rw [e,← hc,← d,← h.part (P:=andP T (lev w c)) (Q:=T) (fun i _ hi=>by unfold andP at hi;rw [Bool.and_eq_true] at hi;exact hi.1) d];exact h.mono fun i _ hi=>by unfold andP at hi;rw [Bool.and_eq_true] at hi;exact hi.1
 ·rw [← g,← h.part (P:=andP T (lev w c)) (Q:=T) (fun i _ hi=>by unfold andP at hi;rw [Bool.and_eq_true] at hi;exact hi.1) d]
  exact h.mono fun i _ hi=>by unfold andP at hi;rw [Bool.and_eq_true] at hi;exact hi.2
theorem Yp9 (f g:Nat→Int) (P:Nat→Bool):∀ n,sumP (fun i=>f i+g i) P n=sumP f P n+sumP g P n
 | 0=>rfl
 | n+1=>by
  have c:=Yp9 f g P n;rw [sumP,sumP,sumP];split<;>omega
open Go Go.RowKit
def DigP (adj:List (List Int)):Prop:=adj.length≤4096∧∀ x,IsSet (adj.getD x [])∧∀ y∈adj.getD x [],0≤y∧y<(adj.length:Int)
abbrev PtsP (n:Nat) (l:List Int):Prop:=InN n l
def nearK (adj:List (List Int)) (l:List Int):Nat→List Int
 | 0=>l
 | k+1=>Y3_ (nearK adj l k) (adj.getD (l.getD k 0).toNat [])
def nearL (adj:List (List Int)) (l:List Int):List Int:=nearK adj l l.length
def itL (adj:List (List Int)) (l:List Int):Nat→List Int
 | 0=>l
 | k+1=>nearL adj (itL adj l k)
theorem Yj6 {adj:List (List Int)} (l:List Int):∀ k,itL adj (nearL adj l) k=itL adj l (k+1)
 | 0=>rfl
 | k+1=>by
  show nearL adj (itL adj (nearL adj l) k)=nearL adj (itL adj l (k+1));rw [Yj6 l k]
theorem Zs1 {adj:List (List Int)} {l:List Int} {k:Nat} (h:itL adj l (k+1)=itL adj l k):∀ m,itL adj l (k+m)=itL adj l k
 | 0=>rfl
 | m+1=>by
  show nearL adj (itL adj l (k+m))=_;rw [Zs1 h m];exact h
theorem Yg8 {n:Nat} {l:List Int} (h:PtsP n l):l.length≤n:=Y1_ h
section
variable {adj:List (List Int)} (hd:DigP adj)
include hd
theorem Yj7 {l:List Int} (hl:PtsP adj.length l):∀ k,k≤l.length→PtsP adj.length (nearK adj l k)∧∀ x,x∈nearK adj l k↔x∈l∨∃ y∈l.take k,x∈adj.getD y.toNat []
 | 0,_=>⟨hl,fun x=>by simp [nearK]⟩
 | k+1,hk=>by
  obtain ⟨d,f⟩:=Yj7 hl k x37_;have e:=Q2_ d.1 (hd.2 (l.getD k 0).toNat).1;have g:l.take (k+1)=l.take k ++ [l.getD k 0]:=by
   rw [List.take_succ_eq_append_getElem (by omega:k<l.length)];simp [List.getD,show k<l.length by omega]
  refine ⟨⟨E8_ _ _,fun x j=>?_⟩,fun x=>?_⟩
  ·rcases (e x).1 j with h | h
   ·exact d.2 x h
   ·exact (hd.2 _).2 x h
  ·show x∈Y3_ (nearK adj l k) (adj.getD (l.getD k 0).toNat [])↔_
   rw [e x,f x,g];constructor
   ·rintro ((h | ⟨y,c,h⟩) | h)
    ·exact .inl h
    ·exact .inr ⟨y,List.mem_append.2 (.inl c),h⟩
    ·exact .inr ⟨_,List.mem_append.2 (.inr (List.mem_singleton.2 rfl)),h⟩
   ·rintro (h | ⟨y,c,h⟩)
    ·exact .inl (.inl h)
    ·rcases List.mem_append.1 c with c | c
     ·exact .inl (.inr ⟨y,c,h⟩)
     ·rw [List.mem_singleton] at c
      rw [c] at h;exact .inr h
theorem H8_ {l:List Int} (hl:PtsP adj.length l):PtsP adj.length (nearL adj l)∧∀ x,x∈nearL adj l↔x∈l∨∃ y∈l,x∈adj.getD y.toNat []:=by
 have:=Yj7 hd hl l.length (le_refl _);rw [List.take_length] at this;exact this
theorem D0_ {l:List Int} (hl:PtsP adj.length l):∀ k,PtsP adj.length (itL adj l k)
 | 0=>hl
 | k+1=>(H8_ hd (D0_ hl k)).1
theorem K9_ {dst:List Int}:∀ k l,PtsP adj.length l→((∃ z∈itL adj l k,z∈dst)↔∃ y∈l,Near adj dst k y)
 | 0,l,_=>Iff.rfl
 | k+1,l,hl=>by
  have d:=H8_ hd hl;rw [← Yj6 l k,K9_ k _ d.1];constructor
  ·rintro ⟨y,c,h⟩
   rcases (d.2 y).1 c with c | ⟨z,e,c⟩
   ·exact ⟨y,c,.inl h⟩
   ·exact ⟨z,e,.inr ⟨y,c,h⟩⟩
  ·rintro ⟨y,c,h | ⟨z,e,h⟩⟩
   ·exact ⟨y,(d.2 y).2 (.inl c),h⟩
   ·exact ⟨z,(d.2 z).2 (.inr ⟨y,c,e⟩),h⟩
theorem Xm2 {l:List Int} (hl:PtsP adj.length l) (k:Nat):∀ x,x∈itL adj l k→x∈itL adj l (k+1):=fun x c=>((H8_ hd (D0_ hd hl k)).2 x).2 (.inl c)
theorem Yj8 {l:List Int} (hl:PtsP adj.length l):∀ k,(∀ m,m<k→itL adj l (m+1)≠itL adj l m)→k≤(itL adj l k).length
 | 0,_=>Nat.zero_le _
 | k+1,h=>by
  have r:=Yj8 hl k fun m d=>h m x37_;have e:=D0_ hd hl k;have c:=D0_ hd hl (k+1);rw [X3_ e] at r;rw [X3_ c];by_cases f:∃ y,y<adj.length∧memP (itL adj l k) y=false∧memP (itL adj l (k+1)) y=true
  ·have:=Yk2 (p:=memP (itL adj l k)) (q:=memP (itL adj l (k+1))) (n:=adj.length) (fun v _ o=>memP_iff.2 (Xm2 hd hl k _ (memP_iff.1 o))) f
   omega
  ·exfalso
   refine h k x37_ (IsSet.ext c.1 e.1 fun x=>⟨fun g=>?_,Xm2 hd hl k x⟩);have hb:=c.2 x g;have j:((x.toNat:Nat):Int)=x:=x37_;cases d:memP (itL adj l k) x.toNat
   ·exact absurd ⟨x.toNat,x37_,d,memP_iff.2 (by rw [j];exact g)⟩ f
   ·have:=memP_iff.1 d
    rwa [j] at this
theorem Xm3 {l:List Int} (hl:PtsP adj.length l):∀ m,itL adj l (adj.length+m)=itL adj l adj.length:=by
 by_cases h:∃ k,k≤adj.length∧itL adj l (k+1)=itL adj l k
 ·obtain ⟨k,f,e⟩:=h
  intro m;have c:=Zs1 e (adj.length+m - k);have d:=Zs1 e (adj.length - k);rw [show k+(adj.length+m - k)=adj.length+m by omega] at c;rw [show k+(adj.length - k)=adj.length by omega] at d;rw [c,d]
 ·exfalso
  have c:=Yj8 hd hl (adj.length+1) fun m g e=>h ⟨m,x37_,e⟩;have d:=Yg8 (D0_ hd hl (adj.length+1));omega
theorem Zy9 {l:List Int} (hl:PtsP adj.length l) {x y:Int} (c:x∈itL adj l adj.length) (d:y∈adj.getD x.toNat []):y∈itL adj l adj.length:=by
 have h:=((H8_ hd (D0_ hd hl adj.length)).2 y).2 (.inr ⟨x,c,d⟩);have e:itL adj l (adj.length+1)=itL adj l adj.length:=Xm3 hd hl 1;rw [← e];exact h
theorem Zs2 {l:List Int} (hl:PtsP adj.length l):∀ k x,x∈l→x∈itL adj l k
 | 0,_,h=>h
 | k+1,x,h=>Xm2 hd hl k x (Zs2 hl k x h)
theorem Zf1 {dst:List Int} {v:Int} (h:0≤v∧v<(adj.length:Int)) {k:Nat} (f:Near adj dst k v):∃ m,m≤adj.length∧m≤k∧Near adj dst m v:=by
 by_cases g:k≤adj.length
 ·exact ⟨k,g,le_refl _,f⟩
 ·have hl:PtsP adj.length [v]:=⟨⟨j37_,fun y c=>by rw [List.mem_singleton] at c;have:=hd.1;rw [c];exact ⟨x37_,x37_⟩⟩,fun y c=>by rw [List.mem_singleton] at c;rw [c];exact h⟩
  have d:=(K9_ hd (dst:=dst) k [v] hl).2 ⟨v,j37_,f⟩;rw [show k=adj.length+(k - adj.length) by omega,Xm3 hd hl] at d;obtain ⟨y,c,e⟩:=(K9_ hd (dst:=dst) adj.length [v] hl).1 d;rw [List.mem_singleton] at c;rw [c] at e;exact ⟨adj.length,le_refl _,x37_,e⟩
end
section
variable {adj:List (List Int)} {dst S:List Int} {i:Nat} {b s:Int}
end
open Go Go.RowKit
theorem Zq7 {k:Nat} (h:k≤64):IsSet (upTo k):=by
 by_cases c:k=0
 ·subst c;exact J1_
 ·rw [← Ye5 x37_ x37_]
  exact F7_ _
section
variable {a b m:Mat} {s:List Int}
theorem B1_ (c:nN m≤64):InN (nN m) (addG m s):=⟨(Zq7 c).filter _,fun _ d=>mem_upTo.1 (List.mem_filter.1 d).1⟩
theorem Vp5 {x:Nat} (c:nN a≤x):(adjG a b s).getD x []=[]:=by
 rw [List.getD_eq_getElem?_getD,List.getElem?_eq_none (by rw [B0_];exact c)];rfl
theorem Zx0 (d:nN a≤64):DigP (adjG a b s):=by
 refine ⟨by rw [B0_];omega,fun x=>?_⟩;by_cases e:x<nN a
 ·rw [Xl7 e,B0_]
  exact ⟨(Zq7 d).filter _,fun y c=>mem_upTo.1 (List.mem_filter.1 c).1⟩
 ·rw [Vp5 x37_]
  exact ⟨J1_,fun y c=>by cases c⟩
theorem Common.n64 (h:Common a b s):nN a≤64:=(Y0_ (mayI_iff.1 (J7_ h.ia)).1).2
theorem Common.set (h:Common a b s):InN (nN a) s:=(mayI_iff.1 (J7_ h.ia)).2
theorem Xv3 (h:Common a b s) (g:meetL (itL (adjG a b s) (addG a s) (adjG a b s).length) (addG b s)=[]) :
  InN (nN a) (itL (adjG a b s) (addG a s) (adjG a b s).length)∧rankT a (Z5_ (allL a.n) (itL (adjG a b s) (addG a s) (adjG a b s).length))+rankT b (itL (adjG a b s) (addG a s) (adjG a b s).length)=(s.length:Int):=by
 have hd:=Zx0 (b:=b) (s:=s) h.n64;have d:PtsP (adjG a b s).length (addG a s):=by rw [B0_];exact B1_ h.n64
 have f:=D0_ hd d (adjG a b s).length;have c:InN (nN a) (itL (adjG a b s) (addG a s) (adjG a b s).length):=by rw [B0_] at f ⊢;exact f
 refine ⟨c,Xv1 h c (Zs2 hd d _) (fun x e y j=>Zy9 hd d e (by rw [Int.toNat_natCast];exact j)) fun x e hb=>?_⟩;have hB:IsSet (addG b s):=(B1_ (by rw [h.nn];exact h.n64)).1;have:=(G4_ c.1 hB x).2 ⟨e,hb⟩;rw [g] at this;cases this
end
theorem Row.nth {w:World} {B:Nat} {A:Option Addr} {n c:Nat} {l:List Int} (h:Row w B (.slice A n c) l) {k:Nat} (hk:k<l.length):∃ ad,A=some ad∧∀ W,Below B w W→W.cell? (ad.add k)=some (.int .i64 (l.getD k 0)):=z12_
open Go.RowKit
theorem Zs3 (v:Value) (l:List Int) (x:Int) (B:Nat) (w:World) (o:Row w B v l) (hl:l.length≤1048576) :
  Calls Tryz.prog 83 #[v,.int .i64 x] w fun e w'=>e=.returned (.bool (l.contains x))∧w'=w:=by
 obtain ⟨A,c,rfl,_,d⟩:=o;rcases l with _ | ⟨y,r⟩
 ·exact Tryz.slices_Contains_int_empty A c x w
 ·obtain ⟨g,rfl,z,hc⟩:=d 0 j37_
  obtain ⟨b,q,s⟩:=g;have p:s=none:=x46_;subst p;have h:=Tryz.slices_Contains_int b q (y :: r).length c (y :: r) x w (le_refl _) x37_ (fun j m=>by
   obtain ⟨u,hA,_,k⟩:=d j m;injection hA with hA;subst hA;rw [← k];congr 1;unfold Addr.add;split
   ·simp
   ·rfl)
  rw [List.take_length] at h;exact h
theorem Jv1 {l:List Int} {x:Int} (h:mayB l=false):hasB l x=false:=by unfold hasB;rw [h];rfl
theorem Vp6 {l:List Int} {x:Int} (h:mayB l=true):hasB l x=l.contains x:=by unfold hasB;rw [h];rfl
theorem Zs4 (v:Value) (l:List Int) (x:Int) (w:World) (m:Row w w.heap.size v l) (hl:l.length≤1048576) :
  Calls Tryz.prog 52 #[v,.int .i64 x] w (Says w (hasB l x)):=by
 have g:=hid m;clear m;rcases hm:mayB l with _ | _
 ·have c:=hid (Jv1 (x:=x) hm)
  go_enter Tryz.func52,Tryz.ntmps52
  go_wp2_with fail
  refine (may_any v l w g.out x37_).mono ?_;rintro e o ⟨rfl,d⟩;rw [hm];go_wp2;go_ret;exact X8_ c.out rfl d
 ·have c:=hid (Vp6 (x:=x) hm)
  obtain ⟨j,k⟩:∃ j,j=l.contains x:=⟨_,rfl⟩;have h:=hid (Zs3 v l x w.heap.size);rw [← k] at c h;clear k
  go_enter Tryz.func52,Tryz.ntmps52
  go_wp2_with fail
  refine (may_any v l w g.out x37_).mono ?_;rintro e o ⟨rfl,d⟩;rw [hm]
  go_wp2_with fail
  refine (h.out o (g.out.below d) hl).mono ?_;rintro e p ⟨rfl,rfl⟩;go_wp2;go_ret;exact X8_ c.out rfl d
theorem Fam.bel {w w':World} {B:Nat} {c:List Value} {pp:List (List Int)} (h:Fam w B c pp) (hb:Below w.heap.size w w'):Fam w' B c pp:=h.new (Z8_ hb none)
open Go.RowKit
def sameB (a b:List Int):Bool:=decide (a=b)
theorem Va0 (K L:Value) (a b:List Int) (w:World) (ha:Row w w.heap.size K a) (hb:Row w w.heap.size L b) (V:a.length≤1048576) (_hlb:b.length≤1048576) :
  Calls Tryz.prog 12 #[K,L] w fun e w'=>e=.returned (.bool (sameB a b))∧∃ q,w'=w.drewN q:=by
 obtain ⟨A,Q,rfl,_,D⟩:=ha;obtain ⟨A',R,rfl,_,E⟩:=hb;have p:=hid D;have r:=hid E;clear D E;by_cases hl:a.length=b.length
 ·have P:((a.length:Int) != (b.length:Int))=false:=by rw [hl];simp
  have s:=hid hl;clear hl
  go_enter Tryz.func12,Tryz.ntmps12
  go_wp2
  go_loopw [5] (fun o wr=>∃ k q:Nat,o=.int .i64 k∧wr=w.drewN q∧k≤a.length∧a.take k=b.take k) (fun o _=>a.length - (intOf o).toNat)
  case atStart=>exact ⟨0,0,rfl,rfl,Nat.zero_le _,rfl⟩
  case round =>
   obtain ⟨k,q,rfl,J,U,I⟩:=hrel;have d:=hid J;clear J;have j:=hid I;clear I;by_cases G:k<a.length
   ·have H:k<b.length:=by have:=s.out;omega
    obtain ⟨M,hA,_,B⟩:=p.out k G;obtain ⟨N,O,_,C⟩:=r.out k H;subst hA O;have S:wr.cell? (M.add k)=some (.int .i64 (a.getD k 0)):=by rw [d.out];exact B
    have T:wr.cell? (N.add k)=some (.int .i64 (b.getD k 0)):=by rw [d.out];exact C
    have X:(k:Int)<(a.length:Int):=x37_;have Y:(k:Int)<(b.length:Int):=x37_;have m:∀ l:List Int,k<l.length→l.take (k+1)=l.take k ++ [l.getD k 0]:=by
     intro l h;rw [List.take_succ_eq_append_getElem h];simp [List.getD,h]
    have u:=hid (m a G);have v:=hid (m b H);clear m B C p r;generalize a.getD k 0=x at *
    generalize b.getD k 0=y at *
    by_cases g:x=y
    ·subst g
     go_wp2
     go_quiet (fail)
     go_wp2
     go_roundw
     case rel=>exact ⟨k+1,q+nq,y38_,by rw [d.out,World.drewN_drewN],x37_,by rw [u.out,v.out,j.out]⟩
     exact mz_
    ·have W:(x != y)=true:=by simpa using g
     have c:Hid (sameB a b=false):=by
      show sameB a b=false;unfold sameB;rw [decide_eq_false_iff_not];intro h;have z:a.take (k+1)=b.take (k+1):=by rw [h]
      rw [u.out,v.out,j.out] at z;have h3:=List.append_cancel_left z;simp at h3;exact g h3
     clear g;go_wp2
     go_quiet (fail)
     go_wp2;go_ret;refine ⟨?_,q+nq,by rw [d.out,World.drewN_drewN]⟩;rw [c.out];rfl
   ·have F:k=a.length:=by omega
    have c:Hid (sameB a b=true):=by
     show sameB a b=true;unfold sameB;rw [decide_eq_true_iff];have h:=j.out;rw [F,List.take_length] at h;rw [h,s.out,List.take_length]
    subst F;go_wp2;go_ret;refine ⟨?_,q,d.out⟩;rw [c.out];rfl
 ·have P:((a.length:Int) != (b.length:Int))=true:=by
   rw [bne_iff_ne];omega
  have c:Hid (sameB a b=false):=by
   show sameB a b=false;unfold sameB;rw [decide_eq_false_iff_not];intro h;exact hl (by rw [h])
  clear hl
  go_enter Tryz.func12,Tryz.ntmps12
  go_wp2;go_ret;refine ⟨?_,0,rfl⟩;rw [c.out];rfl
theorem Xm4 (c d:Value) (a b:List Int) (w:World) (ha:Row w w.heap.size c a) (hb:Row w w.heap.size d b) (h:a.length≤1048576) (j:b.length≤1048576) :
  Calls Tryz.prog 12 #[c,d] w (Says w (sameB a b)) :=
 (Va0 c d a b w ha hb h j).mono fun _ _ ⟨e,q,g⟩=>⟨e,by rw [g];exact Y2_ (Below.refl _ _) q⟩
theorem Vp7 (c d:Value) (a b:List Int) (w:World) (ha:Row w w.heap.size c a) (hb:Row w w.heap.size d b) (e:a.length≤1048576) (g:b.length≤1048576) {x:Bool} (h:sameB a b=x) :
  Calls Tryz.prog 12 #[c,d] w (Says w x):=by
 subst h;exact Xm4 c d a b w ha hb e g
open Go.RowKit
def Goes (w:World) (g:Nat) (lb:Array Value) (N:Nat) (on:Int→Nat→Bool):Prop :=
 ∀ (x:Int) (n:Nat) (W:World),0≤x→x<(N:Int)→Below w.heap.size w W→Calls Tryz.prog g (#[.int .i64 x,.int .i64 (n:Int)] ++ lb) W fun e W'=>e=.returned (.bool (on x n))∧Below W.heap.size W W'
open Go.RowKit
theorem Xm5 {s:List Int} (h:IsSet s):∀ x∈s,x≤s.getD (s.length - 1) 0:=by
 intro x c;obtain ⟨i,hi,rfl⟩:=List.mem_iff_getElem.1 c;have hl:s.length - 1<s.length:=x37_;rw [show s.getD (s.length - 1) 0=s[s.length - 1] by simp [List.getD,hl]];by_cases e:i=s.length - 1
 ·subst e;exact Int.le_refl _
 ·have:=List.pairwise_iff_getElem.1 h.1 i (s.length - 1) hi hl x37_
  omega
theorem Xm6 {w s:List Int} (h:mayB s=false):J3_ w s=0:=by
 unfold J3_;rw [if_neg];rintro ⟨c,_⟩;rw [h] at c;cases c
theorem Xv4 {w s:List Int} (hl:0<s.length) (h:(w.length:Int)≤s.getD (s.length - 1) 0):J3_ w s=0:=by
 unfold J3_;rw [if_neg];rintro ⟨_,c⟩;have:=c _ (Y9_ 0 (show s.length - 1<s.length by omega));omega
theorem Zl8 {w s:List Int} (h:mayB s=true) (hl:∀ x∈s,x<(w.length:Int)):J3_ w s=addW w s:=by
 unfold J3_;exact if_pos ⟨h,hl⟩
theorem Yj9 {w s:List Int} {k:Nat} (h:k<s.length):addW w (s.take (k+1))=IntKind.i64.wrap (addW w (s.take k)+wt w (s.getD k 0)):=by
 unfold addW;rw [List.take_succ_eq_append_getElem h,List.foldl_append];simp [List.getD,h]
theorem Xv5 (Q P:Value) (ws s:List Int) (w:World) (H:Row w w.heap.size Q ws) (G:Row w w.heap.size P s):Calls Tryz.prog 20 #[Q,P] w (Tells w (J3_ ws s)):=by
 have S:=hid H;have c:=hid G;obtain ⟨Aw,cw,rfl,D,_⟩:=id H;obtain ⟨As,cs,rfl,C,_⟩:=id G;have r:s.length≤9223372036854775807:=by have Y:=C.1;have v:=C.2.1;unfold maxLen at v;omega
 have x7:(s.length:Int)≤9223372036854775807:=x37_;have x8:(ws.length:Int)≤9223372036854775807:=by have Y:=D.1;have v:=D.2.1;unfold maxLen at v;omega
 clear H G D C;rcases hm:mayB s with _ | _
 ·rw [Xm6 hm]
  go_enter Tryz.func20,Tryz.ntmps20
  go_wp2_with fail
  refine (may_any _ s _ c.out r).mono ?_;rintro e g ⟨rfl,hb1⟩;rw [hm];go_wp2;go_ret;exact ⟨rfl,hb1⟩
 ·by_cases X:0<s.length
  ·have x4:(0:Int)<(s.length:Int):=by omega
   obtain ⟨L,m⟩:∃ L:Nat,s.length=L+1:=⟨s.length - 1,x37_⟩;obtain ⟨ad,hA,p⟩:=Row.nth c.out (k:=L) x37_;subst hA;have q:=Xm5 (mayB_iff.1 hm);rw [show s.length - 1=L by omega] at q;have x5:(s.length:Int) - 1=(L:Int):=x37_;by_cases N:(ws.length:Int)≤s.getD L 0
   ·rw [Xv4 X (by rw [show s.length - 1=L by omega];exact N)]
    have R:=hid m;have j:=hid p;generalize s.getD L 0=y at *
    have x0:(L:Int)<(s.length:Int):=x37_;clear q p m
    go_enter Tryz.func20,Tryz.ntmps20
    go_wp2_with fail
    refine (may_any _ s _ c.out r).mono ?_;rintro e g ⟨rfl,hb1⟩;rw [hm];have J:=j.out g hb1;exact y22_
   ·have x1:s.getD L 0<(ws.length:Int):=by omega
    have B:∀ x∈s,x<(ws.length:Int):=fun x d=>by have:=q x d;omega
    rw [Zl8 hm B];have U:Hid (∀ x∈s,0≤x):=hid fun x d=>((mayB_iff.1 hm).2 x d).1;have T:=hid B;have j:=hid p;have R:=hid m;have V:=hid (fun k h=>Yj9 (w:=ws) (s:=s) (k:=k) h);obtain ⟨y,O⟩:∃ y,s.getD L 0=y:=⟨_,rfl⟩;rw [O] at x1 j;have x0:(L:Int)<(s.length:Int):=x37_;clear q p m N B O
    go_enter Tryz.func20,Tryz.ntmps20
    go_wp2_with fail
    refine (may_any _ s _ c.out r).mono ?_;rintro e g ⟨rfl,hb1⟩;rw [hm];have J:=j.out g hb1;have HB1:=hid hb1;clear hb1;go_wp2
    go_loopw [5,29] (fun vn I wr=>∃ k:Nat,I=.int .i64 k∧k≤s.length∧vn=.int .i64 (addW ws (s.take k))∧Below w.heap.size w wr) (fun _ I _=>s.length - (intOf I).toNat)
    case atStart=>exact ⟨0,rfl,Nat.zero_le _,rfl,HB1.out⟩
    case round =>
     obtain ⟨k,rfl,hk,rfl,o⟩:=hrel;have Hbr:=hid o;by_cases E:k<s.length
     ·have x6:(k:Int)<(s.length:Int):=by omega
      obtain ⟨x3,hA,K⟩:=Row.nth c.out E;injection hA with hA;subst hA;have g2:=K wr o;have F:=Y9_ (0:Int) E;have x9:=U.out _ F;have xa:=T.out _ F;have u:=hid (V.out k E);generalize s.getD k 0=x at *
      obtain ⟨i,rfl⟩:∃ i:Nat,x=(i:Int):=⟨x.toNat,x37_⟩;obtain ⟨aw,Z,M⟩:=Row.nth S.out (k:=i) x37_;subst Z;have g3:=M wr o;unfold wt at u;rw [Int.toNat_natCast] at u;generalize ws.getD i 0=z at *
      generalize addW ws (s.take k)=t at *
      clear F K M o J;go_wp2
      go_roundw
      case rel=>exact ⟨k+1,y38_,x37_,by rw [u.out,Ym3],Hbr.out⟩
      exact mz_
     ·have x2:k=s.length:=by omega
      subst x2;have W:Hid (s.take s.length=s):=hid List.take_length;rw [W.out];exact k11_
  ·have he:s=[]:=List.eq_nil_of_length_eq_zero x37_
   subst he;rw [Zl8 hm (fun x d=>by cases d)]
   go_enter Tryz.func20,Tryz.ntmps20
   go_wp2_with fail
   refine (may_any _ [] _ c.out r).mono ?_;rintro e g ⟨rfl,hb1⟩;rw [hm];go_wp2;refine wp_loop_rounds 1 ?_;rw [rounds_succ];go_wp2;go_ret;exact ⟨rfl,hb1⟩
def baseL (I:List Int→Bool):List Int→List Int→List Int
 | out,[]=>out
 | out,x :: r=>baseL I (if I (Y3_ out [x])=true then out ++ [x] else out) r
def cntC (cl s:List Int) (c:Int):Nat:=(s.filter fun x=>cl.getD x.toNat 0==c).length
def G2_ (l:List (List Int)):List Int→List Int→Bool
 | [],_=>true
 | x :: s,used=>(Z5_ (l.getD x.toNat []) used).any fun r=>G2_ l s (Y3_ used [r])
theorem Xm7 {cl s:List Int} {c:Int} {k:Nat} (d:k<s.length):cntC cl (s.take (k+1)) c=cntC cl (s.take k) c+if cl.getD (s.getD k 0).toNat 0=c then 1 else 0:=by
 unfold cntC;rw [List.take_succ_eq_append_getElem d,List.filter_append,List.length_append,show s[k]=s.getD k 0 by simp [List.getD,d]];congr 1;rw [List.filter_cons];by_cases h:cl.getD (s.getD k 0).toNat 0=c
 ·rw [if_pos h,if_pos (by rw [h];exact beq_self_eq_true c)];rfl
 ·rw [if_neg h,if_neg y41_];rfl
theorem Vp8 (cl s:List Int) (c:Int):cntC cl s c≤s.length:=List.length_filter_le _ _
theorem Row.nthV {w:World} {B:Nat} {A:Option Addr} {n c:Nat} {l:List Int} (h:Row w B (.slice A n c) l) {k:Nat} (hk:k<l.length):∃ ad,A=some ad∧∀ W,Below B w W→W.cell? (ad.add k)=some (.int .i64 (l.getD k 0)):=z12_
theorem Xm8 (x z:Value) (cl s:List Int) (c:Int) (w:World) (hc:Row w w.heap.size x cl) (hs:Row w w.heap.size z s) (v:∀ k,k<s.length→0≤s.getD k 0∧s.getD k 0<(cl.length:Int)) (V:s.length≤64) :
  Calls Tryz.prog 93 #[x,z,.int .i64 c] w (Tells w (cntC cl s c:Nat)):=by
 have B:=hid hc;have C:=hid hs;have E:=hid v;have U:(s.length:Int)≤64:=x37_;obtain ⟨J,O,rfl,_⟩:=hc;obtain ⟨K,cs,rfl,_⟩:=hs;clear v
 go_enter Tryz.func93,Tryz.ntmps93
 go_wp2
 go_loopw [7,8] (fun I o wr=>∃ k:Nat,o=.int .i64 (k:Int)∧k≤s.length∧I=.int .i64 (cntC cl (s.take k) c:Nat)∧Below w.heap.size w wr) (fun _ o _=>s.length - (intOf o).toNat)
 case atStart=>exact ⟨0,rfl,Nat.zero_le _,by rw [List.take_zero];rfl,Below.refl _ _⟩
 case round =>
  obtain ⟨k,rfl,S,rfl,q⟩:=hrel;have e:=hid q;clear q;by_cases j:k<s.length
  ·have T:(k:Int)<(s.length:Int):=by omega
   obtain ⟨M,hA,u⟩:=Row.nthV C.out j;subst hA;have gs:=u _ e.out;have m:=E.out k j;have d:=hid (Xm7 (cl:=cl) (c:=c) j);have H:=Vp8 cl (s.take k) c;rw [List.length_take] at H;obtain ⟨X,p⟩:∃ X:Nat,s.getD k 0=(X:Int):=⟨(s.getD k 0).toNat,x37_⟩;rw [p] at gs m d;rw [show ((X:Int)).toNat=X from rfl] at d;obtain ⟨L,F,r⟩:=Row.nthV B.out (k:=X) x37_;subst F;have P:=r _ e.out;generalize cl.getD X 0=y at *
   generalize cntC cl (s.take k) c=N at *
   have Q:(N:Int)≤64:=x37_;have R:(X:Int)<(cl.length:Int):=m.2;clear u r p m;by_cases g:y=c
   ·have h:Hid (cntC cl (s.take (k+1)) c=N+1):=hid (by rw [d.out,if_pos g])
    clear d;subst g;go_wp2
    go_roundw
    case rel=>exact ⟨k+1,y38_,x37_,by rw [h.out];go_num,e.out⟩
    exact mz_
   ·have h:Hid (cntC cl (s.take (k+1)) c=N):=hid (by rw [d.out,if_neg g,Nat.add_zero])
    have W:(y==c)=false:=by simpa using g
    clear d;go_wp2
    go_roundw
    case rel=>exact ⟨k+1,y38_,x37_,by rw [h.out],e.out⟩
    exact mz_
  ·have G:k=s.length:=by omega
   subst G;have D:Hid (s.take s.length=s):=hid List.take_length;rw [D.out];go_wp2;go_ret;exact ⟨rfl,e.out⟩
theorem Row.oneV {w:World} {B:Nat} {A:Option Addr} {n c:Nat} {l:List Int} (h:Row w B (.slice A n c) l) {i:Nat} (hi:i<l.length):∃ d,A=some d∧n=l.length∧i<c∧Row w B (.slice (some (d.add i)) 1 (c - i)) [l.getD i 0]:=by
 obtain ⟨A',o,g,⟨p,q,h3⟩,j⟩:=h;injection g with e1 e2 e3;subst e1 e2 e3;obtain ⟨d,rfl,f,hc⟩:=j i hi;refine ⟨d,rfl,rfl,x37_,_,_,rfl,⟨by simp;omega,x37_,fun e=>by cases e⟩,fun k m=>?_⟩;have:k=0:=by simpa using m
 subst this;exact ⟨_,rfl,by rw [Z2_];exact f,by rw [add_zero];exact hc⟩
theorem Yg9 (e:Value) (s:List Int) (f n:Int) (w:World) (h:Row w w.heap.size e s) (hs:∀ k,k<s.length→0≤s.getD k 0∧s.getD k 0≤64) (o:0≤f∧f≤1000) (q:0≤n∧n≤1000) (u:s.length≤64) :
  Calls Tryz.prog 73 #[e,.int .i64 f,.int .i64 n] w (Gives w (betL s f n)):=by
 obtain ⟨m,cs,rfl,_,d⟩:=h;have Hsk:=hid d;have Hs:=hid hs;have r:(s.length:Int)≤64:=x37_;have v:IntKind.i64.wrap (f+n)=f+n:=x38_;have hown0:(w.alloc (.cells #[] 3)).ownsRow w.heap.size 3 1 (.slice (some ⟨w.heap.size,0,none⟩) 0 0) ([]:List Int).length (ints []) :=
  World.ownsRow_made w #[] 0 (le_refl _) z38_ rfl
 have g:Below w.heap.size w (w.alloc (.cells #[] 3)):=(Below.refl _ w).alloc (le_refl _) _;clear d hs
 go_enter Tryz.func73,Tryz.ntmps73
 go_wp2
 go_loopw [7,8] (fun j c wr=>∃ k:Nat,c=.int .i64 k∧k≤s.length∧wr.ownsRow w.heap.size 3 1 j (betL (s.take k) f n).length (ints (betL (s.take k) f n))∧Below w.heap.size w wr) (fun _ c _=>s.length - (intOf c).toNat)
 case atStart=>exact ⟨0,rfl,Nat.zero_le _,hown0,g⟩
 case round =>
  exact q1_
open Go Go.RowKit
theorem Va1 {n:Nat} (e:n≤64) {x:Int} (d:0≤x∧x<(n:Int)):InN n [x]:=⟨⟨j37_,fun z c=>by rw [List.mem_singleton.1 c];exact ⟨x37_,x37_⟩⟩,fun z c=>by rw [List.mem_singleton.1 c];exact d⟩
theorem Vp9 {n:Nat} (c:n≤64) {out:List Int} {x:Int} (ho:InN n out) (d:0≤x∧x<(n:Int)) (hlt:∀ y∈out,y<x):InN n (out ++ [x])∧InN n (Y3_ out [x]):=by
 have h1:=Va1 c d;refine ⟨⟨⟨?_,fun y hy=>?_⟩,fun y hy=>?_⟩,⟨E8_ _ _,fun y hy=>?_⟩⟩
 ·exact z19_
 ·exact z23_
 ·rcases List.mem_append.1 hy with hy | hy
  ·exact ho.2 y hy
  ·exact h1.2 y hy
 ·rcases (Q2_ ho.1 h1.1 y).1 hy with hy | hy
  ·exact ho.2 y hy
  ·exact h1.2 y hy
theorem Xm9 {s:List Int} {k:Nat} (c:k<s.length):s.drop k=s.getD k 0 :: s.drop (k+1):=by
 rw [List.drop_eq_getElem_cons c];simp [List.getD,c]
theorem Zs5 (n:Nat) (hn:n≤64) (I:List Int→Bool) (m c1 c2 c3 c4 c5 sv:Value) (s:List Int) (w:World) (hs:InN n s) (y3:s.length≤64) (U:Row w w.heap.size sv s)
  (Z:∀ (t:List Int) (v:Value) (W:World),Below w.heap.size w W→InN n t→Row W W.heap.size v t→Calls Tryz.prog 40 #[.agg #[m,c1,c2,c3,c4,c5],v] W (Says W (I t))) :
  Calls Tryz.prog 70 #[.agg #[m,c1,c2,c3,c4,c5],sv] w (Gives w (baseL I [] s)):=by
 have HS:=hid hs;have xh:=hid Z;have y2:(s.length:Int)≤64:=x37_;obtain ⟨d,hW0⟩:∃ d,d=w.alloc (.cells #[m,c1,c2,c3,c4,c5] 25):=⟨_,rfl⟩;have xn:=hid hW0;have L:Hid (Below w.heap.size w d):=hid y39_;have B:w.heap.size<d.heap.size:=x39_;have HC:Hid (∀ (W:World),Below d.heap.size d W→W.cell? ⟨w.heap.size,0,none⟩=some m∧W.cell? ⟨w.heap.size,1,none⟩=some c1∧W.cell? ⟨w.heap.size,2,none⟩=some c2∧W.cell? ⟨w.heap.size,3,none⟩=some c3∧W.cell? ⟨w.heap.size,4,none⟩=some c4∧W.cell? ⟨w.heap.size,5,none⟩=some c5):=hid fun W o=>by
  have u:=Blk.new w 25 #[m,c1,c2,c3,c4,c5];rw [← hW0] at u;exact ⟨(o.cell (p:=⟨w.heap.size,0,none⟩) B).trans (u.cell 0),(o.cell (p:=⟨w.heap.size,1,none⟩) B).trans (u.cell 1),(o.cell (p:=⟨w.heap.size,2,none⟩) B).trans (u.cell 2),(o.cell (p:=⟨w.heap.size,3,none⟩) B).trans (u.cell 3),(o.cell (p:=⟨w.heap.size,4,none⟩) B).trans (u.cell 4),(o.cell (p:=⟨w.heap.size,5,none⟩) B).trans (u.cell 5)⟩
 have x0:=hid (U.up L.out);obtain ⟨As,cs,rfl,_⟩:=id U;have xc:d.heap.size=w.heap.size+1:=x39_;have x8:(d.alloc (.cells #[] 3)).ownsRow d.heap.size 3 1 (.slice (some ⟨w.heap.size+1,0,none⟩) 0 0) ([]:List Int).length (ints []):=by
  rw [← xc];exact World.ownsRow_made d #[] 0 (le_refl _) z38_ rfl
 have x1:Below d.heap.size d (d.alloc (.cells #[] 3)):=(Below.refl _ d).alloc (le_refl _) _;have xl:=hid x8;have xd:=hid x1;clear Z hs U x8 x1
 go_enter Tryz.func70,Tryz.ntmps70
 go_wp2;rw [← xn.out];clear hW0
 go_loopw [5,6] (fun vo X wr=>∃ (k:Nat) (out:List Int),X=.int .i64 (k:Int)∧k≤s.length∧Hid (baseL I out (s.drop k)=baseL I [] s∧InN n out∧(∀ y∈out,∀ z∈s.drop k,y<z)∧out.length≤k∧wr.ownsRow d.heap.size 3 1 vo out.length (ints out)∧Below d.heap.size d wr)) (fun _ X _=>s.length - (intOf X).toNat)
 case atStart=>exact ⟨0,[],rfl,Nat.zero_le _,by rw [List.drop_zero],⟨J1_,fun x C=>absurd C j37_⟩,fun y j=>absurd j j37_,Nat.zero_le _,xl.out,xd.out⟩
 case round =>
  obtain ⟨k,out,rfl,hk,g⟩:=hrel;by_cases J:k<s.length
  ·have y0:(k:Int)<(s.length:Int):=by omega
   have y4:IntKind.i64.wrap ((k:Int)+1)=(k:Int)+1:=x38_;have R:=(Below.refl wr.heap.size wr).drew;have G:=g.out.2.2.2.2.2;obtain ⟨ad,hA,_,xx,x7⟩:=Row.oneV (x0.out.up G) J;subst hA;obtain ⟨xw,Q,S⟩:=Row.nthV x0.out J;injection Q with Q;subst Q;have T:=x7.up R;have xy:(k:Int)+1≤(cs:Int):=x37_;have K5:Hid (∀ W,Below wr.drew.heap.size wr.drew W→W.cell? ⟨w.heap.size,0,none⟩=some m∧W.cell? ⟨w.heap.size,1,none⟩=some c1∧W.cell? ⟨w.heap.size,2,none⟩=some c2∧W.cell? ⟨w.heap.size,3,none⟩=some c3∧W.cell? ⟨w.heap.size,4,none⟩=some c4∧W.cell? ⟨w.heap.size,5,none⟩=some c5):=hid fun W o=>HC.out W (Z0_ G.drew (le_refl _) o);have r:Hid (Below wr.drew.heap.size wr.drew wr.drew):=hid (Below.refl _ _);obtain ⟨x,C⟩:∃ x,s.getD k 0=x:=⟨_,rfl⟩;rw [C] at T S;have xg:=hid S;have H:=Xm9 J;rw [C] at H;have D:=hid H;have xo:Hid (0≤x∧x<(n:Int)):=hid (HS.out.2 x (by rw [← C];simp [List.getD,J]));have xr:Hid (∀ (A:Option Addr) (n c:Nat),A=some (ad.add k)→n=1→c=cs - k→Row wr.drew wr.drew.heap.size (.slice A n c) [x]):=hid fun A n c O P h3=>by subst O P h3;exact T
   have Y:=hid (Vp9 hn g.out.2.1 xo.out fun y j=>g.out.2.2.1 y j x (by rw [H];simp));have xm:=hid ((Row.of_own g.out.2.2.2.2.1 rfl).up R);have xk:Hid (out.length≤1048576):=hid (by have:=g.out.2.2.2.1;omega);obtain ⟨z,V⟩:∃ z,I (Y3_ out [x])=z:=⟨_,rfl⟩;have HZ:=hid V;have xf:=hid (Z0_ L.out (le_refl _) (G.drew.mono (le_refl _)));have xi:Hid (∀ (v:Value) (W:World),Below wr.drew.heap.size wr.drew W→Row W W.heap.size v (Y3_ out [x])→Calls Tryz.prog 40 #[.agg #[m,c1,c2,c3,c4,c5],v] W (Says W z)):=hid fun v W O P=>by rw [← V];exact xh.out _ v W (Z0_ xf.out (le_refl _) O) Y.out.2 P
   have x6:k+1≤s.length:=x37_;have xz:(k:Int)≤(k:Int)+1:=x37_;clear x7 T H G C V S R;go_wp2
   go_region_held3 (fun W=>W.cell? ⟨w.heap.size,0,none⟩=some m∧W.cell? ⟨w.heap.size,1,none⟩=some c1∧W.cell? ⟨w.heap.size,2,none⟩=some c2∧W.cell? ⟨w.heap.size,3,none⟩=some c3∧W.cell? ⟨w.heap.size,4,none⟩=some c4∧W.cell? ⟨w.heap.size,5,none⟩=some c5)
    (exact K5.out _ r.out)
    (first
    | (go_at_call 69;refine (O4_ _ _ out [x] _ xm.out (xr.out _ _ _ (by simp;intro h;omega) (by first | rfl | (simp;try omega)) (by first | rfl | (simp;try omega))) xk.out j37_).mono ?_;rintro e y5 ⟨xv,rfl,xb,x2⟩;replace r:=hid (Z0_ r.out (le_refl _) x2);have HU:=hid xb;clear xb x2)
    | (go_at_call_of 40 xv;refine (xi.out _ _ r.out HU.out).mono ?_;rintro e y6 ⟨rfl,x3⟩;replace r:=hid (Z0_ r.out (le_refl _) x3);clear x3))
   all_goals
    go_simp;have M:=hid (Z0_ ((Below.refl wr.heap.size wr).drew) (le_refl _) r.out);have E:=hid (Z0_ g.out.2.2.2.2.2 (le_refl _) M.out);cases z
    ·have N:Hid (baseL I out (s.drop (k+1))=baseL I [] s):=hid (by rw [← g.out.1,D.out,baseL,if_neg (by rw [HZ.out];decide)])
     have F:=hid (World.ownsRow.kept g.out.2.2.2.2.1 (Z8_ M.out none) (by cases hv:(Value.ownBlock _)<;>simp));go_wp2
     go_roundw
     case rel=>exact ⟨k+1,out,y38_,x6,N.out,g.out.2.1,fun y j q K=>g.out.2.2.1 y j q (by rw [D.out];simp [K]),by have:=g.out.2.2.2.1;omega,F.out,E.out⟩
     exact mz_
    ·have N:Hid (baseL I (out ++ [x]) (s.drop (k+1))=baseL I [] s):=hid (by rw [← g.out.1,D.out,baseL,if_pos HZ.out])
     have F:=hid (World.ownsRow.kept g.out.2.2.2.2.1 (Z8_ M.out none) (by cases hv:(Value.ownBlock _)<;>simp));have gx:=xg.out _ E.out;have xu:=E.out.size;have y1:=g.out.2.2.2.1;have xs:Hid (∀ y∈out ++ [x],∀ q∈s.drop (k+1),y<q):=hid fun y j q K=>by
      rcases List.mem_append.1 j with j | j
      ·exact g.out.2.2.1 y j q (by rw [D.out];simp [K])
      ·rw [List.mem_singleton.1 j]
       have hp:(x :: s.drop (k+1)).Pairwise (·<·):=by rw [← D.out];exact HS.out.1.1.sublist (List.drop_sublist _ _)
       exact (List.pairwise_cons.1 hp).1 q K
     go_wp2_with (at_builtin;refine Z4_ rfl _ _ rfl d.heap.size _ _ _ out [x] rfl rfl (World.ownsRow.alloc F.out _) (Row.lit1 _ x) x37_ j37_ k37_ ?_)
     intro v8 w8 x9 x5;have xa:w8.ownsRow d.heap.size 3 1 v8 (out ++ [x]).length (ints (out ++ [x])):=by rw [List.length_append,xc];exact x9
     have x4:Below d.heap.size d w8:=(E.out.alloc xu _).grown x5 k37_ (fun i hi=>(World.ownsRow.lt F.out i hi).1);have xj:=hid xa;have xe:=hid x4;clear x9 xa x5 x4;go_wp2
     go_roundw
     case rel=>exact ⟨k+1,out ++ [x],y38_,x6,N.out,Y.out.1,xs.out,by rw [List.length_append];simp;omega,xj.out,xe.out⟩
     exact mz_
  ·have xt:k=s.length:=by omega
   subst xt;have xp:Hid (out=baseL I [] s):=hid (by rw [← g.out.1,List.drop_length,baseL]);have xq:=hid (Z0_ L.out (le_refl _) g.out.2.2.2.2.2);go_wp2;go_ret;exact ⟨_,rfl,by rw [← xp.out];exact Row.of_own g.out.2.2.2.2.1 rfl,xq.out⟩
open Go Go.RowKit
def ptB (right:Int) (l:List Int):Bool:=mayB l && (decide (l.length=0) || decide (l.getD (l.length - 1) 0<right))
def digB (adj:List (List Int)):Bool:=decide (adj.length≤4096) && adj.all (ptB adj.length)
theorem digB_off {adj:List (List Int)} (h:4096<(adj.length:Int)):digB adj=false:=k24_
theorem digB_miss {adj:List (List Int)} {i:Nat} (hi:i<adj.length) (h:ptB adj.length (adj.getD i [])=false):digB adj=false:=by
 unfold digB;exact j3_
theorem digB_all {adj:List (List Int)} (h3:¬ 4096<(adj.length:Int)) (h:∀ i,i<adj.length→ptB adj.length (adj.getD i [])=true):digB adj=true:=z33_
theorem Vr0 {n:Nat} {l:List Int} (h:ptB n l=true):PtsP n l:=by
 unfold ptB at h;rw [Bool.and_eq_true,mayB_iff] at h;obtain ⟨⟨h1,c⟩,h3⟩:=h;refine ⟨⟨h1,c⟩,fun x hx=>⟨(c x hx).1,?_⟩⟩;exact y4_
theorem digB_dig {adj:List (List Int)} (h:digB adj=true):DigP adj:=by
 unfold digB at h;rw [Bool.and_eq_true,decide_eq_true_iff,List.all_eq_true] at h;refine ⟨h.1,fun x=>?_⟩;rcases Nat.lt_or_ge x adj.length with c | c
 ·rw [show adj.getD x []=adj[x] by simp [List.getD,c]]
  exact Vr0 (h.2 _ (List.getElem_mem c))
 ·rw [List.getD_eq_getElem?_getD,List.getElem?_eq_none c]
  exact ⟨⟨List.Pairwise.nil,fun y d=>by simp at d⟩,fun y d=>by simp at d⟩
theorem Rows2.read {w:World} {B:Nat} {A:Option Addr} {n c:Nat} {adj:List (List Int)} (h:Rows2 w B (.slice A n c) adj) (x:Nat) (o:x<adj.length):∃ (d:Addr) (e:Value),A=some d∧w.cell? (d.add x)=some e∧Row w B e (adj.getD x []):=by
 obtain ⟨p,c3,f,_,k⟩:=h;injection f with e7 e8 e9;subst e7;obtain ⟨d,e,g,_,j,m⟩:=k x o;exact ⟨d,e,g,j,m⟩
section
variable {adj:List (List Int)} (hd:DigP adj)
include hd
end
end Go.Proofs.YtnaebbjodfnooaaGreatDoor.Wp
