/- The program's May, Rank and Indep, and the document's May, walked. Matroids written out in memory. -/
import Derived.Test.YtheeajnkiniopaaGreatDoorZW
import Derived.Test.YtheeajnkiniopaaGreatDoorZT
import Derived.Test.YtheeajnkiniopaaGreatDoorQImg
import Derived.Test.YtheeajnkiniopaaGreatDoorZA
import Derived.Test.YtheeajnkiniopaaGreatDoorX0A
import Derived.Test.YtheeajnkiniopaaGreatDoorX0B
set_option maxHeartbeats 4000000
set_option maxRecDepth 100000
open Go.Lib (hid)
open Nat (le_refl)
namespace Go.Proofs.YtheeajnkiniopaaGreatDoor.Wp
open Go.RowKit
def mayI (m:Mat) (s:List Int):Bool:=decide (chk m=0) && subB s (allL m.n)
noncomputable def rankT (m:Mat) (s:List Int):Int:=if mayI m s=true then (rkP 4 m (memP s):Nat) else -1
noncomputable def indT (m:Mat) (s:List Int):Bool:=decide (rankT m s=(s.length:Int))
theorem mayI_iff {m:Mat} {s:List Int}:mayI m s=true↔chk m=0∧InN (nN m) s:=by
 unfold mayI;rw [Bool.and_eq_true,decide_eq_true_iff];constructor
 ·rintro ⟨c,d⟩;exact ⟨c,(S9_ (chk_n c).1 (chk_n c).2).1 d⟩
 ·rintro ⟨c,d⟩;exact ⟨c,(S9_ (chk_n c).1 (chk_n c).2).2 d⟩
theorem Vv8 (m:Mat) (s:List Int):mayI m s=(decide (chk m=0) && okA m.n s):=by
 unfold mayI;by_cases h:chk m=0
 ·rw [Zy8 (chk_n h).1 (chk_n h).2]
 ·rw [decide_eq_false h];rfl
theorem Zq5 (E:Nat→Addr) (m:Mat) (v z:Value) (s:List Int) (w:World) (k:MatV w w.heap.size v m) (hs:Sml m) (j:Row w w.heap.size z s) (I:s.length≤1048576) (r:Env E w):Calls Tryz.prog 42 #[v,z] w (Says w (mayI m s)):=by
 have p:=hid hs;obtain ⟨y,x,J,_,_⟩:=k.open;obtain ⟨L,cs,rfl,_⟩:=id j;have Hb0:=hid (Z1_ w m y x);have q:=hid (k.up Hb0.out);have B:=hid (j.up Hb0.out);have c:=hid (Z4_ w m y x);have g0:=c.out.cell 0;have g1:=c.out.cell 1;have g2:=c.out.cell 2;have g3:=c.out.cell 3;have g4:=c.out.cell 4;have g5:=c.out.cell 5;subst J;unfold boxed at *
 have o:=hid (r.up Hb0.out);obtain ⟨D,d⟩:∃ D,chk m=D:=⟨_,rfl⟩;have HD:=hid d;have H:=G9_ m.n;unfold mayI;rw [d];clear k hs j r d;by_cases h:D=0
 ·subst h
  rw [decide_eq_true rfl,Bool.true_and]
  go_enter Tryz.func42,Tryz.ntmps42
  go_wp2_with fail
  refine (C1_ E m _ _ q.out p.out o.out).mono ?_;rintro e w1 ⟨rfl,hb1⟩;rw [HD.out];have Hb1:=hid (Z0_ Hb0.out (le_refl _) hb1);have C:=hid (B.out.up hb1);have K:=(c.out.below hb1 c.out.lt).cell 1;clear hb1 g0 g1 g2 g3 g4 g5
  go_wp2_with fail
  refine (E5_ m.n _).mono ?_;rintro e O ⟨N,rfl,u,g⟩;have Hb2:=hid (Z0_ Hb1.out (le_refl _) g);have F:=hid (C.out.up g);have G:=hid u;clear g u K
  go_wp2_with fail
  refine (Zz9 _ _ s (allL m.n) _ F.out G.out I H).mono ?_;exact j4_
 ·rw [decide_eq_false h,Bool.false_and]
  have M:(D==0)=false:=z41_;clear h
  go_enter Tryz.func42,Tryz.ntmps42
  go_wp2_with fail
  refine (C1_ E m _ _ q.out p.out o.out).mono ?_;exact k36_
theorem R1_ (m:Mat) (v u:Value) (s:List Int) (w:World) (j:MatV w w.heap.size v m) (hs:Sml m) (g:Row w w.heap.size u s):Calls Tryz.prog 48 #[v,u] w (Says w (mayI m s)):=by
 have k:=hid hs;obtain ⟨r,q,z,_,_⟩:=j.open;obtain ⟨C,cs,rfl,_⟩:=id g;have Hb0:=hid (Z1_ w m r q);have o:=hid (j.up Hb0.out);have x:=hid (g.up Hb0.out);have c:=hid (Z4_ w m r q);have g0:=c.out.cell 0;have g1:=c.out.cell 1;have g2:=c.out.cell 2;have g3:=c.out.cell 3;have g4:=c.out.cell 4;have g5:=c.out.cell 5;subst z;unfold boxed at *
 obtain ⟨D,d⟩:∃ D,chk m=D:=⟨_,rfl⟩;have HD:=hid d;rw [Vv8,d];clear j hs g d;by_cases h:D=0
 ·subst h
  rw [decide_eq_true rfl,Bool.true_and]
  go_enter Tryz.func48,Tryz.ntmps48
  go_wp2_with fail
  refine (Q9_ m _ _ o.out k.out).mono ?_;rintro e w1 ⟨rfl,hb1⟩;rw [HD.out];have Hb1:=hid (Z0_ Hb0.out (le_refl _) hb1);have y:=hid (x.out.up hb1);have B:=(c.out.below hb1 c.out.lt).cell 1;clear hb1 g0 g1 g2 g3 g4 g5
  go_wp2_with fail
  refine (F4_ _ s m.n _ y.out).mono ?_;rintro e F ⟨rfl,p⟩;have Hb2:=hid (Z0_ Hb1.out (le_refl _) p);clear p B;exact y2_
 ·rw [decide_eq_false h,Bool.false_and]
  have E:(D==0)=false:=z41_;clear h
  go_enter Tryz.func48,Tryz.ntmps48
  go_wp2_with fail
  refine (Q9_ m _ _ o.out k.out).mono ?_;exact k36_
theorem Yx4 (E:Nat→Addr) (m:Mat) (v d:Value) (s:List Int) (w:World) (j:MatV w w.heap.size v m) (hs:Sml m) (h:Row w w.heap.size d s) (z:s.length≤1048576) (x:Env E w):Calls Tryz.prog 43 #[v,d] w (Tells w (rankT m s)):=by
 have r:=hid hs;obtain ⟨C,B,K,_,_⟩:=j.open;obtain ⟨M,cs,rfl,_⟩:=id h;have Hb0:=hid (Z1_ w m C B);have u:=hid (j.up Hb0.out);have q:=hid (h.up Hb0.out);have c:=hid (Z4_ w m C B);have g0:=c.out.cell 0;have g1:=c.out.cell 1;have g2:=c.out.cell 2;have g3:=c.out.cell 3;have g4:=c.out.cell 4;have g5:=c.out.cell 5;subst K;unfold boxed at *
 have k:=hid (x.up Hb0.out);unfold rankT;rcases hm:mayI m s with _ | _
 ·rw [if_neg x38_]
  have p:=hid hm;clear j hs h x hm
  go_enter Tryz.func43,Tryz.ntmps43
  go_wp2_with fail
  refine (Zq5 E m _ _ s _ u.out r.out q.out z k.out).mono ?_;rintro e L ⟨rfl,hb1⟩;rw [p.out];exact y29_
 ·rw [if_pos rfl]
  have p:=hid hm;have o:=hid (mayI_iff.1 hm);obtain ⟨R,y⟩:∃ R:Nat,rkP 4 m (memP s)=R:=⟨_,rfl⟩;have G:Hid (∀ (v d:Value) (W:World),MatV W W.heap.size v m→Row W W.heap.size d s→Env E W→Calls Tryz.prog 77 #[v,d] W (Tells W (R:Int))):=hid fun v d W I J h3=>by rw [← y];exact Yn0 E 4 m v d s W I r.out o.out.1 (chk_ok.1 o.out.1).1 J o.out.2 h3
  rw [y];clear j hs h x hm y
  go_enter Tryz.func43,Tryz.ntmps43
  go_wp2_with fail
  refine (Zq5 E m _ _ s _ u.out r.out q.out z k.out).mono ?_;rintro e L ⟨rfl,hb1⟩;rw [p.out];have Hb1:=hid (Z0_ Hb0.out (le_refl _) hb1);have F:=hid (q.out.up hb1);have H:=hid (u.out.up hb1);have D:=hid (k.out.up hb1);have g:=hid (c.out.below hb1 c.out.lt);clear hb1 g0 g1 g2 g3 g4 g5;have g0:=g.out.cell 0;have g1:=g.out.cell 1;have g2:=g.out.cell 2;have g3:=g.out.cell 3;have g4:=g.out.cell 4;have g5:=g.out.cell 5
  go_wp2_with fail
  refine (G.out _ _ _ H.out F.out D.out).mono ?_;rintro e N ⟨rfl,hb2⟩;exact z32_
theorem Xi0 (E:Nat→Addr) (m:Mat) (v x:Value) (s:List Int) (w:World) (o:MatV w w.heap.size v m) (hs:Sml m) (k:Row w w.heap.size x s) (N:s.length≤1048576) (p:Env E w):Calls Tryz.prog 118 #[v,x] w (Says w (indT m s)):=by
 have D:=hid hs;obtain ⟨u,r,O,_,_⟩:=o.open;obtain ⟨P,cs,rfl,_⟩:=id k;have d:=hid (Z1_ w m u r);have F:=hid (o.up d.out);have C:=hid (k.up d.out);have c:=hid (Z4_ w m u r);have G:=c.out.cell 0;have H:=c.out.cell 1;have I:=c.out.cell 2;have J:=c.out.cell 3;have K:=c.out.cell 4;have L:=c.out.cell 5;subst O;unfold boxed at *
 have y:=hid (p.up d.out);obtain ⟨R,h⟩:∃ R,rankT m s=R:=⟨_,rfl⟩;have z:=hid h;obtain ⟨g,j⟩:∃ g,indT m s=g:=⟨_,rfl⟩;have M:(R==(s.length:Int))=g:=by rw [← j,← h];unfold indT;rw [Bool.eq_iff_iff,beq_iff_eq,decide_eq_true_iff]
 rw [j];clear o hs k p h j
 go_enter Tryz.func118,Tryz.ntmps118
 go_wp2_with fail
 refine (Yx4 E m _ _ s _ F.out D.out C.out N y.out).mono ?_;rintro e Q ⟨rfl,q⟩;rw [z.out];have B:=hid (Z0_ d.out (le_refl _) q);clear q G H I J K L;go_wp2;go_ret;exact ⟨by rw [← M];rfl,B.out⟩
open Go.RowKit
theorem Xi1 {W d:World} {c c1 c2 c3 c4 c5:Value} {m:Mat} (hb:Blk d W.heap.size 37 #[c,c1,c2,c3,c4,c5]) (h:MatV d (W.heap.size+1) (.agg #[c,c1,c2,c3,c4,c5]) m) :
  MatL d (W.heap.size+1) (.slice (some ⟨W.heap.size,0,none⟩) 1 1) [m]:=by
 refine ⟨_,1,rfl,⟨le_refl _,x38_,fun e=>by cases e⟩,fun k f=>⟨⟨W.heap.size,0,none⟩,.agg #[c,c1,c2,c3,c4,c5],rfl,by show W.heap.size<_;omega,?_,?_⟩⟩
 ·match k,f with
  | 0,_=>exact ⟨c,c1,c2,c3,c4,c5,rfl,hb.cell 0,hb.cell 1,hb.cell 2,hb.cell 3,hb.cell 4,hb.cell 5⟩
 ·match k,f with
  | 0,_=>exact h
theorem Vv9 {W:World} {c c1 c2 c3 c4 c5:Value} {m:Mat} (h:MatV W W.heap.size (.agg #[c,c1,c2,c3,c4,c5]) m) :
  MatL (W.alloc (.cells #[c,c1,c2,c3,c4,c5] 37)) (W.heap.size+1) (.slice (some ⟨W.heap.size,0,none⟩) 1 1) [m] :=
 Xi1 (Blk.new W _ _) ((h.bel ((Below.refl _ W).alloc (le_refl _) _)).mono x37_)
theorem Xi2 (W:World) (B:Nat):Rows2 W B (.slice none 0 0) []:=⟨none,0,rfl,⟨le_refl _,x38_,fun _=>rfl⟩,fun k c=>absurd c j37_⟩
theorem O6_ (W:World) (B:Nat) (t n a b:Int):MatV W B (.agg #[.int .i64 t,.int .i64 n,.int .i64 a,.int .i64 b,.slice none 0 0,.slice none 0 0]) (.mk t n a b [] []):=MatV.shut (Xi2 W B) (MatL.nil_ W B)
theorem K3_ (t n a b:Int):Sml (.mk t n a b [] []):=.mk j37_ j37_ j37_ j37_
open Go
theorem rk_of {m:Mat} (h:chk m=0):Rk (nN m) (rkP 4 m):=rk_ok 4 m h (chk_ok.1 h).1
theorem Ve5 (P Q:Nat→Bool):∀ n,cnt (orP P Q) n+cnt (andP P Q) n=cnt P n+cnt Q n
 | 0=>by simp [cnt]
 | n+1=>by
  have c:=Ve5 P Q n;rw [Y9_,Y9_,Y9_,Y9_];show _+(if (P n || Q n)=true then 1 else 0)+(_+(if (P n && Q n)=true then 1 else 0))=_;cases P n<;>cases Q n<;>simp<;>omega
open Go Go.RowKit
theorem Rk.closed {n:Nat} {f:(Nat→Bool)→Nat} (h:Rk n f) (P S:Nat→Bool) (hs:∀ x,x<n→S x=true→f (insP P x)=f P):∀ k,k≤n→f (addK P S k)=f P
 | 0,_=>by rw [G8_]
 | k+1,hk=>by
  have c:=h.closed P S hs k x37_;cases e:S k
  ·rw [S6_ e];exact c
  ·have d:=h.dim_add P S (x:=k) x37_ k x37_
   have g:=hs k x37_ e;have h3:=h.up' (addK P S k) (x:=k) x37_;rw [L8_ e];omega
theorem F6_ {m:Mat} {s:List Int} (h:mayI m s=true):indT m s=true↔rkP 4 m (memP s)=s.length:=by
 unfold indT;rw [show rankT m s=_ from if_pos h,decide_eq_true_iff];omega
theorem Xi3 {m:Mat} (h:chk m=0):indT m []=true:=by
 have c:mayI m []=true:=mayI_iff.2 ⟨h,Xd1 _⟩;rw [F6_ c,Zq0,(rk_ok 4 m h (chk_ok.1 h).1).zero];rfl
theorem Vj0 {m:Mat} {a s:List Int} (ha:mayI m a=true) (hs:mayI m s=true) (d:∀ x∈s,x∈a) (h:indT m a=true):indT m s=true:=by
 obtain ⟨hc,g⟩:=mayI_iff.1 ha;obtain ⟨_,j⟩:=mayI_iff.1 hs;have c:=rk_ok 4 m hc (chk_ok.1 hc).1;rw [F6_ ha] at h;rw [F6_ hs,Y8_ j];rw [Y8_ g] at h;have q:=c.le_cnt (memP s);have f:=c.submod (memP s) (fun i=>memP a i && !memP s i);have h3:=c.le_cnt (fun i=>memP a i && !memP s i);have e:∀ i,i<nN m→orP (memP s) (fun i=>memP a i && !memP s i) i=memP a i:=fun i _=>by
  unfold orP;cases e1:memP s i
  ·simp [e1]
  ·have:memP a i=true:=memP_iff.2 (d _ (memP_iff.1 e1))
   simp [this]
 rw [c.ext e] at f;have r:cnt (memP a) (nN m)=cnt (memP s) (nN m)+cnt (fun i=>memP a i && !memP s i) (nN m):=by
  have:=K.cntP_split (memP a) (memP s) (nN m);have k:K.cntP (nN m) (fun i=>memP a i && memP s i)=cnt (memP s) (nN m):=(I5_ fun i _=>by
   cases e1:memP s i
   ·simp
   ·have:memP a i=true:=memP_iff.2 (d _ (memP_iff.1 e1))
    simp [this])
  have o:K.cntP (nN m) (memP a)=cnt (memP a) (nN m):=rfl;have p:K.cntP (nN m) (fun i=>memP a i && !memP s i)=cnt (fun i=>memP a i && !memP s i) (nN m):=rfl;omega
 omega
theorem Zp1 {x:Int} (h:0≤x) (P:Nat→Bool):orP P (memP [x])=insP P x.toNat:=by
 funext i
 unfold orP insP;have:memP [x] i=(i==x.toNat):=by rw [Bool.eq_iff_iff,memP_iff,beq_iff_eq,List.mem_singleton];omega
 rw [this,Bool.or_comm]
open Go Go.RowKit
def remP (P:Nat→Bool) (y:Nat):Nat→Bool:=fun i=>P i && !(i==y)
theorem O7_ (P:Nat→Bool) (y:Nat):remP P y y=false:=by simp [remP]
theorem T4_ {P:Nat→Bool} {y i:Nat} (h:i≠y):remP P y i=P i:=by simp [remP,h]
theorem Vj1 {P:Nat→Bool} {y:Nat} (h:P y=true):insP (remP P y) y=P:=by
 funext i
 by_cases e:i=y
 ·rw [e,X8_,h]
 ·rw [X6_ e,T4_ e]
theorem M3_ {n:Nat} {P:Nat→Bool} {y:Nat} (c:y<n) (h:P y=true):cnt (remP P y) n+1=cnt P n:=by
 have:=A2_ c (O7_ P y);rw [Vj1 h] at this;omega
section
variable {n:Nat} {f:(Nat→Bool)→Nat}
theorem Rk.part (h:Rk n f) {P Q:Nat→Bool} (hs:∀ i,i<n→P i=true→Q i=true) (k:f Q=cnt Q n):f P=cnt P n:=by
 have c:=h.submod P (fun i=>Q i && !P i);have j:=h.le_cnt (fun i=>Q i && !P i);have h3:=h.le_cnt P;have e:∀ i,i<n→orP P (fun i=>Q i && !P i) i=Q i:=fun i g=>by
  unfold orP;cases e1:P i
  ·simp [e1]
  ·simp [hs i g e1]
 rw [h.ext e] at c;have d:=Ve5 P (fun i=>Q i && !P i) n;rw [I5_ e,I5_ (P:=andP P (fun i=>Q i && !P i)) (Q:=noneP) (fun i _=>by simp only [andP,noneP];cases P i<;>simp),F3_] at d;omega
end
theorem Zp2 {m:Mat} {s:List Int} (h:indT m s=true):mayI m s=true:=by
 cases hm:mayI m s
 ·unfold indT rankT at h
  rw [hm,if_neg x38_,decide_eq_true_iff] at h;omega
 ·rfl
open Go Go.RowKit
section
variable {n:Nat} {f:(Nat→Bool)→Nat}
def exch (S:Nat→Bool):List (Nat × Nat)→Nat→Bool
 | []=>S
 | (y,x) :: r=>insP (remP (exch S r) y) x
theorem Zq6 {S:Nat→Bool}:∀ {r:List (Nat × Nat)},(∀ p∈r,S p.1=true∧S p.2=false)→∀ i,exch S r i=true↔(S i=true∧i∉r.map (·.1))∨i∈r.map (·.2)
 | [],_,i=>by simp [exch]
 | (y,x) :: r,h,i=>by
  have o:=Zq6 (S:=S) (r:=r) (fun p j=>h p (by simp [j])) i;have m:=h (y,x) j37_;have k:i∈r.map (·.2)→S i=false:=fun g=>by
   obtain ⟨p,j,rfl⟩:=List.mem_map.1 g;exact (h p (by simp [j])).2
  rw [exch];by_cases e:i=x
  ·rw [e,X8_]
   simp
  ·rw [X6_ e]
   by_cases d:i=y
   ·rw [d,O7_]
    have f:y∉r.map (·.2):=fun g=>by rw [d] at k;have:=k g;rw [m.1] at this;cases this
    constructor
    ·intro h;cases h
    ·rintro (⟨_,c⟩ | c)
     ·exact absurd j37_ c
     ·rw [List.map_cons,List.mem_cons] at c
      rcases c with c | c
      ·exact absurd (d.trans c) e
      ·exact absurd c f
   ·rw [T4_ d,o,List.map_cons,List.map_cons,List.mem_cons,List.mem_cons]
    constructor
    ·rintro (⟨f,c⟩ | c)
     ·exact .inl ⟨f,fun h3=>h3.elim d c⟩
     ·exact .inr (.inr c)
    ·rintro (⟨f,c⟩ | c)
     ·exact .inl ⟨f,fun h3=>c (.inr h3)⟩
     ·exact .inr (c.resolve_left e)
theorem Zf1 (h:Rk n f) {S:Nat→Bool} (m:f S=cnt S n):∀ {r:List (Nat × Nat)},(∀ p∈r,(p.1<n∧p.2<n)∧S p.1=true∧S p.2=false)→(r.map (·.1)).Nodup→(r.map (·.2)).Nodup →
  (∀ p∈r,f (insP (remP S p.1) p.2)=cnt S n)→(r.Pairwise fun p q=>f (insP (remP S p.1) q.2)<cnt S n)→f (exch S r)=cnt S n∧cnt (exch S r) n=cnt S n
 | [],_,_,_,_,_=>⟨m,rfl⟩
 | (y,x) :: r,c,hn1,hn2,hc,hd=>by
  have j:=c (y,x) j37_;have w:y<n:=j.1.1;have v:x<n:=j.1.2;have s:S y=true:=j.2.1;have E:S x=false:=j.2.2;clear j;have u:∀ p∈r,(p.1<n∧p.2<n)∧S p.1=true∧S p.2=false:=fun p h=>c p (by simp [h]);rw [List.map_cons,List.nodup_cons] at hn1 hn2;obtain ⟨G,H⟩:=List.pairwise_cons.1 hd;obtain ⟨K,L⟩:=Zf1 h m u hn1.2 hn2.2 (fun p h=>hc p (by simp [h])) H;have o:=Zq6 (S:=S) (r:=r) fun p h=>(u p h).2;have D:exch S r y=true:=(o y).2 (.inl ⟨s,hn1.1⟩);have C:exch S r x=false:=by
   rw [← Bool.not_eq_true,o];rintro (⟨g,_⟩ | g)
   ·rw [E] at g;cases g
   ·exact hn2.1 g
  have M:=M3_ w D;have R:=h.part (P:=remP (exch S r) y) (Q:=exch S r) (fun i _ c=>by
   by_cases e:i=y
   ·rw [e,O7_] at c;cases c
   ·rwa [T4_ e] at c) (K.trans L.symm)
  have N:=M3_ w s;have T:=h.part (P:=remP S y) (Q:=S) (fun i _ c=>by
   by_cases e:i=y
   ·rw [e,O7_] at c;cases c
   ·rwa [T4_ e] at c) m
  have F:=h.closed (remP S y) (remP (exch S r) y) (fun z J k=>by
   have A:z≠y:=fun e=>by rw [e,O7_] at k;cases k
   rw [T4_ A] at k;rcases (o z).1 k with ⟨g,_⟩ | g
   ·rw [I4_ (by rw [T4_ A];exact g)]
   ·obtain ⟨p,I,rfl⟩:=List.mem_map.1 g
    have U:f (insP (remP S y) p.2)<cnt S n:=G p I;have V:=h.up' (remP S y) J;omega) n (le_refl _)
  rw [D4_ h] at F;have m1:f (insP (remP S y) x)=cnt S n:=hc (y,x) j37_;have m2:=h.mono (P:=insP (remP S y) x) (Q:=insP (orP (remP S y) (remP (exch S r) y)) x) fun i _ hi=>k22_;have d:=h.dim_set (P:=remP (exch S r) y) (Q:=orP (remP S y) (remP (exch S r) y)) (fun i _ hi=>by unfold orP;rw [hi];simp) v;have B:remP (exch S r) y x=false:=by
   unfold remP;rw [C];rfl
  have O:=A2_ v B;have W:=h.le_cnt (insP (remP (exch S r) y) x);rw [exch];omega
theorem Vj2 (h:Rk n f) {S:Nat→Bool} (o:f S=cnt S n) {r:List (Nat × Nat)} (j:∀ p∈r,(p.1<n∧p.2<n)∧S p.1=true∧S p.2=false) (v:(r.map (·.1)).Nodup) (w:(r.map (·.2)).Nodup)
  (hb:∀ p∈r,f (insP S p.2)=f S) (hc:∀ p∈r,f (insP (remP S p.1) p.2)=cnt S n) (hd:r.Pairwise fun p q=>f (insP (remP S p.1) q.2)<cnt S n)
  {x:Nat} (k:x<n) (s:S x=false) (A:x∉r.map (·.2)) (D:f (insP S x)=cnt S n+1):f (insP (exch S r) x)=cnt S n+1∧cnt (insP (exch S r) x) n=cnt S n+1:=by
 obtain ⟨E,F⟩:=Zf1 h o j v w hc hd;have g:=Zq6 (S:=S) (r:=r) fun p h=>(j p h).2;have m:exch S r x=false:=by
  rw [← Bool.not_eq_true,g];rintro (⟨c,_⟩ | c)
  ·rw [s] at c;cases c
  ·exact A c
 have u:=h.closed S (exch S r) (fun z _ B=>by
  rcases (g z).1 B with ⟨c,_⟩ | c
  ·rw [I4_ c]
  ·obtain ⟨p,y,rfl⟩:=List.mem_map.1 c
   exact hb p y) n (le_refl _)
 rw [D4_ h] at u;have m2:=h.mono (P:=insP S x) (Q:=insP (orP S (exch S r)) x) fun i _ hi=>k22_;have d:=h.dim_set (P:=exch S r) (Q:=orP S (exch S r)) (fun i _ hi=>by unfold orP;rw [hi];simp) k;have C:=A2_ k m;have G:=h.le_cnt (insP (exch S r) x);omega
structure Zig (n:Nat) (S:Nat→Bool) (p:Nat→Nat) (k:Nat):Prop where
 lt:∀ i,i≤2 * k→p i<n
 inj:∀ i j,i≤2 * k→j≤2 * k→p i=p j→i=j
 out:∀ i,i≤k→S (p (2 * i))=false
 V2_:∀ i,i<k→S (p (2 * i+1))=true
def pairs (p:Nat→Nat) (k:Nat):List (Nat × Nat):=(List.range k).map fun i=>(p (2 * i+1),p (2 * i+2))
structure Straight (n:Nat) (f:(Nat→Bool)→Nat) (S:Nat→Bool) (p:Nat→Nat) (k:Nat):Prop where
 start:f (insP S (p 0))=cnt S n+1
 noStart:∀ i,i<k→f (insP S (p (2 * i+2)))=f S
 arc:∀ i,i<k→f (insP (remP S (p (2 * i+1))) (p (2 * i+2)))=cnt S n
 noArc:∀ i j,i<j→j<k→f (insP (remP S (p (2 * i+1))) (p (2 * j+2)))<cnt S n
def cutP (S Y:Nat→Bool) (k:Nat):Nat→Bool:=fun i=>S i && !(decide (i<k) && Y i)
theorem Yn7 (h:Rk n f) {S Y:Nat→Bool} (p:f S=cnt S n) {x:Nat} (m:x<n) (o:f (insP S x)=f S) (q:∀ y,y<n→S y=true→Y y=true→f (insP (remP S y) x)<cnt S n) :
  ∀ k,k≤n→f (insP (cutP S Y k) x)=f (cutP S Y k)
 | 0,_=>by
  have e:cutP S Y 0=S:=by funext i;simp [cutP]
  rw [e,o]
 | k+1,hk=>by
  have z:=Yn7 h p m o q k x37_;by_cases d:S k=true∧Y k=true
  ·have g:cutP S Y (k+1)=remP (cutP S Y k) k:=by
    funext i
    unfold cutP remP;by_cases e:i=k
    ·subst e;simp [d.2]
    ·rw [show decide (i<k+1)=decide (i<k) from decide_eq_decide.2 x37_]
     simp [e]
   have r:cutP S Y k k=true:=by simp [cutP,d.1]
   have u:cutP S Y (k+1)=andP (cutP S Y k) (remP S k):=by
    rw [g]
    funext i
    unfold remP andP cutP;cases hs:S i<;>simp [hs]
   have v:orP (cutP S Y k) (remP S k)=S:=by
    funext i
    by_cases e:i=k
    ·subst e;unfold orP;rw [r,d.1];rfl
    ·unfold orP
     rw [T4_ e];unfold cutP;cases S i<;>simp
   have j:k<n:=x37_;have part:∀ {P:Nat→Bool},(∀ i,i<n→P i=true→S i=true)→f P=cnt P n:=fun w=>h.part w p;have E:=part (P:=cutP S Y k) fun i _ c=>by unfold cutP at c;rw [Bool.and_eq_true] at c;exact c.1
   have F:=part (P:=remP S k) fun i _ c=>by unfold remP at c;rw [Bool.and_eq_true] at c;exact c.1
   have G:=part (P:=cutP S Y (k+1)) fun i _ c=>by unfold cutP at c;rw [Bool.and_eq_true] at c;exact c.1
   have s:=M3_ j r;rw [← g] at s;have D:=M3_ j d.1;have hl:=q k j d.1 d.2;have H:=h.up' (remP S k) m;have C:=h.submod (insP (cutP S Y k) x) (insP (remP S k) x);have A:orP (insP (cutP S Y k) x) (insP (remP S k) x)=insP S x:=by
    funext i
    have e:=congrFun v i;simp only [orP] at e;simp only [orP,insP];cases i==x
    ·simpa using e
    ·simp
   have B:andP (insP (cutP S Y k) x) (insP (remP S k) x)=insP (cutP S Y (k+1)) x:=by
    funext i
    have e:=congrFun u i;simp only [andP] at e;simp only [andP,insP];cases i==x
    ·simpa using e.symm
    ·simp
   rw [A,B] at C;have I:=h.up' (cutP S Y (k+1)) m;omega
  ·have g:cutP S Y (k+1)=cutP S Y k:=by
    funext i
    unfold cutP;by_cases e:i=k
    ·subst e
     cases hs:S i
     ·rfl
     ·cases hy:Y i
      ·simp
      ·exact absurd ⟨hs,hy⟩ d
    ·rw [show decide (i<k+1)=decide (i<k) from decide_eq_decide.2 x37_]
   rw [g];exact z
theorem Xy2 (h:Rk n f) {S Y W:Nat→Bool} (m:f S=cnt S n) (q:∀ i,i<n→W i=true→Y i=false) (p:∀ x,x<n→W x=true→S x=false→f (insP S x)=f S)
  (r:∀ x,x<n→W x=true→S x=false→∀ y,y<n→S y=true→Y y=true→f (insP (remP S y) x)<cnt S n) (s:∀ i,i<n→S i=true→Y i=false→W i=true) :
  f W=cnt (andP S W) n:=by
 have e:∀ i,i<n→cutP S Y n i=andP S W i:=fun i c=>by
  unfold cutP andP;rw [decide_eq_true c,Bool.true_and];cases hs:S i
  ·rfl
  ·cases hy:Y i
   ·rw [s i c hs hy];rfl
   ·cases g:W i
    ·rfl
    ·rw [q i c g] at hy;cases hy
 have u:=h.part (P:=andP S W) (Q:=S) (fun i _ c=>by unfold andP at c;rw [Bool.and_eq_true] at c;exact c.1) m;have o:=h.closed (andP S W) W (fun x j g=>by
  cases hs:S x
  ·have k:=Yn7 h m j (p x j g hs) (r x j g hs) n (le_refl _)
   rw [h.ext (P:=cutP S Y n) (Q:=andP S W) e,h.ext (P:=insP (cutP S Y n) x) (Q:=insP (andP S W) x) fun i c=>by
    by_cases d:i=x
    ·rw [d,X8_,X8_]
    ·rw [X6_ d,X6_ d,e i c]] at k
   exact k
  ·rw [I4_ (by unfold andP;rw [hs,g];rfl)]) n (le_refl _)
 rw [D4_ h] at o;have d:orP (andP S W) W=W:=by
  funext i
  unfold orP andP;cases W i<;>simp
 rw [d] at o;omega
end
def Near (adj:List (List Int)) (dst:List Int):Nat→Int→Prop
 | 0,x=>x∈dst
 | n+1,x=>Near adj dst n x∨∃ y∈adj.getD x.toNat [],Near adj dst n y
section
variable {adj:List (List Int)} {dst:List Int}
theorem E0_ {x:Int} {n:Nat}:∀ {m:Nat},n≤m→Near adj dst n x→Near adj dst m x
 | 0,h,hn=>by rw [show n=0 by omega] at hn;exact hn
 | m+1,h,hn=>by
  by_cases e:n=m+1
  ·rw [← e];exact hn
  ·exact .inl (E0_ (m:=m) x37_ hn)
inductive Greedy (adj:List (List Int)) (dst:List Int):List Int→Nat→List Int→Prop
 | stop (S:List Int) (x:Int):x∈S→x∈dst→(∀ y∈S,y<x→y∉dst)→Greedy adj dst S 0 [x]
 | step (S:List Int) (x:Int) (n:Nat) (l:List Int):x∈S→Near adj dst (n+1) x→(∀ y∈S,¬ Near adj dst n y)→(∀ y∈S,y<x→¬ Near adj dst (n+1) y)→Greedy adj dst (adj.getD x.toNat []) n l→Greedy adj dst S (n+1) (x :: l)
theorem Greedy.length {S:List Int} {n:Nat} {l:List Int} (h:Greedy adj dst S n l):l.length=n+1:=by
 induction h with
 | stop=>rfl
 | step _ _ _ _ _ _ _ _ _ ih=>rw [List.length_cons,ih]
theorem Greedy.unique {S:List Int} {n:Nat} {l:List Int} (h:Greedy adj dst S n l):∀ {m:Nat} {k:List Int},Greedy adj dst S m k→l=k:=by
 induction h with
 | stop S x hx hd hl =>
  intro m k c;cases c with
  | stop _ y hy hdy hly =>
   have d:=hl y hy;have e:=hly x hx;rcases Int.lt_trichotomy x y with h | h | h
   ·exact absurd hd (e h)
   ·rw [h]
   ·exact absurd hdy (d h)
  | step _ y n l hy hn hno _ _=>exact absurd (E0_ (Nat.zero_le n) hd) (hno x hx)
 | step S x n l hx hn hno hl _ ih =>
  intro m k c;cases c with
  | stop _ y hy hdy hly=>exact absurd (E0_ (Nat.zero_le n) hdy) (hno y hy)
  | step _ y n' l' hy hn' hno' hl' hg' =>
   have f:n=n':=by
    rcases Nat.lt_trichotomy n n' with h | h | h
    ·exact absurd (E0_ x37_ hn) (hno' x hx)
    ·exact h
    ·exact absurd (E0_ x37_ hn') (hno y hy)
   subst f;have g:x=y:=by
    rcases Int.lt_trichotomy x y with h | h | h
    ·exact absurd hn (hl' x hx h)
    ·exact h
    ·exact absurd hn' (hl y hy h)
   subst g;rw [ih hg']
theorem Greedy.near {S:List Int} {n:Nat} {l:List Int} (h:Greedy adj dst S n l):∀ k,k<l.length→Near adj dst (n - k) (l.getD k 0):=by
 induction h with
 | stop S x hx hd hl =>
  intro k c;have:k=0:=by simpa using c
  subst this;exact hd
 | step S x n l hx hn hno hl hg ih =>
  intro k c;cases k with
  | zero=>exact hn
  | succ k =>
   have:=ih k (by simpa using c);rw [List.getD_cons_succ,show n+1 - (k+1)=n - k by omega];exact this
theorem Greedy.none {S:List Int} {n:Nat} {l:List Int} (h:Greedy adj dst S n l):∀ y∈S,∀ m,m<n→¬ Near adj dst m y:=by
 cases h with
 | stop=>intro y _ m c;omega
 | step _ x n l hx hn hno hl hg=>exact fun y d m c h=>hno y d (E0_ x37_ h)
theorem Greedy.straight {S:List Int} {n:Nat} {l:List Int} (h:Greedy adj dst S n l):∀ i k,i+2≤k→k<l.length→l.getD k 0∉adj.getD (l.getD i 0).toNat []:=by
 induction h with
 | stop S x hx hd hl =>
  intro i k g e;have:k<1:=e;omega
 | step S x n l hx hn hno hl hg ih =>
  intro i k g e d;obtain ⟨c,rfl⟩:∃ c,k=c+1:=⟨k - 1,x37_⟩;rw [List.getD_cons_succ] at d;have f:c<l.length:=by simpa using e
  have j:=hg.length;cases i with
  | zero =>
   rw [List.getD_cons_zero] at d;exact hg.none _ d (n - c) x37_ (hg.near c f)
  | succ i =>
   rw [List.getD_cons_succ] at d;exact ih i c x37_ f d
end
section
variable {adj:List (List Int)} {dst:List Int}
theorem Greedy.first {S:List Int} {n:Nat} {l:List Int} (h:Greedy adj dst S n l):l.getD 0 0∈S:=by cases h<;>simpa
theorem Greedy.arcs {S:List Int} {n:Nat} {l:List Int} (h:Greedy adj dst S n l):∀ i,i+1<l.length→l.getD (i+1) 0∈adj.getD (l.getD i 0).toNat []:=by
 induction h with
 | stop=>intro i hi;simp at hi
 | step S x n l hx hn hno hl hg ih =>
  intro i hi;cases i with
  | zero =>
   rw [List.getD_cons_succ,List.getD_cons_zero];exact hg.first
  | succ i =>
   rw [List.getD_cons_succ,List.getD_cons_succ];exact ih i z45_
theorem Greedy.last {S:List Int} {n:Nat} {l:List Int} (h:Greedy adj dst S n l):l.getD n 0∈dst:=by
 have c:=h.near n (by rw [h.length];omega);rw [Nat.sub_self] at c;exact c
theorem Greedy.notLast {S:List Int} {n:Nat} {l:List Int} (h:Greedy adj dst S n l):∀ i,i<n→l.getD i 0∉dst:=by
 induction h with
 | stop=>intro i c;omega
 | step S x n l hx hn hno hl hg ih =>
  intro i c hd;cases i with
  | zero =>
   rw [List.getD_cons_zero] at hd;exact hno x hx (E0_ (n:=0) x37_ hd)
  | succ i =>
   rw [List.getD_cons_succ] at hd;exact ih i x37_ hd
theorem Greedy.inj {S:List Int} {n:Nat} {l:List Int} (h:Greedy adj dst S n l):∀ i j,i<j→j<l.length→l.getD i 0≠l.getD j 0:=fun i j d g e=>by
 have hl:=h.length;by_cases f:j=n
 ·subst f
  exact h.notLast i d (by rw [e];exact h.last)
 ·have c:=h.arcs j x37_
  rw [← e] at c;exact h.straight i (j+1) x37_ x37_ c
end
open Go Go.RowKit
noncomputable def Zk2 (m:Mat) (s:List Int) (x y:Int):Bool:=hasB s y && (!hasB s x && indT m (Y2_ (Z9_ s [y]) [x]))
noncomputable def arcsG (a b:Mat) (s:List Int) (p:Int):List Int:=(upTo (nN a)).filter fun q=>Zk2 a s q p || Zk2 b s p q
noncomputable def adjG (a b:Mat) (s:List Int):List (List Int):=(upTo (nN a)).map (arcsG a b s)
noncomputable def addG (m:Mat) (s:List Int):List Int:=(upTo (nN m)).filter fun x=>!hasB s x && indT m (Y2_ s [x])
def turnL (s l:List Int):List Int:=if mayB s=true∧(sortL l).length=l.length then Y2_ (Z9_ s (sortL l)) (Z9_ (sortL l) s) else []
structure Common (a b:Mat) (s:List Int):Prop where
 n:a.n=b.n
 ia:indT a s=true
 ib:indT b s=true
theorem mem_upTo {k:Nat} {x:Int}:x∈upTo k↔0≤x∧x<(k:Int):=by
 unfold upTo;rw [List.mem_map];constructor
 ·rintro ⟨i,c,rfl⟩
  rw [List.mem_range] at c;exact ⟨by show (0:Int)≤(i:Int);omega,by show (i:Int)<_;omega⟩
 ·rintro ⟨d,e⟩
  exact ⟨x.toNat,List.mem_range.2 x37_,by show ((x.toNat:Nat):Int)=x;omega⟩
theorem T5_ {s:List Int} {x:Nat} (hs:IsSet s):hasB s (x:Int)=memP s x:=by
 rw [Bool.eq_iff_iff,Vf7 hs,memP_iff]
section
variable {m:Mat} {s:List Int}
theorem Yn8 {n x:Nat} (d:n≤64) (e:x<n):InN n [(x:Int)]:=⟨⟨j37_,fun z c=>by rw [List.mem_singleton.1 c];exact ⟨x37_,x37_⟩⟩,fun z c=>by rw [List.mem_singleton.1 c];omega⟩
theorem Yx5 (j:indT m s=true) {x y:Nat} (hx:x<nN m) (hy:y<nN m):Zk2 m s x y=true↔memP s y=true∧memP s x=false∧rkP 4 m (insP (remP (memP s) y) x)=cnt (memP s) (nN m):=by
 obtain ⟨hc,c⟩:=mayI_iff.1 (Zp2 j);have h:=(Z7_ hc).2;have d:=Yn8 h hx;have f:=Yn8 h hy;have g:InN (nN m) (Y2_ (Z9_ s [(y:Int)]) [(x:Int)]):=D7_ (Xd0 c f) d;have e:memP (Y2_ (Z9_ s [(y:Int)]) [(x:Int)])=insP (remP (memP s) y) x:=by
  funext i
  rw [Bool.eq_iff_iff,memP_iff,Q1_ (G6_ _ _) d.1,X3_ c.1 f.1];unfold insP remP;rw [Bool.or_eq_true,Bool.and_eq_true,beq_iff_eq,Bool.not_eq_true',memP_iff];simp only [List.mem_singleton,beq_eq_false_iff_ne,Int.natCast_inj,ne_eq];exact Or.comm
 unfold Zk2;rw [Bool.and_eq_true,Bool.and_eq_true,Bool.not_eq_true',T5_ c.1,T5_ c.1,F6_ (mayI_iff.2 ⟨hc,g⟩),Y8_ g,e];constructor
 ·exact x16_
 ·exact x16_
theorem Vn3 (h:indT m s=true) {x:Nat}:(x:Int)∈addG m s↔x<nN m∧memP s x=false∧rkP 4 m (insP (memP s) x)=cnt (memP s) (nN m)+1:=by
 obtain ⟨hc,c⟩:=mayI_iff.1 (Zp2 h);have g:=(Z7_ hc).2;unfold addG;rw [List.mem_filter,mem_upTo];constructor
 ·rintro ⟨⟨_,f⟩,d⟩
  have e:x<nN m:=x37_;have h3:=Yn8 g e;rw [Bool.and_eq_true,Bool.not_eq_true',T5_ c.1,F6_ (mayI_iff.2 ⟨hc,D7_ c h3⟩),Y8_ (D7_ c h3),I9_ c.1 h3.1,Zp1 x37_,Int.toNat_natCast] at d;rw [A2_ e d.1] at d;exact ⟨e,d.1,d.2⟩
 ·rintro ⟨e,f,d⟩
  have h3:=Yn8 g e;refine ⟨⟨x37_,x37_⟩,?_⟩;rw [Bool.and_eq_true,Bool.not_eq_true',T5_ c.1,F6_ (mayI_iff.2 ⟨hc,D7_ c h3⟩),Y8_ (D7_ c h3),I9_ c.1 h3.1,Zp1 x37_,Int.toNat_natCast,A2_ e f];exact ⟨f,d⟩
theorem Vn4 (c:indT m s=true):rkP 4 m (memP s)=cnt (memP s) (nN m):=by
 obtain ⟨hc,d⟩:=mayI_iff.1 (Zp2 c);rw [← Y8_ d];exact (F6_ (Zp2 c)).1 c
end
section
variable {a b:Mat} {s:List Int}
end
theorem Ye5 {w:World} {B:Nat} {v:Value} {zs:List Int} {p:Addr} (h:Row w B v zs) (m:∀ g,v.ownBlock=some g→g≠p.block) (u:Value):Row (w.setCell p u) B v zs:=by
 obtain ⟨A,c,rfl,j,e⟩:=h;refine ⟨A,c,rfl,j,fun k f=>?_⟩;obtain ⟨d,rfl,hb,hc⟩:=e k f;refine ⟨d,rfl,hb,?_⟩;rw [World.cell?_of_block (w:=w) (by rw [Z2_];exact Below.heap_setCell _ _ _ _ (m d.block rfl))];exact hc
structure AdjR (w:World) (G:Nat) (vs:List Value) (pp:List (List Int)):Prop where
 blk:Blk w G 23 vs.toArray
 len:vs.length=pp.length
 row:∀ k v,vs[k]?=some v→Row w w.heap.size v (pp.getD k [])∧∀ g,v.ownBlock=some g→G<g
section
variable {w w':World} {G i:Nat} {vs:List Value} {pp:List (List Int)}
theorem AdjR.up (h:AdjR w G vs pp) (hb:Below w.heap.size w w'):AdjR w' G vs pp:=⟨h.blk.below hb h.blk.lt,h.len,fun k v c=>⟨(h.row k v c).1.up hb,(h.row k v c).2⟩⟩
theorem AdjR.put {u:Value} {q:List Int} (h:AdjR w G vs pp) (m:Row w w.heap.size u q) (j:∀ g,u.ownBlock=some g→G<g):AdjR (w.setCell ⟨G,i,none⟩ u) G (vs.set i u) (pp.set i q):=by
 refine ⟨?_,by rw [List.length_set,List.length_set,h.len],fun k v c=>?_⟩
 ·have:=h.blk.set_ i u
  simpa using this
 ·rw [List.getElem?_set] at c
  have o:(w.setCell ⟨G,i,none⟩ u).heap.size=w.heap.size:=j37_;rw [o];split at c
  ·rename_i e
   subst e;split at c
   ·rename_i hlt
    cases c;refine ⟨?_,j⟩;rw [show (pp.set i q).getD i []=q by rw [List.getD_eq_getElem?_getD,List.getElem?_set_self (by rw [← h.len];exact hlt)];rfl];exact Ye5 m (fun g d e=>by have:=j g d;have e:g=G:=e;omega) u
   ·cases c
  ·rename_i e
   have f:=h.row k v c;refine ⟨?_,f.2⟩;rw [show (pp.set i q).getD k []=pp.getD k [] by rw [List.getD_eq_getElem?_getD,List.getElem?_set_ne e,← List.getD_eq_getElem?_getD]];exact Ye5 f.1 (fun g d e=>by have:=f.2 g d;have e:g=G:=e;omega) u
theorem AdjR.rows (h:AdjR w G vs pp) (hl:pp.length≤4096):Rows2 w w.heap.size (.slice (some ⟨G,0,none⟩) pp.length pp.length) pp:=by
 refine ⟨_,pp.length,rfl,⟨le_refl _,by unfold maxLen;omega,fun e=>by cases e⟩,fun k d=>?_⟩;have c:k<vs.length:=by rw [h.len];exact d
 refine ⟨⟨G,0,none⟩,vs[k],rfl,h.blk.lt,?_,?_⟩
 ·rw [show (⟨G,0,none⟩:Addr).add k=⟨G,k,none⟩ by unfold Addr.add;split<;>simp_all,h.blk.cell]
  simp [c]
 ·exact (h.row k _ (List.getElem?_eq_getElem c)).1
theorem AdjR.nth (h:AdjR w G vs pp) (e:i<pp.length):∃ (A:Option Addr) (c:Nat),w.cell? ⟨G,i,none⟩=some (.slice A (pp.getD i []).length c)∧w.frozen? ⟨G,i,none⟩=false:=by
 have d:i<vs.length:=by rw [h.len];exact e
 obtain ⟨A,c,f,_⟩:=(h.row i _ (List.getElem?_eq_getElem d)).1;refine ⟨A,c,?_,h.blk.frozen i⟩;rw [h.blk.cell,← f];simp [d]
theorem AdjR.made {n:Nat} (hb:Blk w G 23 (madeCells #[.slice none 0 0] n)):AdjR w G (List.replicate n (.slice none 0 0)) (List.replicate n []):=by
 have e:(madeCells #[Value.slice none 0 0] n)=(List.replicate n (Value.slice none 0 0)).toArray:=by
  unfold madeCells;apply Array.ext';refine List.ext_getElem? fun j=>?_;by_cases d:j<n
  ·simp [d,Nat.mod_one]
  ·simp [d]
 refine ⟨by rw [← e];exact hb,by rw [List.length_replicate,List.length_replicate],fun k v c=>?_⟩;rw [List.getElem?_replicate] at c;split at c
 ·cases c
  refine ⟨?_,fun g f=>by cases f⟩;rw [List.getD_eq_getElem?_getD,List.getElem?_replicate];split<;>exact Row.nil_ _ _
 ·cases c
end
end Go.Proofs.YtheeajnkiniopaaGreatDoor.Wp
