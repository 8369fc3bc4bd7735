/- The program's May, Rank and Indep, and the document's May, walked. Matroids written out in memory. -/
import Derived.Test.YtnbcaibflhgdoaaGreatDoorZW
import Derived.Test.YtnbcaibflhgdoaaGreatDoorQTD
import Derived.Test.YtnbcaibflhgdoaaGreatDoorZA
import Derived.Test.YtnbcaibflhgdoaaGreatDoorZO
import Derived.Test.YtnbcaibflhgdoaaGreatDoorIRank
import Derived.Deep.RegionHeld3
import Derived.Test.YtnbcaibflhgdoaaGreatDoorX0A
import Derived.Test.YtnbcaibflhgdoaaGreatDoorX0B
set_option maxHeartbeats 8000000
set_option maxRecDepth 100000
open Go.Lib (hid)
open Nat (le_refl)
namespace Go.Proofs.YtnbcaibflhgdoaaGreatDoor
open Go.RowKit
namespace Wp
def mayI (m:Mat) (s:List Int):Bool:=decide (chk m=0) && subB s (allL m.n)
noncomputable def rankT (m:Mat) (s:List Int):Int:=if mayI m s=true then (rkP 4 m (memP s):Nat) else -1
noncomputable def indT (m:Mat) (s:List Int):Bool:=decide (rankT m s=(s.length:Int))
theorem mayI_iff {m:Mat} {s:List Int}:mayI m s=true↔chk m=0∧InN (nN m) s:=by
 unfold mayI;rw [Bool.and_eq_true,decide_eq_true_iff];constructor
 ·rintro ⟨c,d⟩;exact ⟨c,(S8_ (chk_n c).1 (chk_n c).2).1 d⟩
 ·rintro ⟨c,d⟩;exact ⟨c,(S8_ (chk_n c).1 (chk_n c).2).2 d⟩
theorem Yl7 (m:Mat) (s:List Int):mayI m s=(decide (chk m=0) && okA m.n s):=by
 unfold mayI;by_cases h:chk m=0
 ·rw [Zx2 (chk_n h).1 (chk_n h).2]
 ·rw [decide_eq_false h];rfl
theorem Zq4 (E:Nat→Addr) (m:Mat) (v z:Value) (s:List Int) (w:World) (k:MatV w w.heap.size v m) (hs:Sml m) (j:Row w w.heap.size z s) (I:s.length≤1048576) (r:Env E w):Calls Tryz.prog 31 #[v,z] w (Says w (mayI m s)):=by
 have p:=hid hs;obtain ⟨y,x,J,_,_⟩:=k.open;obtain ⟨L,cs,rfl,_⟩:=id j;have Hb0:=hid (Z1_ w m y x);have q:=hid (k.up Hb0.out);have B:=hid (j.up Hb0.out);have c:=hid (Z4_ w m y x);have g0:=c.out.cell 0;have g1:=c.out.cell 1;have g2:=c.out.cell 2;have g3:=c.out.cell 3;have g4:=c.out.cell 4;have g5:=c.out.cell 5;subst J;unfold boxed at *
 have o:=hid (r.up Hb0.out);obtain ⟨D,d⟩:∃ D,chk m=D:=⟨_,rfl⟩;have HD:=hid d;have H:=B3_ m.n;unfold mayI;rw [d];clear k hs j r d;by_cases h:D=0
 ·subst h
  rw [decide_eq_true rfl,Bool.true_and]
  go_enter Tryz.func31,Tryz.ntmps31
  go_wp2_with fail
  refine (B9_ E m _ _ q.out p.out o.out).mono ?_;rintro e w1 ⟨rfl,hb1⟩;rw [HD.out];have Hb1:=hid (Z0_ Hb0.out (le_refl _) hb1);have C:=hid (B.out.up hb1);have K:=(c.out.below hb1 c.out.lt).cell 1;clear hb1 g0 g1 g2 g3 g4 g5
  go_wp2_with fail
  refine (I5_ m.n _).mono ?_;rintro e O ⟨N,rfl,u,g⟩;have Hb2:=hid (Z0_ Hb1.out (le_refl _) g);have F:=hid (C.out.up g);have G:=hid u;clear g u K
  go_wp2_with fail
  refine (Zz5 _ _ s (allL m.n) _ F.out G.out I H).mono ?_;exact x5_
 ·rw [decide_eq_false h,Bool.false_and]
  have M:(D==0)=false:=q45_;clear h
  go_enter Tryz.func31,Tryz.ntmps31
  go_wp2_with fail
  refine (B9_ E m _ _ q.out p.out o.out).mono ?_;exact y40_
theorem R0_ (m:Mat) (v u:Value) (s:List Int) (w:World) (j:MatV w w.heap.size v m) (hs:Sml m) (g:Row w w.heap.size u s):Calls Tryz.prog 66 #[v,u] w (Says w (mayI m s)):=by
 have k:=hid hs;obtain ⟨r,q,z,_,_⟩:=j.open;obtain ⟨C,cs,rfl,_⟩:=id g;have Hb0:=hid (Z1_ w m r q);have o:=hid (j.up Hb0.out);have x:=hid (g.up Hb0.out);have c:=hid (Z4_ w m r q);have g0:=c.out.cell 0;have g1:=c.out.cell 1;have g2:=c.out.cell 2;have g3:=c.out.cell 3;have g4:=c.out.cell 4;have g5:=c.out.cell 5;subst z;unfold boxed at *
 obtain ⟨D,d⟩:∃ D,chk m=D:=⟨_,rfl⟩;have HD:=hid d;rw [Yl7,d];clear j hs g d;by_cases h:D=0
 ·subst h
  rw [decide_eq_true rfl,Bool.true_and]
  go_enter Tryz.func66,Tryz.ntmps66
  go_wp2_with fail
  refine (Q8_ m _ _ o.out k.out).mono ?_;rintro e w1 ⟨rfl,hb1⟩;rw [HD.out];have Hb1:=hid (Z0_ Hb0.out (le_refl _) hb1);have y:=hid (x.out.up hb1);have B:=(c.out.below hb1 c.out.lt).cell 1;clear hb1 g0 g1 g2 g3 g4 g5
  go_wp2_with fail
  refine (E9_ _ s m.n _ y.out).mono ?_;rintro e F ⟨rfl,p⟩;have Hb2:=hid (Z0_ Hb1.out (le_refl _) p);clear p B;exact k2_
 ·rw [decide_eq_false h,Bool.false_and]
  have E:(D==0)=false:=q45_;clear h
  go_enter Tryz.func66,Tryz.ntmps66
  go_wp2_with fail
  refine (Q8_ m _ _ o.out k.out).mono ?_;exact y40_
theorem Zf0 (E:Nat→Addr) (m:Mat) (v d:Value) (s:List Int) (w:World) (j:MatV w w.heap.size v m) (hs:Sml m) (h:Row w w.heap.size d s) (y:s.length≤1048576) (x:Env E w):Calls Tryz.prog 32 #[v,d] w (Tells w (rankT m s)):=by
 have r:=hid hs;obtain ⟨B,z,J,_,_⟩:=j.open;obtain ⟨L,cs,rfl,_⟩:=id h;have Hb0:=hid (Z1_ w m B z);have u:=hid (j.up Hb0.out);have q:=hid (h.up Hb0.out);have c:=hid (Z4_ w m B z);have g0:=c.out.cell 0;have g1:=c.out.cell 1;have g2:=c.out.cell 2;have g3:=c.out.cell 3;have g4:=c.out.cell 4;have g5:=c.out.cell 5;subst J;unfold boxed at *
 have k:=hid (x.up Hb0.out);unfold rankT;rcases hm:mayI m s with _ | _
 ·rw [if_neg x42_]
  have p:=hid hm;clear j hs h x hm
  go_enter Tryz.func32,Tryz.ntmps32
  go_wp2_with fail
  refine (Zq4 E m _ _ s _ u.out r.out q.out y k.out).mono ?_;rintro e K ⟨rfl,hb1⟩;rw [p.out];exact j31_
 ·rw [if_pos rfl]
  have p:=hid hm;have o:=hid (mayI_iff.1 hm);obtain ⟨R,hR⟩:∃ R:Nat,rkP 4 m (memP s)=R:=⟨_,rfl⟩;have F:Hid (∀ (v d:Value) (W:World),MatV W W.heap.size v m→Row W W.heap.size d s→Env E W→Calls Tryz.prog 65 #[v,d] W (Tells W (R:Int))):=hid fun v d W H I h3=>by rw [← hR];exact Yl3 E 4 m v d s W H r.out o.out.1 (chk_ok.1 o.out.1).1 I o.out.2 h3
  rw [hR];clear j hs h x hm hR
  go_enter Tryz.func32,Tryz.ntmps32
  go_wp2_with fail
  refine (Zq4 E m _ _ s _ u.out r.out q.out y k.out).mono ?_;rintro e K ⟨rfl,hb1⟩;rw [p.out];have Hb1:=hid (Z0_ Hb0.out (le_refl _) hb1);have D:=hid (q.out.up hb1);have G:=hid (u.out.up hb1);have C:=hid (k.out.up hb1);have g:=hid (c.out.below hb1 c.out.lt);clear hb1 g0 g1 g2 g3 g4 g5;have g0:=g.out.cell 0;have g1:=g.out.cell 1;have g2:=g.out.cell 2;have g3:=g.out.cell 3;have g4:=g.out.cell 4;have g5:=g.out.cell 5
  go_wp2_with fail
  refine (F.out _ _ _ G.out D.out C.out).mono ?_;rintro e M ⟨rfl,hb2⟩;exact x35_
theorem Zf1 (E:Nat→Addr) (m:Mat) (v u:Value) (s:List Int) (w:World) (k:MatV w w.heap.size v m) (hs:Sml m) (j:Row w w.heap.size u s) (M:s.length≤1048576) (o:Env E w):Calls Tryz.prog 74 #[v,u] w (Says w (indT m s)):=by
 have C:=hid hs;obtain ⟨r,q,N,_,_⟩:=k.open;obtain ⟨O,cs,rfl,_⟩:=id j;have d:=hid (Z1_ w m r q);have D:=hid (k.up d.out);have B:=hid (j.up d.out);have c:=hid (Z4_ w m r q);have F:=c.out.cell 0;have G:=c.out.cell 1;have H:=c.out.cell 2;have I:=c.out.cell 3;have J:=c.out.cell 4;have K:=c.out.cell 5;subst N;unfold boxed at *
 have x:=hid (o.up d.out);obtain ⟨R,hR⟩:∃ R,rankT m s=R:=⟨_,rfl⟩;have y:=hid hR;obtain ⟨g,h⟩:∃ g,indT m s=g:=⟨_,rfl⟩;have L:(R==(s.length:Int))=g:=by rw [← h,← hR];unfold indT;rw [Bool.eq_iff_iff,beq_iff_eq,decide_eq_true_iff]
 rw [h];clear k hs j o hR h
 go_enter Tryz.func74,Tryz.ntmps74
 go_wp2_with fail
 refine (Zf0 E m _ _ s _ D.out C.out B.out M x.out).mono ?_;rintro e P ⟨rfl,p⟩;rw [y.out];have z:=hid (Z0_ d.out (le_refl _) p);clear p F G H I J K;go_wp2;go_ret;exact ⟨by rw [← L];rfl,z.out⟩
open Go.RowKit
theorem rows2_nil (W:World) (B:Nat):Rows2 W B (.slice none 0 0) []:=⟨none,0,rfl,⟨le_refl _,x42_,fun _=>rfl⟩,fun k c=>absurd c j41_⟩
theorem Q6_ (W:World) (B:Nat) (t n a b:Int):MatV W B (.agg #[.int .i64 t,.int .i64 n,.int .i64 a,.int .i64 b,.slice none 0 0,.slice none 0 0]) (.mk t n a b [] []):=MatV.shut (rows2_nil W B) (MatL.nil_ W B)
theorem Q7_ (t n a b:Int):Sml (.mk t n a b [] []):=.mk j41_ j41_ j41_ j41_
end Wp
end Go.Proofs.YtnbcaibflhgdoaaGreatDoor
namespace Go.Proofs.YtnbcaibflhgdoaaGreatDoor.Wp
open Go Go.RowKit
theorem rk_of {m:Mat} (h:chk m=0):Rk (nN m) (rkP 4 m):=rk_ok 4 m h (chk_ok.1 h).1
theorem Yy9 (P Q:Nat→Bool):∀ n,cnt (orP P Q) n+cnt (andP P Q) n=cnt P n+cnt Q n
 | 0=>by simp [cnt]
 | n+1=>by
  have c:=Yy9 P Q n;rw [X5_,X5_,X5_,X5_];show _+(if (P n || Q n)=true then 1 else 0)+(_+(if (P n && Q n)=true then 1 else 0))=_;cases P n<;>cases Q n<;>simp<;>omega
theorem R1_ {m:Mat} {s:List Int} (h:mayI m s=true):rankT m s=(rkP 4 m (memP s):Nat):=if_pos h
open Go Go.RowKit
theorem Rk.closed {n:Nat} {f:(Nat→Bool)→Nat} (h:Rk n f) (P S:Nat→Bool) (hs:∀ x,x<n→S x=true→f (insP P x)=f P):∀ k,k≤n→f (addK P S k)=f P
 | 0,_=>by rw [H3_]
 | k+1,hk=>by
  have c:=h.closed P S hs k q41_;cases e:S k
  ·rw [S4_ e];exact c
  ·have d:=h.dim_add P S (x:=k) q41_ k q41_
   have g:=hs k q41_ e;have h3:=h.up' (addK P S k) (x:=k) q41_;rw [M0_ e];omega
theorem E8_ {m:Mat} {s:List Int} (h:mayI m s=true):indT m s=true↔rkP 4 m (memP s)=s.length:=by
 unfold indT;rw [show rankT m s=_ from if_pos h,decide_eq_true_iff];omega
theorem Xe8 {m:Mat} (h:chk m=0):indT m []=true:=by
 have c:mayI m []=true:=mayI_iff.2 ⟨h,Xb4 _⟩;rw [E8_ c,Zq0,(rk_ok 4 m h (chk_ok.1 h).1).zero];rfl
theorem Xw6 {m:Mat} {a s:List Int} (ha:mayI m a=true) (hs:mayI m s=true) (d:∀ x∈s,x∈a) (h:indT m a=true):indT m s=true:=by
 obtain ⟨hc,hA⟩:=mayI_iff.1 ha;obtain ⟨_,g⟩:=mayI_iff.1 hs;have c:=rk_ok 4 m hc (chk_ok.1 hc).1;rw [E8_ ha] at h;rw [E8_ hs,X4_ g];rw [X4_ hA] at h;have p:=c.le_cnt (memP s);have f:=c.submod (memP s) (fun i=>memP a i && !memP s i);have h3:=c.le_cnt (fun i=>memP a i && !memP s i);have e:∀ i,i<nN m→orP (memP s) (fun i=>memP a i && !memP s i) i=memP a i:=fun i _=>by
  unfold orP;cases e1:memP s i
  ·simp [e1]
  ·have:memP a i=true:=memP_iff.2 (d _ (memP_iff.1 e1))
   simp [this]
 rw [c.ext e] at f;have q:cnt (memP a) (nN m)=cnt (memP s) (nN m)+cnt (fun i=>memP a i && !memP s i) (nN m):=by
  have:=K.cntP_split (memP a) (memP s) (nN m);have j:K.cntP (nN m) (fun i=>memP a i && memP s i)=cnt (memP s) (nN m):=(Q9_ fun i _=>by
   cases e1:memP s i
   ·simp
   ·have:memP a i=true:=memP_iff.2 (d _ (memP_iff.1 e1))
    simp [this])
  have k:K.cntP (nN m) (memP a)=cnt (memP a) (nN m):=rfl;have o:K.cntP (nN m) (fun i=>memP a i && !memP s i)=cnt (fun i=>memP a i && !memP s i) (nN m):=rfl;omega
 omega
theorem Zr1 {x:Int} (h:0≤x) (P:Nat→Bool):orP P (memP [x])=insP P x.toNat:=by
 funext i
 unfold orP insP;have:memP [x] i=(i==x.toNat):=by rw [Bool.eq_iff_iff,memP_iff,beq_iff_eq,List.mem_singleton];omega
 rw [this,Bool.or_comm]
def Near (adj:List (List Int)) (dst:List Int):Nat→Int→Prop
 | 0,x=>x∈dst
 | n+1,x=>Near adj dst n x∨∃ y∈adj.getD x.toNat [],Near adj dst n y
section
variable {adj:List (List Int)} {dst:List Int}
theorem F4_ {x:Int} {n:Nat}:∀ {m:Nat},n≤m→Near adj dst n x→Near adj dst m x
 | 0,h,hn=>by rw [show n=0 by omega] at hn;exact hn
 | m+1,h,hn=>by
  by_cases e:n=m+1
  ·rw [← e];exact hn
  ·exact .inl (F4_ (m:=m) q41_ hn)
inductive Greedy (adj:List (List Int)) (dst:List Int):List Int→Nat→List Int→Prop
 | stop (S:List Int) (x:Int):x∈S→x∈dst→(∀ y∈S,y<x→y∉dst)→Greedy adj dst S 0 [x]
 | step (S:List Int) (x:Int) (n:Nat) (l:List Int):x∈S→Near adj dst (n+1) x→(∀ y∈S,¬ Near adj dst n y)→(∀ y∈S,y<x→¬ Near adj dst (n+1) y)→Greedy adj dst (adj.getD x.toNat []) n l→Greedy adj dst S (n+1) (x :: l)
theorem Greedy.length {S:List Int} {n:Nat} {l:List Int} (h:Greedy adj dst S n l):l.length=n+1:=by
 induction h with
 | stop=>rfl
 | step _ _ _ _ _ _ _ _ _ ih=>rw [List.length_cons,ih]
theorem Greedy.unique {S:List Int} {n:Nat} {l:List Int} (h:Greedy adj dst S n l):∀ {m:Nat} {k:List Int},Greedy adj dst S m k→l=k:=by
 induction h with
 | stop S x hx hd hl =>
  intro m k c;cases c with
  | stop _ y hy hdy hly =>
   have d:=hl y hy;have e:=hly x hx;rcases Int.lt_trichotomy x y with h | h | h
   ·exact absurd hd (e h)
   ·rw [h]
   ·exact absurd hdy (d h)
  | step _ y n l hy hn hno _ _=>exact absurd (F4_ (Nat.zero_le n) hd) (hno x hx)
 | step S x n l hx hn hno hl _ ih =>
  intro m k c;cases c with
  | stop _ y hy hdy hly=>exact absurd (F4_ (Nat.zero_le n) hdy) (hno y hy)
  | step _ y n' l' hy hn' hno' hl' hg' =>
   have f:n=n':=by
    rcases Nat.lt_trichotomy n n' with h | h | h
    ·exact absurd (F4_ q41_ hn) (hno' x hx)
    ·exact h
    ·exact absurd (F4_ q41_ hn') (hno y hy)
   subst f;have g:x=y:=by
    rcases Int.lt_trichotomy x y with h | h | h
    ·exact absurd hn (hl' x hx h)
    ·exact h
    ·exact absurd hn' (hl y hy h)
   subst g;rw [ih hg']
theorem Greedy.mem {S:List Int} {n:Nat} {x:Int} {l:List Int} (h:Greedy adj dst S n (x :: l)):x∈S:=by cases h<;>assumption
theorem Greedy.near {S:List Int} {n:Nat} {l:List Int} (h:Greedy adj dst S n l):∀ k,k<l.length→Near adj dst (n - k) (l.getD k 0):=by
 induction h with
 | stop S x hx hd hl =>
  intro k c;have:k=0:=by simpa using c
  subst this;exact hd
 | step S x n l hx hn hno hl hg ih =>
  intro k c;cases k with
  | zero=>exact hn
  | succ k =>
   have:=ih k (by simpa using c);rw [List.getD_cons_succ,show n+1 - (k+1)=n - k by omega];exact this
theorem Greedy.none {S:List Int} {n:Nat} {l:List Int} (h:Greedy adj dst S n l):∀ y∈S,∀ m,m<n→¬ Near adj dst m y:=by
 cases h with
 | stop=>intro y _ m c;omega
 | step _ x n l hx hn hno hl hg=>exact fun y d m c h=>hno y d (F4_ q41_ h)
theorem Greedy.straight {S:List Int} {n:Nat} {l:List Int} (h:Greedy adj dst S n l):∀ i k,i+2≤k→k<l.length→l.getD k 0∉adj.getD (l.getD i 0).toNat []:=by
 induction h with
 | stop S x hx hd hl =>
  intro i k f h2;have:k<1:=h2;omega
 | step S x n l hx hn hno hl hg ih =>
  intro i k f h2 d;obtain ⟨c,rfl⟩:∃ c,k=c+1:=⟨k - 1,q41_⟩;rw [List.getD_cons_succ] at d;have e:c<l.length:=x50_;have g:=hg.length;cases i with
  | zero =>
   rw [List.getD_cons_zero] at d;exact hg.none _ d (n - c) q41_ (hg.near c e)
  | succ i =>
   rw [List.getD_cons_succ] at d;exact ih i c q41_ e d
end
section
variable {adj:List (List Int)} {dst:List Int}
theorem Greedy.first {S:List Int} {n:Nat} {l:List Int} (h:Greedy adj dst S n l):l.getD 0 0∈S:=by cases h<;>simpa
theorem Greedy.arcs {S:List Int} {n:Nat} {l:List Int} (h:Greedy adj dst S n l):∀ i,i+1<l.length→l.getD (i+1) 0∈adj.getD (l.getD i 0).toNat []:=by
 induction h with
 | stop=>intro i hi;simp at hi
 | step S x n l hx hn hno hl hg ih =>
  intro i hi;cases i with
  | zero =>
   rw [List.getD_cons_succ,List.getD_cons_zero];exact hg.first
  | succ i =>
   rw [List.getD_cons_succ,List.getD_cons_succ];exact ih i y50_
theorem Greedy.last {S:List Int} {n:Nat} {l:List Int} (h:Greedy adj dst S n l):l.getD n 0∈dst:=by
 have c:=h.near n (by rw [h.length];omega);rw [Nat.sub_self] at c;exact c
theorem Greedy.notFirst {S:List Int} {n:Nat} {l:List Int} (h:Greedy adj dst S n l):∀ i,0<i→i<l.length→l.getD i 0∉S:=fun i e d c=>by
 have:=h.length;exact h.none _ c (n - i) q41_ (h.near i d)
theorem Greedy.notLast {S:List Int} {n:Nat} {l:List Int} (h:Greedy adj dst S n l):∀ i,i<n→l.getD i 0∉dst:=by
 induction h with
 | stop=>intro i c;omega
 | step S x n l hx hn hno hl hg ih =>
  intro i c hd;cases i with
  | zero =>
   rw [List.getD_cons_zero] at hd;exact hno x hx (F4_ (n:=0) q41_ hd)
  | succ i =>
   rw [List.getD_cons_succ] at hd;exact ih i q41_ hd
theorem Greedy.inj {S:List Int} {n:Nat} {l:List Int} (h:Greedy adj dst S n l):∀ i j,i<j→j<l.length→l.getD i 0≠l.getD j 0:=fun i j d g e=>by
 have hl:=h.length;by_cases f:j=n
 ·subst f
  exact h.notLast i d (by rw [e];exact h.last)
 ·have c:=h.arcs j q41_
  rw [← e] at c;exact h.straight i (j+1) q41_ q41_ c
end
open Go Go.RowKit
def remP (P:Nat→Bool) (y:Nat):Nat→Bool:=fun i=>P i && !(i==y)
theorem O4_ (P:Nat→Bool) (y:Nat):remP P y y=false:=by simp [remP]
theorem T1_ {P:Nat→Bool} {y i:Nat} (h:i≠y):remP P y i=P i:=by simp [remP,h]
theorem Xw7 {P:Nat→Bool} {y:Nat} (h:P y=true):insP (remP P y) y=P:=by
 funext i
 by_cases e:i=y
 ·rw [e,V2_,h]
 ·rw [V0_ e,T1_ e]
theorem O5_ {n:Nat} {P:Nat→Bool} {y:Nat} (c:y<n) (h:P y=true):cnt (remP P y) n+1=cnt P n:=by
 have:=B2_ c (O4_ P y);rw [Xw7 h] at this;omega
section
variable {n:Nat} {f:(Nat→Bool)→Nat}
theorem Rk.part (h:Rk n f) {P Q:Nat→Bool} (hs:∀ i,i<n→P i=true→Q i=true) (k:f Q=cnt Q n):f P=cnt P n:=by
 have c:=h.submod P (fun i=>Q i && !P i);have j:=h.le_cnt (fun i=>Q i && !P i);have h3:=h.le_cnt P;have e:∀ i,i<n→orP P (fun i=>Q i && !P i) i=Q i:=fun i g=>by
  unfold orP;cases e1:P i
  ·simp [e1]
  ·simp [hs i g e1]
 rw [h.ext e] at c;have d:=Yy9 P (fun i=>Q i && !P i) n;rw [Q9_ e,Q9_ (P:=andP P (fun i=>Q i && !P i)) (Q:=noneP) (fun i _=>by simp only [andP,noneP];cases P i<;>simp),C1_] at d;omega
end
theorem J6_ {m:Mat} {s:List Int} (h:indT m s=true):mayI m s=true:=by
 cases hm:mayI m s
 ·unfold indT rankT at h
  rw [hm,if_neg x42_,decide_eq_true_iff] at h;omega
 ·rfl
open Go Go.RowKit
section
variable {n:Nat} {f:(Nat→Bool)→Nat}
def exch (S:Nat→Bool):List (Nat × Nat)→Nat→Bool
 | []=>S
 | (y,x) :: r=>insP (remP (exch S r) y) x
theorem Zq5 {S:Nat→Bool}:∀ {r:List (Nat × Nat)},(∀ p∈r,S p.1=true∧S p.2=false)→∀ i,exch S r i=true↔(S i=true∧i∉r.map (·.1))∨i∈r.map (·.2)
 | [],_,i=>by simp [exch]
 | (y,x) :: r,h,i=>by
  have o:=Zq5 (S:=S) (r:=r) (fun p j=>h p (by simp [j])) i;have m:=h (y,x) j41_;have k:i∈r.map (·.2)→S i=false:=fun g=>by
   obtain ⟨p,j,rfl⟩:=List.mem_map.1 g;exact (h p (by simp [j])).2
  rw [exch];by_cases e:i=x
  ·rw [e,V2_]
   simp
  ·rw [V0_ e]
   by_cases d:i=y
   ·rw [d,O4_]
    have f:y∉r.map (·.2):=fun g=>by rw [d] at k;have:=k g;rw [m.1] at this;cases this
    constructor
    ·intro h;cases h
    ·rintro (⟨_,c⟩ | c)
     ·exact absurd j41_ c
     ·rw [List.map_cons,List.mem_cons] at c
      rcases c with c | c
      ·exact absurd (d.trans c) e
      ·exact absurd c f
   ·rw [T1_ d,o,List.map_cons,List.map_cons,List.mem_cons,List.mem_cons]
    constructor
    ·rintro (⟨f,c⟩ | c)
     ·exact .inl ⟨f,fun h3=>h3.elim d c⟩
     ·exact .inr (.inr c)
    ·rintro (⟨f,c⟩ | c)
     ·exact .inl ⟨f,fun h3=>c (.inr h3)⟩
     ·exact .inr (c.resolve_left e)
theorem Yx0 (h:Rk n f) {S:Nat→Bool} (m:f S=cnt S n):∀ {r:List (Nat × Nat)},(∀ p∈r,(p.1<n∧p.2<n)∧S p.1=true∧S p.2=false)→(r.map (·.1)).Nodup→(r.map (·.2)).Nodup →
  (∀ p∈r,f (insP (remP S p.1) p.2)=cnt S n)→(r.Pairwise fun p q=>f (insP (remP S p.1) q.2)<cnt S n)→f (exch S r)=cnt S n∧cnt (exch S r) n=cnt S n
 | [],_,_,_,_,_=>⟨m,rfl⟩
 | (y,x) :: r,c,hn1,hn2,hc,hd=>by
  have j:=c (y,x) j41_;have w:y<n:=j.1.1;have v:x<n:=j.1.2;have s:S y=true:=j.2.1;have E:S x=false:=j.2.2;clear j;have u:∀ p∈r,(p.1<n∧p.2<n)∧S p.1=true∧S p.2=false:=fun p h=>c p (by simp [h]);rw [List.map_cons,List.nodup_cons] at hn1 hn2;obtain ⟨G,H⟩:=List.pairwise_cons.1 hd;obtain ⟨K,L⟩:=Yx0 h m u hn1.2 hn2.2 (fun p h=>hc p (by simp [h])) H;have o:=Zq5 (S:=S) (r:=r) fun p h=>(u p h).2;have D:exch S r y=true:=(o y).2 (.inl ⟨s,hn1.1⟩);have C:exch S r x=false:=by
   rw [← Bool.not_eq_true,o];rintro (⟨g,_⟩ | g)
   ·rw [E] at g;cases g
   ·exact hn2.1 g
  have M:=O5_ w D;have R:=h.part (P:=remP (exch S r) y) (Q:=exch S r) (fun i _ c=>by
   by_cases e:i=y
   ·rw [e,O4_] at c;cases c
   ·rwa [T1_ e] at c) (K.trans L.symm)
  have N:=O5_ w s;have T:=h.part (P:=remP S y) (Q:=S) (fun i _ c=>by
   by_cases e:i=y
   ·rw [e,O4_] at c;cases c
   ·rwa [T1_ e] at c) m
  have F:=h.closed (remP S y) (remP (exch S r) y) (fun z J k=>by
   have A:z≠y:=fun e=>by rw [e,O4_] at k;cases k
   rw [T1_ A] at k;rcases (o z).1 k with ⟨g,_⟩ | g
   ·rw [I6_ (by rw [T1_ A];exact g)]
   ·obtain ⟨p,I,rfl⟩:=List.mem_map.1 g
    have U:f (insP (remP S y) p.2)<cnt S n:=G p I;have V:=h.up' (remP S y) J;omega) n (le_refl _)
  rw [E6_ h] at F;have m1:f (insP (remP S y) x)=cnt S n:=hc (y,x) j41_;have m2:=h.mono (P:=insP (remP S y) x) (Q:=insP (orP (remP S y) (remP (exch S r) y)) x) fun i _ hi=>j23_;have d:=h.dim_set (P:=remP (exch S r) y) (Q:=orP (remP S y) (remP (exch S r) y)) (fun i _ hi=>by unfold orP;rw [hi];simp) v;have B:remP (exch S r) y x=false:=by
   unfold remP;rw [C];rfl
  have O:=B2_ v B;have W:=h.le_cnt (insP (remP (exch S r) y) x);rw [exch];omega
theorem Xw8 (h:Rk n f) {S:Nat→Bool} (o:f S=cnt S n) {r:List (Nat × Nat)} (j:∀ p∈r,(p.1<n∧p.2<n)∧S p.1=true∧S p.2=false) (v:(r.map (·.1)).Nodup) (w:(r.map (·.2)).Nodup)
  (hb:∀ p∈r,f (insP S p.2)=f S) (hc:∀ p∈r,f (insP (remP S p.1) p.2)=cnt S n) (hd:r.Pairwise fun p q=>f (insP (remP S p.1) q.2)<cnt S n)
  {x:Nat} (k:x<n) (s:S x=false) (A:x∉r.map (·.2)) (D:f (insP S x)=cnt S n+1):f (insP (exch S r) x)=cnt S n+1∧cnt (insP (exch S r) x) n=cnt S n+1:=by
 obtain ⟨E,F⟩:=Yx0 h o j v w hc hd;have g:=Zq5 (S:=S) (r:=r) fun p h=>(j p h).2;have m:exch S r x=false:=by
  rw [← Bool.not_eq_true,g];rintro (⟨c,_⟩ | c)
  ·rw [s] at c;cases c
  ·exact A c
 have u:=h.closed S (exch S r) (fun z _ B=>by
  rcases (g z).1 B with ⟨c,_⟩ | c
  ·rw [I6_ c]
  ·obtain ⟨p,y,rfl⟩:=List.mem_map.1 c
   exact hb p y) n (le_refl _)
 rw [E6_ h] at u;have m2:=h.mono (P:=insP S x) (Q:=insP (orP S (exch S r)) x) fun i _ hi=>j23_;have d:=h.dim_set (P:=exch S r) (Q:=orP S (exch S r)) (fun i _ hi=>by unfold orP;rw [hi];simp) k;have C:=B2_ k m;have G:=h.le_cnt (insP (exch S r) x);omega
structure Zig (n:Nat) (S:Nat→Bool) (p:Nat→Nat) (k:Nat):Prop where
 lt:∀ i,i≤2 * k→p i<n
 inj:∀ i j,i≤2 * k→j≤2 * k→p i=p j→i=j
 out:∀ i,i≤k→S (p (2 * i))=false
 within:∀ i,i<k→S (p (2 * i+1))=true
def turnP (S:Nat→Bool) (p:Nat→Nat) (k:Nat):Nat→Bool:=fun i=>S i != (List.range (2 * k+1)).any fun j=>p j==i
def pairs (p:Nat→Nat) (k:Nat):List (Nat × Nat):=(List.range k).map fun i=>(p (2 * i+1),p (2 * i+2))
theorem Xe9 {S:Nat→Bool} {p:Nat→Nat} {k:Nat} (c:Zig n S p k):∀ i,insP (exch S (pairs p k)) (p 0) i=turnP S p k i:=by
 intro i;have m:=Zq5 (S:=S) (r:=pairs p k) (fun q f=>by
  obtain ⟨j,hj,rfl⟩:=List.mem_map.1 f;rw [List.mem_range] at hj;exact ⟨c.within j hj,c.out (j+1) q41_⟩) i
 have d:((List.range (2 * k+1)).any fun j=>p j==i)=true↔∃ j,j≤2 * k∧p j=i:=by
  rw [List.any_eq_true];constructor
  ·rintro ⟨j,hj,e⟩
   rw [List.mem_range] at hj;exact ⟨j,q41_,by simpa using e⟩
  ·rintro ⟨j,hj,e⟩
   exact ⟨j,List.mem_range.2 q41_,by simpa using e⟩
 have s:i∈(pairs p k).map (·.1)↔∃ j,j<k∧p (2 * j+1)=i:=x14_;have u:i∈(pairs p k).map (·.2)↔∃ j,j<k∧p (2 * j+2)=i:=x14_;rw [s,u] at m;rw [Bool.eq_iff_iff];unfold turnP;have w:insP (exch S (pairs p k)) (p 0) i=true↔i=p 0∨exch S (pairs p k) i=true:=by
  unfold insP;rw [Bool.or_eq_true,beq_iff_eq]
 rw [w,m,bne_iff_ne];cases hS:S i
 ·constructor
  ·intro h
   have:((List.range (2 * k+1)).any fun j=>p j==i)=true:=by
    rw [d];rcases h with h | ⟨h,_⟩ | ⟨j,hj,e⟩
    ·exact ⟨0,q41_,h.symm⟩
    ·cases h
    ·exact ⟨2 * j+2,q41_,e⟩
   rw [this];decide
  ·intro h
   have h3:((List.range (2 * k+1)).any fun j=>p j==i)=true:=by
    cases f:((List.range (2 * k+1)).any fun j=>p j==i)
    ·rw [f] at h;exact absurd rfl h
    ·rfl
   obtain ⟨j,hj,e⟩:=d.1 h3;rcases Nat.mod_two_eq_zero_or_one j with g | g
   ·by_cases v:j=0
    ·subst v;exact .inl e.symm
    ·exact .inr (.inr ⟨(j - 2) / 2,q41_,by rw [show 2 * ((j - 2) / 2)+2=j by omega];exact e⟩)
   ·have:=c.within (j / 2) q41_
    rw [show 2 * (j / 2)+1=j by omega,e,hS] at this;cases this
 ·constructor
  ·intro h
   have:((List.range (2 * k+1)).any fun j=>p j==i)=false:=by
    rw [← Bool.not_eq_true,d];rintro ⟨j,hj,e⟩;rcases h with h | ⟨_,h⟩ | ⟨q,f,o⟩
    ·have:=c.out 0 q41_
     rw [Nat.mul_zero,← h,hS] at this;cases this
    ·rcases Nat.mod_two_eq_zero_or_one j with g | g
     ·have:=c.out (j / 2) q41_
      rw [show 2 * (j / 2)=j by omega,e,hS] at this;cases this
     ·exact h ⟨j / 2,q41_,by rw [show 2 * (j / 2)+1=j by omega];exact e⟩
    ·have:=c.out (q+1) q41_
     rw [show 2 * (q+1)=2 * q+2 by omega,o,hS] at this;cases this
   rw [this];decide
  ·intro h
   refine .inr (.inl ⟨rfl,?_⟩);rintro ⟨j,hj,e⟩;have:((List.range (2 * k+1)).any fun j=>p j==i)=true:=d.2 ⟨2 * j+1,q41_,e⟩;rw [this] at h;exact absurd rfl h
structure Straight (n:Nat) (f:(Nat→Bool)→Nat) (S:Nat→Bool) (p:Nat→Nat) (k:Nat):Prop where
 start:f (insP S (p 0))=cnt S n+1
 noStart:∀ i,i<k→f (insP S (p (2 * i+2)))=f S
 arc:∀ i,i<k→f (insP (remP S (p (2 * i+1))) (p (2 * i+2)))=cnt S n
 noArc:∀ i j,i<j→j<k→f (insP (remP S (p (2 * i+1))) (p (2 * j+2)))<cnt S n
theorem Yx1 (h:Rk n f) {S:Nat→Bool} {p:Nat→Nat} {k:Nat} (o:f S=cnt S n) (g:Zig n S p k) (hs:Straight n f S p k):f (turnP S p k)=cnt S n+1∧cnt (turnP S p k) n=cnt S n+1:=by
 have m:∀ {q:Nat × Nat},q∈pairs p k→∃ j,j<k∧q=(p (2 * j+1),p (2 * j+2)):=fun d=>by
  obtain ⟨j,c,rfl⟩:=List.mem_map.1 d;exact ⟨j,List.mem_range.1 c,rfl⟩
 have s:=Xw8 h o (r:=pairs p k) (x:=p 0) (fun q d=>by
   obtain ⟨j,c,rfl⟩:=m d;exact ⟨⟨g.lt _ q41_,g.lt _ q41_⟩,g.within j c,g.out (j+1) q41_⟩)
  (by
   unfold pairs;rw [List.map_map];refine List.pairwise_map.2 (List.Pairwise.imp_of_mem (fun {i j} hi c hne e=>hne ?_) (List.nodup_range (n:=k)));rw [List.mem_range] at hi c;have:=g.inj _ _ q41_ q41_ e;omega)
  (by
   unfold pairs;rw [List.map_map];refine List.pairwise_map.2 (List.Pairwise.imp_of_mem (fun {i j} hi c hne e=>hne ?_) (List.nodup_range (n:=k)));rw [List.mem_range] at hi c;have:=g.inj _ _ q41_ q41_ e;omega)
  (fun q d=>by
   obtain ⟨j,c,rfl⟩:=m d;exact hs.noStart j c)
  (fun q d=>by
   obtain ⟨j,c,rfl⟩:=m d;exact hs.arc j c)
  (by
   unfold pairs;rw [List.pairwise_map];refine List.Pairwise.imp_of_mem (fun {i j} _ c hij=>?_) List.pairwise_lt_range;exact hs.noArc i j hij (List.mem_range.1 c))
  (g.lt 0 q41_) (g.out 0 q41_)
  (fun d=>by
   obtain ⟨q,d,e⟩:=List.mem_map.1 d;obtain ⟨j,c,rfl⟩:=m d;have:=g.inj (2 * j+2) 0 q41_ q41_ e;omega) hs.start
 rw [← h.ext (P:=insP (exch S (pairs p k)) (p 0)) (Q:=turnP S p k) fun i _=>Xe9 g i,← Q9_ (P:=insP (exch S (pairs p k)) (p 0)) (Q:=turnP S p k) fun i _=>Xe9 g i];exact s
def cutP (S Y:Nat→Bool) (k:Nat):Nat→Bool:=fun i=>S i && !(decide (i<k) && Y i)
theorem Yl8 (h:Rk n f) {S Y:Nat→Bool} (p:f S=cnt S n) {x:Nat} (m:x<n) (o:f (insP S x)=f S) (q:∀ y,y<n→S y=true→Y y=true→f (insP (remP S y) x)<cnt S n) :
  ∀ k,k≤n→f (insP (cutP S Y k) x)=f (cutP S Y k)
 | 0,_=>by
  have e:cutP S Y 0=S:=by funext i;simp [cutP]
  rw [e,o]
 | k+1,hk=>by
  have w:=Yl8 h p m o q k q41_;by_cases d:S k=true∧Y k=true
  ·have g:cutP S Y (k+1)=remP (cutP S Y k) k:=by
    funext i
    unfold cutP remP;by_cases e:i=k
    ·subst e;simp [d.2]
    ·rw [show decide (i<k+1)=decide (i<k) from decide_eq_decide.2 q41_]
     simp [e]
   have r:cutP S Y k k=true:=by simp [cutP,d.1]
   have u:cutP S Y (k+1)=andP (cutP S Y k) (remP S k):=by
    rw [g]
    funext i
    unfold remP andP cutP;cases hs:S i<;>simp [hs]
   have v:orP (cutP S Y k) (remP S k)=S:=by
    funext i
    by_cases e:i=k
    ·subst e;unfold orP;rw [r,d.1];rfl
    ·unfold orP
     rw [T1_ e];unfold cutP;cases S i<;>simp
   have j:k<n:=q41_;have part:∀ {P:Nat→Bool},(∀ i,i<n→P i=true→S i=true)→f P=cnt P n:=fun hP=>h.part hP p;have D:=part (P:=cutP S Y k) fun i _ c=>by unfold cutP at c;rw [Bool.and_eq_true] at c;exact c.1
   have E:=part (P:=remP S k) fun i _ c=>by unfold remP at c;rw [Bool.and_eq_true] at c;exact c.1
   have F:=part (P:=cutP S Y (k+1)) fun i _ c=>by unfold cutP at c;rw [Bool.and_eq_true] at c;exact c.1
   have s:=O5_ j r;rw [← g] at s;have C:=O5_ j d.1;have hl:=q k j d.1 d.2;have G:=h.up' (remP S k) m;have B:=h.submod (insP (cutP S Y k) x) (insP (remP S k) x);have z:orP (insP (cutP S Y k) x) (insP (remP S k) x)=insP S x:=by
    funext i
    have e:=congrFun v i;simp only [orP] at e;simp only [orP,insP];cases i==x
    ·simpa using e
    ·simp
   have A:andP (insP (cutP S Y k) x) (insP (remP S k) x)=insP (cutP S Y (k+1)) x:=by
    funext i
    have e:=congrFun u i;simp only [andP] at e;simp only [andP,insP];cases i==x
    ·simpa using e.symm
    ·simp
   rw [z,A] at B;have H:=h.up' (cutP S Y (k+1)) m;omega
  ·have g:cutP S Y (k+1)=cutP S Y k:=by
    funext i
    unfold cutP;by_cases e:i=k
    ·subst e
     cases hs:S i
     ·rfl
     ·cases hy:Y i
      ·simp
      ·exact absurd ⟨hs,hy⟩ d
    ·rw [show decide (i<k+1)=decide (i<k) from decide_eq_decide.2 q41_]
   rw [g];exact w
theorem Zl0 (h:Rk n f) {S Y W:Nat→Bool} (m:f S=cnt S n) (q:∀ i,i<n→W i=true→Y i=false) (p:∀ x,x<n→W x=true→S x=false→f (insP S x)=f S)
  (r:∀ x,x<n→W x=true→S x=false→∀ y,y<n→S y=true→Y y=true→f (insP (remP S y) x)<cnt S n) (s:∀ i,i<n→S i=true→Y i=false→W i=true) :
  f W=cnt (andP S W) n:=by
 have e:∀ i,i<n→cutP S Y n i=andP S W i:=fun i c=>by
  unfold cutP andP;rw [decide_eq_true c,Bool.true_and];cases hs:S i
  ·rfl
  ·cases hy:Y i
   ·rw [s i c hs hy];rfl
   ·cases g:W i
    ·rfl
    ·rw [q i c g] at hy;cases hy
 have u:=h.part (P:=andP S W) (Q:=S) (fun i _ c=>by unfold andP at c;rw [Bool.and_eq_true] at c;exact c.1) m;have o:=h.closed (andP S W) W (fun x j g=>by
  cases hs:S x
  ·have k:=Yl8 h m j (p x j g hs) (r x j g hs) n (le_refl _)
   rw [h.ext (P:=cutP S Y n) (Q:=andP S W) e,h.ext (P:=insP (cutP S Y n) x) (Q:=insP (andP S W) x) fun i c=>by
    by_cases d:i=x
    ·rw [d,V2_,V2_]
    ·rw [V0_ d,V0_ d,e i c]] at k
   exact k
  ·rw [I6_ (by unfold andP;rw [hs,g];rfl)]) n (le_refl _)
 rw [E6_ h] at o;have d:orP (andP S W) W=W:=by
  funext i
  unfold orP andP;cases W i<;>simp
 rw [d] at o;omega
end
open Go Go.RowKit
noncomputable def C0_ (m:Mat) (s:List Int) (x y:Int):Bool:=hasB s y && (!hasB s x && indT m (Z9_ (Z5_ s [y]) [x]))
noncomputable def arcsG (a b:Mat) (s:List Int) (p:Int):List Int:=(upTo (nN a)).filter fun q=>C0_ a s q p || C0_ b s p q
noncomputable def adjG (a b:Mat) (s:List Int):List (List Int):=(upTo (nN a)).map (arcsG a b s)
noncomputable def addG (m:Mat) (s:List Int):List Int:=(upTo (nN m)).filter fun x=>!hasB s x && indT m (Z9_ s [x])
def turnL (s l:List Int):List Int:=if mayB s=true∧(sortL l).length=l.length then Z9_ (Z5_ s (sortL l)) (Z5_ (sortL l) s) else []
structure Common (a b:Mat) (s:List Int):Prop where
 n:a.n=b.n
 ia:indT a s=true
 ib:indT b s=true
theorem mem_upTo {k:Nat} {x:Int}:x∈upTo k↔0≤x∧x<(k:Int):=by
 unfold upTo;rw [List.mem_map];constructor
 ·rintro ⟨i,c,rfl⟩
  rw [List.mem_range] at c;exact ⟨by show (0:Int)≤(i:Int);omega,by show (i:Int)<_;omega⟩
 ·rintro ⟨d,e⟩
  exact ⟨x.toNat,List.mem_range.2 q41_,by show ((x.toNat:Nat):Int)=x;omega⟩
theorem Zr2 {s:List Int} {x:Nat} (hs:IsSet s):hasB s (x:Int)=memP s x:=by
 rw [Bool.eq_iff_iff,E0_ hs,memP_iff]
section
variable {m:Mat} {s:List Int}
theorem Zf2 {n x:Nat} (d:n≤64) (e:x<n):InN n [(x:Int)]:=⟨⟨j41_,fun z c=>by rw [List.mem_singleton.1 c];exact ⟨q41_,q41_⟩⟩,fun z c=>by rw [List.mem_singleton.1 c];omega⟩
theorem Yx2 (h:indT m s=true) {x y:Nat} (hx:x<nN m) (hy:y<nN m):C0_ m s x y=true↔memP s y=true∧memP s x=false∧rkP 4 m (insP (remP (memP s) y) x)=cnt (memP s) (nN m):=by
 obtain ⟨hc,c⟩:=mayI_iff.1 (J6_ h);have g:=(Z8_ hc).2;have d:=Zf2 g hx;have f:=Zf2 g hy;have hU:InN (nN m) (Z9_ (Z5_ s [(y:Int)]) [(x:Int)]):=A7_ (Zd4 c f) d;have e:memP (Z9_ (Z5_ s [(y:Int)]) [(x:Int)])=insP (remP (memP s) y) x:=by
  funext i
  rw [Bool.eq_iff_iff,memP_iff,J1_ (J0_ _ _) d.1,Y7_ c.1 f.1];unfold insP remP;rw [Bool.or_eq_true,Bool.and_eq_true,beq_iff_eq,Bool.not_eq_true',memP_iff];simp only [List.mem_singleton,beq_eq_false_iff_ne,Int.natCast_inj,ne_eq];exact Or.comm
 unfold C0_;rw [Bool.and_eq_true,Bool.and_eq_true,Bool.not_eq_true',Zr2 c.1,Zr2 c.1,E8_ (mayI_iff.2 ⟨hc,hU⟩),X4_ hU,e];constructor
 ·exact y16_
 ·exact y16_
theorem T2_ (h:indT m s=true) {x:Nat}:(x:Int)∈addG m s↔x<nN m∧memP s x=false∧rkP 4 m (insP (memP s) x)=cnt (memP s) (nN m)+1:=by
 obtain ⟨hc,c⟩:=mayI_iff.1 (J6_ h);have g:=(Z8_ hc).2;unfold addG;rw [List.mem_filter,mem_upTo];constructor
 ·rintro ⟨⟨_,f⟩,d⟩
  have e:x<nN m:=q41_;have h3:=Zf2 g e;rw [Bool.and_eq_true,Bool.not_eq_true',Zr2 c.1,E8_ (mayI_iff.2 ⟨hc,A7_ c h3⟩),X4_ (A7_ c h3),K4_ c.1 h3.1,Zr1 q41_,Int.toNat_natCast] at d;rw [B2_ e d.1] at d;exact ⟨e,d.1,d.2⟩
 ·rintro ⟨e,f,d⟩
  have h3:=Zf2 g e;refine ⟨⟨q41_,q41_⟩,?_⟩;rw [Bool.and_eq_true,Bool.not_eq_true',Zr2 c.1,E8_ (mayI_iff.2 ⟨hc,A7_ c h3⟩),X4_ (A7_ c h3),K4_ c.1 h3.1,Zr1 q41_,Int.toNat_natCast,B2_ e f];exact ⟨f,d⟩
theorem Zy7 (c:indT m s=true):rkP 4 m (memP s)=cnt (memP s) (nN m):=by
 obtain ⟨hc,d⟩:=mayI_iff.1 (J6_ c);rw [← X4_ d];exact (E8_ (J6_ c)).1 c
end
section
variable {a b:Mat} {s:List Int}
theorem Common.nn (h:Common a b s):nN b=nN a:=by unfold nN;rw [h.n]
theorem Xf0 {x:Nat} (c:x<nN a):(adjG a b s).getD x []=arcsG a b s (x:Int):=by
 unfold adjG upTo;simp [List.getD,c]
theorem D6_:(adjG a b s).length=nN a:=by unfold adjG;rw [List.length_map,J2_]
theorem T3_ (h:Common a b s) {x y:Nat} (c:x<nN a) (d:y<nN a):(y:Int)∈(adjG a b s).getD x [] ↔
  (memP s x=true∧memP s y=false∧rkP 4 a (insP (remP (memP s) x) y)=cnt (memP s) (nN a))∨(memP s y=true∧memP s x=false∧rkP 4 b (insP (remP (memP s) y) x)=cnt (memP s) (nN a)):=by
 rw [Xf0 c];unfold arcsG;rw [List.mem_filter,mem_upTo,Bool.or_eq_true,Yx2 h.ia d c,Yx2 h.ib (by rw [h.nn];exact c) (by rw [h.nn];exact d),h.nn];exact ⟨fun h=>h.2,fun h=>⟨⟨q41_,q41_⟩,h⟩⟩
theorem Vs4 {x:Nat} (d:x<nN a) {y:Int} (c:y∈(adjG a b s).getD x []):0≤y∧y<(nN a:Int):=by
 rw [Xf0 d] at c;exact mem_upTo.1 (List.mem_filter.1 c).1
theorem Xw9 {l:List Int} (d:l.Nodup) (c:∀ x∈l,Fit x):(sortL l).length=l.length:=by
 refine ((List.perm_ext_iff_of_nodup ((V8_ l).1.imp fun h e=>by omega) d).2 fun x=>?_).length_eq;rw [B5_];exact ⟨fun h=>h.1,fun h=>⟨h,c x h⟩⟩
theorem Yx3 (h:Common a b s) {d:Nat} {l:List Int} (r:Greedy (adjG a b s) (addG b s) (addG a s) d l):(turnL s l).length=s.length+1∧indT a (turnL s l)=true∧indT b (turnL s l)=true∧InN (nN a) (turnL s l):=by
 obtain ⟨E,w⟩:=mayI_iff.1 (J6_ h.ia);obtain ⟨N,_⟩:=mayI_iff.1 (J6_ h.ib);have hn:=(Z8_ E).2;have x8:=r.length;have K:=rk_of E;have A:=rk_of N;rw [h.nn] at A;have X:=Zy7 h.ia;have L:=Zy7 h.ib;rw [h.nn] at L;have J:∀ i,i<l.length→0≤l.getD i 0∧l.getD i 0<(nN a:Int):=by
  intro i
  induction i with
  | zero=>intro _;exact mem_upTo.1 (List.mem_filter.1 r.first).1
  | succ i ih =>
   intro c;have v:=ih q41_;have h1:=r.arcs i c;exact Vs4 q41_ h1
 obtain ⟨p,hp⟩:∃ p:Nat→Nat,∀ i,p i=(l.getD i 0).toNat:=⟨_,fun _=>rfl⟩;have q:∀ i,i<l.length→l.getD i 0=(p i:Int):=fun i c=>by rw [hp];have:=J i c;omega
 have o:∀ i,i<l.length→p i<nN a:=fun i c=>by have:=J i c;have:=q i c;omega
 have D:∀ i,i+1<l.length→(p (i+1):Int)∈(adjG a b s).getD (p i) []:=fun i c=>by
  have:=r.arcs i c
  rwa [q i q41_,q (i+1) c,Int.toNat_natCast] at this
 have U:∀ i j,i+2≤j→j<l.length→¬ (p j:Int)∈(adjG a b s).getD (p i) []:=fun i j z g=>by
  have:=r.straight i j z g
  rwa [q i q41_,q j g,Int.toNat_natCast] at this
 have I:∀ i,i<l.length→memP s (p i)=decide (i % 2=1):=by
  intro i
  induction i with
  | zero =>
   intro c;have h1:=r.first;rw [q 0 c,T2_ h.ia] at h1;rw [h1.2.1];rfl
  | succ i ih =>
   intro c;have v:=ih q41_;rcases (T3_ h (o i q41_) (o (i+1) c)).1 (D i c) with ⟨h1,h2,_⟩ | ⟨h1,h2,_⟩
   ·rw [h1] at v
    have:=of_decide_eq_true v.symm;rw [h2];exact (decide_eq_false q41_).symm
   ·rw [h2] at v
    have:=of_decide_eq_false v.symm;rw [h1];exact (decide_eq_true q41_).symm
 have G:=r.last;rw [q d q41_,T2_ h.ib,h.nn] at G;have x7:d % 2=0:=by
  have h1:=I d q41_;rw [G.2.1] at h1;have:=of_decide_eq_false h1.symm;omega
 obtain ⟨k,rfl⟩:∃ k,d=2 * k:=⟨d / 2,q41_⟩;have T:∀ i j,i≤2 * k→j≤2 * k→p i=p j→i=j:=fun i j c g e=>by
  rcases Nat.lt_trichotomy i j with H | x0 | H
  ·exact absurd (by rw [q i q41_,q j q41_,e]) (r.inj i j H q41_)
  ·exact x0
  ·exact absurd (by rw [q i q41_,q j q41_,e]) (r.inj j i H q41_)
 have u:∀ i,i≤k→memP s (p (2 * i))=false:=fun i c=>by rw [I _ q41_];exact decide_eq_false q41_
 have hwi:∀ i,i<k→memP s (p (2 * i+1))=true:=fun i c=>by rw [I _ q41_];exact decide_eq_true q41_
 have hz:Zig (nN a) (memP s) p k:=⟨fun i c=>o i q41_,T,u,hwi⟩;have one:∀ {f:(Nat→Bool)→Nat},Rk (nN a) f→f (memP s)=cnt (memP s) (nN a)→∀ {x:Nat},x<nN a→¬ f (insP (memP s) x)=cnt (memP s) (nN a)+1→f (insP (memP s) x)=f (memP s):=fun hr hs x hx x3=>by
  have u1:=hr.up' (memP s) hx;have u2:=hr.one' (memP s) hx;omega
 have W:∀ {f:(Nat→Bool)→Nat},Rk (nN a) f→∀ {x y:Nat},x<nN a→y<nN a→memP s y=true→memP s x=false→¬ f (insP (remP (memP s) y) x)=cnt (memP s) (nN a)→f (insP (remP (memP s) y) x)<cnt (memP s) (nN a):=fun hr x y hx hy h1 h2 x3=>k16_;have Q:=r.first;rw [q 0 q41_,T2_ h.ia] at Q;have x4:Straight (nN a) (rkP 4 a) (memP s) p k:=by
  refine ⟨Q.2.2,fun i c=>?_,fun i c=>?_,fun i j z g=>?_⟩
  ·refine one K X (o _ q41_) fun e=>r.notFirst (2 * i+2) q41_ q41_ ?_
   rw [q _ q41_,T2_ h.ia];exact ⟨o _ q41_,u (i+1) q41_,e⟩
  ·rcases (T3_ h (o (2 * i+1) q41_) (o (2 * i+2) q41_)).1 (D (2 * i+1) q41_) with ⟨_,_,h3⟩ | ⟨h1,_,_⟩
   ·exact h3
   ·have:=u (i+1) q41_
    rw [show 2 * (i+1)=2 * i+2 by omega,h1] at this;cases this
  ·refine W K (o _ q41_) (o _ q41_) (hwi i q41_) (u (j+1) q41_) fun e=>U (2 * i+1) (2 * j+2) q41_ q41_ ?_
   exact (T3_ h (o _ q41_) (o _ q41_)).2 (.inl ⟨hwi i q41_,u (j+1) q41_,e⟩)
 have x6:Zig (nN a) (memP s) (fun i=>p (2 * k - i)) k:=by
  refine ⟨fun i _=>o _ q41_,fun i j c g e=>by have:=T _ _ q41_ q41_ e;omega,fun i c=>?_,fun i c=>?_⟩
  ·show memP s (p (2 * k - 2 * i))=false
   rw [show 2 * k - 2 * i=2 * (k - i) by omega];exact u _ q41_
  ·show memP s (p (2 * k - (2 * i+1)))=true
   exact j26_
 have x5:Straight (nN a) (rkP 4 b) (memP s) (fun i=>p (2 * k - i)) k:=by
  refine ⟨G.2.2,fun i c=>?_,fun i c=>?_,fun i j z g=>?_⟩
  ·show rkP 4 b (insP (memP s) (p (2 * k - (2 * i+2))))=_
   refine one A L (o _ q41_) fun e=>r.notLast (2 * k - (2 * i+2)) q41_ ?_;rw [q _ q41_,T2_ h.ib,h.nn];refine ⟨o _ q41_,?_,e⟩;rw [show 2 * k - (2 * i+2)=2 * (k - i - 1) by omega];exact u _ q41_
  ·show rkP 4 b (insP (remP (memP s) (p (2 * k - (2 * i+1)))) (p (2 * k - (2 * i+2))))=_
   have e1:2 * k - (2 * i+1)=2 * k - (2 * i+2)+1:=q41_;have v:=D (2 * k - (2 * i+2)) q41_;rw [← e1] at v;rcases (T3_ h (o _ q41_) (o _ q41_)).1 v with ⟨h1,_,_⟩ | ⟨_,_,h3⟩
   ·have:=u (k - i - 1) q41_
    rw [show 2 * (k - i - 1)=2 * k - (2 * i+2) by omega,h1] at this;cases this
   ·exact h3
  ·show rkP 4 b (insP (remP (memP s) (p (2 * k - (2 * i+1)))) (p (2 * k - (2 * j+2))))<_
   have hy:memP s (p (2 * k - (2 * i+1)))=true:=j26_;have hx:memP s (p (2 * k - (2 * j+2)))=false:=by
    rw [show 2 * k - (2 * j+2)=2 * (k - j - 1) by omega];exact u _ q41_
   refine W A (o _ q41_) (o _ q41_) hy hx fun e=>U (2 * k - (2 * j+2)) (2 * k - (2 * i+1)) q41_ q41_ ?_;exact (T3_ h (o _ q41_) (o _ q41_)).2 (.inr ⟨hy,hx,e⟩)
 have Y:=Yx1 K X hz x4;have Z:=Yx1 A L x6 x5;have x1:∀ i:Nat,(i:Int)∈l↔∃ j,j≤2 * k∧p j=i:=fun i=>by
  constructor
  ·intro c
   obtain ⟨j,g,e⟩:=List.mem_iff_getElem.1 c;have:=q j g;rw [show l.getD j 0=l[j] by simp [List.getD,g],e] at this;exact ⟨j,q41_,q41_⟩
  ·rintro ⟨j,g,e⟩
   rw [← e,← q j q41_];exact D4_ 0 q41_
 have S:∀ x∈l,0≤x∧x<(nN a:Int):=fun x hx=>by
  obtain ⟨j,g,e⟩:=List.mem_iff_getElem.1 hx;have:=J j g
  rwa [show l.getD j 0=l[j] by simp [List.getD,g],e] at this
 have R:∀ x∈l,Fit x:=fun x hx=>by have:=S x hx;exact ⟨q41_,q41_⟩
 have x2:l.Nodup:=by
  rw [List.nodup_iff_pairwise_ne,List.pairwise_iff_getElem];intro i j c g z e;refine r.inj i j z g ?_;simp [List.getD,c,g,e]
 have hL:InN (nN a) (sortL l):=⟨V8_ l,fun x hx=>S x ((B5_ x l).1 hx).1⟩;have V:turnL s l=Z9_ (Z5_ s (sortL l)) (Z5_ (sortL l) s):=by
  unfold turnL;rw [if_pos ⟨I3_ w.1,Xw9 x2 R⟩]
 have B:InN (nN a) (turnL s l):=by rw [V];exact A7_ (Zd4 w hL) (Zd4 hL w)
 have hany:∀ i:Nat,((List.range (2 * k+1)).any fun j=>p j==i)=true↔(i:Int)∈l:=fun i=>by
  rw [List.any_eq_true,x1];constructor
  ·rintro ⟨j,g,e⟩;rw [List.mem_range] at g;exact ⟨j,q41_,by simpa using e⟩
  ·rintro ⟨j,g,e⟩;exact ⟨j,List.mem_range.2 q41_,by simpa using e⟩
 have eT:∀ i,memP (turnL s l) i=turnP (memP s) p k i:=fun i=>by
  rw [Bool.eq_iff_iff,memP_iff,V,J1_ (J0_ _ _) (J0_ _ _),Y7_ w.1 hL.1,Y7_ hL.1 w.1,B5_];unfold turnP;rw [bne_iff_ne];have O:(i:Int)∈l→Fit (i:Int):=fun h=>R _ h;rw [← memP_iff];cases h1:memP s i<;>cases h2:((List.range (2 * k+1)).any fun j=>p j==i)
  ·exact k24_
  ·have:=(hany i).1 h2
   simp [this,O this]
  ·exact k24_
  ·have:=(hany i).1 h2
   simp [this,O this]
 have M:∀ i,i<nN a→turnP (memP s) (fun i=>p (2 * k - i)) k i=turnP (memP s) p k i:=fun i _=>by
  unfold turnP;congr 1;rw [Bool.eq_iff_iff,List.any_eq_true,List.any_eq_true];constructor
  ·rintro ⟨j,g,e⟩;rw [List.mem_range] at g;exact ⟨2 * k - j,List.mem_range.2 q41_,e⟩
  ·rintro ⟨j,g,e⟩
   rw [List.mem_range] at g;refine ⟨2 * k - j,List.mem_range.2 q41_,?_⟩;show (p (2 * k - (2 * k - j))==i)=true;rw [show 2 * k - (2 * k - j)=j by omega];exact e
 rw [A.ext M,Q9_ M] at Z;have C:memP (turnL s l)=turnP (memP s) p k:=funext eT;have F:(turnL s l).length=s.length+1:=by rw [X4_ B,X4_ w,C];exact Y.2
 refine ⟨F,?_,?_,B⟩
 ·rw [E8_ (mayI_iff.2 ⟨E,B⟩),C,F,X4_ w]
  exact Y.1
 ·rw [E8_ (m:=b) (mayI_iff.2 ⟨N,by rw [h.nn];exact B⟩),C,F,X4_ w]
  exact Z.1
theorem Yu4 (h:Common a b s) {W:List Int} (p:InN (nN a) W) (F:∀ x∈addG a s,x∈W) (v:∀ x:Nat,(x:Int)∈W→∀ y∈(adjG a b s).getD x [],y∈W) (E:∀ x∈W,x∉addG b s) :
  rankT a (Z5_ (allL a.n) W)+rankT b W=(s.length:Int):=by
 obtain ⟨q,B⟩:=mayI_iff.1 (J6_ h.ia);obtain ⟨u,_⟩:=mayI_iff.1 (J6_ h.ib);have j:=chk_n q;have k:=rk_of q;have o:=rk_of u;rw [h.nn] at o;have z:=Zy7 h.ia;have r:=Zy7 h.ib;rw [h.nn] at r;have one:∀ {f:(Nat→Bool)→Nat},Rk (nN a) f→f (memP s)=cnt (memP s) (nN a)→∀ {x:Nat},x<nN a→¬ f (insP (memP s) x)=cnt (memP s) (nN a)+1→f (insP (memP s) x)=f (memP s):=fun hr hs x hx D=>by
  have G:=hr.up' (memP s) hx;have H:=hr.one' (memP s) hx;omega
 have w:∀ {f:(Nat→Bool)→Nat},Rk (nN a) f→∀ {x y:Nat},x<nN a→y<nN a→memP s y=true→memP s x=false→¬ f (insP (remP (memP s) y) x)=cnt (memP s) (nN a)→f (insP (remP (memP s) y) x)<cnt (memP s) (nN a):=fun hr x y hx hy h1 h2 D=>k16_;have hb:=Zl0 o (Y:=notP (memP W)) (W:=memP W) r (fun i _ c=>by unfold notP;rw [c];rfl)
  (fun x hx c hs=>one o r hx fun e=>E _ (memP_iff.1 c) (by rw [T2_ h.ib,h.nn];exact ⟨hx,hs,e⟩))
  (fun x hx c hs y hy d g=>w o hx hy d hs fun e=>by
   have h1:=v x (memP_iff.1 c) (y:Int) ((T3_ h hx hy).2 (.inr ⟨d,hs,e⟩));unfold notP at g;rw [memP_iff.2 h1] at g;cases g)
  (fun i _ _ hy=>by unfold notP at hy;simpa using hy)
 have ha:=Zl0 k (Y:=memP W) (W:=notP (memP W)) z (fun i _ c=>by unfold notP at c;simpa using c)
  (fun x hx c hs=>one k z hx fun e=>by
   have h1:=F (x:Int) ((T2_ h.ia).2 ⟨hx,hs,e⟩);unfold notP at c;rw [memP_iff.2 h1] at c;cases c)
  (fun x hx c hs y hy d g=>w k hx hy d hs fun e=>by
   have h1:=v y (memP_iff.1 g) (x:Int) ((T3_ h hy hx).2 (.inl ⟨d,hs,e⟩));unfold notP at c;rw [memP_iff.2 h1] at c;cases c)
  (fun i _ _ hy=>by unfold notP;rw [hy];rfl)
 have hO:InN (nN a) (Z5_ (allL a.n) W):=D3_ j.1 j.2 p.1;have A:∀ i,i<nN a→memP (Z5_ (allL a.n) W) i=notP (memP W) i:=fun i C=>O0_ j.1 j.2 p.1 C;rw [R1_ (mayI_iff.2 ⟨q,hO⟩),R1_ (m:=b) (mayI_iff.2 ⟨u,by rw [h.nn];exact p⟩),k.ext A,ha,hb,X4_ B];have hc:=Yy9 (andP (memP s) (notP (memP W))) (andP (memP s) (memP W)) (nN a);rw [Q9_ (P:=orP (andP (memP s) (notP (memP W))) (andP (memP s) (memP W))) (Q:=memP s) (fun i _=>by simp only [orP,andP,notP];cases memP s i<;>cases memP W i<;>rfl),
  Q9_ (P:=andP (andP (memP s) (notP (memP W))) (andP (memP s) (memP W))) (Q:=noneP) (fun i _=>by simp only [andP,notP,noneP];cases memP s i<;>cases memP W i<;>rfl),C1_] at hc
 omega
end
open Go Go.RowKit
def baseL (I:List Int→Bool):List Int→List Int→List Int
 | out,[]=>out
 | out,x :: r=>baseL I (if I (Z9_ out [x])=true then out ++ [x] else out) r
def cntC (cl s:List Int) (c:Int):Nat:=(s.filter fun x=>cl.getD x.toNat 0==c).length
def G5_ (l:List (List Int)):List Int→List Int→Bool
 | [],_=>true
 | x :: s,used=>(Z5_ (l.getD x.toNat []) used).any fun r=>G5_ l s (Z9_ used [r])
theorem Xf1 {cl s:List Int} {c:Int} {k:Nat} (d:k<s.length):cntC cl (s.take (k+1)) c=cntC cl (s.take k) c+if cl.getD (s.getD k 0).toNat 0=c then 1 else 0:=by
 unfold cntC;rw [List.take_succ_eq_append_getElem d,List.filter_append,List.length_append,show s[k]=s.getD k 0 by simp [List.getD,d]];congr 1;rw [List.filter_cons];by_cases h:cl.getD (s.getD k 0).toNat 0=c
 ·rw [if_pos h,if_pos (by rw [h];exact beq_self_eq_true c)];rfl
 ·rw [if_neg h,if_neg q45_];rfl
theorem Vh9 (cl s:List Int) (c:Int):cntC cl s c≤s.length:=List.length_filter_le _ _
end Go.Proofs.YtnbcaibflhgdoaaGreatDoor.Wp
namespace Go.Proofs.YtnbcaibflhgdoaaGreatDoor
open Go Go.RowKit
namespace Wp
theorem Row.nthV {w:World} {B:Nat} {A:Option Addr} {n c:Nat} {l:List Int} (h:Row w B (.slice A n c) l) {k:Nat} (j:k<l.length):∃ d,A=some d∧∀ W,Below B w W→W.cell? (d.add k)=some (.int .i64 (l.getD k 0)):=by
 obtain ⟨m,o,g,_,hc⟩:=h;injection g with e1 e2 e3;subst e1 e2 e3;obtain ⟨d,rfl,hab,f⟩:=hc k j;exact ⟨d,rfl,fun W e=>(e.cell q43_).trans f⟩
theorem Xf2 (x z:Value) (cl s:List Int) (c:Int) (w:World) (hc:Row w w.heap.size x cl) (hs:Row w w.heap.size z s) (v:∀ k,k<s.length→0≤s.getD k 0∧s.getD k 0<(cl.length:Int)) (V:s.length≤64) :
  Calls Tryz.prog 157 #[x,z,.int .i64 c] w (Tells w (cntC cl s c:Nat)):=by
 have B:=hid hc;have C:=hid hs;have E:=hid v;have U:(s.length:Int)≤64:=q41_;obtain ⟨J,O,rfl,_⟩:=hc;obtain ⟨K,cs,rfl,_⟩:=hs;clear v
 go_enter Tryz.func157,Tryz.ntmps157
 go_wp2
 go_loopw [7,8] (fun I o wr=>∃ k:Nat,o=.int .i64 (k:Int)∧k≤s.length∧I=.int .i64 (cntC cl (s.take k) c:Nat)∧Below w.heap.size w wr) (fun _ o _=>s.length - (intOf o).toNat)
 case atStart=>exact ⟨0,rfl,Nat.zero_le _,by rw [List.take_zero];rfl,Below.refl _ _⟩
 case round =>
  obtain ⟨k,rfl,S,rfl,q⟩:=hrel;have e:=hid q;clear q;by_cases j:k<s.length
  ·have T:(k:Int)<(s.length:Int):=by omega
   obtain ⟨M,hA,u⟩:=Row.nthV C.out j;subst hA;have gs:=u _ e.out;have m:=E.out k j;have d:=hid (Xf1 (cl:=cl) (c:=c) j);have H:=Vh9 cl (s.take k) c;rw [List.length_take] at H;obtain ⟨X,p⟩:∃ X:Nat,s.getD k 0=(X:Int):=⟨(s.getD k 0).toNat,q41_⟩;rw [p] at gs m d;rw [show ((X:Int)).toNat=X from rfl] at d;obtain ⟨L,F,r⟩:=Row.nthV B.out (k:=X) q41_;subst F;have P:=r _ e.out;generalize cl.getD X 0=y at *
   generalize cntC cl (s.take k) c=N at *
   have Q:(N:Int)≤64:=q41_;have R:(X:Int)<(cl.length:Int):=m.2;clear u r p m;by_cases g:y=c
   ·have h:Hid (cntC cl (s.take (k+1)) c=N+1):=hid (by rw [d.out,if_pos g])
    clear d;subst g;go_wp2
    go_roundw
    case rel=>exact ⟨k+1,z42_,q41_,by rw [h.out];go_num,e.out⟩
    case measure=>simp [intOf];omega
   ·have h:Hid (cntC cl (s.take (k+1)) c=N):=hid (by rw [d.out,if_neg g,Nat.add_zero])
    have W:(y==c)=false:=by simpa using g
    clear d;go_wp2
    go_roundw
    case rel=>exact ⟨k+1,z42_,q41_,by rw [h.out],e.out⟩
    case measure=>simp [intOf];omega
  ·have G:k=s.length:=by omega
   subst G;have D:Hid (s.take s.length=s):=hid List.take_length;rw [D.out];go_wp2;go_ret;exact ⟨rfl,e.out⟩
theorem Row.oneV {w:World} {B:Nat} {A:Option Addr} {n c:Nat} {l:List Int} (h:Row w B (.slice A n c) l) {i:Nat} (j:i<l.length):∃ d,A=some d∧n=l.length∧i<c∧Row w B (.slice (some (d.add i)) 1 (c - i)) [l.getD i 0]:=by
 obtain ⟨p,q,g,⟨r,s,h3⟩,m⟩:=h;injection g with e1 e2 e3;subst e1 e2 e3;obtain ⟨d,rfl,f,hc⟩:=m i j;refine ⟨d,rfl,rfl,q41_,_,_,rfl,⟨by simp;omega,q41_,fun e=>by cases e⟩,fun k o=>?_⟩;have:k=0:=by simpa using o
 subst this;exact ⟨_,rfl,by rw [Z2_];exact f,by rw [add_zero];exact hc⟩
theorem Yd6 (e:Value) (s:List Int) (f n:Int) (w:World) (h:Row w w.heap.size e s) (hs:∀ k,k<s.length→0≤s.getD k 0∧s.getD k 0≤64) (o:0≤f∧f≤1000) (q:0≤n∧n≤1000) (u:s.length≤64) :
  Calls Tryz.prog 121 #[e,.int .i64 f,.int .i64 n] w (Gives w (betL s f n)):=by
 obtain ⟨m,cs,rfl,_,d⟩:=h;have Hsk:=hid d;have Hs:=hid hs;have r:(s.length:Int)≤64:=q41_;have v:IntKind.i64.wrap (f+n)=f+n:=q42_;have hown0:(w.alloc (.cells #[] 3)).ownsRow w.heap.size 3 1 (.slice (some ⟨w.heap.size,0,none⟩) 0 0) ([]:List Int).length (ints []) :=
  World.ownsRow_made w #[] 0 (le_refl _) y42_ rfl
 have g:Below w.heap.size w (w.alloc (.cells #[] 3)):=(Below.refl _ w).alloc (le_refl _) _;clear d hs
 go_enter Tryz.func121,Tryz.ntmps121
 go_wp2
 go_loopw [7,8] (fun j c wr=>∃ k:Nat,c=.int .i64 k∧k≤s.length∧wr.ownsRow w.heap.size 3 1 j (betL (s.take k) f n).length (ints (betL (s.take k) f n))∧Below w.heap.size w wr) (fun _ c _=>s.length - (intOf c).toNat)
 case atStart=>exact ⟨0,rfl,Nat.zero_le _,hown0,g⟩
 case round =>
  exact x1_
open Go Go.RowKit
theorem Vz0 {n:Nat} (e:n≤64) {x:Int} (d:0≤x∧x<(n:Int)):InN n [x]:=⟨⟨j41_,fun z c=>by rw [List.mem_singleton.1 c];exact ⟨q41_,q41_⟩⟩,fun z c=>by rw [List.mem_singleton.1 c];exact d⟩
theorem Vi0 {n:Nat} (c:n≤64) {out:List Int} {x:Int} (ho:InN n out) (d:0≤x∧x<(n:Int)) (hlt:∀ y∈out,y<x):InN n (out ++ [x])∧InN n (Z9_ out [x]):=by
 have h1:=Vz0 c d;refine ⟨⟨⟨?_,fun y hy=>?_⟩,fun y hy=>?_⟩,⟨B6_ _ _,fun y hy=>?_⟩⟩
 ·exact k20_
 ·exact j25_
 ·rcases List.mem_append.1 hy with hy | hy
  ·exact ho.2 y hy
  ·exact h1.2 y hy
 ·rcases (J1_ ho.1 h1.1 y).1 hy with hy | hy
  ·exact ho.2 y hy
  ·exact h1.2 y hy
theorem Xf3 {s:List Int} {k:Nat} (c:k<s.length):s.drop k=s.getD k 0 :: s.drop (k+1):=by
 rw [List.drop_eq_getElem_cons c];simp [List.getD,c]
theorem Zq6 (n:Nat) (hn:n≤64) (I:List Int→Bool) (m c1 c2 c3 c4 c5 sv:Value) (s:List Int) (w:World) (hs:InN n s) (y2:s.length≤64) (U:Row w w.heap.size sv s)
  (Z:∀ (t:List Int) (v:Value) (W:World),Below w.heap.size w W→InN n t→Row W W.heap.size v t→Calls Tryz.prog 97 #[.agg #[m,c1,c2,c3,c4,c5],v] W (Says W (I t))) :
  Calls Tryz.prog 67 #[.agg #[m,c1,c2,c3,c4,c5],sv] w (Gives w (baseL I [] s)):=by
 have HS:=hid hs;have xg:=hid Z;have y1:(s.length:Int)≤64:=q41_;obtain ⟨d,hW0⟩:∃ d,d=w.alloc (.cells #[m,c1,c2,c3,c4,c5] 25):=⟨_,rfl⟩;have xm:=hid hW0;have L:Hid (Below w.heap.size w d):=hid j43_;have B:w.heap.size<d.heap.size:=y43_;have HC:Hid (∀ (W:World),Below d.heap.size d W→W.cell? ⟨w.heap.size,0,none⟩=some m∧W.cell? ⟨w.heap.size,1,none⟩=some c1∧W.cell? ⟨w.heap.size,2,none⟩=some c2∧W.cell? ⟨w.heap.size,3,none⟩=some c3∧W.cell? ⟨w.heap.size,4,none⟩=some c4∧W.cell? ⟨w.heap.size,5,none⟩=some c5):=hid fun W o=>by
  have u:=Blk.new w 25 #[m,c1,c2,c3,c4,c5];rw [← hW0] at u;exact ⟨(o.cell (p:=⟨w.heap.size,0,none⟩) B).trans (u.cell 0),(o.cell (p:=⟨w.heap.size,1,none⟩) B).trans (u.cell 1),(o.cell (p:=⟨w.heap.size,2,none⟩) B).trans (u.cell 2),(o.cell (p:=⟨w.heap.size,3,none⟩) B).trans (u.cell 3),(o.cell (p:=⟨w.heap.size,4,none⟩) B).trans (u.cell 4),(o.cell (p:=⟨w.heap.size,5,none⟩) B).trans (u.cell 5)⟩
 have x0:=hid (U.up L.out);obtain ⟨As,cs,rfl,_⟩:=id U;have xb:d.heap.size=w.heap.size+1:=y43_;have x7:(d.alloc (.cells #[] 3)).ownsRow d.heap.size 3 1 (.slice (some ⟨w.heap.size+1,0,none⟩) 0 0) ([]:List Int).length (ints []):=by
  rw [← xb];exact World.ownsRow_made d #[] 0 (le_refl _) y42_ rfl
 have hB1:Below d.heap.size d (d.alloc (.cells #[] 3)):=(Below.refl _ d).alloc (le_refl _) _;have xk:=hid x7;have xc:=hid hB1;clear Z hs U x7 hB1
 go_enter Tryz.func67,Tryz.ntmps67
 go_wp2;rw [← xm.out];clear hW0
 go_loopw [5,6] (fun vo X wr=>∃ (k:Nat) (out:List Int),X=.int .i64 (k:Int)∧k≤s.length∧Hid (baseL I out (s.drop k)=baseL I [] s∧InN n out∧(∀ y∈out,∀ z∈s.drop k,y<z)∧out.length≤k∧wr.ownsRow d.heap.size 3 1 vo out.length (ints out)∧Below d.heap.size d wr)) (fun _ X _=>s.length - (intOf X).toNat)
 case atStart=>exact ⟨0,[],rfl,Nat.zero_le _,by rw [List.drop_zero],⟨X7_,fun x C=>absurd C j41_⟩,fun y j=>absurd j j41_,Nat.zero_le _,xk.out,xc.out⟩
 case round =>
  obtain ⟨k,out,rfl,hk,g⟩:=hrel;by_cases J:k<s.length
  ·have xz:(k:Int)<(s.length:Int):=by omega
   have y3:IntKind.i64.wrap ((k:Int)+1)=(k:Int)+1:=q42_;have R:=(Below.refl wr.heap.size wr).drew;have G:=g.out.2.2.2.2.2;obtain ⟨ad,hA,_,xw,x6⟩:=Row.oneV (x0.out.up G) J;subst hA;obtain ⟨xv,Q,S⟩:=Row.nthV x0.out J;injection Q with Q;subst Q;have T:=x6.up R;have xx:(k:Int)+1≤(cs:Int):=q41_;have K5:Hid (∀ W,Below wr.drew.heap.size wr.drew W→W.cell? ⟨w.heap.size,0,none⟩=some m∧W.cell? ⟨w.heap.size,1,none⟩=some c1∧W.cell? ⟨w.heap.size,2,none⟩=some c2∧W.cell? ⟨w.heap.size,3,none⟩=some c3∧W.cell? ⟨w.heap.size,4,none⟩=some c4∧W.cell? ⟨w.heap.size,5,none⟩=some c5):=hid fun W o=>HC.out W (Z0_ G.drew (le_refl _) o);have r:Hid (Below wr.drew.heap.size wr.drew wr.drew):=hid (Below.refl _ _);obtain ⟨x,C⟩:∃ x,s.getD k 0=x:=⟨_,rfl⟩;rw [C] at T S;have xf:=hid S;have H:=Xf3 J;rw [C] at H;have D:=hid H;have xn:Hid (0≤x∧x<(n:Int)):=hid (HS.out.2 x (by rw [← C];simp [List.getD,J]));have xq:Hid (∀ (A:Option Addr) (n c:Nat),A=some (ad.add k)→n=1→c=cs - k→Row wr.drew wr.drew.heap.size (.slice A n c) [x]):=hid fun A n c O P h3=>by subst O P h3;exact T
   have Y:=hid (Vi0 hn g.out.2.1 xn.out fun y j=>g.out.2.2.1 y j x (by rw [H];simp));have xl:=hid ((Row.of_own g.out.2.2.2.2.1 rfl).up R);have xj:Hid (out.length≤1048576):=hid (by have:=g.out.2.2.2.1;omega);obtain ⟨z,V⟩:∃ z,I (Z9_ out [x])=z:=⟨_,rfl⟩;have HZ:=hid V;have xe:=hid (Z0_ L.out (le_refl _) (G.drew.mono (le_refl _)));have xh:Hid (∀ (v:Value) (W:World),Below wr.drew.heap.size wr.drew W→Row W W.heap.size v (Z9_ out [x])→Calls Tryz.prog 97 #[.agg #[m,c1,c2,c3,c4,c5],v] W (Says W z)):=hid fun v W O P=>by rw [← V];exact xg.out _ v W (Z0_ xe.out (le_refl _) O) Y.out.2 P
   have x5:k+1≤s.length:=q41_;have xy:(k:Int)≤(k:Int)+1:=q41_;clear x6 T H G C V S R;go_wp2
   go_region_held3 (fun W=>W.cell? ⟨w.heap.size,0,none⟩=some m∧W.cell? ⟨w.heap.size,1,none⟩=some c1∧W.cell? ⟨w.heap.size,2,none⟩=some c2∧W.cell? ⟨w.heap.size,3,none⟩=some c3∧W.cell? ⟨w.heap.size,4,none⟩=some c4∧W.cell? ⟨w.heap.size,5,none⟩=some c5)
    (exact K5.out _ r.out)
    (first
    | (go_at_call 13;refine (A4_ _ _ out [x] _ xl.out (xq.out _ _ _ (by simp;intro h;omega) (by first | rfl | (simp;try omega)) (by first | rfl | (simp;try omega))) xj.out j41_).mono ?_;rintro e y4 ⟨xu,rfl,xa,x1⟩;replace r:=hid (Z0_ r.out (le_refl _) x1);have HU:=hid xa;clear xa x1)
    | (go_at_call_of 97 xu;refine (xh.out _ _ r.out HU.out).mono ?_;rintro e y5 ⟨rfl,x2⟩;replace r:=hid (Z0_ r.out (le_refl _) x2);clear x2))
   all_goals
    go_simp;have M:=hid (Z0_ ((Below.refl wr.heap.size wr).drew) (le_refl _) r.out);have E:=hid (Z0_ g.out.2.2.2.2.2 (le_refl _) M.out);cases z
    ·have N:Hid (baseL I out (s.drop (k+1))=baseL I [] s):=hid (by rw [← g.out.1,D.out,baseL,if_neg (by rw [HZ.out];decide)])
     have F:=hid (World.ownsRow.kept g.out.2.2.2.2.1 (Z7_ M.out none) y46_);go_wp2
     go_roundw
     case rel=>exact ⟨k+1,out,z42_,x5,N.out,g.out.2.1,fun y j q K=>g.out.2.2.1 y j q (by rw [D.out];simp [K]),by have:=g.out.2.2.2.1;omega,F.out,E.out⟩
     case measure=>simp [intOf];omega
    ·have N:Hid (baseL I (out ++ [x]) (s.drop (k+1))=baseL I [] s):=hid (by rw [← g.out.1,D.out,baseL,if_pos HZ.out])
     have F:=hid (World.ownsRow.kept g.out.2.2.2.2.1 (Z7_ M.out none) y46_);have gx:=xf.out _ E.out;have xt:=E.out.size;have y0:=g.out.2.2.2.1;have xr:Hid (∀ y∈out ++ [x],∀ q∈s.drop (k+1),y<q):=hid fun y j q K=>by
      rcases List.mem_append.1 j with j | j
      ·exact g.out.2.2.1 y j q (by rw [D.out];simp [K])
      ·rw [List.mem_singleton.1 j]
       have hp:(x :: s.drop (k+1)).Pairwise (·<·):=by rw [← D.out];exact HS.out.1.1.sublist (List.drop_sublist _ _)
       exact (List.pairwise_cons.1 hp).1 q K
     go_wp2_with (at_builtin;refine Z6_ rfl _ _ rfl d.heap.size _ _ _ out [x] rfl rfl (World.ownsRow.alloc F.out _) (Row.lit1 _ x) q41_ j41_ k41_ ?_)
     intro v8 w8 x8 x4;have x9:w8.ownsRow d.heap.size 3 1 v8 (out ++ [x]).length (ints (out ++ [x])):=by rw [List.length_append,xb];exact x8
     have x3:Below d.heap.size d w8:=(E.out.alloc xt _).grown x4 k41_ (fun i hi=>(World.ownsRow.lt F.out i hi).1);have xi:=hid x9;have xd:=hid x3;clear x8 x9 x4 x3;go_wp2
     go_roundw
     case rel=>exact ⟨k+1,out ++ [x],z42_,x5,N.out,Y.out.1,xr.out,by rw [List.length_append];simp;omega,xi.out,xd.out⟩
     case measure=>simp [intOf];omega
  ·have xs:k=s.length:=by omega
   subst xs;have xo:Hid (out=baseL I [] s):=hid (by rw [← g.out.1,List.drop_length,baseL]);have xp:=hid (Z0_ L.out (le_refl _) g.out.2.2.2.2.2);go_wp2;go_ret;exact ⟨_,rfl,by rw [← xo.out];exact Row.of_own g.out.2.2.2.2.1 rfl,xp.out⟩
end Wp
end Go.Proofs.YtnbcaibflhgdoaaGreatDoor
