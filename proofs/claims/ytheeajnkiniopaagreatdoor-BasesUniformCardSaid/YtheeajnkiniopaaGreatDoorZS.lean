/- The document's size and Small, walked: whether a matroid has little; of what has little nothing is long. The document's Few, walked. -/
import Derived.Test.YtheeajnkiniopaaGreatDoorZO
import Derived.Test.YtheeajnkiniopaaGreatDoorZG
import Derived.Deep.RegionHeld3
import Derived.Test.YtheeajnkiniopaaGreatDoorZT
import Derived.Test.YtheeajnkiniopaaGreatDoorX0A
import Derived.Test.YtheeajnkiniopaaGreatDoorX0B
set_option maxHeartbeats 8000000
set_option maxRecDepth 100000
open Go.Lib (hid)
open Nat (le_refl)
namespace Go.Proofs.YtheeajnkiniopaaGreatDoor.Wp
private theorem y2_ {P:Prop} (h:P:=by
 have hNI:(N:Int)<10000:=by omega
 obtain ⟨ad,u,hA,hab,hcu,hru⟩:=Hlk.out j hlt
 subst hA
 have hrl:=lim_r Hs.out _ (Y6_ m.l j [] hlt)
 have g1:=(Hb0.out.cell (p:=ad.add j) (by rw [Z4_];exact hab)).trans hcu
 have Hnext:Hid (N+(m.l.getD j []).length=addF List.length (1+m.l.length) (m.l.take (j+1))):=by
  show _=_
  rw [B2_ [] hlt,← HN0.out]
  exact (if_pos hN).symm
 generalize m.l.getD j []=r at *
 obtain ⟨Ar,cr,rfl,_⟩:=hru
 have hrI:(r.length:Int)≤140737488355328:=by omega
 clear hcu
 go_wp2
 go_round
 case rel=>exact ⟨N+r.length,j+1,by go_num,by go_num,by omega,Hnext.out⟩
 case measure=>simp [intOf];omega):P:=h
open Go.RowKit
def addc (n x:Nat):Nat:=if n<10000 then n+x else n
def addF {α:Type} (g:α→Nat) (s:Nat) (l:List α):Nat:=l.foldl (fun n x=>addc n (g x)) s
def rs (m:Mat):Nat:=addF List.length (1+m.l.length) m.l
def sz:Nat→Mat→Nat
 | 0,m=>addF (fun _=>10000) (rs m) m.i
 | k+1,m=>addF (sz k) (rs m) m.i
section
variable {α:Type} {g:α→Nat}
theorem Yd3 (s:Nat):addF g s ([]:List α)=s:=rfl
theorem K9_ (s:Nat) (x:α) (l:List α):addF g s (x :: l)=addF g (addc s (g x)) l:=rfl
theorem B2_ {s j:Nat} {l:List α} (d:α) (h:j<l.length):addF g s (l.take (j+1))=addc (addF g s (l.take j)) (g (l.getD j d)):=by
 rw [Zv1 l j d h];unfold addF;rw [List.foldl_append];rfl
theorem Xa8 {l:List α}:∀ {s:Nat},10000≤s→addF g s l=s:=by
 induction l with
 | nil=>intro s _;rfl
 | cons x r ih =>
  intro s h;rw [K9_,show addc s (g x)=s from if_neg k29_];exact ih h
theorem B3_ {s j:Nat} {l:List α} (h:10000≤addF g s (l.take j)):addF g s (l.take j)=addF g s l:=by
 have e:addF g s l=addF g (addF g s (l.take j)) (l.drop j):=by
  unfold addF;rw [← List.foldl_append,List.take_append_drop]
 rw [e,Xa8 h]
theorem E0_ {s:Nat} {l:List α}:addF g s (l.take l.length)=addF g s l:=by rw [List.take_length]
theorem Yx3 {X:Nat} {l:List α} (h:∀ x∈l,g x≤X):∀ {s:Nat},addF g s l≤max s (9999+X):=by
 induction l with
 | nil=>intro s;rw [Yd3];omega
 | cons x r ih =>
  intro s;have d:=h x y30_;have h2:=ih (fun y c=>h y (by simp [c])) (s:=addc s (g x));rw [K9_];have h3:addc s (g x)≤max s (9999+X):=by unfold addc;split<;>omega
  omega
theorem Zh5 {l:List α}:∀ {s:Nat},s≤addF g s l:=by
 induction l with
 | nil=>intro s;exact le_refl _
 | cons x r ih =>
  intro s;rw [K9_];have:s≤addc s (g x):=by unfold addc;split<;>omega
  exact Nat.le_trans this ih
theorem C7_ {l:List α}:∀ {s:Nat},addF g s l≤300→∀ x∈l,g x≤300:=by
 induction l with
 | nil=>intro s _ x c;cases c
 | cons y r ih =>
  intro s h x c;rw [K9_] at h;have d:=Zh5 (g:=g) (l:=r) (s:=addc s (g y));have h2:addc s (g y)≤300:=Nat.le_trans d h;rcases List.mem_cons.1 c with rfl | c
  ·unfold addc at h2
   split at h2<;>omega
  ·exact ih h x c
end
theorem rs_ge (m:Mat):1+m.l.length≤rs m:=Zh5
theorem sz_ge (k:Nat) (m:Mat):rs m≤sz k m:=by
 cases k<;>exact Zh5
theorem Xo3 {α:Type} {g:α→Nat} (h:∀ x,1≤g x) {l:List α}:∀ {s:Nat},addF g s l≤300→s+l.length≤300:=by
 induction l with
 | nil=>intro s h;rw [Yd3] at h;simpa using h
 | cons y r ih =>
  intro s hs;rw [K9_] at hs;have c:=Zh5 (g:=g) (l:=r) (s:=addc s (g y));have h2:=ih hs;have h3:=h y;unfold addc at *
  rw [List.length_cons];split at h2<;>omega
theorem Vi1 (k:Nat) (m:Mat):1≤sz k m:=by
 have:=sz_ge k m;have:=rs_ge m;omega
theorem Xa9:∀ (k:Nat) (m:Mat),sz k m≤300→Sml m:=by
 intro k
 induction k with
 | zero =>
  intro m h;have j:=rs_ge m;have h2:=sz_ge 0 m;have d:=C7_ (g:=List.length) (l:=m.l) (s:=1+m.l.length) (show rs m≤300 by omega);have c:=C7_ (g:=fun _:Mat=>10000) (l:=m.i) (s:=rs m) h;obtain ⟨t,n,a,b,l,i⟩:=m;cases i with
  | nil=>exact .mk (by simp only [Mat.l] at j;omega) (fun r e=>by have:=d r e;omega) y30_ (fun x f=>by cases f)
  | cons x r =>
   have:=c x (by simp [Mat.i]);omega
 | succ k ih =>
  intro m h;have j:=rs_ge m;have h2:=sz_ge (k+1) m;have d:=C7_ (g:=List.length) (l:=m.l) (s:=1+m.l.length) (show rs m≤300 by omega);have c:=C7_ (g:=sz k) (l:=m.i) (s:=rs m) h;have o:=Xo3 (g:=sz k) (fun x=>Vi1 k x) (l:=m.i) (s:=rs m) h;obtain ⟨t,n,a,b,l,i⟩:=m;simp only [Mat.l,Mat.i] at *
  exact .mk k29_ (fun r e=>by have:=d r e;omega) k29_ (fun x f=>ih x (c x f))
theorem lim_l {m:Mat} (h:Lim m):m.l.length≤140737488355328:=by cases h;assumption
theorem lim_r {m:Mat} (h:Lim m):∀ r∈m.l,r.length≤140737488355328:=by cases h;assumption
theorem lim_i {m:Mat} (h:Lim m):m.i.length≤140737488355328:=by cases h;assumption
theorem lim_x {m:Mat} (h:Lim m):∀ x∈m.i,Lim x:=by cases h;assumption
theorem rs_le {m:Mat} (h:Lim m):rs m≤140737488365328:=by
 have c:=Yx3 (g:=List.length) (X:=140737488355328) (l:=m.l) (lim_r h) (s:=1+m.l.length);have h2:=lim_l h;unfold rs;omega
theorem sz_le:∀ (k:Nat) (m:Mat),Lim m→sz k m≤140737488365328+10000 * (k+1):=by
 intro k
 induction k with
 | zero =>
  intro m h;have c:=Yx3 (g:=fun _:Mat=>10000) (X:=10000) (l:=m.i) (fun _ _=>le_refl _) (s:=rs m);have h2:=rs_le h;show addF _ _ _≤_;omega
 | succ k ih =>
  intro m h;have c:=Yx3 (g:=sz k) (X:=140737488365328+10000 * (k+1)) (l:=m.i) (fun x d=>ih x (lim_x h x d)) (s:=rs m);have h2:=rs_le h;show addF _ _ _≤_;omega
theorem Xo4:∀ (k:Nat) (m:Mat) (v:Value) (w:World),k≤8→MatV w w.heap.size v m→Lim m→Calls Tryz.prog 82 #[v,.int .i64 (k:Nat)] w (Tells w (sz k m)):=by
 intro k
 induction k with
 | zero =>
  intro m v w _ g hs;obtain ⟨E,C,rfl,hl,hi⟩:=g.open;obtain ⟨Al,cl,rfl,_,d⟩:=hl;obtain ⟨Ai,ci,rfl,_,c⟩:=hi;have Hlk:=hid d;have Hik:=hid c;have Hs:=hid hs;have h:=lim_l hs;have h2:=lim_i hs;have y:(m.l.length:Int)≤140737488355328:=k29_;have z:(m.i.length:Int)≤140737488355328:=k29_;have Hb0:=hid (Z1_ w m (.slice Al m.l.length cl) (.slice Ai m.i.length ci));have Hblk:=hid (Z3_ w m (.slice Al m.l.length cl) (.slice Ai m.i.length ci));have s:=Hblk.out.cell 4;have x:=Hblk.out.cell 5;clear d c hs h h2 g;unfold boxed at *
  go_enter Tryz.func82,Tryz.ntmps82
  go_wp2
  go_loop [5,6] (fun vn vi=>∃ (N j:Nat),vn=.int .i64 N∧vi=.int .i64 j∧j≤m.l.length∧N=addF List.length (1+m.l.length) (m.l.take j)) (fun _ vi=>m.l.length - (intOf vi).toNat)
  case atStart=>exact ⟨1+m.l.length,0,y31_,rfl,Nat.zero_le _,rfl⟩
  case round =>
   obtain ⟨N,j,rfl,rfl,B,hN⟩:=hrel;have HN0:=hid hN;clear hN;by_cases hlt:j<m.l.length
   ·have hltI:(j:Int)<(m.l.length:Int):=by omega
    by_cases hN:N<10000
    ·exact y2_
    ·have hNI:(10000:Int)≤(N:Int):=by omega
     have HN:Hid (N=rs m):=z21_;exact z0_
   ·have o:j=m.l.length:=by omega
    subst o;have HN:Hid (N=rs m):=by
     show _=_;rw [HN0.out,E0_];rfl
    by_cases hN:N<10000
    ·have hNI:(N:Int)<10000:=by omega
     exact z0_
    ·have hNI:(10000:Int)≤(N:Int):=by omega
     exact z0_
 | succ k ih0 =>
  intro m v w F g hs;have q:∀ (m:Mat) (v:Value) (w:World),MatV w w.heap.size v m→Lim m→Calls Tryz.prog 82 #[v,.int .i64 (k:Nat)] w (Tells w (sz k m)):=fun m v w=>ih0 m v w k29_;clear ih0;obtain ⟨E,C,rfl,hl,hi⟩:=g.open;obtain ⟨Al,cl,rfl,_,d⟩:=hl;obtain ⟨Ai,ci,rfl,_,c⟩:=hi;have Hlk:=hid d;have Hik:=hid c;have Hs:=hid hs;have h:=lim_l hs;have h2:=lim_i hs;have y:(m.l.length:Int)≤140737488355328:=k29_;have z:(m.i.length:Int)≤140737488355328:=k29_;have Hb0:=hid (Z1_ w m (.slice Al m.l.length cl) (.slice Ai m.i.length ci));have Hblk:=hid (Z3_ w m (.slice Al m.l.length cl) (.slice Ai m.i.length ci));have s:=Hblk.out.cell 4;have x:=Hblk.out.cell 5;have Ih:=hid q;have G:(k:Int)≤8:=k29_;have H:IntKind.i64.wrap ((k:Int)+1 - 1)=(k:Int):=z30_;have I:(0:Int)<(k:Int)+1:=k29_;rw [show (((k+1:Nat)):Int)=(k:Int)+1 from rfl];clear d c hs h h2 g q;unfold boxed at *
  go_enter Tryz.func82,Tryz.ntmps82
  go_wp2
  go_loop [5,6] (fun vn vi=>∃ (N j:Nat),vn=.int .i64 N∧vi=.int .i64 j∧j≤m.l.length∧N=addF List.length (1+m.l.length) (m.l.take j)) (fun _ vi=>m.l.length - (intOf vi).toNat)
  case atStart=>exact ⟨1+m.l.length,0,y31_,rfl,Nat.zero_le _,rfl⟩
  case round =>
   obtain ⟨N,j,rfl,rfl,B,hN⟩:=hrel;have HN0:=hid hN;clear hN;by_cases hlt:j<m.l.length
   ·have hltI:(j:Int)<(m.l.length:Int):=by omega
    by_cases hN:N<10000
    ·exact y2_
    ·have hNI:(10000:Int)≤(N:Int):=by omega
     have HN:Hid (N=rs m):=z21_;exact x0_
   ·have o:j=m.l.length:=by omega
    subst o;have HN:Hid (N=rs m):=by
     show _=_;rw [HN0.out,E0_];rfl
    by_cases hN:N<10000
    ·have hNI:(N:Int)<10000:=by omega
     exact x0_
    ·have hNI:(10000:Int)≤(N:Int):=by omega
     exact x0_
def smlB (m:Mat):Bool:=decide (sz 8 m≤300)
theorem Vi2 {m:Mat} (h:smlB m=true):Sml m:=Xa9 8 m (of_decide_eq_true h)
theorem Xb0 (m:Mat) (v:Value) (w:World) (d:MatV w w.heap.size v m) (hs:Lim m):Calls Tryz.prog 51 #[v] w (Says w (smlB m)):=by
 obtain ⟨o,k,u,_,_⟩:=d.open;have g:=hid (Z1_ w m o k);have r:=hid (d.up g.out);have c:=(Z3_ w m o k).cell;have x:=c 0;have y:=c 1;have z:=c 2;have B:=c 3;have C:=c 4;have E:=c 5;have s:=sz_le 8 m hs;have q:=hid (fun v W h=>Xo4 8 m v W k29_ h hs);subst u;clear d c hs;unfold boxed smlB at *
 generalize sz 8 m=D at *
 have F:(D:Int)≤140737489000000:=k29_;clear s
 go_enter Tryz.func51,Tryz.ntmps51
 go_wp2_with fail
 refine (q.out _ _ r.out).mono ?_;rintro e G ⟨rfl,j⟩;have p:=hid (Z0_ g.out (le_refl _) j);clear j;go_wp2;go_ret;refine ⟨?_,p.out⟩;rw [show decide (D≤300)=decide ((D:Int)≤300) from decide_eq_decide.2 k29_];rfl
open Go.RowKit
theorem Yn3:∀ (k:Nat) (m:Mat) (v:Value) (w:World) (left:Int),left=(k:Int)→k≤10→MatV w w.heap.size v m→Lim m→Calls Tryz.prog 81 #[v,.int .i64 left] w (Tells w (dp k m)):=by
 intro k
 induction k with
 | zero =>
  intro m v w left E _ H hs;obtain ⟨h,iv,rfl,hl,x⟩:=H.open;obtain ⟨A,c,rfl,V,y⟩:=x;have Y:=lim_i hs;have Z:(m.i.length:Int)≤140737488355328:=k29_;have Hb0:=hid (Z1_ w m h (.slice A m.i.length c));have g:=Z3_ w m h (.slice A m.i.length c);have r:=g.cell 0;have s:=g.cell 5;subst E;clear g y hl;unfold boxed at *
  by_cases h3:(0:Int)<(m.i.length:Int)
  ·exact z23_
  ·exact z23_
 | succ k ih =>
  intro m v w left E xa H hs;obtain ⟨h,iv,rfl,hl,x⟩:=H.open;obtain ⟨A,c,rfl,V,y⟩:=x;have K:=hid y;have T:=hid hs;have L:=hid ih;have Y:=lim_i hs;have Z:(m.i.length:Int)≤140737488355328:=k29_;have Hb0:=hid (Z1_ w m h (.slice A m.i.length c));have z:=hid (Z3_ w m h (.slice A m.i.length c));have r:=z.out.cell 0;have s:=z.out.cell 5;have xe:(k:Int)+1=left:=k29_;have xd:0<left:=k29_;have xb:(k:Int)≤10:=k29_;have xf:IntKind.i64.wrap (left - 1)=(k:Int):=z30_;clear y hl E ih hs;unfold boxed at *
  by_cases p:nest m.t
  ·have hd:Hid (dp (k+1) m=1+maxN (m.i.map (dp k))):=by
    show dp (k+1) m=_;rw [dp,if_pos p]
   have C:=hid p;clear p r s
   go_enter Tryz.func81,Tryz.ntmps81
   go_wp2
   go_loopw [5,6] (fun vd I wr=>∃ (d i:Nat),vd=.int .i64 d∧I=.int .i64 i∧i≤m.i.length∧d=Wp.most k i m.i∧Blk wr w.heap.size 37 #[.int .i64 m.t,.int .i64 m.n,.int .i64 m.a,.int .i64 m.b,h,.slice A m.i.length c]∧Below w.heap.size w wr) (fun _ I _=>m.i.length - (intOf I).toNat)
   case atStart=>exact ⟨0,0,rfl,rfl,Nat.zero_le _,by rw [Zv0],z.out,Hb0.out⟩
   case round =>
    obtain ⟨d,i,rfl,rfl,x,O,g,N⟩:=hrel;have Hbr:=hid N;have B:=hid g;have s:=g.cell 5;have r:=g.cell 0;have W:=Yz4 k i m.i;have x9:(d:Int)≤(k:Int)+1:=k29_;have Hdm:=hid O;clear N g O;by_cases F:i<m.i.length
    ·have xc:(i:Int)<(m.i.length:Int):=by omega
     have o:=hid (Y3_ m.t wr);rw [decide_eq_true C.out] at o
     go_wp2_with fail
     refine (o.out).mono ?_;rintro e S ⟨rfl,q⟩;have j:=hid (Z0_ Hbr.out (le_refl _) q);have Hblk2:=hid (B.out.below q B.out.lt);have x7:=Hblk2.out.cell 5;obtain ⟨ad,u,U,hab,R,P⟩:=K.out i F;subst U;have x6:=R.below j.out x31_;have Q:=(P.bel j.out).mono j.out.size;have J:=hid (L.out (m.i.getD i default) u S (k:Int) rfl k29_ Q (lim_x T.out _ (Y6_ _ _ _ F)));have G:=Zv2 k i m.i F;have X:=dp_le k (m.i.getD i default);obtain ⟨x0,x1,x2,x3,x4,x5,rfl,s0,s1,s2,s3,s4,s5⟩:=x6;obtain ⟨D,M⟩:∃ D,dp k (m.i.getD i default)=D:=⟨_,rfl⟩;rw [M] at J G X;have x8:(D:Int)≤(k:Int)+1:=k29_;have Hms:=hid G;clear R P Q K L M G W s r q o B
     go_wp2_with fail
     refine (J.out).mono ?_;rintro e w1 ⟨rfl,hb1⟩;have Hb1:=hid (Z0_ j.out (le_refl _) hb1);exact k5_
    ·exact j8_
  ·have hd:Hid (dp (k+1) m=1):=by
    show dp (k+1) m=1;rw [dp,if_neg p]
   have C:=hid p;clear p;by_cases h3:(0:Int)<(m.i.length:Int)
   ·go_enter Tryz.func81,Tryz.ntmps81
    go_wp2;refine wp_loop_rounds 1 ?_;rw [rounds_succ]
    go_wp2_with fail
    have o:=hid (Y3_ m.t (w.alloc (.cells #[.int .i64 m.t,.int .i64 m.n,.int .i64 m.a,.int .i64 m.b,h,.slice A m.i.length c] 37)));rw [decide_eq_false C.out] at o;refine (o.out).mono ?_;rintro e S ⟨rfl,q⟩;have j:=hid (Z0_ Hb0.out (le_refl _) q);go_wp2;go_ret;exact ⟨by rw [hd.out];rfl,j.out⟩
   ·exact z8_
theorem Yn4 (m:Mat) (v:Value) (w:World) (d:MatV w w.heap.size v m) (hs:Lim m):Calls Tryz.prog 50 #[v] w (Tells w (deepI m)):=by
 obtain ⟨h,g,k,_,_⟩:=d.open;have Hb0:=hid (Z1_ w m h g);have j:=hid (d.up Hb0.out);have c:=(Z3_ w m h g).cell;have o:=c 0;have p:=c 1;have q:=c 2;have r:=c 3;have s:=c 4;have u:=c 5;subst k;clear d c;unfold boxed at *
 unfold deepI
 go_enter Tryz.func50,Tryz.ntmps50
 go_wp2_with fail
 refine (Yn3 4 m _ _ 4 rfl k29_ j.out hs).mono ?_;exact k28_
def mostI (m:Mat) (most:Int):Int:=if 3≤deepI m then min most 6 else most
def fewOk (m:Mat) (most:Int):Bool:=smlB m && decide (m.n≤mostI m most) && decide (m.b≤100)
def fewB:Nat→Mat→Int→Bool
 | 0,_,_=>false
 | k+1,m,most=>fewOk m most && m.i.all fun x=>fewB k x (mostI m most)
theorem Zh6 {k:Nat} {m:Mat} {most:Int} (h:fewB (k+1) m most=true):Sml m:=by
 rw [fewB,Bool.and_eq_true] at h;unfold fewOk at h;rw [Bool.and_eq_true,Bool.and_eq_true] at h;exact Vi2 h.1.1.1
theorem Vq9 {m:Mat} (h:sz 0 m≤300):m.i=[]:=by
 have c:=C7_ (g:=fun _:Mat=>10000) (l:=m.i) (s:=rs m) h;cases e:m.i with
 | nil=>rfl
 | cons x r=>have:=c x (by rw [e];simp);omega
theorem Va0 {k:Nat} {m x:Mat} (h:sz (k+1) m≤300) (c:x∈m.i):sz k x≤300:=C7_ (g:=sz k) (l:=m.i) (s:=rs m) h x c
def FewAt (k:Nat):Prop:=∀ (m:Mat) (v:Value) (most:Int) (w:World),MatV w w.heap.size v m→Lim m→(smlB m=false∨sz k m≤300)→Calls Tryz.prog 25 #[v,.int .i64 most] w (Says w (fewB (k+1) m most))
theorem Xt0 (k:Nat) (m:Mat) (v:Value) (most M:Int) (w:World) (Y:MatV w w.heap.size v m) (hl:Lim m) (y:mostI m most=M) (B:Bool) (F:fewOk m most=B) (xh:B=true→∀ j,j<m.i.length→∀ (u:Value) (W:World),MatV W W.heap.size u (m.i.getD j default)→Calls Tryz.prog 25 #[u,.int .i64 M] W (Says W (fewB k (m.i.getD j default) M))) :
  Calls Tryz.prog 25 #[v,.int .i64 most] w (Says w (B && m.i.all fun x=>fewB k x M)):=by
 have Hl:=hid hl;have xn:=hid xh;obtain ⟨lv,iv,xv,_,hi⟩:=Y.open;obtain ⟨H,K,rfl,xs,xd⟩:=hi;have Hk:=hid xd;have xx:=lim_i hl;have xy:(m.i.length:Int)≤140737488355328:=k29_;have x6:=hid (Z1_ w m lv (.slice H m.i.length K));have x8:=hid (Y.up x6.out);have c:=hid (Z3_ w m lv (.slice H m.i.length K));have L:=c.out.cell 0;have o:=c.out.cell 1;have N:=c.out.cell 2;have q:=c.out.cell 3;have O:=c.out.cell 4;have r:=c.out.cell 5;subst xv;unfold boxed at *
 obtain ⟨D,P⟩:∃ D,deepI m=D:=⟨_,rfl⟩;have HD:=hid P;obtain ⟨Z,S⟩:∃ Z,smlB m=Z:=⟨_,rfl⟩;have HZ:=hid S;unfold mostI at y;unfold fewOk at F;rw [show mostI m most=M from y,S] at F;rw [P] at y;have C:=hid F;have HM:=hid y;obtain ⟨Q,R⟩:∃ Q,(m.i.all fun x=>fewB k x M)=Q:=⟨_,rfl⟩;have HQ:=hid R;rw [R];clear Y hl xh xd xs P S F y R;have xw:∀ (x:Int),x=M→True:=fun _ _=>trivial;clear xw;have x9:Hid ((3≤D→min most 6=M)∧(¬ 3≤D→most=M)):=hid ⟨fun h=>by have:=HM.out;rw [if_pos h] at this;exact this,fun h=>by have:=HM.out;rw [if_neg h] at this;exact this⟩
 go_enter Tryz.func25,Tryz.ntmps25
 go_wp2_with fail
 refine (Yn4 m _ _ x8.out Hl.out).mono ?_;rintro e w1 ⟨rfl,G⟩;rw [HD.out];have xj:=hid (Z0_ x6.out (le_refl _) G);have xo:=hid (x8.out.up G);have d:=hid (c.out.below G c.out.lt);clear G L o N q O r;have L:=d.out.cell 0;have o:=d.out.cell 1;have N:=d.out.cell 2;have q:=d.out.cell 3;have O:=d.out.cell 4;have r:=d.out.cell 5;by_cases hd:3≤D
 case' pos =>
  have y0:min most 6=M:=x9.out.1 k29_
  go_wp2_with fail
 case' neg =>
  have xt:M=most:=(x9.out.2 k29_).symm;subst xt
  go_wp2_with fail
 all_goals
  refine (Xb0 m _ _ xo.out Hl.out).mono ?_;rintro e w2 ⟨rfl,T⟩;rw [HZ.out];have Hb2:=hid (Z0_ xj.out (le_refl _) T);have J:=hid (d.out.below T d.out.lt);clear T L o N q O r hd;have o:=J.out.cell 1;have q:=J.out.cell 3;cases Z
  ·have s:B=false:=C.out.symm.trans y30_
   subst s;exact j2_
  ·by_cases z:m.n≤M
   ·by_cases hb:m.b≤100
    ·have xp:B=true:=C.out.symm.trans (by simp [z,hb])
     subst xp;rw [Bool.true_and];have X:¬ M<m.n:=k29_;have xa:¬ 100<m.b:=k29_;clear z hb;go_wp2;clear o q X xa
     go_loopw [5] (fun vi wr=>∃ i:Nat,vi=.int .i64 i∧i≤m.i.length∧(∀ j,j<i→fewB k (m.i.getD j default) M=true)∧Blk wr w.heap.size 37 #[.int .i64 m.t,.int .i64 m.n,.int .i64 m.a,.int .i64 m.b,lv,.slice H m.i.length K]∧Below w.heap.size w wr) (fun vi _=>m.i.length - (intOf vi).toNat)
     case atStart=>exact ⟨0,rfl,Nat.zero_le _,fun j hj=>absurd hj (Nat.not_lt_zero _),J.out,Hb2.out⟩
     case round =>
      obtain ⟨i,rfl,hi,xg,U,xb⟩:=hrel;have Hok:=hid xg;have Hbr:=hid xb;have x7:=hid U;have r:=U.cell 5;clear xg U xb;by_cases V:i<m.i.length
      ·have xz:(i:Int)<(m.i.length:Int):=by omega
       obtain ⟨ad,u,hA,hab,xi,xe⟩:=Hk.out i V;subst hA;have xu:=xi.below Hbr.out x31_;have xf:=(xe.bel Hbr.out).mono Hbr.out.size;have E:=hid (xn.out (by first | rfl | trivial) i V u wr xf);have xl:=hid (Yb7 (p:=fun x=>fewB k x M) V);have xm:Hid (fewB k (m.i.getD i default) M=true→∀ j,j<i+1→fewB k (m.i.getD j default) M=true):=hid fun hb j hj=>j7_;obtain ⟨x0,x1,x2,x3,x4,x5,rfl,s0,s1,s2,s3,s4,s5⟩:=xu;clear xi xe xf hab;rcases hz:fewB k (m.i.getD i default) M with _ | _
       ·have xq:Q=false:=HQ.out.symm.trans (xl.out hz)
        subst xq;rw [hz] at E;clear hz
        go_wp2_with fail
        refine (E.out).mono ?_;rintro e w3 ⟨rfl,g⟩;have I:=hid (Z0_ Hbr.out (le_refl _) g);clear g;go_wp2;go_ret;exact ⟨rfl,I.out⟩
       ·have Hz:=hid hz
        rw [hz] at E;clear hz
        go_wp2_with fail
        refine (E.out).mono ?_;rintro e w3 ⟨rfl,g⟩;have I:=hid (Z0_ Hbr.out (le_refl _) g);have xk:=hid (x7.out.below g x7.out.lt);clear g s0 s1 s2 s3 s4 s5 r;go_wp2
        go_roundw
        case rel=>exact ⟨i+1,y31_,k29_,xm.out Hz.out,xk.out,I.out⟩
        exact mz_
      ·have xc:i=m.i.length:=by omega
       have Hie:=hid xc;have xr:Q=true:=HQ.out.symm.trans (Yb8 (p:=fun x=>fewB k x M) j36_);subst xr;obtain rfl:=xc;exact q14_
    ·have s:B=false:=C.out.symm.trans (by simp [hb])
     subst s;have X:¬ M<m.n:=k29_;have xa:100<m.b:=k29_;clear z hb;exact j2_
   ·have s:B=false:=C.out.symm.trans (by simp [z])
    subst s;have X:M<m.n:=k29_;clear z;exact j2_
theorem Xb1:∀ k,FewAt k
 | 0=>fun m v most w f hl g=>by
  rw [show fewB (0+1) m most=(fewOk m most && m.i.all fun x=>fewB 0 x (mostI m most)) from rfl];refine Xt0 0 m v most _ w f hl rfl _ rfl fun c j d u W h=>?_;exfalso;have e:sz 0 m≤300:=g.resolve_left (by unfold fewOk at c;rw [Bool.and_eq_true,Bool.and_eq_true] at c;rw [c.1.1];decide);have o:=Vq9 e;rw [o] at d;simp at d
 | k+1=>fun m v most w f hl g=>by
  rw [show fewB (k+1+1) m most=(fewOk m most && m.i.all fun x=>fewB (k+1) x (mostI m most)) from rfl];refine Xt0 (k+1) m v most _ w f hl rfl _ rfl fun c j d u W h=>?_;have e:sz (k+1) m≤300:=g.resolve_left (by unfold fewOk at c;rw [Bool.and_eq_true,Bool.and_eq_true] at c;rw [c.1.1];decide);exact Xb1 k (m.i.getD j default) u _ W h (lim_x hl _ (Y6_ _ _ _ d)) (.inr (Va0 e (Y6_ _ _ _ d)))
theorem Zq2 (m:Mat) (v:Value) (most:Int) (w:World) (c:MatV w w.heap.size v m) (hl:Lim m):Calls Tryz.prog 25 #[v,.int .i64 most] w (Says w (fewB 9 m most)) :=
 Xb1 8 m v most w c hl (by
  by_cases h:smlB m=true
  ·exact .inr (of_decide_eq_true h)
  ·exact .inl k34_)
end Go.Proofs.YtheeajnkiniopaaGreatDoor.Wp
