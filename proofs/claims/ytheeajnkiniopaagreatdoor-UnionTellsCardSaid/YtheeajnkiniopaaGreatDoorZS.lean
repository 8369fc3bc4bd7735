/- The document's size and Small, walked: whether a matroid has little; of what has little nothing is long. The document's Few, walked. -/
import Derived.Test.YtheeajnkiniopaaGreatDoorZO
import Derived.Test.YtheeajnkiniopaaGreatDoorQGateE
import Derived.Deep.RegionHeld3
import Derived.Test.YtheeajnkiniopaaGreatDoorZT
import Derived.Test.YtheeajnkiniopaaGreatDoorX0A
import Derived.Test.YtheeajnkiniopaaGreatDoorX0B
set_option maxHeartbeats 8000000
set_option maxRecDepth 100000
open Go.Lib (hid)
open Nat (le_refl)
namespace Go.Proofs.YtheeajnkiniopaaGreatDoor.Wp
private theorem q3_ {P:Prop} (h:P:=by
 have hNI:(N:Int)<10000:=by omega
 obtain ⟨ad,u,hA,hab,hcu,hru⟩:=Hlk.out j hlt
 subst hA
 have hrl:=lim_r Hs.out _ (Y4_ m.l j [] hlt)
 have g1:=(Hb0.out.cell (p:=ad.add j) (by rw [Z2_];exact hab)).trans hcu
 have Hnext:Hid (N+(m.l.getD j []).length=addF List.length (1+m.l.length) (m.l.take (j+1))):=by
  show _=_
  rw [E4_ [] hlt,← HN0.out]
  exact (if_pos hN).symm
 generalize m.l.getD j []=r at *
 obtain ⟨Ar,cr,rfl,_⟩:=hru
 have hrI:(r.length:Int)≤140737488355328:=by omega
 clear hcu
 go_wp2
 go_round
 case rel=>exact ⟨N+r.length,j+1,by go_num,by go_num,by omega,Hnext.out⟩
 case measure=>simp [intOf];omega):P:=h
open Go.RowKit
def addc (n x:Nat):Nat:=if n<10000 then n+x else n
def addF {α:Type} (g:α→Nat) (s:Nat) (l:List α):Nat:=l.foldl (fun n x=>addc n (g x)) s
def rs (m:Mat):Nat:=addF List.length (1+m.l.length) m.l
def sz:Nat→Mat→Nat
 | 0,m=>addF (fun _=>10000) (rs m) m.i
 | k+1,m=>addF (sz k) (rs m) m.i
section
variable {α:Type} {g:α→Nat}
theorem Yo9 (s:Nat):addF g s ([]:List α)=s:=rfl
theorem O6_ (s:Nat) (x:α) (l:List α):addF g s (x :: l)=addF g (addc s (g x)) l:=rfl
theorem E4_ {s j:Nat} {l:List α} (d:α) (h:j<l.length):addF g s (l.take (j+1))=addc (addF g s (l.take j)) (g (l.getD j d)):=by
 rw [Zd0 l j d h];unfold addF;rw [List.foldl_append];rfl
theorem Xk1 {l:List α}:∀ {s:Nat},10000≤s→addF g s l=s:=by
 induction l with
 | nil=>intro s _;rfl
 | cons x r ih =>
  intro s h;rw [O6_,show addc s (g x)=s from if_neg q40_];exact ih h
theorem E5_ {s j:Nat} {l:List α} (h:10000≤addF g s (l.take j)):addF g s (l.take j)=addF g s l:=by
 have e:addF g s l=addF g (addF g s (l.take j)) (l.drop j):=by
  unfold addF;rw [← List.foldl_append,List.take_append_drop]
 rw [e,Xk1 h]
theorem H5_ {s:Nat} {l:List α}:addF g s (l.take l.length)=addF g s l:=by rw [List.take_length]
theorem Yg1 {X:Nat} {l:List α} (h:∀ x∈l,g x≤X):∀ {s:Nat},addF g s l≤max s (9999+X):=by
 induction l with
 | nil=>intro s;rw [Yo9];omega
 | cons x r ih =>
  intro s;have c:=h x z40_;have d:=ih (fun y hy=>h y k44_) (s:=addc s (g x));rw [O6_];have h3:addc s (g x)≤max s (9999+X):=by unfold addc;split<;>omega
  omega
theorem Zr3 {l:List α}:∀ {s:Nat},s≤addF g s l:=by
 induction l with
 | nil=>intro s;exact le_refl _
 | cons x r ih =>
  intro s;rw [O6_];have:s≤addc s (g x):=by unfold addc;split<;>omega
  exact Nat.le_trans this ih
theorem F9_ {l:List α}:∀ {s:Nat},addF g s l≤300→∀ x∈l,g x≤300:=by
 induction l with
 | nil=>intro s _ x c;cases c
 | cons y r ih =>
  intro s h x c;rw [O6_] at h;have e:=Zr3 (g:=g) (l:=r) (s:=addc s (g y));have d:addc s (g y)≤300:=Nat.le_trans e h;rcases List.mem_cons.1 c with rfl | c
  ·unfold addc at d
   split at d<;>omega
  ·exact ih h x c
end
theorem rs_ge (m:Mat):1+m.l.length≤rs m:=Zr3
theorem sz_ge (k:Nat) (m:Mat):rs m≤sz k m:=by
 cases k<;>exact Zr3
theorem Vv3 {α:Type} {g:α→Nat} (h:∀ x,1≤g x) {l:List α}:∀ {s:Nat},addF g s l≤300→s+l.length≤300:=by
 induction l with
 | nil=>intro s h;rw [Yo9] at h;simpa using h
 | cons y r ih =>
  intro s hs;rw [O6_] at hs;have d:=Zr3 (g:=g) (l:=r) (s:=addc s (g y));have c:=ih hs;have h3:=h y;unfold addc at *
  rw [List.length_cons];split at c<;>omega
theorem Jz0 (k:Nat) (m:Mat):1≤sz k m:=by
 have:=sz_ge k m;have:=rs_ge m;omega
theorem Xk2:∀ (k:Nat) (m:Mat),sz k m≤300→Sml m:=by
 intro k
 induction k with
 | zero =>
  intro m h;have j:=rs_ge m;have o:=sz_ge 0 m;have d:=F9_ (g:=List.length) (l:=m.l) (s:=1+m.l.length) (show rs m≤300 by omega);have c:=F9_ (g:=fun _:Mat=>10000) (l:=m.i) (s:=rs m) h;obtain ⟨t,n,a,b,l,i⟩:=m;cases i with
  | nil=>exact .mk (by simp only [Mat.l] at j;omega) (fun r e=>by have:=d r e;omega) z40_ (fun x f=>by cases f)
  | cons x r =>
   have:=c x (by simp [Mat.i]);omega
 | succ k ih =>
  intro m h;have j:=rs_ge m;have o:=sz_ge (k+1) m;have d:=F9_ (g:=List.length) (l:=m.l) (s:=1+m.l.length) (show rs m≤300 by omega);have c:=F9_ (g:=sz k) (l:=m.i) (s:=rs m) h;have p:=Vv3 (g:=sz k) (fun x=>Jz0 k x) (l:=m.i) (s:=rs m) h;obtain ⟨t,n,a,b,l,i⟩:=m;simp only [Mat.l,Mat.i] at *
  exact .mk q40_ (fun r e=>by have:=d r e;omega) q40_ (fun x f=>ih x (c x f))
theorem lim_l {m:Mat} (h:Lim m):m.l.length≤140737488355328:=by cases h;assumption
theorem lim_r {m:Mat} (h:Lim m):∀ r∈m.l,r.length≤140737488355328:=by cases h;assumption
theorem lim_i {m:Mat} (h:Lim m):m.i.length≤140737488355328:=by cases h;assumption
theorem lim_x {m:Mat} (h:Lim m):∀ x∈m.i,Lim x:=by cases h;assumption
theorem rs_le {m:Mat} (h:Lim m):rs m≤140737488365328:=by
 have c:=Yg1 (g:=List.length) (X:=140737488355328) (l:=m.l) (lim_r h) (s:=1+m.l.length);have d:=lim_l h;unfold rs;omega
theorem sz_le:∀ (k:Nat) (m:Mat),Lim m→sz k m≤140737488365328+10000 * (k+1):=by
 intro k
 induction k with
 | zero =>
  intro m h;have c:=Yg1 (g:=fun _:Mat=>10000) (X:=10000) (l:=m.i) (fun _ _=>le_refl _) (s:=rs m);have d:=rs_le h;show addF _ _ _≤_;omega
 | succ k ih =>
  intro m h;have c:=Yg1 (g:=sz k) (X:=140737488365328+10000 * (k+1)) (l:=m.i) (fun x e=>ih x (lim_x h x e)) (s:=rs m);have d:=rs_le h;show addF _ _ _≤_;omega
theorem Vv4:∀ (k:Nat) (m:Mat) (v:Value) (w:World),k≤8→MatV w w.heap.size v m→Lim m→Calls Tryz.prog 82 #[v,.int .i64 (k:Nat)] w (Tells w (sz k m)):=by
 intro k
 induction k with
 | zero =>
  intro m v w _ g hs;obtain ⟨F,E,rfl,hl,hi⟩:=g.open;obtain ⟨Al,cl,rfl,_,d⟩:=hl;obtain ⟨Ai,ci,rfl,_,c⟩:=hi;have Hlk:=hid d;have Hik:=hid c;have Hs:=hid hs;have h:=lim_l hs;have o:=lim_i hs;have z:(m.l.length:Int)≤140737488355328:=q40_;have B:(m.i.length:Int)≤140737488355328:=q40_;have Hb0:=hid (Z1_ w m (.slice Al m.l.length cl) (.slice Ai m.i.length ci));have Hblk:=hid (Z5_ w m (.slice Al m.l.length cl) (.slice Ai m.i.length ci));have x:=Hblk.out.cell 4;have y:=Hblk.out.cell 5;clear d c hs h o g;unfold boxed at *
  go_enter Tryz.func82,Tryz.ntmps82
  go_wp2
  go_loop [5,6] (fun vn vi=>∃ (N j:Nat),vn=.int .i64 N∧vi=.int .i64 j∧j≤m.l.length∧N=addF List.length (1+m.l.length) (m.l.take j)) (fun _ vi=>m.l.length - (intOf vi).toNat)
  case atStart=>exact ⟨1+m.l.length,0,x41_,rfl,Nat.zero_le _,rfl⟩
  case round =>
   obtain ⟨N,j,rfl,rfl,C,hN⟩:=hrel;have HN0:=hid hN;clear hN;by_cases hlt:j<m.l.length
   ·have hltI:(j:Int)<(m.l.length:Int):=by omega
    by_cases hN:N<10000
    ·exact q3_
    ·have hNI:(10000:Int)≤(N:Int):=by omega
     have HN:Hid (N=rs m):=j28_;exact j0_
   ·have q:j=m.l.length:=by omega
    subst q;have HN:Hid (N=rs m):=by
     show _=_;rw [HN0.out,H5_];rfl
    by_cases hN:N<10000
    ·have hNI:(N:Int)<10000:=by omega
     exact j0_
    ·have hNI:(10000:Int)≤(N:Int):=by omega
     exact j0_
 | succ k ih0 =>
  intro m v w G g hs;have s:∀ (m:Mat) (v:Value) (w:World),MatV w w.heap.size v m→Lim m→Calls Tryz.prog 82 #[v,.int .i64 (k:Nat)] w (Tells w (sz k m)):=fun m v w=>ih0 m v w q40_;clear ih0;obtain ⟨F,E,rfl,hl,hi⟩:=g.open;obtain ⟨Al,cl,rfl,_,d⟩:=hl;obtain ⟨Ai,ci,rfl,_,c⟩:=hi;have Hlk:=hid d;have Hik:=hid c;have Hs:=hid hs;have h:=lim_l hs;have o:=lim_i hs;have z:(m.l.length:Int)≤140737488355328:=q40_;have B:(m.i.length:Int)≤140737488355328:=q40_;have Hb0:=hid (Z1_ w m (.slice Al m.l.length cl) (.slice Ai m.i.length ci));have Hblk:=hid (Z5_ w m (.slice Al m.l.length cl) (.slice Ai m.i.length ci));have x:=Hblk.out.cell 4;have y:=Hblk.out.cell 5;have Ih:=hid s;have H:(k:Int)≤8:=q40_;have I:IntKind.i64.wrap ((k:Int)+1 - 1)=(k:Int):=k40_;have J:(0:Int)<(k:Int)+1:=q40_;rw [show (((k+1:Nat)):Int)=(k:Int)+1 from rfl];clear d c hs h o g s;unfold boxed at *
  go_enter Tryz.func82,Tryz.ntmps82
  go_wp2
  go_loop [5,6] (fun vn vi=>∃ (N j:Nat),vn=.int .i64 N∧vi=.int .i64 j∧j≤m.l.length∧N=addF List.length (1+m.l.length) (m.l.take j)) (fun _ vi=>m.l.length - (intOf vi).toNat)
  case atStart=>exact ⟨1+m.l.length,0,x41_,rfl,Nat.zero_le _,rfl⟩
  case round =>
   obtain ⟨N,j,rfl,rfl,C,hN⟩:=hrel;have HN0:=hid hN;clear hN;by_cases hlt:j<m.l.length
   ·have hltI:(j:Int)<(m.l.length:Int):=by omega
    by_cases hN:N<10000
    ·exact q3_
    ·have hNI:(10000:Int)≤(N:Int):=by omega
     have HN:Hid (N=rs m):=j28_;exact x0_
   ·have q:j=m.l.length:=by omega
    subst q;have HN:Hid (N=rs m):=by
     show _=_;rw [HN0.out,H5_];rfl
    by_cases hN:N<10000
    ·have hNI:(N:Int)<10000:=by omega
     exact x0_
    ·have hNI:(10000:Int)≤(N:Int):=by omega
     exact x0_
def smlB (m:Mat):Bool:=decide (sz 8 m≤300)
theorem Jz1 {m:Mat} (h:smlB m=true):Sml m:=Xk2 8 m (of_decide_eq_true h)
theorem Xk3 (m:Mat) (v:Value) (w:World) (d:MatV w w.heap.size v m) (hs:Lim m):Calls Tryz.prog 51 #[v] w (Says w (smlB m)):=by
 obtain ⟨o,k,u,_,_⟩:=d.open;have g:=hid (Z1_ w m o k);have r:=hid (d.up g.out);have c:=(Z5_ w m o k).cell;have x:=c 0;have y:=c 1;have z:=c 2;have B:=c 3;have C:=c 4;have E:=c 5;have s:=sz_le 8 m hs;have q:=hid (fun v W h=>Vv4 8 m v W q40_ h hs);subst u;clear d c hs;unfold boxed smlB at *
 generalize sz 8 m=D at *
 have F:(D:Int)≤140737489000000:=q40_;clear s
 go_enter Tryz.func51,Tryz.ntmps51
 go_wp2_with fail
 refine (q.out _ _ r.out).mono ?_;rintro e G ⟨rfl,j⟩;have p:=hid (Z0_ g.out (le_refl _) j);clear j;go_wp2;go_ret;refine ⟨?_,p.out⟩;rw [show decide (D≤300)=decide ((D:Int)≤300) from decide_eq_decide.2 q40_];rfl
open Go.RowKit
theorem Xy3:∀ (k:Nat) (m:Mat) (v:Value) (w:World) (left:Int),left=(k:Int)→k≤10→MatV w w.heap.size v m→Lim m→Calls Tryz.prog 81 #[v,.int .i64 left] w (Tells w (dp k m)):=by
 intro k
 induction k with
 | zero =>
  intro m v w left E _ H hs;obtain ⟨h,iv,rfl,hl,x⟩:=H.open;obtain ⟨A,c,rfl,V,y⟩:=x;have Y:=lim_i hs;have Z:(m.i.length:Int)≤140737488355328:=q40_;have Hb0:=hid (Z1_ w m h (.slice A m.i.length c));have g:=Z5_ w m h (.slice A m.i.length c);have r:=g.cell 0;have s:=g.cell 5;subst E;clear g y hl;unfold boxed at *
  by_cases h3:(0:Int)<(m.i.length:Int)
  ·exact z31_
  ·exact z31_
 | succ k ih =>
  intro m v w left E xa H hs;obtain ⟨h,iv,rfl,hl,x⟩:=H.open;obtain ⟨A,c,rfl,V,y⟩:=x;have K:=hid y;have T:=hid hs;have L:=hid ih;have Y:=lim_i hs;have Z:(m.i.length:Int)≤140737488355328:=q40_;have Hb0:=hid (Z1_ w m h (.slice A m.i.length c));have z:=hid (Z5_ w m h (.slice A m.i.length c));have r:=z.out.cell 0;have s:=z.out.cell 5;have xe:(k:Int)+1=left:=q40_;have xd:0<left:=q40_;have xb:(k:Int)≤10:=q40_;have xf:IntKind.i64.wrap (left - 1)=(k:Int):=k40_;clear y hl E ih hs;unfold boxed at *
  by_cases p:nest m.t
  ·have hd:Hid (dp (k+1) m=1+maxN (m.i.map (dp k))):=by
    show dp (k+1) m=_;rw [dp,if_pos p]
   have C:=hid p;clear p r s
   go_enter Tryz.func81,Tryz.ntmps81
   go_wp2
   go_loopw [5,6] (fun vd I wr=>∃ (d i:Nat),vd=.int .i64 d∧I=.int .i64 i∧i≤m.i.length∧d=Wp.most k i m.i∧Blk wr w.heap.size 37 #[.int .i64 m.t,.int .i64 m.n,.int .i64 m.a,.int .i64 m.b,h,.slice A m.i.length c]∧Below w.heap.size w wr) (fun _ I _=>m.i.length - (intOf I).toNat)
   case atStart=>exact ⟨0,0,rfl,rfl,Nat.zero_le _,by rw [Zc9],z.out,Hb0.out⟩
   case round =>
    obtain ⟨d,i,rfl,rfl,x,O,g,N⟩:=hrel;have Hbr:=hid N;have B:=hid g;have s:=g.cell 5;have r:=g.cell 0;have W:=Ye6 k i m.i;have x9:(d:Int)≤(k:Int)+1:=q40_;have Hdm:=hid O;clear N g O;by_cases F:i<m.i.length
    ·have xc:(i:Int)<(m.i.length:Int):=by omega
     have o:=hid (X1_ m.t wr);rw [decide_eq_true C.out] at o
     go_wp2_with fail
     refine (o.out).mono ?_;rintro e S ⟨rfl,q⟩;have j:=hid (Z0_ Hbr.out (le_refl _) q);have Hblk2:=hid (B.out.below q B.out.lt);have x7:=Hblk2.out.cell 5;obtain ⟨ad,u,U,hab,R,P⟩:=K.out i F;subst U;have x6:=R.below j.out k41_;have Q:=(P.bel j.out).mono j.out.size;have J:=hid (L.out (m.i.getD i default) u S (k:Int) rfl q40_ Q (lim_x T.out _ (Y4_ _ _ _ F)));have G:=Zd1 k i m.i F;have X:=dp_le k (m.i.getD i default);obtain ⟨x0,x1,x2,x3,x4,x5,rfl,s0,s1,s2,s3,s4,s5⟩:=x6;obtain ⟨D,M⟩:∃ D,dp k (m.i.getD i default)=D:=⟨_,rfl⟩;rw [M] at J G X;have x8:(D:Int)≤(k:Int)+1:=q40_;have Hms:=hid G;clear R P Q K L M G W s r q o B
     go_wp2_with fail
     refine (J.out).mono ?_;rintro e w1 ⟨rfl,hb1⟩;have Hb1:=hid (Z0_ j.out (le_refl _) hb1);exact x8_
    ·exact x12_
  ·have hd:Hid (dp (k+1) m=1):=by
    show dp (k+1) m=1;rw [dp,if_neg p]
   have C:=hid p;clear p;by_cases h3:(0:Int)<(m.i.length:Int)
   ·go_enter Tryz.func81,Tryz.ntmps81
    go_wp2;refine wp_loop_rounds 1 ?_;rw [rounds_succ]
    go_wp2_with fail
    have o:=hid (X1_ m.t (w.alloc (.cells #[.int .i64 m.t,.int .i64 m.n,.int .i64 m.a,.int .i64 m.b,h,.slice A m.i.length c] 37)));rw [decide_eq_false C.out] at o;refine (o.out).mono ?_;rintro e S ⟨rfl,q⟩;have j:=hid (Z0_ Hb0.out (le_refl _) q);go_wp2;go_ret;exact ⟨by rw [hd.out];rfl,j.out⟩
   ·exact q12_
theorem Xy4 (m:Mat) (v:Value) (w:World) (d:MatV w w.heap.size v m) (hs:Lim m):Calls Tryz.prog 50 #[v] w (Tells w (deepI m)):=by
 obtain ⟨h,g,k,_,_⟩:=d.open;have Hb0:=hid (Z1_ w m h g);have j:=hid (d.up Hb0.out);have c:=(Z5_ w m h g).cell;have o:=c 0;have p:=c 1;have q:=c 2;have r:=c 3;have s:=c 4;have u:=c 5;subst k;clear d c;unfold boxed at *
 unfold deepI
 go_enter Tryz.func50,Tryz.ntmps50
 go_wp2_with fail
 refine (Xy3 4 m _ _ 4 rfl q40_ j.out hs).mono ?_;exact j38_
def mostI (m:Mat) (most:Int):Int:=if 3≤deepI m then min most 6 else most
def fewOk (m:Mat) (most:Int):Bool:=smlB m && decide (m.n≤mostI m most) && decide (m.b≤100)
def fewB:Nat→Mat→Int→Bool
 | 0,_,_=>false
 | k+1,m,most=>fewOk m most && m.i.all fun x=>fewB k x (mostI m most)
theorem Vm0 {k:Nat} {m:Mat} {most:Int} (h:fewB (k+1) m most=true):Sml m:=by
 rw [fewB,Bool.and_eq_true] at h;unfold fewOk at h;rw [Bool.and_eq_true,Bool.and_eq_true] at h;exact Jz1 h.1.1.1
theorem Vm1 {m:Mat} (h:sz 0 m≤300):m.i=[]:=by
 have c:=F9_ (g:=fun _:Mat=>10000) (l:=m.i) (s:=rs m) h;cases e:m.i with
 | nil=>rfl
 | cons x r=>have:=c x (by rw [e];simp);omega
theorem Vm2 {k:Nat} {m x:Mat} (h:sz (k+1) m≤300) (c:x∈m.i):sz k x≤300:=F9_ (g:=sz k) (l:=m.i) (s:=rs m) h x c
def FewAt (k:Nat):Prop:=∀ (m:Mat) (v:Value) (most:Int) (w:World),MatV w w.heap.size v m→Lim m→(smlB m=false∨sz k m≤300)→Calls Tryz.prog 25 #[v,.int .i64 most] w (Says w (fewB (k+1) m most))
theorem Vc8 (k:Nat) (m:Mat) (v:Value) (most M:Int) (w:World) (V:MatV w w.heap.size v m) (hl:Lim m) (hM:mostI m most=M) (B:Bool) (E:fewOk m most=B) (xh:B=true→∀ j,j<m.i.length→∀ (u:Value) (W:World),MatV W W.heap.size u (m.i.getD j default)→Calls Tryz.prog 25 #[u,.int .i64 M] W (Says W (fewB k (m.i.getD j default) M))) :
  Calls Tryz.prog 25 #[v,.int .i64 most] w (Says w (B && m.i.all fun x=>fewB k x M)):=by
 have Hl:=hid hl;have xn:=hid xh;obtain ⟨X,iv,xv,_,hi⟩:=V.open;obtain ⟨G,I,rfl,xs,xd⟩:=hi;have Hk:=hid xd;have xx:=lim_i hl;have xy:(m.i.length:Int)≤140737488355328:=q40_;have x6:=hid (Z1_ w m X (.slice G m.i.length I));have x8:=hid (V.up x6.out);have c:=hid (Z5_ w m X (.slice G m.i.length I));have J:=c.out.cell 0;have o:=c.out.cell 1;have K:=c.out.cell 2;have q:=c.out.cell 3;have L:=c.out.cell 4;have r:=c.out.cell 5;subst xv;unfold boxed at *
 obtain ⟨D,N⟩:∃ D,deepI m=D:=⟨_,rfl⟩;have HD:=hid N;obtain ⟨Z,P⟩:∃ Z,smlB m=Z:=⟨_,rfl⟩;have HZ:=hid P;unfold mostI at hM;unfold fewOk at E;rw [show mostI m most=M from hM,P] at E;rw [N] at hM;have z:=hid E;have HM:=hid hM;obtain ⟨Q,O⟩:∃ Q,(m.i.all fun x=>fewB k x M)=Q:=⟨_,rfl⟩;have HQ:=hid O;rw [O];clear V hl xh xd xs N P E hM O;have xw:∀ (x:Int),x=M→True:=fun _ _=>trivial;clear xw;have x9:Hid ((3≤D→min most 6=M)∧(¬ 3≤D→most=M)):=hid ⟨fun h=>by have:=HM.out;rw [if_pos h] at this;exact this,fun h=>by have:=HM.out;rw [if_neg h] at this;exact this⟩
 go_enter Tryz.func25,Tryz.ntmps25
 go_wp2_with fail
 refine (Xy4 m _ _ x8.out Hl.out).mono ?_;rintro e w1 ⟨rfl,F⟩;rw [HD.out];have xj:=hid (Z0_ x6.out (le_refl _) F);have xo:=hid (x8.out.up F);have d:=hid (c.out.below F c.out.lt);clear F J o K q L r;have J:=d.out.cell 0;have o:=d.out.cell 1;have K:=d.out.cell 2;have q:=d.out.cell 3;have L:=d.out.cell 4;have r:=d.out.cell 5;by_cases hd:3≤D
 case' pos =>
  have y0:min most 6=M:=x9.out.1 q40_
  go_wp2_with fail
 case' neg =>
  have xt:M=most:=(x9.out.2 q40_).symm;subst xt
  go_wp2_with fail
 all_goals
  refine (Xk3 m _ _ xo.out Hl.out).mono ?_;rintro e w2 ⟨rfl,R⟩;rw [HZ.out];have Hb2:=hid (Z0_ xj.out (le_refl _) R);have H:=hid (d.out.below R d.out.lt);clear R J o K q L r hd;have o:=H.out.cell 1;have q:=H.out.cell 3;cases Z
  ·have s:B=false:=z.out.symm.trans z40_
   subst s;exact z2_
  ·by_cases y:m.n≤M
   ·by_cases hb:m.b≤100
    ·have xp:B=true:=z.out.symm.trans (by simp [y,hb])
     subst xp;rw [Bool.true_and];have U:¬ M<m.n:=q40_;have xa:¬ 100<m.b:=q40_;clear y hb;go_wp2;clear o q U xa
     go_loopw [5] (fun Y wr=>∃ i:Nat,Y=.int .i64 i∧i≤m.i.length∧(∀ j,j<i→fewB k (m.i.getD j default) M=true)∧Blk wr w.heap.size 37 #[.int .i64 m.t,.int .i64 m.n,.int .i64 m.a,.int .i64 m.b,X,.slice G m.i.length I]∧Below w.heap.size w wr) (fun Y _=>m.i.length - (intOf Y).toNat)
     case atStart=>exact ⟨0,rfl,Nat.zero_le _,fun j hj=>absurd hj (Nat.not_lt_zero _),H.out,Hb2.out⟩
     case round =>
      obtain ⟨i,rfl,hi,xg,S,xb⟩:=hrel;have Hok:=hid xg;have Hbr:=hid xb;have x7:=hid S;have r:=S.cell 5;clear xg S xb;by_cases T:i<m.i.length
      ·have xz:(i:Int)<(m.i.length:Int):=by omega
       obtain ⟨ad,u,hA,hab,xi,xe⟩:=Hk.out i T;subst hA;have xu:=xi.below Hbr.out k41_;have xf:=(xe.bel Hbr.out).mono Hbr.out.size;have C:=hid (xn.out (by first | rfl | trivial) i T u wr xf);have xl:=hid (Yn4 (p:=fun x=>fewB k x M) T);have xm:Hid (fewB k (m.i.getD i default) M=true→∀ j,j<i+1→fewB k (m.i.getD j default) M=true):=hid fun hb j hj=>k10_;obtain ⟨x0,x1,x2,x3,x4,x5,rfl,s0,s1,s2,s3,s4,s5⟩:=xu;clear xi xe xf hab;rcases hz:fewB k (m.i.getD i default) M with _ | _
       ·have xq:Q=false:=HQ.out.symm.trans (xl.out hz)
        subst xq;rw [hz] at C;clear hz
        go_wp2_with fail
        refine (C.out).mono ?_;rintro e w3 ⟨rfl,g⟩;have Hb3:=hid (Z0_ Hbr.out (le_refl _) g);clear g;exact q8_
       ·have Hz:=hid hz
        rw [hz] at C;clear hz
        go_wp2_with fail
        refine (C.out).mono ?_;rintro e w3 ⟨rfl,g⟩;have Hb3:=hid (Z0_ Hbr.out (le_refl _) g);have xk:=hid (x7.out.below g x7.out.lt);clear g s0 s1 s2 s3 s4 s5 r;go_wp2
        go_roundw
        case rel=>exact ⟨i+1,x41_,q40_,xm.out Hz.out,xk.out,Hb3.out⟩
        exact mz_
      ·have xc:i=m.i.length:=by omega
       have Hie:=hid xc;have xr:Q=true:=HQ.out.symm.trans (Yn5 (p:=fun x=>fewB k x M) q48_);subst xr;obtain rfl:=xc;exact q15_
    ·have s:B=false:=z.out.symm.trans (by simp [hb])
     subst s;have U:¬ M<m.n:=q40_;have xa:100<m.b:=q40_;clear y hb;exact z2_
   ·have s:B=false:=z.out.symm.trans (by simp [y])
    subst s;have U:M<m.n:=q40_;clear y;exact z2_
theorem Xk4:∀ k,FewAt k
 | 0=>fun m v most w f hl g=>by
  rw [show fewB (0+1) m most=(fewOk m most && m.i.all fun x=>fewB 0 x (mostI m most)) from rfl];refine Vc8 0 m v most _ w f hl rfl _ rfl fun c j d u W h=>?_;exfalso;have e:sz 0 m≤300:=g.resolve_left (by unfold fewOk at c;rw [Bool.and_eq_true,Bool.and_eq_true] at c;rw [c.1.1];decide);have o:=Vm1 e;rw [o] at d;simp at d
 | k+1=>fun m v most w f hl g=>by
  rw [show fewB (k+1+1) m most=(fewOk m most && m.i.all fun x=>fewB (k+1) x (mostI m most)) from rfl];refine Vc8 (k+1) m v most _ w f hl rfl _ rfl fun c j d u W h=>?_;have e:sz (k+1) m≤300:=g.resolve_left (by unfold fewOk at c;rw [Bool.and_eq_true,Bool.and_eq_true] at c;rw [c.1.1];decide);exact Xk4 k (m.i.getD j default) u _ W h (lim_x hl _ (Y4_ _ _ _ d)) (.inr (Vm2 e (Y4_ _ _ _ d)))
theorem Vm3 (m:Mat) (v:Value) (most:Int) (w:World) (c:MatV w w.heap.size v m) (hl:Lim m):Calls Tryz.prog 25 #[v,.int .i64 most] w (Says w (fewB 9 m most)) :=
 Xk4 8 m v most w c hl (by
  by_cases h:smlB m=true
  ·exact .inr (of_decide_eq_true h)
  ·exact .inl y44_)
end Go.Proofs.YtheeajnkiniopaaGreatDoor.Wp
