/- The document's size and Small, walked: whether a matroid has little; of what has little nothing is long. The document's Few, walked. -/
import Derived.Test.YtigobiacbficaaaGreatDoorZO
import Derived.Test.YtigobiacbficaaaGreatDoorQGateE
import Derived.Deep.RegionHeld3
import Derived.Test.YtigobiacbficaaaGreatDoorZT
import Derived.Test.YtigobiacbficaaaGreatDoorX0A
import Derived.Test.YtigobiacbficaaaGreatDoorX0B
set_option maxHeartbeats 8000000
set_option maxRecDepth 100000
open Go.Lib (hid)
open Nat (le_refl)
namespace Go.Proofs.YtigobiacbficaaaGreatDoor.Wp
private theorem x3_ {P:Prop} (h:P:=by
 have hNI:(N:Int)<10000:=by omega
 obtain ⟨ad,u,hA,hab,hcu,hru⟩:=Hlk.out j hlt
 subst hA
 have hrl:=lim_r Hs.out _ (Y4_ m.l j [] hlt)
 have g1:=(Hb0.out.cell (p:=ad.add j) (by rw [Z2_];exact hab)).trans hcu
 have Hnext:Hid (N+(m.l.getD j []).length=addF List.length (1+m.l.length) (m.l.take (j+1))):=by
  show _=_
  rw [F0_ [] hlt,← HN0.out]
  exact (if_pos hN).symm
 generalize m.l.getD j []=r at *
 obtain ⟨Ar,cr,rfl,_⟩:=hru
 have hrI:(r.length:Int)≤140737488355328:=by omega
 clear hcu
 go_wp2
 go_round
 case rel=>exact ⟨N+r.length,j+1,by go_num,by go_num,by omega,Hnext.out⟩
 case measure=>simp [intOf];omega):P:=h
open Go.RowKit
def addc (n x:Nat):Nat:=if n<10000 then n+x else n
def addF {α:Type} (g:α→Nat) (s:Nat) (l:List α):Nat:=l.foldl (fun n x=>addc n (g x)) s
def rs (m:Mat):Nat:=addF List.length (1+m.l.length) m.l
def sz:Nat→Mat→Nat
 | 0,m=>addF (fun _=>10000) (rs m) m.i
 | k+1,m=>addF (sz k) (rs m) m.i
section
variable {α:Type} {g:α→Nat}
theorem Yw4 (s:Nat):addF g s ([]:List α)=s:=rfl
theorem P5_ (s:Nat) (x:α) (l:List α):addF g s (x :: l)=addF g (addc s (g x)) l:=rfl
theorem F0_ {s j:Nat} {l:List α} (d:α) (h:j<l.length):addF g s (l.take (j+1))=addc (addF g s (l.take j)) (g (l.getD j d)):=by
 rw [Ze5 l j d h];unfold addF;rw [List.foldl_append];rfl
theorem Xt6 {l:List α}:∀ {s:Nat},10000≤s→addF g s l=s:=by
 induction l with
 | nil=>intro s _;rfl
 | cons x r ih =>
  intro s h;rw [P5_,show addc s (g x)=s from if_neg y40_];exact ih h
theorem F1_ {s j:Nat} {l:List α} (h:10000≤addF g s (l.take j)):addF g s (l.take j)=addF g s l:=by
 have e:addF g s l=addF g (addF g s (l.take j)) (l.drop j):=by
  unfold addF;rw [← List.foldl_append,List.take_append_drop]
 rw [e,Xt6 h]
theorem I0_ {s:Nat} {l:List α}:addF g s (l.take l.length)=addF g s l:=by rw [List.take_length]
theorem Yn0 {X:Nat} {l:List α} (h:∀ x∈l,g x≤X):∀ {s:Nat},addF g s l≤max s (9999+X):=by
 induction l with
 | nil=>intro s;rw [Yw4];omega
 | cons x r ih =>
  intro s;have c:=h x k40_;have h2:=ih (fun y hy=>h y y45_) (s:=addc s (g x));rw [P5_];have h3:addc s (g x)≤max s (9999+X):=by unfold addc;split<;>omega
  omega
theorem Zw8 {l:List α}:∀ {s:Nat},s≤addF g s l:=by
 induction l with
 | nil=>intro s;exact le_refl _
 | cons x r ih =>
  intro s;rw [P5_];have:s≤addc s (g x):=by unfold addc;split<;>omega
  exact Nat.le_trans this ih
theorem G5_ {l:List α}:∀ {s:Nat},addF g s l≤300→∀ x∈l,g x≤300:=by
 induction l with
 | nil=>intro s _ x c;cases c
 | cons y r ih =>
  intro s h x c;rw [P5_] at h;have d:=Zw8 (g:=g) (l:=r) (s:=addc s (g y));have h2:addc s (g y)≤300:=Nat.le_trans d h;rcases List.mem_cons.1 c with rfl | c
  ·unfold addc at h2
   split at h2<;>omega
  ·exact ih h x c
end
theorem rs_ge (m:Mat):1+m.l.length≤rs m:=Zw8
theorem sz_ge (k:Nat) (m:Mat):rs m≤sz k m:=by
 cases k<;>exact Zw8
theorem Vf9 {α:Type} {g:α→Nat} (h:∀ x,1≤g x) {l:List α}:∀ {s:Nat},addF g s l≤300→s+l.length≤300:=by
 induction l with
 | nil=>intro s h;rw [Yw4] at h;simpa using h
 | cons y r ih =>
  intro s hs;rw [P5_] at hs;have c:=Zw8 (g:=g) (l:=r) (s:=addc s (g y));have h2:=ih hs;have h3:=h y;unfold addc at *
  rw [List.length_cons];split at h2<;>omega
theorem Ja1 (k:Nat) (m:Mat):1≤sz k m:=by
 have:=sz_ge k m;have:=rs_ge m;omega
theorem Xt7:∀ (k:Nat) (m:Mat),sz k m≤300→Sml m:=by
 intro k
 induction k with
 | zero =>
  intro m h;have j:=rs_ge m;have h2:=sz_ge 0 m;have d:=G5_ (g:=List.length) (l:=m.l) (s:=1+m.l.length) (show rs m≤300 by omega);have c:=G5_ (g:=fun _:Mat=>10000) (l:=m.i) (s:=rs m) h;obtain ⟨t,n,a,b,l,i⟩:=m;cases i with
  | nil=>exact .mk (by simp only [Mat.l] at j;omega) (fun r e=>by have:=d r e;omega) k40_ (fun x f=>by cases f)
  | cons x r =>
   have:=c x (by simp [Mat.i]);omega
 | succ k ih =>
  intro m h;have j:=rs_ge m;have h2:=sz_ge (k+1) m;have d:=G5_ (g:=List.length) (l:=m.l) (s:=1+m.l.length) (show rs m≤300 by omega);have c:=G5_ (g:=sz k) (l:=m.i) (s:=rs m) h;have o:=Vf9 (g:=sz k) (fun x=>Ja1 k x) (l:=m.i) (s:=rs m) h;obtain ⟨t,n,a,b,l,i⟩:=m;simp only [Mat.l,Mat.i] at *
  exact .mk y40_ (fun r e=>by have:=d r e;omega) y40_ (fun x f=>ih x (c x f))
theorem lim_l {m:Mat} (h:Lim m):m.l.length≤140737488355328:=by cases h;assumption
theorem lim_r {m:Mat} (h:Lim m):∀ r∈m.l,r.length≤140737488355328:=by cases h;assumption
theorem lim_i {m:Mat} (h:Lim m):m.i.length≤140737488355328:=by cases h;assumption
theorem lim_x {m:Mat} (h:Lim m):∀ x∈m.i,Lim x:=by cases h;assumption
theorem rs_le {m:Mat} (h:Lim m):rs m≤140737488365328:=by
 have c:=Yn0 (g:=List.length) (X:=140737488355328) (l:=m.l) (lim_r h) (s:=1+m.l.length);have h2:=lim_l h;unfold rs;omega
theorem sz_le:∀ (k:Nat) (m:Mat),Lim m→sz k m≤140737488365328+10000 * (k+1):=by
 intro k
 induction k with
 | zero =>
  intro m h;have c:=Yn0 (g:=fun _:Mat=>10000) (X:=10000) (l:=m.i) (fun _ _=>le_refl _) (s:=rs m);have h2:=rs_le h;show addF _ _ _≤_;omega
 | succ k ih =>
  intro m h;have c:=Yn0 (g:=sz k) (X:=140737488365328+10000 * (k+1)) (l:=m.i) (fun x d=>ih x (lim_x h x d)) (s:=rs m);have h2:=rs_le h;show addF _ _ _≤_;omega
theorem Vg0:∀ (k:Nat) (m:Mat) (v:Value) (w:World),k≤8→MatV w w.heap.size v m→Lim m→Calls Tryz.prog 27 #[v,.int .i64 (k:Nat)] w (Tells w (sz k m)):=by
 intro k
 induction k with
 | zero =>
  intro m v w _ g hs;obtain ⟨E,C,rfl,hl,hi⟩:=g.open;obtain ⟨Al,cl,rfl,_,d⟩:=hl;obtain ⟨Ai,ci,rfl,_,c⟩:=hi;have Hlk:=hid d;have Hik:=hid c;have Hs:=hid hs;have h:=lim_l hs;have h2:=lim_i hs;have y:(m.l.length:Int)≤140737488355328:=y40_;have z:(m.i.length:Int)≤140737488355328:=y40_;have Hb0:=hid (Z1_ w m (.slice Al m.l.length cl) (.slice Ai m.i.length ci));have Hblk:=hid (Z4_ w m (.slice Al m.l.length cl) (.slice Ai m.i.length ci));have s:=Hblk.out.cell 4;have x:=Hblk.out.cell 5;clear d c hs h h2 g;unfold boxed at *
  go_enter Tryz.func27,Tryz.ntmps27
  go_wp2
  go_loop [5,6] (fun vn vi=>∃ (N j:Nat),vn=.int .i64 N∧vi=.int .i64 j∧j≤m.l.length∧N=addF List.length (1+m.l.length) (m.l.take j)) (fun _ vi=>m.l.length - (intOf vi).toNat)
  case atStart=>exact ⟨1+m.l.length,0,j41_,rfl,Nat.zero_le _,rfl⟩
  case round =>
   obtain ⟨N,j,rfl,rfl,B,hN⟩:=hrel;have HN0:=hid hN;clear hN;by_cases hlt:j<m.l.length
   ·have hltI:(j:Int)<(m.l.length:Int):=by omega
    by_cases hN:N<10000
    ·exact x3_
    ·have hNI:(10000:Int)≤(N:Int):=by omega
     have HN:Hid (N=rs m):=q29_;exact k0_
   ·have o:j=m.l.length:=by omega
    subst o;have HN:Hid (N=rs m):=by
     show _=_;rw [HN0.out,I0_];rfl
    by_cases hN:N<10000
    ·have hNI:(N:Int)<10000:=by omega
     exact k0_
    ·have hNI:(10000:Int)≤(N:Int):=by omega
     exact k0_
 | succ k ih0 =>
  intro m v w F g hs;have q:∀ (m:Mat) (v:Value) (w:World),MatV w w.heap.size v m→Lim m→Calls Tryz.prog 27 #[v,.int .i64 (k:Nat)] w (Tells w (sz k m)):=fun m v w=>ih0 m v w y40_;clear ih0;obtain ⟨E,C,rfl,hl,hi⟩:=g.open;obtain ⟨Al,cl,rfl,_,d⟩:=hl;obtain ⟨Ai,ci,rfl,_,c⟩:=hi;have Hlk:=hid d;have Hik:=hid c;have Hs:=hid hs;have h:=lim_l hs;have h2:=lim_i hs;have y:(m.l.length:Int)≤140737488355328:=y40_;have z:(m.i.length:Int)≤140737488355328:=y40_;have Hb0:=hid (Z1_ w m (.slice Al m.l.length cl) (.slice Ai m.i.length ci));have Hblk:=hid (Z4_ w m (.slice Al m.l.length cl) (.slice Ai m.i.length ci));have s:=Hblk.out.cell 4;have x:=Hblk.out.cell 5;have Ih:=hid q;have G:(k:Int)≤8:=y40_;have H:IntKind.i64.wrap ((k:Int)+1 - 1)=(k:Int):=y41_;have I:(0:Int)<(k:Int)+1:=y40_;rw [show (((k+1:Nat)):Int)=(k:Int)+1 from rfl];clear d c hs h h2 g q;unfold boxed at *
  go_enter Tryz.func27,Tryz.ntmps27
  go_wp2
  go_loop [5,6] (fun vn vi=>∃ (N j:Nat),vn=.int .i64 N∧vi=.int .i64 j∧j≤m.l.length∧N=addF List.length (1+m.l.length) (m.l.take j)) (fun _ vi=>m.l.length - (intOf vi).toNat)
  case atStart=>exact ⟨1+m.l.length,0,j41_,rfl,Nat.zero_le _,rfl⟩
  case round =>
   obtain ⟨N,j,rfl,rfl,B,hN⟩:=hrel;have HN0:=hid hN;clear hN;by_cases hlt:j<m.l.length
   ·have hltI:(j:Int)<(m.l.length:Int):=by omega
    by_cases hN:N<10000
    ·exact x3_
    ·have hNI:(10000:Int)≤(N:Int):=by omega
     have HN:Hid (N=rs m):=q29_;exact y0_
   ·have o:j=m.l.length:=by omega
    subst o;have HN:Hid (N=rs m):=by
     show _=_;rw [HN0.out,I0_];rfl
    by_cases hN:N<10000
    ·have hNI:(N:Int)<10000:=by omega
     exact y0_
    ·have hNI:(10000:Int)≤(N:Int):=by omega
     exact y0_
def smlB (m:Mat):Bool:=decide (sz 8 m≤300)
theorem Ja2 {m:Mat} (h:smlB m=true):Sml m:=Xt7 8 m (of_decide_eq_true h)
theorem Xt8 (m:Mat) (v:Value) (w:World) (d:MatV w w.heap.size v m) (hs:Lim m):Calls Tryz.prog 13 #[v] w (Says w (smlB m)):=by
 obtain ⟨o,k,u,_,_⟩:=d.open;have g:=hid (Z1_ w m o k);have r:=hid (d.up g.out);have c:=(Z4_ w m o k).cell;have x:=c 0;have y:=c 1;have z:=c 2;have B:=c 3;have C:=c 4;have E:=c 5;have s:=sz_le 8 m hs;have q:=hid (fun v W h=>Vg0 8 m v W y40_ h hs);subst u;clear d c hs;unfold boxed smlB at *
 generalize sz 8 m=D at *
 have F:(D:Int)≤140737489000000:=y40_;clear s
 go_enter Tryz.func13,Tryz.ntmps13
 go_wp2_with fail
 refine (q.out _ _ r.out).mono ?_;rintro e G ⟨rfl,j⟩;have p:=hid (Z0_ g.out (le_refl _) j);clear j;go_wp2;go_ret;refine ⟨?_,p.out⟩;rw [show decide (D≤300)=decide ((D:Int)≤300) from decide_eq_decide.2 y40_];rfl
open Go.RowKit
theorem Xd3:∀ (k:Nat) (m:Mat) (v:Value) (w:World) (left:Int),left=(k:Int)→k≤10→MatV w w.heap.size v m→Lim m→Calls Tryz.prog 26 #[v,.int .i64 left] w (Tells w (dp k m)):=by
 intro k
 induction k with
 | zero =>
  intro m v w left E _ H hs;obtain ⟨h,iv,rfl,hl,x⟩:=H.open;obtain ⟨A,c,rfl,V,y⟩:=x;have Y:=lim_i hs;have Z:(m.i.length:Int)≤140737488355328:=y40_;have Hb0:=hid (Z1_ w m h (.slice A m.i.length c));have g:=Z4_ w m h (.slice A m.i.length c);have r:=g.cell 0;have s:=g.cell 5;subst E;clear g y hl;unfold boxed at *
  by_cases h3:(0:Int)<(m.i.length:Int)
  ·exact j31_
  ·exact j31_
 | succ k ih =>
  intro m v w left E xa H hs;obtain ⟨h,iv,rfl,hl,x⟩:=H.open;obtain ⟨A,c,rfl,V,y⟩:=x;have K:=hid y;have T:=hid hs;have L:=hid ih;have Y:=lim_i hs;have Z:(m.i.length:Int)≤140737488355328:=y40_;have Hb0:=hid (Z1_ w m h (.slice A m.i.length c));have z:=hid (Z4_ w m h (.slice A m.i.length c));have r:=z.out.cell 0;have s:=z.out.cell 5;have xe:(k:Int)+1=left:=y40_;have xd:0<left:=y40_;have xb:(k:Int)≤10:=y40_;have xf:IntKind.i64.wrap (left - 1)=(k:Int):=y41_;clear y hl E ih hs;unfold boxed at *
  by_cases p:nest m.t
  ·have hd:Hid (dp (k+1) m=1+maxN (m.i.map (dp k))):=by
    show dp (k+1) m=_;rw [dp,if_pos p]
   have C:=hid p;clear p r s
   go_enter Tryz.func26,Tryz.ntmps26
   go_wp2
   go_loopw [5,6] (fun vd I wr=>∃ (d i:Nat),vd=.int .i64 d∧I=.int .i64 i∧i≤m.i.length∧d=Wp.most k i m.i∧Blk wr w.heap.size 25 #[.int .i64 m.t,.int .i64 m.n,.int .i64 m.a,.int .i64 m.b,h,.slice A m.i.length c]∧Below w.heap.size w wr) (fun _ I _=>m.i.length - (intOf I).toNat)
   case atStart=>exact ⟨0,0,rfl,rfl,Nat.zero_le _,by rw [Ze4],z.out,Hb0.out⟩
   case round =>
    obtain ⟨d,i,rfl,rfl,x,O,g,N⟩:=hrel;have Hbr:=hid N;have B:=hid g;have s:=g.cell 5;have r:=g.cell 0;have W:=Yi4 k i m.i;have x9:(d:Int)≤(k:Int)+1:=y40_;have Hdm:=hid O;clear N g O;by_cases F:i<m.i.length
    ·have xc:(i:Int)<(m.i.length:Int):=by omega
     have o:=hid (X2_ m.t wr);rw [decide_eq_true C.out] at o
     go_wp2_with fail
     refine (o.out).mono ?_;rintro e S ⟨rfl,q⟩;have j:=hid (Z0_ Hbr.out (le_refl _) q);have Hblk2:=hid (B.out.below q B.out.lt);have x7:=Hblk2.out.cell 5;obtain ⟨ad,u,U,hab,R,P⟩:=K.out i F;subst U;have x6:=R.below j.out x42_;have Q:=(P.bel j.out).mono j.out.size;have J:=hid (L.out (m.i.getD i default) u S (k:Int) rfl y40_ Q (lim_x T.out _ (Y4_ _ _ _ F)));have G:=Ze6 k i m.i F;have X:=dp_le k (m.i.getD i default);obtain ⟨x0,x1,x2,x3,x4,x5,rfl,s0,s1,s2,s3,s4,s5⟩:=x6;obtain ⟨D,M⟩:∃ D,dp k (m.i.getD i default)=D:=⟨_,rfl⟩;rw [M] at J G X;have x8:(D:Int)≤(k:Int)+1:=y40_;have Hms:=hid G;clear R P Q K L M G W s r q o B
     go_wp2_with fail
     refine (J.out).mono ?_;rintro e w1 ⟨rfl,hb1⟩;have Hb1:=hid (Z0_ j.out (le_refl _) hb1);exact x8_
    ·exact y12_
  ·have hd:Hid (dp (k+1) m=1):=by
    show dp (k+1) m=1;rw [dp,if_neg p]
   have C:=hid p;clear p;by_cases h3:(0:Int)<(m.i.length:Int)
   ·go_enter Tryz.func26,Tryz.ntmps26
    go_wp2;refine wp_loop_rounds 1 ?_;rw [rounds_succ]
    go_wp2_with fail
    have o:=hid (X2_ m.t (w.alloc (.cells #[.int .i64 m.t,.int .i64 m.n,.int .i64 m.a,.int .i64 m.b,h,.slice A m.i.length c] 25)));rw [decide_eq_false C.out] at o;refine (o.out).mono ?_;rintro e S ⟨rfl,q⟩;have j:=hid (Z0_ Hb0.out (le_refl _) q);go_wp2;go_ret;exact ⟨by rw [hd.out];rfl,j.out⟩
   ·exact x12_
theorem Xd4 (m:Mat) (v:Value) (w:World) (d:MatV w w.heap.size v m) (hs:Lim m):Calls Tryz.prog 12 #[v] w (Tells w (deepI m)):=by
 obtain ⟨h,g,k,_,_⟩:=d.open;have Hb0:=hid (Z1_ w m h g);have j:=hid (d.up Hb0.out);have c:=(Z4_ w m h g).cell;have o:=c 0;have p:=c 1;have q:=c 2;have r:=c 3;have s:=c 4;have u:=c 5;subst k;clear d c;unfold boxed at *
 unfold deepI
 go_enter Tryz.func12,Tryz.ntmps12
 go_wp2_with fail
 refine (Xd3 4 m _ _ 4 rfl y40_ j.out hs).mono ?_;exact q39_
def mostI (m:Mat) (most:Int):Int:=if 3≤deepI m then min most 6 else most
def fewOk (m:Mat) (most:Int):Bool:=smlB m && decide (m.n≤mostI m most) && decide (m.b≤100)
def fewB:Nat→Mat→Int→Bool
 | 0,_,_=>false
 | k+1,m,most=>fewOk m most && m.i.all fun x=>fewB k x (mostI m most)
theorem Xt9 {k:Nat} {m:Mat} {most:Int} (h:fewB (k+1) m most=true):Sml m:=by
 rw [fewB,Bool.and_eq_true] at h;unfold fewOk at h;rw [Bool.and_eq_true,Bool.and_eq_true] at h;exact Ja2 h.1.1.1
theorem Vw3 {m:Mat} (h:sz 0 m≤300):m.i=[]:=by
 have c:=G5_ (g:=fun _:Mat=>10000) (l:=m.i) (s:=rs m) h;cases e:m.i with
 | nil=>rfl
 | cons x r=>have:=c x (by rw [e];simp);omega
theorem Vw4 {k:Nat} {m x:Mat} (h:sz (k+1) m≤300) (c:x∈m.i):sz k x≤300:=G5_ (g:=sz k) (l:=m.i) (s:=rs m) h x c
def FewAt (k:Nat):Prop:=∀ (m:Mat) (v:Value) (most:Int) (w:World),MatV w w.heap.size v m→Lim m→(smlB m=false∨sz k m≤300)→Calls Tryz.prog 4 #[v,.int .i64 most] w (Says w (fewB (k+1) m most))
theorem Vi9 (k:Nat) (m:Mat) (v:Value) (most M:Int) (w:World) (V:MatV w w.heap.size v m) (hl:Lim m) (hM:mostI m most=M) (B:Bool) (E:fewOk m most=B) (xh:B=true→∀ j,j<m.i.length→∀ (u:Value) (W:World),MatV W W.heap.size u (m.i.getD j default)→Calls Tryz.prog 4 #[u,.int .i64 M] W (Says W (fewB k (m.i.getD j default) M))) :
  Calls Tryz.prog 4 #[v,.int .i64 most] w (Says w (B && m.i.all fun x=>fewB k x M)):=by
 have Hl:=hid hl;have xn:=hid xh;obtain ⟨X,iv,xv,_,hi⟩:=V.open;obtain ⟨G,I,rfl,xs,xd⟩:=hi;have Hk:=hid xd;have xx:=lim_i hl;have xy:(m.i.length:Int)≤140737488355328:=y40_;have x6:=hid (Z1_ w m X (.slice G m.i.length I));have x8:=hid (V.up x6.out);have c:=hid (Z4_ w m X (.slice G m.i.length I));have J:=c.out.cell 0;have o:=c.out.cell 1;have K:=c.out.cell 2;have q:=c.out.cell 3;have L:=c.out.cell 4;have r:=c.out.cell 5;subst xv;unfold boxed at *
 obtain ⟨D,N⟩:∃ D,deepI m=D:=⟨_,rfl⟩;have HD:=hid N;obtain ⟨Z,P⟩:∃ Z,smlB m=Z:=⟨_,rfl⟩;have HZ:=hid P;unfold mostI at hM;unfold fewOk at E;rw [show mostI m most=M from hM,P] at E;rw [N] at hM;have z:=hid E;have HM:=hid hM;obtain ⟨Q,O⟩:∃ Q,(m.i.all fun x=>fewB k x M)=Q:=⟨_,rfl⟩;have HQ:=hid O;rw [O];clear V hl xh xd xs N P E hM O;have xw:∀ (x:Int),x=M→True:=fun _ _=>trivial;clear xw;have x9:Hid ((3≤D→min most 6=M)∧(¬ 3≤D→most=M)):=hid ⟨fun h=>by have:=HM.out;rw [if_pos h] at this;exact this,fun h=>by have:=HM.out;rw [if_neg h] at this;exact this⟩
 go_enter Tryz.func4,Tryz.ntmps4
 go_wp2_with fail
 refine (Xd4 m _ _ x8.out Hl.out).mono ?_;rintro e w1 ⟨rfl,F⟩;rw [HD.out];have xj:=hid (Z0_ x6.out (le_refl _) F);have xo:=hid (x8.out.up F);have d:=hid (c.out.below F c.out.lt);clear F J o K q L r;have J:=d.out.cell 0;have o:=d.out.cell 1;have K:=d.out.cell 2;have q:=d.out.cell 3;have L:=d.out.cell 4;have r:=d.out.cell 5;by_cases hd:3≤D
 case' pos =>
  have y0:min most 6=M:=x9.out.1 y40_
  go_wp2_with fail
 case' neg =>
  have xt:M=most:=(x9.out.2 y40_).symm;subst xt
  go_wp2_with fail
 all_goals
  refine (Xt8 m _ _ xo.out Hl.out).mono ?_;rintro e w2 ⟨rfl,R⟩;rw [HZ.out];have Hb2:=hid (Z0_ xj.out (le_refl _) R);have H:=hid (d.out.below R d.out.lt);clear R J o K q L r hd;have o:=H.out.cell 1;have q:=H.out.cell 3;cases Z
  ·have s:B=false:=z.out.symm.trans k40_
   subst s;exact j2_
  ·by_cases y:m.n≤M
   ·by_cases hb:m.b≤100
    ·have xp:B=true:=z.out.symm.trans (by simp [y,hb])
     subst xp;rw [Bool.true_and];have U:¬ M<m.n:=y40_;have xa:¬ 100<m.b:=y40_;clear y hb;go_wp2;clear o q U xa
     go_loopw [5] (fun Y wr=>∃ i:Nat,Y=.int .i64 i∧i≤m.i.length∧(∀ j,j<i→fewB k (m.i.getD j default) M=true)∧Blk wr w.heap.size 25 #[.int .i64 m.t,.int .i64 m.n,.int .i64 m.a,.int .i64 m.b,X,.slice G m.i.length I]∧Below w.heap.size w wr) (fun Y _=>m.i.length - (intOf Y).toNat)
     case atStart=>exact ⟨0,rfl,Nat.zero_le _,fun j hj=>absurd hj (Nat.not_lt_zero _),H.out,Hb2.out⟩
     case round =>
      obtain ⟨i,rfl,hi,xg,S,xb⟩:=hrel;have Hok:=hid xg;have Hbr:=hid xb;have x7:=hid S;have r:=S.cell 5;clear xg S xb;by_cases T:i<m.i.length
      ·have xz:(i:Int)<(m.i.length:Int):=by omega
       obtain ⟨ad,u,hA,hab,xi,xe⟩:=Hk.out i T;subst hA;have xu:=xi.below Hbr.out x42_;have xf:=(xe.bel Hbr.out).mono Hbr.out.size;have C:=hid (xn.out (by first | rfl | trivial) i T u wr xf);have xl:=hid (Ys5 (p:=fun x=>fewB k x M) T);have xm:Hid (fewB k (m.i.getD i default) M=true→∀ j,j<i+1→fewB k (m.i.getD j default) M=true):=hid fun hb j hj=>q11_;obtain ⟨x0,x1,x2,x3,x4,x5,rfl,s0,s1,s2,s3,s4,s5⟩:=xu;clear xi xe xf hab;rcases hz:fewB k (m.i.getD i default) M with _ | _
       ·have xq:Q=false:=HQ.out.symm.trans (xl.out hz)
        subst xq;rw [hz] at C;clear hz
        go_wp2_with fail
        refine (C.out).mono ?_;rintro e w3 ⟨rfl,g⟩;have Hb3:=hid (Z0_ Hbr.out (le_refl _) g);clear g;exact q8_
       ·have Hz:=hid hz
        rw [hz] at C;clear hz
        go_wp2_with fail
        refine (C.out).mono ?_;rintro e w3 ⟨rfl,g⟩;have Hb3:=hid (Z0_ Hbr.out (le_refl _) g);have xk:=hid (x7.out.below g x7.out.lt);clear g s0 s1 s2 s3 s4 s5 r;go_wp2
        go_roundw
        case rel=>exact ⟨i+1,j41_,y40_,xm.out Hz.out,xk.out,Hb3.out⟩
        exact mz_
      ·have xc:i=m.i.length:=by omega
       have Hie:=hid xc;have xr:Q=true:=HQ.out.symm.trans (Ys6 (p:=fun x=>fewB k x M) y49_);subst xr;obtain rfl:=xc;exact y15_
    ·have s:B=false:=z.out.symm.trans (by simp [hb])
     subst s;have U:¬ M<m.n:=y40_;have xa:100<m.b:=y40_;clear y hb;exact j2_
   ·have s:B=false:=z.out.symm.trans (by simp [y])
    subst s;have U:M<m.n:=y40_;clear y;exact j2_
theorem Xu0:∀ k,FewAt k
 | 0=>fun m v most w f hl g=>by
  rw [show fewB (0+1) m most=(fewOk m most && m.i.all fun x=>fewB 0 x (mostI m most)) from rfl];refine Vi9 0 m v most _ w f hl rfl _ rfl fun c j d u W h=>?_;exfalso;have e:sz 0 m≤300:=g.resolve_left (by unfold fewOk at c;rw [Bool.and_eq_true,Bool.and_eq_true] at c;rw [c.1.1];decide);have o:=Vw3 e;rw [o] at d;simp at d
 | k+1=>fun m v most w f hl g=>by
  rw [show fewB (k+1+1) m most=(fewOk m most && m.i.all fun x=>fewB (k+1) x (mostI m most)) from rfl];refine Vi9 (k+1) m v most _ w f hl rfl _ rfl fun c j d u W h=>?_;have e:sz (k+1) m≤300:=g.resolve_left (by unfold fewOk at c;rw [Bool.and_eq_true,Bool.and_eq_true] at c;rw [c.1.1];decide);exact Xu0 k (m.i.getD j default) u _ W h (lim_x hl _ (Y4_ _ _ _ d)) (.inr (Vw4 e (Y4_ _ _ _ d)))
theorem Zw9 (m:Mat) (v:Value) (most:Int) (w:World) (c:MatV w w.heap.size v m) (hl:Lim m):Calls Tryz.prog 4 #[v,.int .i64 most] w (Says w (fewB 9 m most)) :=
 Xu0 8 m v most w c hl (by
  by_cases h:smlB m=true
  ·exact .inr (of_decide_eq_true h)
  ·exact .inl k44_)
end Go.Proofs.YtigobiacbficaaaGreatDoor.Wp
