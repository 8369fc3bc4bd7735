/- BasesSteps, walked: it answers true (written by gen_ubsteps.py). -/
import Derived.Test.YtheeajnkiniopaaGreatDoorUBFx
import Derived.Test.YtheeajnkiniopaaGreatDoorZS
import Derived.Test.YtheeajnkiniopaaGreatDoorX0A
import Derived.Test.YtheeajnkiniopaaGreatDoorX0B
set_option maxHeartbeats 16000000
set_option maxRecDepth 100000
open Go.Lib (hid)
open Nat (le_refl)
namespace Go.Proofs.YtheeajnkiniopaaGreatDoor.Wp
open Go Go.RowKit
def Ye2 (m:Mat) (k:Nat) (c:List Int):Prop:=(c.length:Int) - ((Z2_ c (-1)).length:Int)=(k:Int) * rankT m (allL m.n)
def Zi6 (m:Mat) (c:List Int):Prop:=(c.length:Int) - ((Z2_ c (-1)).length:Int)=m.n
theorem Yv3 (E:Nat→Addr) (m:Mat) (v:Value) (k:Nat) (w:World) (r:MatV w w.heap.size v m) (hs:Sml m) (q:Env E w) (o:1≤k) (p:k≤8) (hc:chk m=0) :
  Calls Tryz.prog 27 #[v,.int .i64 k] w fun e w'=>∃ (c u:List Int) (g j:Value) (x:Int),e=.returned (.tuple #[g,j,.int .i64 x])∧MaxU (List.replicate k m) (nN m) c u∧Below w.heap.size w w'∧(x=0↔Ye2 m k c):=by
 refine (Zz4 E m v k w r hs q o p hc).mono ?_;rintro e w' ⟨c,u,g,j,d,hb,⟨h,rfl,_⟩ | ⟨h,rfl,_⟩⟩
 ·exact ⟨c,u,_,_,0,rfl,d,hb,fun _=>h,fun _=>rfl⟩
 ·exact ⟨c,u,_,_,170,rfl,d,hb,fun e=>absurd e x30_,fun e=>absurd e h⟩
theorem Zi7 (E:Nat→Addr) (m:Mat) (v:Value) (k:Nat) (w:World) (r:MatV w w.heap.size v m) (hs:Sml m) (q:Env E w) (o:1≤k) (p:k≤8) (hc:chk m=0) :
  Calls Tryz.prog 29 #[v,.int .i64 k] w fun e w'=>∃ (c u:List Int) (g j:Value) (x:Int),e=.returned (.tuple #[g,j,.int .i64 x])∧MaxU (List.replicate k m) (nN m) c u∧Below w.heap.size w w'∧(x=0↔Zi6 m c):=by
 refine (Zq4 E m v k w r hs q o p hc).mono ?_;rintro e w' ⟨c,u,g,j,d,hb,⟨h,rfl,_⟩ | ⟨h,rfl,_⟩⟩
 ·exact ⟨c,u,_,_,0,rfl,d,hb,fun _=>h,fun _=>rfl⟩
 ·exact ⟨c,u,_,_,171,rfl,d,hb,fun e=>absurd e x30_,fun e=>absurd e h⟩
theorem Yo0 {m:Mat} {k:Nat} {c u c' u':List Int} (hc:chk m=0) (p:1≤k) (q:k+1≤8) (f:MaxU (List.replicate k m) (nN m) c u) (g:MaxU (List.replicate (k+1) m) (nN m) c' u') (h:Ye2 m (k+1) c'):Ye2 m k c:=by
 have d:=V0_ (m:=m) p k29_ hc;have e:=V0_ (m:=m) (k:=k+1) k29_ q hc;have s:=(A0_ d f).1;have v:=(A0_ e g).1;obtain ⟨r,_,_⟩:=E4_ hc;have h3:=R3_ c' (-1);have w:=R3_ c (-1);unfold Ye2 at *
 rw [r] at h ⊢;have j:(((k+1:Nat):Int)) * ((rkP 4 m (memP (allL m.n)):Nat):Int)=(((k+1) * rkP 4 m (memP (allL m.n)):Nat):Int):=by rw [Int.natCast_mul]
 have o:((k:Nat):Int) * ((rkP 4 m (memP (allL m.n)):Nat):Int)=((k * rkP 4 m (memP (allL m.n)):Nat):Int):=by rw [Int.natCast_mul]
 rw [j] at h;rw [o];have x:=Xb6 rfl d f e g k29_;omega
theorem Yv4 {m:Mat} {k:Nat} {c u c' u':List Int} (hc:chk m=0) (j:1≤k) (o:k+1≤8) (f:MaxU (List.replicate k m) (nN m) c u) (g:MaxU (List.replicate (k+1) m) (nN m) c' u') (h:Zi6 m c):Zi6 m c':=by
 have d:=V0_ (m:=m) j k29_ hc;have e:=V0_ (m:=m) (k:=k+1) k29_ o hc;have p:=(A0_ d f).1;have q:=(A0_ e g).1;have h3:=Y1_ hc;unfold Zi6 at *
 have r:=Yn6 d f e g k29_;omega
theorem Xc5 {m:Mat} {c u:List Int} (hc:chk m=0) (e:MaxU (List.replicate 1 m) (nN m) c u):(c.length:Int) - ((Z2_ c (-1)).length:Int)=((1:Nat):Int) * rankT m (allL m.n):=by
 have d:=V0_ (m:=m) (k:=1) x30_ x30_ hc;have f:=(A0_ d e).1;have h2:=Va2 (m:=m) d e;rw [(E4_ hc).1];omega
theorem us_1 (E:Nat→Addr) (m:Mat) (v:Value) (k:Int) (w:World) (r:MatV w w.heap.size v m) (hl:Lim m) (s:Env E w) (u:fewB 9 m 8=false):Calls Tryz.prog 9 #[v,.int .i64 k] w (Truly w):=by
 have C:=hid u;clear u;have D:=hid hl;obtain ⟨y,x,K,J,I⟩:=r.open;have Hb0:=hid (Z1_ w m y x);have g:=hid (r.up Hb0.out);have d:=hid (s.up Hb0.out);have c:=hid (Z3_ w m y x);obtain ⟨B,H,rfl,-⟩:=J;obtain ⟨z,G,rfl,-⟩:=I;subst K;obtain ⟨X,q⟩:∃ X,boxed w m (.slice B m.l.length H) (.slice z m.i.length G)=X:=⟨_,rfl⟩;rw [q] at Hb0 g d c;have p:=hid q;unfold boxed at p;clear r s q hl
 go_enter Tryz.func9,Tryz.ntmps9
 go_wp2_with fail
 rw [p.out];refine (Z9_ E _ d.out).mono ?_;rintro e L ⟨rfl,h⟩;clear p;replace d:=hid (d.out.up h);replace g:=hid (g.out.up h);replace c:=hid (c.out.below h c.out.lt);replace Hb0:=hid (Z0_ Hb0.out (le_refl _) h);clear h;have F:=c.out.cell 0;have c1:=c.out.cell 1;have c2:=c.out.cell 2;have c3:=c.out.cell 3;have c4:=c.out.cell 4;have c5:=c.out.cell 5
 go_wp2_with fail
 refine (Zq2 m _ 8 _ g.out D.out).mono ?_;rintro e M ⟨rfl,j⟩;rw [C.out];clear F c1 c2 c3 c4 c5;replace d:=hid (d.out.up j);replace g:=hid (g.out.up j);replace c:=hid (c.out.below j c.out.lt);replace Hb0:=hid (Z0_ Hb0.out (le_refl _) j);clear j
 go_wp2_with fail
 refine (Z9_ E _ d.out).mono ?_;rintro e N ⟨rfl,o⟩;replace d:=hid (d.out.up o);replace g:=hid (g.out.up o);replace c:=hid (c.out.below o c.out.lt);replace Hb0:=hid (Z0_ Hb0.out (le_refl _) o);clear o;exact k1_
theorem us_2 (E:Nat→Addr) (m:Mat) (v:Value) (k:Int) (w:World) (hv:MatV w w.heap.size v m) (hl:Lim m) (hE:Env E w) (hf:fewB 9 m 8=true) (hm:may17 m k=false):Calls Tryz.prog 9 #[v,.int .i64 k] w (Truly w):=q1_
theorem us_3 (E:Nat→Addr) (m:Mat) (v:Value) (k:Int) (w:World) (hv:MatV w w.heap.size v m) (hl:Lim m) (hE:Env E w) (hf:fewB 9 m 8=true) (hm:may17 m k=true) (h3:3<k):Calls Tryz.prog 9 #[v,.int .i64 k] w (Truly w):=q1_
theorem Vb6 (E:Nat→Addr) (m:Mat) (v:Value) (n:Nat) (w:World) (I:MatV w w.heap.size v m) (hl:Lim m) (T:Env E w) (G:fewB 9 m 8=true) (U:may17 m n=true) (h1:1≤n) (h3:n≤3) (hc:chk m=0):Calls Tryz.prog 9 #[v,.int .i64 n] w (Truly w):=by
 have Hf:=hid G;have Hm:=hid U;have j:=hid hc;have k:=hid (Zh6 G);have hk:¬ (3:Int)<(n:Int):=k29_;have K:=hid (show n≤8 by omega);have B:=hid (show n+1≤8 by omega);have z:=hid h1;have xf:IntKind.i64.wrap ((n:Int)+1)=((n+1:Nat):Int):=z30_;clear G U hc;have Hl:=hid hl;obtain ⟨lv,iv,xd,xc,xb⟩:=I.open;have Hb0:=hid (Z1_ w m lv iv);have d:=hid (I.up Hb0.out);have g:=hid (T.up Hb0.out);have c:=hid (Z3_ w m lv iv);obtain ⟨Al,cl,rfl,-⟩:=xc;obtain ⟨Ai,ci,rfl,-⟩:=xb;subst xd;obtain ⟨X,F⟩:∃ X,boxed w m (.slice Al m.l.length cl) (.slice Ai m.i.length ci)=X:=⟨_,rfl⟩;rw [F] at Hb0 d g c;have C:=hid F;unfold boxed at C;clear I T F hl
 go_enter Tryz.func9,Tryz.ntmps9
 go_wp2_with fail
 rw [C.out];refine (Z9_ E _ g.out).mono ?_;rintro e w1 ⟨rfl,o⟩;clear C;replace g:=hid (g.out.up o);replace d:=hid (d.out.up o);replace c:=hid (c.out.below o c.out.lt);replace Hb0:=hid (Z0_ Hb0.out (le_refl _) o);clear o;have h:=c.out.cell 0;have c1:=c.out.cell 1;have c2:=c.out.cell 2;have c3:=c.out.cell 3;have c4:=c.out.cell 4;have c5:=c.out.cell 5
 go_wp2_with fail
 refine (Zq2 m _ 8 _ d.out Hl.out).mono ?_;rintro e w2 ⟨rfl,p⟩;rw [Hf.out];clear h c1 c2 c3 c4 c5;replace g:=hid (g.out.up p);replace d:=hid (d.out.up p);replace c:=hid (c.out.below p c.out.lt);replace Hb0:=hid (Z0_ Hb0.out (le_refl _) p);clear p;have h:=c.out.cell 0;have c1:=c.out.cell 1;have c2:=c.out.cell 2;have c3:=c.out.cell 3;have c4:=c.out.cell 4;have c5:=c.out.cell 5
 go_wp2_with fail
 refine (T6_ m _ n _ d.out k.out).mono ?_;rintro e w3 ⟨rfl,q⟩;rw [Hm.out];clear h c1 c2 c3 c4 c5;replace g:=hid (g.out.up q);replace d:=hid (d.out.up q);replace c:=hid (c.out.below q c.out.lt);replace Hb0:=hid (Z0_ Hb0.out (le_refl _) q);clear q;have h:=c.out.cell 0;have c1:=c.out.cell 1;have c2:=c.out.cell 2;have c3:=c.out.cell 3;have c4:=c.out.cell 4;have c5:=c.out.cell 5
 go_wp2_with fail
 refine (Yv3 E m _ n _ d.out k.out g.out z.out K.out j.out).mono ?_;rintro e w4 ⟨d4,u4,x4,y4,z4,rfl,V,r,x2⟩;have L:=hid V;have P:=hid x2;clear V x2;clear h c1 c2 c3 c4 c5;replace g:=hid (g.out.up r);replace d:=hid (d.out.up r);replace c:=hid (c.out.below r c.out.lt);replace Hb0:=hid (Z0_ Hb0.out (le_refl _) r);clear r;have h:=c.out.cell 0;have c1:=c.out.cell 1;have c2:=c.out.cell 2;have c3:=c.out.cell 3;have c4:=c.out.cell 4;have c5:=c.out.cell 5
 go_wp2_with fail
 refine (Yv3 E m _ (n+1) _ d.out k.out g.out (Nat.le_add_left 1 n) B.out j.out).mono ?_;rintro e w5 ⟨d5,u5,x5,y5,J,rfl,W,s,x3⟩;have M:=hid W;have Q:=hid x3;clear W x3;clear h c1 c2 c3 c4 c5;replace g:=hid (g.out.up s);replace d:=hid (d.out.up s);replace c:=hid (c.out.below s c.out.lt);replace Hb0:=hid (Z0_ Hb0.out (le_refl _) s);clear s;have h:=c.out.cell 0;have c1:=c.out.cell 1;have c2:=c.out.cell 2;have c3:=c.out.cell 3;have c4:=c.out.cell 4;have c5:=c.out.cell 5
 go_wp2_with fail
 refine (Zi7 E m _ n _ d.out k.out g.out z.out K.out j.out).mono ?_;rintro e w6 ⟨d6,u6,x6,y6,z6,rfl,Y,u,x9⟩;have N:=hid Y;have R:=hid x9;clear Y x9;clear h c1 c2 c3 c4 c5;replace g:=hid (g.out.up u);replace d:=hid (d.out.up u);replace c:=hid (c.out.below u c.out.lt);replace Hb0:=hid (Z0_ Hb0.out (le_refl _) u);clear u;have h:=c.out.cell 0;have c1:=c.out.cell 1;have c2:=c.out.cell 2;have c3:=c.out.cell 3;have c4:=c.out.cell 4;have c5:=c.out.cell 5
 go_wp2_with fail
 refine (Zi7 E m _ (n+1) _ d.out k.out g.out (Nat.le_add_left 1 n) B.out j.out).mono ?_;rintro e w7 ⟨d7,u7,x7,y7,z7,rfl,Z,x,xa⟩;have O:=hid Z;have S:=hid xa;clear Z xa;clear h c1 c2 c3 c4 c5;replace g:=hid (g.out.up x);replace d:=hid (d.out.up x);replace c:=hid (c.out.below x c.out.lt);replace Hb0:=hid (Z0_ Hb0.out (le_refl _) x);clear x;have h:=c.out.cell 0;have c1:=c.out.cell 1;have c2:=c.out.cell 2;have c3:=c.out.cell 3;have c4:=c.out.cell 4;have c5:=c.out.cell 5
 go_wp2_with fail
 refine (Zz4 E m _ 1 _ d.out k.out g.out x30_ x30_ j.out).mono ?_;rintro e w8 ⟨d8,u8,x8,y8,x0,y,⟨H,rfl,x1⟩ | ⟨H,rfl,x1⟩⟩;rotate_left
 ·exact absurd (Xc5 j.out x0) H
 obtain ⟨A8,c8,rfl,-⟩:=x1;rw [R7_];have Hp:=hid (fun e=>P.out.2 (Yo0 j.out z.out B.out L.out M.out (Q.out.1 e)):J=0→z4=0);have Hq:=hid (fun e=>S.out.2 (Yv4 j.out z.out B.out N.out O.out (R.out.1 e)):z6=0→z7=0);clear P Q R S L M N O H x0;clear h c1 c2 c3 c4 c5;replace g:=hid (g.out.up y);replace d:=hid (d.out.up y);replace c:=hid (c.out.below y c.out.lt);replace Hb0:=hid (Z0_ Hb0.out (le_refl _) y);clear y;by_cases D:J=0
 ·obtain rfl:=Hp.out D
  subst D;exact j25_
 ·have xe:(J != 0)=true:=by simpa using D
  exact j25_
theorem BasesSteps_any (E:Nat→Addr) (m:Mat) (v:Value) (k:Int) (w:World) (d:MatV w w.heap.size v m) (hl:Lim m) (c:Env E w):Calls Tryz.prog 9 #[v,.int .i64 k] w (Truly w):=by
 cases hf:fewB 9 m 8 with
 | false=>exact us_1 E m v k w d hl c hf
 | true =>
  cases hm:may17 m k with
  | false=>exact us_2 E m v k w d hl c hf hm
  | true =>
   have h:=hm;unfold may17 at h;rw [Bool.and_eq_true,Bool.and_eq_true,decide_eq_true_iff,decide_eq_true_iff,decide_eq_true_iff] at h;by_cases h3:3<k
   ·exact us_3 E m v k w d hl c hf hm h3
   ·obtain ⟨n,rfl⟩:∃ n:Nat,k=n:=⟨k.toNat,k29_⟩
    exact Vb6 E m v n w d hl c hf hm k29_ k29_ h.1
open Go Go.RowKit
theorem uu_0 (E:Nat→Addr) (n a k:Int) (w:World) (hE:Env E w)  (c:n<0):Calls Tryz.prog 10 #[.int .i64 n,.int .i64 a,.int .i64 k] w (Truly w):=j0_
theorem uu_1 (E:Nat→Addr) (n a k:Int) (w:World) (hE:Env E w) (c:¬ n<0) (d:12<n):Calls Tryz.prog 10 #[.int .i64 n,.int .i64 a,.int .i64 k] w (Truly w):=j0_
theorem uu_2 (E:Nat→Addr) (n a k:Int) (w:World) (hE:Env E w) (c:¬ n<0) (d:¬ 12<n) (h2:a<0):Calls Tryz.prog 10 #[.int .i64 n,.int .i64 a,.int .i64 k] w (Truly w):=j0_
theorem uu_3 (E:Nat→Addr) (n a k:Int) (w:World) (hE:Env E w) (c:¬ n<0) (d:¬ 12<n) (h2:¬ a<0) (h3:n<a):Calls Tryz.prog 10 #[.int .i64 n,.int .i64 a,.int .i64 k] w (Truly w):=j0_
theorem uu_4 (E:Nat→Addr) (n a k:Int) (w:World) (hE:Env E w) (c:¬ n<0) (d:¬ 12<n) (h2:¬ a<0) (h3:¬ n<a) (g:k<1):Calls Tryz.prog 10 #[.int .i64 n,.int .i64 a,.int .i64 k] w (Truly w):=j0_
theorem uu_5 (E:Nat→Addr) (n a k:Int) (w:World) (hE:Env E w) (c:¬ n<0) (d:¬ 12<n) (h2:¬ a<0) (h3:¬ n<a) (g:¬ k<1) (h:8<k):Calls Tryz.prog 10 #[.int .i64 n,.int .i64 a,.int .i64 k] w (Truly w):=j0_
theorem Vb7 (E:Nat→Addr) (n a k:Nat) (w:World) (J:Env E w) (Y:n≤12) (ha:a≤n) (I:1≤k) (y:k≤8):Calls Tryz.prog 10 #[.int .i64 n,.int .i64 a,.int .i64 k] w (Truly w):=by
 have q:=hid I;have r:=hid y;have F:=hid ha;have G:=hid (show n≤64 by omega);have H:=hid (A1_ (n:=(n:Int)) (a:=(a:Int)) k29_ k29_ k29_);have i0:¬ (n:Int)<0:=k29_;have i1:¬ (12:Int)<(n:Int):=k29_;have i2:¬ (a:Int)<0:=k29_;have i3:¬ (n:Int)<(a:Int):=k29_;have i4:¬ (k:Int)<1:=k29_;have i5:¬ (8:Int)<(k:Int):=k29_;have i6:¬ n<a:=k29_;have i7:¬ 12<n:=k29_;have i8:¬ k<1:=k29_;have i9:¬ 8<k:=k29_;have x0:¬ k=0:=k29_;obtain ⟨z,D⟩:∃ z,k * a=z:=⟨_,rfl⟩;have S:k * a≤8 * 12:=Nat.mul_le_mul y k29_;have Z:IntKind.i64.wrap ((k:Int) * (a:Int))=(z:Int):=by
  rw [← Int.natCast_mul,D,IntKind.wrap_i64];omega
 have R:=hid D;clear D S I y ha;have d:=hid J;have Hb0:=hid (Below.refl w.heap.size w);clear J
 go_enter Tryz.func10,Tryz.ntmps10
 go_wp2_with fail
 refine (Z9_ E _ d.out).mono ?_;rintro e m ⟨rfl,B⟩;replace d:=hid (d.out.up B);replace Hb0:=hid (Z0_ Hb0.out (le_refl _) B);clear B;obtain ⟨X,s⟩:∃ X,m.alloc (.cells #[.int .i64 0,.int .i64 n,.int .i64 a,.int .i64 0,.slice none 0 0,.slice none 0 0] 37)=X:=⟨_,rfl⟩;have Q:=hid s.symm;have c:Hid (Blk X m.heap.size 37 #[.int .i64 0,.int .i64 n,.int .i64 a,.int .i64 0,.slice none 0 0,.slice none 0 0]):=hid (by rw [← s];exact Blk.new m _ _);have C:Below m.heap.size m X:=by rw [← s];exact (Below.refl _ m).alloc (le_refl _) _
 clear s;replace d:=hid (d.out.up C);replace Hb0:=hid (Z0_ Hb0.out (le_refl _) C);clear C;have x:=c.out.cell 0;have c1:=c.out.cell 1;have c2:=c.out.cell 2;have c3:=c.out.cell 3;have c4:=c.out.cell 4;have c5:=c.out.cell 5
 go_wp2_with fail
 rw [← Q.out];refine (Yv3 E (unU n a) _ k _ (J0_ _ _ 0 n a 0) (J1_ ..) d.out q.out r.out H.out).mono ?_;rintro e w4 ⟨T,u4,x4,y4,O,rfl,K,u,M⟩;have g:=hid (M.trans (Yv2 F.out G.out q.out r.out K));clear K M;clear x c1 c2 c3 c4 c5;replace d:=hid (d.out.up u);replace c:=hid (c.out.below u c.out.lt);replace Hb0:=hid (Z0_ Hb0.out (le_refl _) u);clear u;have x:=c.out.cell 0;have c1:=c.out.cell 1;have c2:=c.out.cell 2;have c3:=c.out.cell 3;have c4:=c.out.cell 4;have c5:=c.out.cell 5
 go_wp2_with fail
 refine (Zi7 E (unU n a) _ k _ (J0_ _ _ 0 n a 0) (J1_ ..) d.out q.out r.out H.out).mono ?_;rintro e w5 ⟨U,u5,x5,y5,P,rfl,L,v,N⟩;have j:=hid (N.trans (Zi5 F.out G.out q.out r.out L));clear L N;clear x c1 c2 c3 c4 c5;replace d:=hid (d.out.up v);replace c:=hid (c.out.below v c.out.lt);replace Hb0:=hid (Z0_ Hb0.out (le_refl _) v);clear v;rw [R.out] at g j;rcases Nat.lt_trichotomy z n with h | h | h
 ·have o:=g.out.2 k29_
  subst o;have p:¬ P=0:=fun e=>by have:=j.out.1 e;omega
  have W:(P==0)=false:=by simpa using p
  have q1:(z:Int)≤(n:Int):=k29_;have q2:¬ (n:Int)≤(z:Int):=k29_;have q3:z≤n:=k29_;have q4:¬ n≤z:=k29_;clear g j h;exact k1_
 ·have o:=g.out.2 k29_
  subst o;have p:=j.out.2 k29_;subst p;have q1:(z:Int)≤(n:Int):=k29_;have q2:(n:Int)≤(z:Int):=k29_;have q3:z≤n:=k29_;have q4:n≤z:=k29_;clear g j h;exact k1_
 ·have p:=j.out.2 k29_
  subst p;have o:¬ O=0:=fun e=>by have:=g.out.1 e;omega
  have V:(O==0)=false:=by simpa using o
  have q1:¬ (z:Int)≤(n:Int):=k29_;have q2:(n:Int)≤(z:Int):=k29_;have q3:¬ z≤n:=k29_;have q4:n≤z:=k29_;clear g j h;exact k1_
theorem BasesUniform_any (E:Nat→Addr) (n a k:Int) (w:World) (c:Env E w):Calls Tryz.prog 10 #[.int .i64 n,.int .i64 a,.int .i64 k] w (Truly w):=by
 by_cases d:n<0
 ·exact uu_0 E n a k w c d
 by_cases e:12<n
 ·exact uu_1 E n a k w c d e
 by_cases h2:a<0
 ·exact uu_2 E n a k w c d e h2
 by_cases h3:n<a
 ·exact uu_3 E n a k w c d e h2 h3
 by_cases g:k<1
 ·exact uu_4 E n a k w c d e h2 h3 g
 by_cases h:8<k
 ·exact uu_5 E n a k w c d e h2 h3 g h
 obtain ⟨n,rfl⟩:∃ j:Nat,n=j:=⟨n.toNat,k29_⟩;obtain ⟨a,rfl⟩:∃ j:Nat,a=j:=⟨a.toNat,k29_⟩;obtain ⟨k,rfl⟩:∃ j:Nat,k=j:=⟨k.toNat,k29_⟩;exact Vb7 E n a k w c k29_ k29_ k29_ k29_
end Go.Proofs.YtheeajnkiniopaaGreatDoor.Wp
