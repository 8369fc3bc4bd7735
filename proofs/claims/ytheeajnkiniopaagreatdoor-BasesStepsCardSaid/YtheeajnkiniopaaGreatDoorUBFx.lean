/- The calls whose answers the document fixes, of bases, walked: they are as it fixes them; the document's May of layer 17 (written by gen_ubfx.py). -/
import Derived.Test.YtheeajnkiniopaaGreatDoorUBas
import Derived.Test.YtheeajnkiniopaaGreatDoorUApp
import Derived.Test.YtheeajnkiniopaaGreatDoorZA
import Derived.Test.YtheeajnkiniopaaGreatDoorZT
import Derived.Test.YtheeajnkiniopaaGreatDoorX0A
import Derived.Test.YtheeajnkiniopaaGreatDoorX0B
set_option maxHeartbeats 16000000
set_option maxRecDepth 100000
open Go.Lib (hid)
open Nat (le_refl)
namespace Go.Proofs.YtheeajnkiniopaaGreatDoor.Wp
open Go Go.RowKit
theorem Xp5 {n a:Nat} (d:a≤n) (h2:n≤64):rankT (unU n a) (allL (n:Int))=(a:Int):=by
 have hc:=A1_ (n:=(n:Int)) (a:=(a:Int)) k29_ k29_ k29_;obtain ⟨c,hl⟩:=Zi0 h2;rw [Zr8 (mayI_iff.2 ⟨hc,c⟩),T3_ (n:=(n:Int)) (a:=(a:Int)) (by rw [Int.toNat_natCast];exact c),hl];show ((min ((a:Int)).toNat n:Nat):Int)=a;omega
theorem Xc4 (a:Int):∀ k:Nat,((List.replicate k a).map Int.toNat).sum=k * a.toNat
 | 0=>by simp
 | k+1=>by rw [List.replicate_succ,List.map_cons,List.sum_cons,Xc4 a k,Nat.succ_mul];omega
theorem T5_ {n a k:Nat} {c u:List Int} (o:a≤n) (h2:n≤64) (g:1≤k) (j:k≤8) (f:MaxU (List.replicate k (unU n a)) (nN (unU n a)) c u):c.length=n∧n=(Z2_ c (-1)).length+min (k * a) n:=by
 have hc:=A1_ (n:=(n:Int)) (a:=(a:Int)) k29_ k29_ k29_;have d:=V0_ g j hc;have m:nN (unU n a)=n:=Int.toNat_natCast n;rw [m] at d f;have e:List.replicate k (unU n a)=(List.replicate k (a:Int)).map (unU n):=by rw [List.map_replicate]
 refine ⟨(A0_ d f).1,?_⟩;rw [e] at d f;have h:=Va3 (Int.toNat_natCast n) d f
 rwa [Xc4,Int.toNat_natCast] at h
theorem Yv2 {n a k:Nat} {c u:List Int} (d:a≤n) (h2:n≤64) (f:1≤k) (g:k≤8) (h:MaxU (List.replicate k (unU n a)) (nN (unU n a)) c u):((c.length:Int) - ((Z2_ c (-1)).length:Int)=(k:Int) * rankT (unU n a) (allL (unU n a).n))↔k * a≤n:=by
 obtain ⟨j,m⟩:=T5_ d h2 f g h;have e:=Xp5 d h2;rw [show (unU n a).n=(n:Int) from rfl,e,← Int.natCast_mul];omega
theorem Zi5 {n a k:Nat} {c u:List Int} (d:a≤n) (h2:n≤64) (e:1≤k) (f:k≤8) (g:MaxU (List.replicate k (unU n a)) (nN (unU n a)) c u):((c.length:Int) - ((Z2_ c (-1)).length:Int)=(unU n a).n)↔n≤k * a:=by
 obtain ⟨h,j⟩:=T5_ d h2 e f g;rw [show (unU n a).n=(n:Int) from rfl];omega
theorem Ye1 {n a k i:Nat} {c u:List Int} (h:a≤n) (h2:n≤64) (e:1≤k) (f:k≤8) (g:MaxU (List.replicate k (unU n a)) (nN (unU n a)) c u) (hi:i<k):(Z2_ c (i:Int)).length≤a:=by
 have hc:=A1_ (n:=(n:Int)) (a:=(a:Int)) k29_ k29_ k29_;have m:=V0_ e f hc;have o:=(P5_ m g).1;have h3:=o.cnt_class (k:=i) k35_;have d:=V3_ (c:=c) (k:=(i:Int)) (by have:=(T5_ h h2 e f g).1;omega);have j:=(T5_ h h2 e f g).1;rw [j] at h3 d;rw [← X1_ d,show (List.replicate k (unU n a)).getD i default=unU n a by simp [List.getD,hi],T3_ (n:=(n:Int)) (a:=(a:Int)) (by rw [Int.toNat_natCast];exact d)] at h3;have p:((a:Int)).toNat=a:=Int.toNat_natCast a;omega
theorem Vb5 {c u:List Int} (d:MaxU (List.replicate 2 (unU 4 2)) (nN (unU 4 2)) c u):(Z2_ c ((0:Nat):Int)).length=2:=by
 have f:=Ye1 (n:=4) (a:=2) (k:=2) (i:=0) x30_ x30_ x30_ x30_ d x30_;have h2:=Ye1 (n:=4) (a:=2) (k:=2) (i:=1) x30_ x30_ x30_ x30_ d x30_;obtain ⟨h3,p⟩:=T5_ (n:=4) (a:=2) (k:=2) x30_ x30_ x30_ x30_ d;have hc:=A1_ (n:=4) (a:=2) x30_ x30_ x30_;have j:=V0_ (k:=2) x30_ x30_ hc;have o:=(P5_ j d).1;have g:=C4_ o.rng allP c.length (le_refl _);have m:c.length≤64:=k29_;have e:∀ k:Int,cnt (andP (memP (Z2_ c k)) allP) c.length=(Z2_ c k).length:=fun k=>by
  rw [X1_ (V3_ m k)];exact I9_ fun i _=>by simp [andP,allP]
 rw [e,Zh9,show (List.replicate 2 (unU 4 2)).length=2 from rfl] at g;have h:0+cnt (andP (memP (Z2_ c ((0:Nat):Int))) allP) c.length+cnt (andP (memP (Z2_ c ((1:Nat):Int))) allP) c.length+(Z2_ c (-1)).length=c.length:=g;rw [e,e] at h;have f:(Z2_ c ((0:Nat):Int)).length≤2:=f;omega
theorem evb_u {c u:List Int} {k:Nat} (h:1≤k) (j:k≤8) (e:MaxU (List.replicate k (unU 5 2)) (nN (unU 5 2)) c u):InN 5 u∧(k=2→u.length=5):=by
 have hc:=A1_ (n:=5) (a:=2) x30_ x30_ x30_;have f:=V0_ h j hc;obtain ⟨_,d,h2,_⟩:=A0_ f e;have d:InN 5 u:=d;refine ⟨d,fun g=>?_⟩;subst g;obtain ⟨_,m⟩:=T5_ (n:=5) (a:=2) (k:=2) x30_ x30_ x30_ x30_ e;rw [R2_,T3_ (n:=5) (a:=2) d,show (2:Int).toNat=2 from rfl] at h2;have:=Xb2 d;omega
theorem Rows2.at {w:World} {v:Value} {pp:List (List Int)} (h:Rows2 w w.heap.size v pp) {k:Nat} (j:k<pp.length):∃ (d:Addr) (c:Nat) (A:Option Addr) (c2:Nat),v=.slice (some d) pp.length c∧∀ W,Below w.heap.size w W→W.cell? (d.add k)=some (.slice A (pp.getD k []).length c2):=by
 obtain ⟨A,c,rfl,_,hc⟩:=h;obtain ⟨d,u,rfl,m,g,⟨e,c2,rfl,_⟩⟩:=hc k j;exact ⟨d,c,e,c2,rfl,fun W f=>by
  have:(d.add k).block=d.block:=by unfold Addr.add;split<;>rfl
  rw [f.cell (by rw [this];exact m)];exact g⟩
theorem R7_ (c:List Int) (k:Nat):(setsK c k).length=k:=by simp [setsK]
theorem Xp6 (c:List Int) {k i:Nat} (h:i<k):(setsK c k).getD i []=Z2_ c (i:Int):=by simp [setsK,List.getD,h]
def may17 (m:Mat) (k:Int):Bool:=decide (chk m=0) && (decide (1≤k) && decide (k≤8))
theorem T6_ (m:Mat) (v:Value) (k:Int) (w:World) (o:MatV w w.heap.size v m) (hs:Sml m):Calls Tryz.prog 32 #[v,.int .i64 k] w (Says w (may17 m k)):=by
 have C:=hid hs;obtain ⟨y,x,J,I,H⟩:=o.open;have g:=hid (Z1_ w m y x);have p:=hid (o.up g.out);have c:=hid (Z3_ w m y x);obtain ⟨B,F,rfl,-⟩:=I;obtain ⟨z,E,rfl,-⟩:=H;subst J;obtain ⟨X,j⟩:∃ X,boxed w m (.slice B m.l.length F) (.slice z m.i.length E)=X:=⟨_,rfl⟩;rw [j] at g p c;have q:=hid j;unfold boxed at q;obtain ⟨d,u⟩:∃ d,chk m=d:=⟨_,rfl⟩;have r:=hid u;have D:=c.out.cell 0;have c1:=c.out.cell 1;have c2:=c.out.cell 2;have c3:=c.out.cell 3;have c4:=c.out.cell 4;have c5:=c.out.cell 5;clear o hs j u
 go_enter Tryz.func32,Tryz.ntmps32
 go_wp2_with fail
 rw [q.out];refine (Zb6 m _ X p.out C.out).mono ?_;rintro e K ⟨rfl,s⟩;rw [r.out];have Hb3:=hid (Z0_ g.out (le_refl _) s);clear s D c1 c2 c3 c4 c5;have Hr:Hid (may17 m k=(decide (d=0) && (decide (1≤k) && decide (k≤8)))):=hid (by unfold may17;rw [r.out]);by_cases h0:d=0
 ·subst h0
  by_cases h:1≤k
  ·by_cases h8:k≤8
   ·have He:=hid (Hr.out.trans (by simp [h,h8]):may17 m k=true)
    exact k18_
   ·have He:=hid (Hr.out.trans (by simp [h8]):may17 m k=false)
    exact k18_
  ·have He:=hid (Hr.out.trans (by simp [h]):may17 m k=false)
   clear Hr;go_wp2;go_ret;exact ⟨by rw [He.out];first | rfl | simp [h],Hb3.out⟩
 ·have He:=hid (Hr.out.trans (by simp [h0]):may17 m k=false)
  have G:(d==0)=false:=y37_;clear Hr;go_wp2;go_ret;exact ⟨by rw [He.out];first | rfl | simp [G],Hb3.out⟩
theorem Z9_ (E:Nat→Addr) (w:World) (S:Env E w):Calls Tryz.prog 26 #[] w (Truly w):=by
 obtain ⟨z,B⟩:∃ z,z=(w.alloc (.cells #[.int .i64 0,.int .i64 4,.int .i64 2,.int .i64 0,.slice none 0 0,.slice none 0 0] 37)).alloc (.cells #[.int .i64 0,.int .i64 5,.int .i64 2,.int .i64 0,.slice none 0 0,.slice none 0 0] 37):=⟨_,rfl⟩;have Q:=hid B;have F:Below w.heap.size w z:=by rw [B];exact ((Below.refl _ w).alloc (le_refl _) _).alloc y30_ _
 have d:Hid (Blk z w.heap.size 37 #[.int .i64 0,.int .i64 4,.int .i64 2,.int .i64 0,.slice none 0 0,.slice none 0 0]):=hid (by rw [B];exact (Blk.new w _ _).alloc _);have c:Hid (Blk z (w.heap.size+1) 37 #[.int .i64 0,.int .i64 5,.int .i64 2,.int .i64 0,.slice none 0 0,.slice none 0 0]):=hid (by
  rw [B];have:=Blk.new (w.alloc (.cells #[.int .i64 0,.int .i64 4,.int .i64 2,.int .i64 0,.slice none 0 0,.slice none 0 0] 37)) 37 #[.int .i64 0,.int .i64 5,.int .i64 2,.int .i64 0,.slice none 0 0,.slice none 0 0];simpa using this)
 have Hb0:=hid F;have g:=hid (S.up F);clear S B F;have k0:=d.out.cell 0;have k1:=d.out.cell 1;have k2:=d.out.cell 2;have k3:=d.out.cell 3;have k4:=d.out.cell 4;have k5:=d.out.cell 5
 go_enter Tryz.func26,Tryz.ntmps26
 go_wp2_with fail
 rw [← Q.out];refine (Zz4 E (unU 4 2) _ 2 _ (J0_ _ _ 0 4 2 0) (J1_ ..) g.out x30_ x30_ (A1_ x30_ x30_ x30_)).mono ?_;rintro e w3 ⟨c3,u3,x3,y3,K,C,⟨G,rfl,O⟩ | ⟨G,rfl,O⟩⟩;rotate_left
 ·exact absurd ((Yv2 (n:=4) (a:=2) (k:=2) x30_ x30_ x30_ x30_ K).2 x30_) G
 have U:=Vb5 K;obtain ⟨D,x9,A3,d3,rfl,N⟩:=O.at (k:=0) (by rw [R7_];decide);rw [Xp6 c3 (show 0<2 by decide),U,show D.add 0=D by obtain ⟨x1,x2,x3⟩:=D;cases x3<;>simp [Addr.add]] at N;have x7:=hid N;rw [R7_];have h:=hid (Below.refl w3.heap.size w3);clear N O K G U Q;clear k0 k1 k2 k3 k4 k5;replace g:=hid (g.out.up C);replace d:=hid (d.out.below C d.out.lt);replace c:=hid (c.out.below C c.out.lt);replace Hb0:=hid (Z0_ Hb0.out (le_refl _) C);clear C;have q:=c.out.cell 0;have r:=c.out.cell 1;have s:=c.out.cell 2;have u:=c.out.cell 3;have v:=c.out.cell 4;have x:=c.out.cell 5
 go_wp2_with fail
 refine (Zz4 E (unU 5 2) _ 3 _ (J0_ _ _ 0 5 2 0) (J1_ ..) g.out x30_ x30_ (A1_ x30_ x30_ x30_)).mono ?_;rintro e w4 ⟨c4,u4,x4,y4,L,y,⟨H,rfl,P⟩ | ⟨H,rfl,P⟩⟩
 skip
 ·exact absurd ((Yv2 (n:=5) (a:=2) (k:=3) x30_ x30_ x30_ x30_ L).1 H) x30_
 have Y:=(evb_u x30_ x30_ L).1;have j:=hid P;have R:=hid Y;obtain ⟨A4,d4,rfl,-⟩:=P;have h:=hid (Z0_ h.out (le_refl _) y);clear L H Y;clear q r s u v x;replace g:=hid (g.out.up y);replace d:=hid (d.out.below y d.out.lt);replace c:=hid (c.out.below y c.out.lt);replace Hb0:=hid (Z0_ Hb0.out (le_refl _) y);clear y;have q:=c.out.cell 0;have r:=c.out.cell 1;have s:=c.out.cell 2;have u:=c.out.cell 3;have v:=c.out.cell 4;have x:=c.out.cell 5
 go_wp2_with fail
 refine (Zq4 E (unU 5 2) _ 3 _ (J0_ _ _ 0 5 2 0) (J1_ ..) g.out x30_ x30_ (A1_ x30_ x30_ x30_)).mono ?_;rintro e w5 ⟨c5,u5,x5,y5,V,m,⟨I,rfl,W⟩ | ⟨I,rfl,W⟩⟩;rotate_left
 ·exact absurd ((Zi5 (n:=5) (a:=2) (k:=3) x30_ x30_ x30_ x30_ V).2 x30_) I
 obtain ⟨A5,d5,rfl,-⟩:=W;rw [R7_];replace h:=hid (Z0_ h.out (le_refl _) m);clear V I;clear q r s u v x;replace g:=hid (g.out.up m);replace j:=hid (j.out.up m);replace d:=hid (d.out.below m d.out.lt);replace c:=hid (c.out.below m c.out.lt);replace Hb0:=hid (Z0_ Hb0.out (le_refl _) m);clear m;have q:=c.out.cell 0;have r:=c.out.cell 1;have s:=c.out.cell 2;have u:=c.out.cell 3;have v:=c.out.cell 4;have x:=c.out.cell 5
 go_wp2_with fail
 refine (Zq4 E (unU 5 2) _ 2 _ (J0_ _ _ 0 5 2 0) (J1_ ..) g.out x30_ x30_ (A1_ x30_ x30_ x30_)).mono ?_;rintro e w6 ⟨c6,u6,x6,y6,M,o,⟨J,rfl,X⟩ | ⟨J,rfl,X⟩⟩
 skip
 ·exact absurd ((Zi5 (n:=5) (a:=2) (k:=2) x30_ x30_ x30_ x30_ M).1 J) x30_
 have Z:=(evb_u x30_ x30_ M).2 rfl;obtain ⟨A6,d6,rfl,-⟩:=X;rw [Z];replace h:=hid (Z0_ h.out (le_refl _) o);clear M J Z;clear q r s u v x;replace g:=hid (g.out.up o);replace j:=hid (j.out.up o);replace d:=hid (d.out.below o d.out.lt);replace c:=hid (c.out.below o c.out.lt);replace Hb0:=hid (Z0_ Hb0.out (le_refl _) o);clear o;have q:=c.out.cell 0;have r:=c.out.cell 1;have s:=c.out.cell 2;have u:=c.out.cell 3;have v:=c.out.cell 4;have x:=c.out.cell 5
 go_wp2_with fail
 refine (Xc3 (unU 5 2) _ 9 _ (J0_ _ _ 0 5 2 0) (.inr x30_)).mono ?_;rintro e w7 ⟨rfl,p⟩;replace h:=hid (Z0_ h.out (le_refl _) p);clear q r s u v x;replace g:=hid (g.out.up p);replace j:=hid (j.out.up p);replace d:=hid (d.out.below p d.out.lt);replace c:=hid (c.out.below p c.out.lt);replace Hb0:=hid (Z0_ Hb0.out (le_refl _) p);clear p;have q3:=x7.out w7 h.out;have x0:u4.length≤5:=Xb2 R.out;have x8:=hid x0;clear x0
 go_wp2_with fail
 refine (I5_ _ u4 _ j.out (by have:=x8.out;omega) (F8_ R.out.1)).mono ?_;rintro e w8 ⟨rfl,T⟩;replace Hb0:=hid (Z0_ Hb0.out (le_refl _) T);clear T q3;exact k1_
end Go.Proofs.YtheeajnkiniopaaGreatDoor.Wp
