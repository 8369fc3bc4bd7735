/- SplitHeaviest, walked: it answers true (written by gen_yheavy2.py). -/
import Derived.Test.YtnaebbjodfnooaaGreatDoorYFx15
import Derived.Test.YtnaebbjodfnooaaGreatDoorVI10C
import Derived.Test.YtnaebbjodfnooaaGreatDoorZS
import Derived.Test.YtnaebbjodfnooaaGreatDoorTCom
import Derived.Test.YtnaebbjodfnooaaGreatDoorISub
import Derived.Test.YtnaebbjodfnooaaGreatDoorQWalkA
import Derived.Test.YtnaebbjodfnooaaGreatDoorX0A
import Derived.Test.YtnaebbjodfnooaaGreatDoorX0C
set_option maxHeartbeats 16000000
set_option maxRecDepth 100000
open Go.Lib (hid)
open Nat (le_refl)
namespace Go.Proofs.YtnaebbjodfnooaaGreatDoor.Wp
open Go Go.RowKit
theorem Jj1 {m:Mat} (h:fewB 9 m 7=true):m.n≤7:=by
 rw [fewB,Bool.and_eq_true] at h;unfold fewOk at h;rw [Bool.and_eq_true,Bool.and_eq_true,decide_eq_true_iff] at h;have c:=h.1.1.2;unfold mostI at c;split at c<;>omega
theorem Zt6 (ws:List Int) (L:List Trip):∀ n,0<n→(V4_ ws L n).2=J3_ ws (setK L (V4_ ws L n).1.toNat)∧∀ k,k<n→J3_ ws (setK L k)≤(V4_ ws L n).2
 | 0,h=>absurd h (Nat.lt_irrefl 0)
 | n+1,_=>by
  have f:=Yh3 ws L n;rw [V4_];by_cases h:(V4_ ws L n).1<0∨(V4_ ws L n).2<J3_ ws (L.getD n default).1
  ·rw [if_pos h]
   refine ⟨by show _=J3_ ws (setK L ((n:Int)).toNat);rw [Int.toNat_natCast];rfl,fun k d=>?_⟩;show J3_ ws (setK L k)≤J3_ ws (setK L n);by_cases e:k=n
   ·rw [e];exact Int.le_refl _
   ·have c:=(Zt6 ws L n x37_).2 k x37_
    have h3:=f.2.2 x37_;have j:(V4_ ws L n).2<J3_ ws (setK L n):=h.resolve_left x37_;omega
  ·rw [if_neg h]
   rw [not_or] at h;have g:0<n:=by
    rcases Nat.eq_zero_or_pos n with e | e
    ·subst e;exact absurd (show (-1:Int)<0 by omega) h.1
    ·exact e
   obtain ⟨c,h3⟩:=Zt6 ws L n g;refine ⟨c,fun k d=>?_⟩;by_cases e:k=n
   ·rw [e]
    have:¬ (V4_ ws L n).2<J3_ ws (setK L n):=h.2;omega
   ·exact h3 k x37_
theorem Told.heavy {a b:Mat} {ws:List Int} {L:List Trip} (h:Told a b ws L) (f:may15 a b ws=true):∃ B:Nat,B<L.length∧(V4_ ws L L.length).1=(B:Int)∧∀ k,k<L.length→sumW ws (setK L k)≤sumW ws (setK L B):=by
 have j:=Yh3 ws L L.length;have d:=Zt6 ws L L.length h.pos;have h3:=j.2.2 h.pos;have e:((V4_ ws L L.length).1.toNat:Int)=(V4_ ws L L.length).1:=x37_;have hB:(V4_ ws L L.length).1.toNat<L.length:=x37_;have g:∀ k,k<L.length→J3_ ws (setK L k)=sumW ws (setK L k):=fun k c=>Xx8 (h.com c).n64 (snil f).2.1 (Zr3 f) (h.com c).set;refine ⟨(V4_ ws L L.length).1.toNat,hB,e.symm,fun k c=>?_⟩;rw [← g k c,← g _ hB,← d.1];exact d.2 k c
theorem Told.no {a b:Mat} {ws:List Int} {L:List Trip} (h:Told a b ws L) (c:a.n=b.n) {t:List Int} (d:¬ (t.length<L.length∧sumW ws t≤sumW ws (setK L t.length))):(indT a t && indT b t)=false:=by
 cases e:(indT a t && indT b t)
 ·rfl
 ·rw [Bool.and_eq_true] at e
  have hc:Common a b t:=⟨c,e.1,e.2⟩;exact absurd ⟨h.top t hc,h.best hc⟩ d
theorem Xq9 {ws t:List Int} {n:Nat} (g:n≤64) (hl:ws.length=n) (j:∀ x∈ws,-1099511627776≤x∧x≤1099511627776) (c:InN n t) (d v:Value) (W:World) (e:Row W W.heap.size d ws) (h:Row W W.heap.size v t):Calls Tryz.prog 10 #[d,v] W (Tells W (sumW ws t)):=by
 have m:=Y1_ c;rw [← Vf6 g hl j c];exact Zf3 d v ws t W e h x37_ fun _ x k=>by have:=c.2 x k;omega
theorem SplitHeaviest_any (E:Nat→Addr) (a:Mat) (va:Value) (b:Mat) (vb:Value) (S:Value) (s:List Int) (w:World) (xq:MatV w w.heap.size va a) (yh:Lim a) (xr:MatV w w.heap.size vb b) (yi:Lim b) (xo:Row w w.heap.size S s) (hE:Env E w):Calls Tryz.prog 3 #[va,vb,S] w (Truly w):=by
 obtain ⟨fa,ye⟩:∃ f,fewB 9 a 7=f:=⟨_,rfl⟩;obtain ⟨fb,yf⟩:∃ f,fewB 9 b 7=f:=⟨_,rfl⟩;obtain ⟨fm,hm⟩:∃ f,may15 a b s=f:=⟨_,rfl⟩;have x3:=hid ye;have xb:=hid yf;have I:=hid hm;clear ye yf hm;have yu:=hid yh;have yv:=hid yi;obtain ⟨l1,i1,zc,z4,z1⟩:=xq.open;obtain ⟨l2,i2,zd,z5,z2⟩:=xr.open;obtain ⟨Al,cl,rfl,_⟩:=z4;obtain ⟨Ai,ci,rfl,_⟩:=z1;obtain ⟨Bl,dl,rfl,_⟩:=z5;obtain ⟨Bi,di,rfl,_⟩:=z2;obtain ⟨Aw,cw,za,z0,_⟩:=id xo;subst zc zd za;obtain ⟨W2,hW2⟩:∃ W2,W2=(w.alloc (.cells #[.int .i64 a.t,.int .i64 a.n,.int .i64 a.a,.int .i64 a.b,.slice Al a.l.length cl,.slice Ai a.i.length ci] 25)).alloc (.cells #[.int .i64 b.t,.int .i64 b.n,.int .i64 b.a,.int .i64 b.b,.slice Bl b.l.length dl,.slice Bi b.i.length di] 25):=⟨_,rfl⟩;have y2:=hid hW2;have u:Below w.heap.size w W2:=by rw [hW2];exact ((Below.refl _ w).alloc (le_refl _) _).alloc j37_ _
 have Hka:Hid (Blk W2 w.heap.size 25 #[.int .i64 a.t,.int .i64 a.n,.int .i64 a.a,.int .i64 a.b,.slice Al a.l.length cl,.slice Ai a.i.length ci]):=hid j40_;have Hkb:Hid (Blk W2 (w.heap.size+1) 25 #[.int .i64 b.t,.int .i64 b.n,.int .i64 b.a,.int .i64 b.b,.slice Bl b.l.length dl,.slice Bi b.i.length di]):=hid (by
  rw [hW2];have:=Blk.new (w.alloc (.cells #[.int .i64 a.t,.int .i64 a.n,.int .i64 a.a,.int .i64 a.b,.slice Al a.l.length cl,.slice Ai a.i.length ci] 25)) 25 #[.int .i64 b.t,.int .i64 b.n,.int .i64 b.a,.int .i64 b.b,.slice Bl b.l.length dl,.slice Bi b.i.length di];simpa using this)
 have Hb0:=hid u;have j:=hid (xq.up u);have k:=hid (xr.up u);have m:=hid (xo.up u);have g:=hid (hE.up u);clear xq xr yh yi hE xo z0 hW2 u
 go_enter Tryz.func3,Tryz.ntmps3
 go_wp2_with fail
 rw [← y2.out];refine (M6_ E _ g.out).mono ?_;rintro e w1 ⟨rfl,J⟩;clear y2;replace g:=hid (g.out.up J);replace j:=hid (j.out.up J);replace k:=hid (k.out.up J);replace m:=hid (m.out.up J);replace Hka:=hid (Hka.out.below J Hka.out.lt);replace Hkb:=hid (Hkb.out.below J Hkb.out.lt);replace Hb0:=hid (Z0_ Hb0.out (le_refl _) J);clear J;have k0:=Hka.out.cell 0;have k1:=Hka.out.cell 1;have k2:=Hka.out.cell 2;have k3:=Hka.out.cell 3;have k4:=Hka.out.cell 4;have k5:=Hka.out.cell 5
 go_wp2_with fail
 refine (Xl4 a _ 7 _ j.out yu.out).mono ?_;rintro e w2 ⟨rfl,u⟩;rw [x3.out];clear k0 k1 k2 k3 k4 k5;replace g:=hid (g.out.up u);replace j:=hid (j.out.up u);replace k:=hid (k.out.up u);replace m:=hid (m.out.up u);replace Hka:=hid (Hka.out.below u Hka.out.lt);replace Hkb:=hid (Hkb.out.below u Hkb.out.lt);replace Hb0:=hid (Z0_ Hb0.out (le_refl _) u);clear u;cases fa
 ·go_wp2_with fail
  refine (M6_ E _ g.out).mono ?_;rintro e w3 ⟨rfl,p⟩;replace g:=hid (g.out.up p);replace j:=hid (j.out.up p);replace k:=hid (k.out.up p);replace m:=hid (m.out.up p);replace Hka:=hid (Hka.out.below p Hka.out.lt);replace Hkb:=hid (Hkb.out.below p Hkb.out.lt);replace Hb0:=hid (Z0_ Hb0.out (le_refl _) p);clear p;exact x2_
 ·have n0:=Hkb.out.cell 0
  have n1:=Hkb.out.cell 1;have n2:=Hkb.out.cell 2;have n3:=Hkb.out.cell 3;have n4:=Hkb.out.cell 4;have n5:=Hkb.out.cell 5
  go_wp2_with fail
  refine (Xl4 b _ 7 _ k.out yv.out).mono ?_;rintro e w3 ⟨rfl,p⟩;rw [xb.out];clear n0 n1 n2 n3 n4 n5;replace g:=hid (g.out.up p);replace j:=hid (j.out.up p);replace k:=hid (k.out.up p);replace m:=hid (m.out.up p);replace Hka:=hid (Hka.out.below p Hka.out.lt);replace Hkb:=hid (Hkb.out.below p Hkb.out.lt);replace Hb0:=hid (Z0_ Hb0.out (le_refl _) p);clear p;cases fb
  ·go_wp2_with fail
   refine (M6_ E _ g.out).mono ?_;rintro e w4 ⟨rfl,hb4⟩;replace g:=hid (g.out.up hb4);replace j:=hid (j.out.up hb4);replace k:=hid (k.out.up hb4);replace m:=hid (m.out.up hb4);exact k31_
  ·have k0:=Hka.out.cell 0
   have k1:=Hka.out.cell 1;have k2:=Hka.out.cell 2;have k3:=Hka.out.cell 3;have k4:=Hka.out.cell 4;have k5:=Hka.out.cell 5;have n0:=Hkb.out.cell 0;have n1:=Hkb.out.cell 1;have n2:=Hkb.out.cell 2;have n3:=Hkb.out.cell 3;have n4:=Hkb.out.cell 4;have n5:=Hkb.out.cell 5
   go_wp2_with fail
   refine (Xv7 a b _ _ _ s _ j.out k.out (Zr5 x3.out) (Zr5 xb.out) m.out).mono ?_;rintro e w4 ⟨rfl,hb4⟩;rw [I.out];clear k0 k1 k2 k3 k4 k5 n0 n1 n2 n3 n4 n5;replace g:=hid (g.out.up hb4);replace j:=hid (j.out.up hb4);replace k:=hid (k.out.up hb4);replace m:=hid (m.out.up hb4);replace Hka:=hid (Hka.out.below hb4 Hka.out.lt);replace Hkb:=hid (Hkb.out.below hb4 Hkb.out.lt);replace Hb0:=hid (Z0_ Hb0.out (le_refl _) hb4);clear hb4;cases fm
   ·go_wp2_with fail
    refine (M6_ E _ g.out).mono ?_;rintro e w5 ⟨rfl,q⟩;replace g:=hid (g.out.up q);replace j:=hid (j.out.up q);replace k:=hid (k.out.up q);replace m:=hid (m.out.up q);replace Hka:=hid (Hka.out.below q Hka.out.lt);replace Hkb:=hid (Hkb.out.below q Hkb.out.lt);replace Hb0:=hid (Z0_ Hb0.out (le_refl _) q);clear q;exact x2_
   ·have z8:=Jj1 x3.out
    have xp:=snil I.out;have xi:=xp.1;have xl:=(mayI_iff.1 (J7_ xi.ia)).1;have z7:=chk_n xl;obtain ⟨n,x⟩:∃ n:Nat,nN a=n:=⟨_,rfl⟩;have x8:(n:Int)=a.n:=by rw [← x];exact (Y0_ xl).1
    have yl:n≤7:=x37_;have ze:=hid x8;have zf:=hid x;have yw:=hid xi.n;have yq:Hid (∀ (B:Nat) (W:World),Calls Tryz.prog 11 #[.int .i64 a.n,.int .i64 (B:Int)] W (Xr3 n W)):=hid fun B W=>by
     rw [← x8];exact Xq8 n B W x37_
    have ys:Hid (∀ (t:List Int) (S v:Value) (W:World),InN n t→Row W W.heap.size S s→Row W W.heap.size v t→Calls Tryz.prog 10 #[S,v] W (Tells W (sumW s t))):=hid fun t S v W ht h1 h2=>Xq9 x37_ (by rw [← x];exact xp.2.1) (Zr3 I.out) ht S v W h1 h2;obtain ⟨M,hM⟩:∃ M:Nat,2 ^ n=M:=⟨_,rfl⟩;have zq:M≤128:=by rw [← hM];exact Nat.pow_le_pow_right x37_ yl
    have z9:IntKind.i64.wrap (2 ^ a.n.toNat)=(M:Int):=by
     rw [← hM,← x8,Int.toNat_natCast,IntKind.wrap_i64];have:((2 ^ n:Nat):Int)=(2:Int) ^ n:=j37_;rw [← this,hM];omega
    have zt:IntKind.i64.wrap (1 * 2 ^ a.n.toNat)=(M:Int):=by rw [Int.one_mul];exact z9
    have zr:0≤a.n:=x37_;have zs:a.n≤64:=x37_;clear z8 z7 x x8 yl hM xp xi xl;have Hsa:=hid (Zr5 x3.out);have Hsb:=hid (Zr5 xb.out);have k0:=Hka.out.cell 0;have k1:=Hka.out.cell 1;have k2:=Hka.out.cell 2;have k3:=Hka.out.cell 3;have k4:=Hka.out.cell 4;have k5:=Hka.out.cell 5;have n0:=Hkb.out.cell 0;have n1:=Hkb.out.cell 1;have n2:=Hkb.out.cell 2;have n3:=Hkb.out.cell 3;have n4:=Hkb.out.cell 4;have n5:=Hkb.out.cell 5
    go_wp2_with fail
    refine (Xk7 E a b _ _ _ s _ j.out k.out Hsa.out Hsb.out m.out g.out I.out).mono ?_;rintro e w5 ⟨A,c,L,rfl,hL,ht,hl,q⟩;obtain ⟨ad,_,_,_,_,⟨d,e⟩,_,_⟩:=hL.nth ht.pos;obtain rfl:A=some ad:=(Value.slice.inj e).1;have H:=hid hL;have R:=hid ht;have Hl:=hid hl;clear hL ht hl e;clear k0 k1 k2 k3 k4 k5 n0 n1 n2 n3 n4 n5;replace g:=hid (g.out.up q);replace j:=hid (j.out.up q);replace k:=hid (k.out.up q);replace m:=hid (m.out.up q);replace Hka:=hid (Hka.out.below q Hka.out.lt);replace Hkb:=hid (Hkb.out.below q Hkb.out.lt);replace Hb0:=hid (Z0_ Hb0.out (le_refl _) q);clear q;obtain ⟨B,y7,xg,xh⟩:=R.out.heavy I.out;obtain ⟨N,x⟩:∃ N,L.length=N:=⟨_,rfl⟩;have HN:=hid x;have yy:(V4_ s L N).1=(B:Int):=by rw [← x];exact xg
    have zl:N≤65:=by rw [← x];exact Hl.out
    rw [x] at y7 xh;have xs:=hid xg;have yo:=hid xh;have yz:¬ (B:Int)<0:=x37_;have zk:decide ((B:Int)<0)=false:=decide_eq_false yz;have zg:(B:Int)<(N:Int):=x37_;have yx:¬ N≤B:=x37_;have zi:decide (N≤B)=false:=decide_eq_false yx;have zj:decide ((N:Int)≤(B:Int))=false:=decide_eq_false x37_;have zh:¬ (N:Int)≤(B:Int):=x37_;rw [x];rw [x] at H;clear x xg yy xh
    go_wp2_with fail
    refine (W5_ _ _ L s _ H.out m.out).mono ?_;rintro e w6 ⟨rfl,C⟩;rw [xs.out];clear xs;replace g:=hid (g.out.up C);replace j:=hid (j.out.up C);replace k:=hid (k.out.up C);replace m:=hid (m.out.up C);replace H:=hid (H.out.up C);replace Hka:=hid (Hka.out.below C Hka.out.lt);replace Hkb:=hid (Hkb.out.below C Hkb.out.lt);replace Hb0:=hid (Z0_ Hb0.out (le_refl _) C);clear C;go_wp2
    go_loopw [6,10] (fun v6 vi wr=>v6=.bool false∧∃ i:Nat,vi=.int .i64 i∧i≤N∧Hid (Below w6.heap.size w6 wr)) (fun _ vi _=>N - (intOf vi).toNat)
    case atStart=>exact ⟨rfl,0,rfl,Nat.zero_le _,hid (Below.refl _ _)⟩
    case round =>
     obtain ⟨rfl,i,rfl,hi,y⟩:=hrel;by_cases x7:i<N
     ·have z3:(i:Int)<(N:Int):=by omega
      have zv:IntKind.i64.wrap ((i:Int)+1)=(i:Int)+1:=x38_;have x2:i<L.length:=by rw [HN.out];exact x7
      have xk:B<L.length:=by rw [HN.out];exact y7
      have xj:=H.out.up y.out;obtain ⟨Si,xf,gi,ri⟩:=xj.one x2;obtain ⟨Sb,y5,gb,rb⟩:=xj.one xk;have xm:=R.out.com x2;have yj:=yo.out i x7;have yk:=R.out.len i x2;obtain ⟨X,hX⟩:∃ X,sumW s (setK L i)=X:=⟨_,rfl⟩;obtain ⟨Y,hY⟩:∃ Y,sumW s (setK L B)=Y:=⟨_,rfl⟩;rw [hX,hY] at yj;have zn:decide (Y<X)=false:=decide_eq_false x37_;have zo:¬ Y<X:=x37_;have xa:=m.out.up y.out;have xx:=j.out.up y.out;have y0:=k.out.up y.out;rw [yk] at gi ri;have G:Hid (∀ W,Below wr.heap.size wr W→Calls Tryz.prog 10 #[.slice Aw s.length cw,.slice Si i xf] W fun e w'=>e=.returned (.int .i64 X)∧Below wr.heap.size wr w'):=hid fun W hW=>by
       refine (R.out.weighs I.out x2 _ _ W (xa.up hW) (ri.up hW)).mono ?_;exact x26_
      have O:Hid (∀ W,Below wr.heap.size wr W→Calls Tryz.prog 10 #[.slice Aw s.length cw,.slice Sb (setK L B).length y5] W fun e w'=>e=.returned (.int .i64 Y)∧Below wr.heap.size wr w'):=hid fun W hW=>by
       refine (R.out.weighs I.out xk _ _ W (xa.up hW) (rb.up hW)).mono ?_;exact y26_
      have xt:Hid (∀ W,Below wr.heap.size wr W→Calls Tryz.prog 9 #[.agg #[.int .i64 a.t,.int .i64 a.n,.int .i64 a.a,.int .i64 a.b,.slice Al a.l.length cl,.slice Ai a.i.length ci],.agg #[.int .i64 b.t,.int .i64 b.n,.int .i64 b.a,.int .i64 b.b,.slice Bl b.l.length dl,.slice Bi b.i.length di],.slice Si i xf] W fun e w'=>e=.returned (.bool true)∧Below wr.heap.size wr w'):=hid fun W hW=>by
       refine (P2_ a b _ _ W (xx.up hW) (y0.up hW) Hsa.out Hsb.out _ (setK L i) (ri.up hW)).mono ?_;rintro e w' ⟨rfl,hb⟩;exact ⟨by rw [xm.ia,xm.ib];rfl,Z0_ hW (le_refl _) hb⟩
      have xc:=hid (Hka.out.below y.out Hka.out.lt);have xe:=hid (Hkb.out.below y.out Hkb.out.lt);generalize (setK L B).length=nb at *
      have P:Hid (∀ W,Below wr.heap.size wr W→W.cell? ⟨w.heap.size,0,none⟩=some (.int .i64 a.t)∧W.cell? ⟨w.heap.size,1,none⟩=some (.int .i64 a.n)∧W.cell? ⟨w.heap.size,2,none⟩=some (.int .i64 a.a)∧W.cell? ⟨w.heap.size,3,none⟩=some (.int .i64 a.b)∧W.cell? ⟨w.heap.size,4,none⟩=some (.slice Al a.l.length cl)∧W.cell? ⟨w.heap.size,5,none⟩=some (.slice Ai a.i.length ci)∧W.cell? ⟨w.heap.size+1,0,none⟩=some (.int .i64 b.t)∧W.cell? ⟨w.heap.size+1,1,none⟩=some (.int .i64 b.n)∧W.cell? ⟨w.heap.size+1,2,none⟩=some (.int .i64 b.a)∧W.cell? ⟨w.heap.size+1,3,none⟩=some (.int .i64 b.b)∧W.cell? ⟨w.heap.size+1,4,none⟩=some (.slice Bl b.l.length dl)∧W.cell? ⟨w.heap.size+1,5,none⟩=some (.slice Bi b.i.length di)∧W.cell? (ad.add (i * 3))=some (.slice Si i xf)∧W.cell? (ad.add (B * 3))=some (.slice Sb nb y5)):=hid fun W hW=>by
       have V:=xc.out.below hW xc.out.lt;have Z:=xe.out.below hW xe.out.lt;exact ⟨V.cell 0,V.cell 1,V.cell 2,V.cell 3,V.cell 4,V.cell 5,Z.cell 0,Z.cell 1,Z.cell 2,Z.cell 3,Z.cell 4,Z.cell 5,gi W hW,gb W hW⟩
      clear x2 xk xj gi gb ri rb xm yj yk hX hY xa xx y0 xc xe;go_wp2;refine Z6_ wr.heap.size wr y37_ y37_ (Below.refl _ _) ?_
      iterate 36 (first
       | go_big_quiet_step (first | with_reducible exact G.out _ | with_reducible exact O.out _ | with_reducible exact xt.out _)
       | (go_big_quiet_want;apply Exists.intro;refine ⟨fun W hW=>?_,?_⟩;(· obtain ⟨k0,k1,k2,k3,k4,k5,n0,n1,n2,n3,n4,n5,s0,s1⟩:=P.out W hW;go_simp;first | exact rfl | exact ⟨rfl,rfl⟩);go_simp;go_big_quiet_on))
      refine wpQuiet_nil ?_;intro w7 y6;have HBn:=hid (Z0_ y.out (le_refl _) y6);clear y6 G O xt P;go_wp2
      go_roundw
      case rel=>exact ⟨rfl,i+1,y38_,x37_,HBn⟩
      exact mz_
     ·have z3:¬ (i:Int)<(N:Int):=by omega
      have D:=y.out;clear y x7 hi;replace g:=hid (g.out.up D);replace j:=hid (j.out.up D);replace k:=hid (k.out.up D);replace m:=hid (m.out.up D);replace H:=hid (H.out.up D);replace Hka:=hid (Hka.out.below D Hka.out.lt);replace Hkb:=hid (Hkb.out.below D Hkb.out.lt);replace Hb0:=hid (Z0_ Hb0.out (le_refl _) D);clear D;have p1:=Hka.out.cell 1;go_wp2
      go_loopw [6,11,12] (fun v6 vB _ wq=>v6=.bool false∧∃ Q:Nat,vB=.int .i64 (Q:Int)∧Q≤M∧Hid (Below wr.heap.size wr wq)) (fun _ vB _ _=>M - (intOf vB).toNat)
      case atStart=>exact ⟨rfl,0,rfl,Nat.zero_le _,hid (Below.refl _ _)⟩
      case round =>
       clear p1;obtain ⟨rfl,Q,rfl,hQ,F⟩:=hrel;have x6:=hid (Hka.out.below F.out Hka.out.lt);have q1:=x6.out.cell 1;by_cases x7:Q<M
       ·have z6:(Q:Int)<(M:Int):=by omega
        have zu:IntKind.i64.wrap ((Q:Int)+1)=(Q:Int)+1:=x38_;have y8:=H.out.up F.out;have yc:=m.out.up F.out;have ya:=j.out.up F.out;have yb:=k.out.up F.out;have yg:=Hkb.out.below F.out Hkb.out.lt;have xu:=hid y8;have y3:=hid yc;have xw:=hid ya;have xz:=hid yb;have xd:=hid yg;clear y8 yc ya yb yg
        go_wp2_with fail
        refine (yq.out Q _).mono ?_;rintro e r ⟨t,vt,yn,zb,rfl,ym,K⟩;have yr:=hid yn;have x1:=hid ym;have x9:=hid (Z0_ F.out (le_refl _) K);have yp:=hid (xu.out.up K);have y1:=hid (y3.out.up K);have xv:=hid (xw.out.up K);have xy:=hid (xz.out.up K);have x4:=hid (x6.out.below K x6.out.lt);have x5:=hid (xd.out.below K xd.out.lt);obtain ⟨At,ct,rfl,_⟩:=ym;have y4:=hid (fun h=>R.out.no yw.out (t:=t) h);clear K q1 xu y3 xw xz xd x6 yn zb;by_cases T:t.length<N
        ·have xn:(t.length:Int)<(N:Int):=by omega
         obtain ⟨St,cs,gt,rt⟩:=yp.out.one (show t.length<L.length by rw [HN.out];exact T);obtain ⟨X,hX⟩:∃ X,sumW s t=X:=⟨_,rfl⟩;obtain ⟨Y,hY⟩:∃ Y,sumW s (setK L t.length)=Y:=⟨_,rfl⟩;have G:Hid (∀ W,Below r.heap.size r W→Calls Tryz.prog 10 #[.slice Aw s.length cw,.slice At t.length ct] W fun e w'=>e=.returned (.int .i64 X)∧Below r.heap.size r w'):=hid fun W hW=>by
          refine (ys.out t _ _ W yr.out (y1.out.up hW) (x1.out.up hW)).mono ?_;exact x26_
         have O:Hid (∀ W,Below r.heap.size r W→Calls Tryz.prog 10 #[.slice Aw s.length cw,.slice St (setK L t.length).length cs] W fun e w'=>e=.returned (.int .i64 Y)∧Below r.heap.size r w'):=hid fun W hW=>by
          refine (R.out.weighs I.out (show t.length<L.length by rw [HN.out];exact T) _ _ W (y1.out.up hW) (rt.up hW)).mono ?_;exact y26_
         generalize (setK L t.length).length=nb at *
         obtain ⟨z,U⟩:∃ z,t.length=z:=⟨_,rfl⟩;rw [U] at G gt x1 T xn ⊢;have HZ:=hid U;have P:Hid (∀ W,Below r.heap.size r W→W.cell? (ad.add (z * 3))=some (.slice St nb cs)):=hid gt;clear gt rt U;by_cases yd:X≤Y
         ·clear hX hY
          go_wp2;refine Z6_ r.heap.size r y37_ y37_ (Below.refl _ _) ?_
          iterate 19 (first
           | go_big_quiet_step (first | with_reducible exact G.out _ | with_reducible exact O.out _)
           | (go_big_quiet_want;apply Exists.intro;refine ⟨fun W hW=>?_,?_⟩;(· have s0:=P.out W hW;go_simp;first | exact rfl | exact ⟨rfl,rfl⟩);go_simp;go_big_quiet_on))
          refine wpQuiet_nil ?_;intro x0 o;have HBn:=hid (Z0_ x9.out (le_refl _) o);clear o G O P;go_wp2
          go_roundw
          case rel=>exact ⟨rfl,Q+1,y38_,x37_,HBn⟩
          exact mz_
         ·have y9:=y4.out (fun h=>yd (by rw [← hX,← hY];exact h.2))
          have HNt:=hid y9;have zm:decide (X≤Y)=false:=decide_eq_false yd;clear hX hY y9;go_wp2;refine Z6_ r.heap.size r y37_ y37_ (Below.refl _ _) ?_
          iterate 19 (first
           | go_big_quiet_step (first | with_reducible exact G.out _ | with_reducible exact O.out _)
           | (go_big_quiet_want;apply Exists.intro;refine ⟨fun W hW=>?_,?_⟩;(· have s0:=P.out W hW;go_simp;first | exact rfl | exact ⟨rfl,rfl⟩);go_simp;go_big_quiet_on))
          refine wpQuiet_nil ?_;intro x0 o;have HBn:=hid (Z0_ x9.out (le_refl _) o);have HVa2:=hid (xv.out.up o);have HVb2:=hid (xy.out.up o);have HT2:Hid (Row x0 x0.heap.size (.slice At z ct) t):=hid (x1.out.up o);have Hka2:=hid (x4.out.below o x4.out.lt);have Hkb2:=hid (x5.out.below o x5.out.lt);clear o G O P;exact q2_
        ·have xn:¬ (t.length:Int)<(N:Int):=by omega
         have HNt:=hid (y4.out (fun h=>T (by rw [← HN.out];exact h.1)));obtain ⟨z,U⟩:∃ z,t.length=z:=⟨_,rfl⟩;rw [U] at x1 T xn ⊢;have zp:decide (z<N)=false:=decide_eq_false T;clear U;go_wp2;refine Z6_ r.heap.size r y37_ y37_ (Below.refl _ _) ?_
         iterate 19 (first
          | go_big_quiet_skip
          | (go_big_quiet_want;apply Exists.intro;refine ⟨fun W hW=>?_,?_⟩;(· go_simp;first | exact rfl | exact ⟨rfl,rfl⟩);go_simp;go_big_quiet_on))
         refine wpQuiet_nil ?_;intro x0 o;have HBn:=hid (Z0_ x9.out (le_refl _) o);have HVa2:=hid (xv.out.up o);have HVb2:=hid (xy.out.up o);have HT2:Hid (Row x0 x0.heap.size (.slice At z ct) t):=hid (x1.out.up o);have Hka2:=hid (x4.out.below o x4.out.lt);have Hkb2:=hid (x5.out.below o x5.out.lt);clear o;exact q2_
       ·have z6:¬ (Q:Int)<(M:Int):=by omega
        have yt:=hid (Z0_ Hb0.out (le_refl _) F.out);go_wp2;go_ret;exact ⟨rfl,yt.out⟩
end Go.Proofs.YtnaebbjodfnooaaGreatDoor.Wp
