/- The program's lookAt, look, Deep and Check, walked. -/
import Derived.Test.YtigobiacbficaaaGreatDoorQWalkB
import Derived.Test.YtigobiacbficaaaGreatDoorQWalkA
import Derived.Test.YtigobiacbficaaaGreatDoorX0A
import Derived.Test.YtigobiacbficaaaGreatDoorX0B
set_option maxHeartbeats 8000000
set_option maxRecDepth 100000
open Go.Lib (hid)
open Nat (le_refl)
namespace Go.Proofs.YtigobiacbficaaaGreatDoor.Wp
private theorem j1_ {P:Prop} (h:P:=by
 have Hb:=hid hb
 have Hc:Hid (∀ W,Below W0.heap.size W0 W→Calls Tryz.prog 151 #[.agg #[.bool f.fa,.bool f.fb,.int .i64 f.lists,.int .i64 f.least,.int .i64 f.most],.agg #[.int .i64 (T:Int),.int .i64 m.n,.int .i64 m.a,.int .i64 m.b,lv,iv]] W fun e w'=>e=.returned (.bool true)∧Below W0.heap.size W0 w'):=fun W hW =>
  (show Calls _ _ #[formV f,_] W _ from (Htakes.out _ W (Hv.out.up hW)).mono fun _ _ ⟨h2,h3⟩=>⟨by rw [h2,Hb.out],Z0_ hW (le_refl _) h3⟩)
 clear hb
 go_enter Tryz.func121,Tryz.ntmps121
 go_wp2
 rw [← Hmt.out,← HW0.out,Hmt.out]
 clear hW0 g0 g1 g2 a1 a2 a3 a4 a5 a6
 refine Z6_ W0.heap.size W0 (by kernel_rfl) (by kernel_rfl) (Below.refl _ _) ?_
 iterate 8 (first
  | go_big_quiet_step (with_reducible exact Hc.out _)
  | (go_big_quiet_want;apply Exists.intro;refine ⟨fun W hW=>?_,?_⟩;(· have q:=Hbox.out W hW;have q0:=q 0;have q1:=q 1;have q2:=q 2;have q3:=q 3;have q4:=q 4;have q5:=q 5;clear q;obtain ⟨f0,f1,f2,f3,f4⟩:=Hf.out W hW;go_simp;first | exact rfl | exact ⟨rfl,rfl⟩);go_simp;go_big_quiet_on))
 refine wpQuiet_nil ?_
 intro w5 hB5
 have q:=Hbox.out w5 hB5
 have q0:=q 0
 have q1:=q 1
 have q2:=q 2
 have q3:=q 3
 have q4:=q 4
 have q5:=q 5
 have HE5:=hid (HE.out.up hB5)
 have Hv5:=hid (Hv.out.up hB5)
 have Hb5:=hid (Hb0.out.trans (hB5.mono Hb0.out.size))
 clear hB5 q
 go_wp2_with fail
 refine (Hfits'.out w5 Hv5.out HE5.out).mono ?_
 rintro e w6 ⟨rfl,hb6⟩
 have HE6:=HE5.out.up hb6
 have gE:=HE6.g4
 have Hb6:=hid (Z0_ Hb5.out (le_refl _) hb6)
 unfold eS at gE
 clear hb6 HE6
 go_wp2
 go_ret
 exact ⟨rfl,Hb6.out⟩):P:=h
open Go.RowKit
theorem Xk7 (m:Mat) (v:Value) (w:World) (c:MatV w w.heap.size v m) (hs:Sml m) (hM:Met w) (o:0≤m.t∧m.t<10) (h2:0≤m.n∧m.n≤64∧0≤m.a∧m.a≤64) (h3:Z9_ (form m.t) m=true) :
  Calls Tryz.prog 152 #[v] w (Says w (fitsB m)):=by
 obtain ⟨_,_,d,e,_⟩:=takes_iff.1 h3;have g:=sml_l hs;obtain ⟨t,n,a,b,l,i⟩:=m;simp only [Mat.t,Mat.n,Mat.a,Mat.l,Mat.i] at o h2 d e g;rcases (by omega:t=0∨t=1∨t=2∨t=3∨t=4∨t=5∨t=6∨7≤t) with rfl | rfl | rfl | rfl | rfl | rfl | rfl | h
 ·exact Jx8 n a b l i v w c
 ·exact Jx9 n a b l i v w c g
 ·have:(l.length:Int)=2:=d
  exact Jv2 n a b l i v w c y40_ h2.2.1 h2.2.2.2
 ·exact Jv0 n a b l i v w c
 ·exact Jv1 n a b l i v w c hM
 ·have j:(l.length:Int)=1:=d
  have k:(1:Int)≤(i.length:Int):=e;exact Jv3 n a b l i v w c hs y40_ y40_
 ·have j:(l.length:Int)=1:=d
  have k:(1:Int)≤(i.length:Int):=e;exact Jv4 n a b l i v w c hs y40_ y40_
 ·exact Zi8 _ v w c hs h
def badV (E:Nat→Addr):Nat→Value
 | 0=>.nilIface
 | k+1=>eS (E (k+1))
theorem Xk8 {m:Mat} (h:m.t<0∨10≤m.t):bad m=1:=if_pos h
theorem Vr2 {m:Mat} (h:¬ (m.t<0∨10≤m.t)) (h2:m.n<0∨64<m.n∨m.a<0∨64<m.a):bad m=2:=by
 unfold bad;rw [if_neg h,if_pos h2]
theorem Xk9 {m:Mat} (h:¬ (m.t<0∨10≤m.t)) (h2:¬ (m.n<0∨64<m.n∨m.a<0∨64<m.a)) (h3:Z9_ (form m.t) m=false):bad m=3:=by
 unfold bad;rw [if_neg h,if_neg h2,if_pos h3]
theorem Vq0 {m:Mat} (h:¬ (m.t<0∨10≤m.t)) (h2:¬ (m.n<0∨64<m.n∨m.a<0∨64<m.a)) (h3:Z9_ (form m.t) m=true):bad m=if fitsB m=false then 4 else 0:=by
 unfold bad;rw [if_neg h,if_neg h2,if_neg (by rw [h3];decide)]
theorem Zl3 (E:Nat→Addr) (m:Mat) (v:Value) (w:World) (g:MatV w w.heap.size v m) (d:Env E w) (h:(m.t<0∨10≤m.t)∨(m.n<0∨64<m.n∨m.a<0∨64<m.a)) :
  Calls Tryz.prog 121 #[v] w (fun e w'=>e=.returned (badV E (bad m))∧Below w.heap.size w w'):=by
 obtain ⟨p,o,rfl,_,_⟩:=g.open;have Hb0:=hid (Z1_ w m p o);have c:=d.up Hb0.out;have x:=c.g1;have y:=c.g2;unfold boxed eS at *
 clear d c g;by_cases j:m.t<0
 ·rw [Xk8 (.inl j)]
  exact z32_
 by_cases k:10≤m.t
 ·rw [Xk8 (.inr k)]
  exact z32_
 rw [Vr2 y40_ y40_];by_cases q:m.n<0
 ·exact z32_
 by_cases r:64<m.n
 ·exact z32_
 by_cases s:m.a<0
 ·exact z32_
 have u:64<m.a:=y40_;clear h
 go_enter Tryz.func121,Tryz.ntmps121
 go_wp2;go_ret;exact ⟨rfl,Hb0.out⟩
open Go.RowKit
def Bad (E:Nat→Addr) (k:Nat) (w:World) (e:Ending) (w':World):Prop:=e=.returned (badV E k)∧Below w.heap.size w w'
theorem Xl0 (E:Nat→Addr) (m:Mat) (v:Value) (w:World) (d:MatV w w.heap.size v m) (hs:Sml m) (r:Env E w) (o:¬ (m.t<0∨10≤m.t)) (h2:¬ (m.n<0∨64<m.n∨m.a<0∨64<m.a)) :
  Calls Tryz.prog 121 #[v] w (Bad E (bad m) w):=by
 have y:=hid (fun (v:Value) (W:World) (d:MatV W W.heap.size v m) (r:Env E W) (h3:Z9_ (form m.t) m=true)=>Xk7 m v W d hs r.tab y40_ y40_ h3);have Htakes:=hid (fun (v:Value) (W:World) (d:MatV W W.heap.size v m)=>Xk6 (form m.t) m v W d hs);have B:=hid d;have u:∀ b,Z9_ (form m.t) m=b→bad m=if b=false then 3 else if fitsB m=false then 4 else 0:=by
  intro b hb;cases b
  ·exact Xk9 o h2 hb
  ·exact Vq0 o h2 hb
 have s:=hid u;clear hs u;obtain ⟨lv,iv,z,_,_⟩:=d.open;have Hb0:=hid (Z1_ w m lv iv);have HE:=hid (r.up Hb0.out);have Hv:=hid (d.up Hb0.out);have Hbox:=hid (K1_ (w:=w) (t := 25) (cs:=#[.int .i64 m.t,.int .i64 m.n,.int .i64 m.a,.int .i64 m.b,lv,iv]));have k:=(Blk.new w 25 #[.int .i64 m.t,.int .i64 m.n,.int .i64 m.a,.int .i64 m.b,lv,iv]).cell;unfold boxed at *
 obtain ⟨W0,hW0⟩:∃ W0,W0=w.alloc (.cells #[.int .i64 m.t,.int .i64 m.n,.int .i64 m.a,.int .i64 m.b,lv,iv] 25):=⟨_,rfl⟩;have x:W0.heap.size=w.heap.size+1:=z42_;have HW0:=hid hW0;rw [← hW0] at Hb0 Hbox HE Hv k;rw [← x] at Hbox;have g0:=k 0;have g1:=k 1;have g2:=k 2;obtain ⟨T,j⟩:∃ T:Nat,m.t=(T:Int):=⟨m.t.toNat,y40_⟩;have p:T<10:=y40_;have C:(T:Int)<10:=y40_;have a1:¬ m.t<0:=y40_;have a2:¬ 10≤m.t:=y40_;have a3:¬ m.n<0:=y40_;have a4:¬ 64<m.n:=y40_;have a5:¬ m.a<0:=y40_;have a6:¬ 64<m.a:=y40_;have Hf:Hid (∀ W,Below W0.heap.size W0 W→(W.cell? ⟨4,T * 5,none⟩=some (.bool (form m.t).fa)∧W.cell? ⟨4,T * 5+1,none⟩=some (.bool (form m.t).fb)∧W.cell? ⟨4,T * 5+2,none⟩=some (.int .i64 (form m.t).lists)∧W.cell? ⟨4,T * 5+3,none⟩=some (.int .i64 (form m.t).least)∧W.cell? ⟨4,T * 5+4,none⟩=some (.int .i64 (form m.t).most))):=fun W hW=>by
  have h:=HE.out.up hW;rw [j];exact ⟨h.f0 T p,h.f1 T p,h.f2 T p,h.f3 T p,h.f4 T p⟩
 have Hmt:=hid j;clear r d k x o h2;generalize form m.t=f at *
 rw [j] at g0 a1 a2 Hbox;subst z;rw [j] at Hv;rw [j];have D:IntKind.i64.wrap ((T:Int) * 5)=(T:Int) * 5:=y41_;clear j;rcases hb:Z9_ f m with _ | _
 ·rw [s.out false hb,if_pos rfl]
  have Hb:=hid hb;have Hc:Hid (∀ W,Below W0.heap.size W0 W→Calls Tryz.prog 151 #[.agg #[.bool f.fa,.bool f.fb,.int .i64 f.lists,.int .i64 f.least,.int .i64 f.most],.agg #[.int .i64 (T:Int),.int .i64 m.n,.int .i64 m.a,.int .i64 m.b,lv,iv]] W fun e w'=>e=.returned (.bool false)∧Below W0.heap.size W0 w'):=fun W hW =>
   (show Calls _ _ #[formV f,_] W _ from (Htakes.out _ W (Hv.out.up hW)).mono fun _ _ ⟨h2,h3⟩=>⟨by rw [h2,Hb.out],Z0_ hW (le_refl _) h3⟩)
  clear hb
  go_enter Tryz.func121,Tryz.ntmps121
  go_wp2;rw [← Hmt.out,← HW0.out,Hmt.out];clear hW0 g0 g1 g2 a1 a2 a3 a4 a5 a6;refine Z6_ W0.heap.size W0 z40_ z40_ (Below.refl _ _) ?_
  iterate 8 (first
   | go_big_quiet_step (with_reducible exact Hc.out _)
   | (go_big_quiet_want;apply Exists.intro;refine ⟨fun W hW=>?_,?_⟩;(· have q:=Hbox.out W hW;have q0:=q 0;have q1:=q 1;have q2:=q 2;have q3:=q 3;have q4:=q 4;have q5:=q 5;clear q;obtain ⟨f0,f1,f2,f3,f4⟩:=Hf.out W hW;go_simp;first | exact rfl | exact ⟨rfl,rfl⟩);go_simp;go_big_quiet_on))
  refine wpQuiet_nil ?_;intro w5 hB5;have gE:=(HE.out.up hB5).g3;have Hb5:=hid (Hb0.out.trans (hB5.mono Hb0.out.size));unfold eS at gE;clear hB5;go_wp2;go_ret;exact ⟨rfl,Hb5.out⟩
 ·rw [s.out true hb,if_neg q41_]
  have Hfits':Hid (∀ W,MatV W W.heap.size (.agg #[.int .i64 (T:Int),.int .i64 m.n,.int .i64 m.a,.int .i64 m.b,lv,iv]) m→Env E W→Calls Tryz.prog 152 #[.agg #[.int .i64 (T:Int),.int .i64 m.n,.int .i64 m.a,.int .i64 m.b,lv,iv]] W (Says W (fitsB m))):=fun W o h2=>y.out _ W o h2 hb;generalize fitsB m=c at *
  cases c
  ·rw [if_pos rfl]
   exact j1_
  ·rw [if_neg q41_]
   exact j1_
theorem Zl4 (E:Nat→Addr) (m:Mat) (v:Value) (w:World) (d:MatV w w.heap.size v m) (hs:Sml m) (c:Env E w):Calls Tryz.prog 121 #[v] w (Bad E (bad m) w):=by
 by_cases e:m.t<0∨10≤m.t
 ·exact Zl3 E m v w d c (.inl e)
 ·by_cases h2:m.n<0∨64<m.n∨m.a<0∨64<m.a
  ·exact Zl3 E m v w d c (.inr h2)
  ·exact Xl0 E m v w d hs c e h2
open Go.RowKit
def Ys3 (E:Nat→Addr) (w:World) (b:Bool) (e:Ending) (w':World):Prop :=
 (b=true∧e=.returned .nilIface∨b=false∧∃ t ts j,1≤j∧j≤4∧e=.returned (chain (t :: ts) (eS (E j))))∧Below w.heap.size w w'
theorem Xj0 {E:Nat→Addr} {w w':World} {b:Bool} (h:b=true) (hb:Below w.heap.size w w'):Ys3 E w b (.returned .nilIface) w':=⟨.inl ⟨h,rfl⟩,hb⟩
theorem W5_ {E:Nat→Addr} {w w':World} {b:Bool} {t:Int} {ts:List Int} {j:Nat} {v:Value} (h:b=false) (c:1≤j∧j≤4) (d:v=chain (t :: ts) (eS (E j))) (hb:Below w.heap.size w w'):Ys3 E w b (.returned v) w':=⟨.inr ⟨h,t,ts,j,c.1,c.2,by rw [d]⟩,hb⟩
def Mid (E:Nat→Addr) (k:Nat) (i:List Mat) (n:Nat) (ve:Value):Prop :=
 (ve=.nilIface∧∀ j,j<n→ok k (i.getD j default)=true)∨∃ t ts j,1≤j∧j≤4∧ve=chain (t :: ts) (eS (E j))∧i.all (ok k)=false
theorem Jv5 {k j:Nat} {i:List Mat} (c:j<i.length) (h:ok k (i.getD j default)=false):i.all (ok k)=false:=by
 rw [← Bool.not_eq_true,List.all_eq_true];intro e;rw [e _ (Y4_ i j default c)] at h;cases h
theorem Vr3 {k:Nat} {i:List Mat} (h:∀ j,j<i.length→ok k (i.getD j default)=true):i.all (ok k)=true:=by
 rw [List.all_eq_true];intro x d;obtain ⟨j,c,rfl⟩:=List.mem_iff_getElem.1 d;have:=h j c
 rwa [show i.getD j default=i[j] by simp [List.getD,c]] at this
theorem ok_is {k:Nat} {m:Mat}:ok (k+1) m=(decide (bad m=0) && m.i.all (ok k)):=rfl
theorem Jv6 (m:Mat):bad m≤4:=by
 unfold bad;split
 ·omega
 split
 ·omega
 split
 ·omega
 split<;>omega
theorem Vq1 (E:Nat→Addr):∀ (k:Nat) (m:Mat) (v:Value) (w:World),MatV w w.heap.size v m→Sml m→Env E w→dp k m≤k→Calls Tryz.prog 91 #[v] w (Ys3 E w (ok k m)):=by
 intro k
 induction k with
 | zero=>intro m v w _ _ _ h;exact absurd h (by have:=Zd7 0 m;omega)
 | succ k ih =>
  intro m v w K hs hE hd;have I:=hid hs;have Ih:=hid ih;have xi:Hid (bad m=0→∀ j,j<m.i.length→dp k (m.i.getD j default)≤k):=fun hb j C=>by
   have hx:=Y4_ m.i j default C;have hn:nest m.t:=y30_;have:=Zq9 (k:=k) hn hx;omega
  have xp:=Zj7 hs;have xw:(m.i.length:Int)≤1000:=y40_;obtain ⟨L,iv,xu,_,hi⟩:=K.open;obtain ⟨D,J,xr,_,x9⟩:=hi;subst xr;have xj:=hid x9;have s:=hid (Z1_ w m L (.slice D m.i.length J));have F:=hid (hE.up s.out);have T:=hid (K.up s.out);have G:=hid (Z4_ w m L (.slice D m.i.length J));have x7:=Jv6 m;clear ih hs hE hd xp x9 K;subst xu;have c:=G.out.cell;have U:=c 0;have V:=c 1;have W:=c 2;have X:=c 3;have Y:=c 4;have Z:=c 5;unfold boxed at *
  rcases hb:bad m with _ | q
  ·have r:=hid hb
   have S:Hid (ok (k+1) m=m.i.all (ok k)):=by
    show _=_;rw [ok_is,hb];rfl
   clear hb x7 c
   go_enter Tryz.func91,Tryz.ntmps91
   go_wp2_with fail
   refine (Zl4 E m _ _ T.out I.out F.out).mono ?_;rintro e w1 ⟨rfl,d⟩;rw [r.out];have Hb1:=hid (Z0_ s.out (le_refl _) d);have o:=hid (G.out.below d k40_);have xf:=hid (F.out.up d);clear d U V W X Y Z;simp only [badV];go_wp2
   go_loopw [3,4] (fun ve M wr=>∃ n:Nat,M=.int .i64 n∧n≤m.i.length∧Mid E k m.i n ve∧Blk wr w.heap.size 25 #[.int .i64 m.t,.int .i64 m.n,.int .i64 m.a,.int .i64 m.b,L,.slice D m.i.length J]∧Env E wr∧Below w.heap.size w wr) (fun _ M _=>m.i.length - (intOf M).toNat)
   case atStart=>exact ⟨0,rfl,Nat.zero_le _,.inl ⟨rfl,fun j C=>absurd C (Nat.not_lt_zero _)⟩,o.out,xf.out,Hb1.out⟩
   case round =>
    obtain ⟨n,rfl,hn,xs,B,x6,x8⟩:=hrel;have R:=hid B;have O:=hid x6;have Hbr:=hid x8;have c0:=B.cell 0;have c5:=B.cell 5;clear B x6 x8;rcases xs with ⟨rfl,y⟩ | ⟨t,ts,q,hq1,hq4,rfl,xd⟩
    ·by_cases g:n<m.i.length
     ·have xa:(n:Int)<(m.i.length:Int):=by omega
      obtain ⟨ad,u,hA,hab,xe,xb⟩:=xj.out n g;subst hA;have xt:=xe.below Hbr.out x42_;have xc:=(xb.bel Hbr.out).mono Hbr.out.size;have xh:=hid (Ih.out (m.i.getD n default) u wr xc (sml_i I.out (Y4_ _ _ _ g)) O.out (xi.out r.out n g));have xg:=hid y;have Hno:=hid (fun h=>Jv5 (k:=k) g h);obtain ⟨x0,x1,x2,x3,x4,x5,rfl,s0,s1,s2,s3,s4,s5⟩:=xt;have xl:Hid (ok k (m.i.getD n default)=true→∀ j,j<n+1→ok k (m.i.getD j default)=true):=fun h j C=>by
       by_cases e:j=n
       ·rw [e];exact h
       ·exact xg.out j y40_
      clear xe xb xc y
      go_wp2_with fail
      refine (xh.out).mono ?_;rintro e w2 ⟨hh,z⟩;have P:=hid (Z0_ Hbr.out (le_refl _) z);have Q:=hid (R.out.below z (by have:=R.out.lt;exact this));have N:=hid (O.out.up z);clear z;rcases hh with ⟨p,rfl⟩ | ⟨p,t,ts,q,hq1,hq4,rfl⟩
      ·have H:=hid p
       clear p;go_wp2
       go_roundw
       case rel=>exact ⟨n+1,j41_,y40_,.inl ⟨rfl,xl.out H.out⟩,Q.out,N.out,P.out⟩
       exact mz_
      ·have H:=hid p
       clear p;have xk:Hid (Mid E k m.i (n+1) (chain (t :: ts) (eS (E q)))):=.inr ⟨t,ts,q,hq1,hq4,rfl,Hno.out H.out⟩;generalize chain (t :: ts) (eS (E q))=vv at *
       go_wp2
       go_roundw
       case rel=>exact ⟨n+1,j41_,y40_,xk.out,Q.out,N.out,P.out⟩
       exact mz_
     ·have xq:n=m.i.length:=by omega
      subst xq;have xm:=hid (S.out.trans (Vr3 y));clear y;go_wp2;go_ret;exact Xj0 xm.out Hbr.out
    ·have Hno:=hid (S.out.trans xd)
     have xv:Hid (∀ x,Value.iface 96 (.agg #[chain (t :: ts) (eS (E q)),x])=Value.iface 96 (.agg #[.iface 96 (.agg #[chain ts (eS (E q)),.int .i64 t]),x])):=fun _=>rfl;rw [show chain (t :: ts) (eS (E q))=.iface 96 (.agg #[chain ts (eS (E q)),.int .i64 t]) from rfl];clear xd;have Hend:Hid (Value.iface 96 (.agg #[.iface 96 (.agg #[chain ts (eS (E q)),.int .i64 t]),.int .i64 m.t])=chain (m.t :: t :: ts) (eS (E q))):=rfl;generalize xn:chain ts (eS (E q))=cc at *
     clear xn;by_cases g:n<m.i.length
     ·have xa:(n:Int)<(m.i.length:Int):=by omega
      exact z28_
     ·have xo:(m.i.length:Int)≤(n:Int):=by omega
      exact z28_
  ·have r:=hid hb
   have Hno:Hid (ok (k+1) m=false):=by
    show _=_;rw [ok_is,hb];rfl
   have Hq:Hid (1≤q+1∧q+1≤4):=⟨y40_,y40_⟩;clear hb x7 c
   go_enter Tryz.func91,Tryz.ntmps91
   go_wp2_with fail
   refine (Zl4 E m _ _ T.out I.out F.out).mono ?_;rintro e w1 ⟨rfl,d⟩;rw [r.out];have Hb1:=hid (Z0_ s.out (le_refl _) d);have o:=G.out.below d k40_;have c0:=o.cell 0;have c5:=o.cell 5;have Hend:Hid (Value.iface 96 (.agg #[eS (E (q+1)),.int .i64 m.t])=chain (m.t :: []) (eS (E (q+1)))):=rfl;simp only [badV];unfold eS at *
   clear d U V W X Y Z o;by_cases g:0<m.i.length
   ·have xa:(0:Int)<(m.i.length:Int):=by omega
    exact z20_
   ·have xo:(m.i.length:Int)≤0:=by omega
    exact z20_
theorem Ze9 (m:Mat) (v:Value) (w:World) (d:MatV w w.heap.size v m) (hs:Sml m):Calls Tryz.prog 89 #[v] w (Tells w (deepI m)):=by
 obtain ⟨h,g,k,_,_⟩:=d.open;have Hb0:=hid (Z1_ w m h g);have j:=hid (d.up Hb0.out);have c:=(Z4_ w m h g).cell;have o:=c 0;have p:=c 1;have q:=c 2;have r:=c 3;have s:=c 4;have u:=c 5;subst k;clear d c;unfold boxed at *
 unfold deepI
 go_enter Tryz.func89,Tryz.ntmps89
 go_wp2_with fail
 refine (Vj0 4 m _ _ 5 rfl y40_ j.out hs).mono ?_;exact q39_
theorem C2_ (E:Nat→Addr) (m:Mat) (v:Value) (w:World) (N:MatV w w.heap.size v m) (hs:Sml m) (T:Env E w):Calls Tryz.prog 64 #[v] w (Tells w (chk m)):=by
 obtain ⟨z,y,x2,_,_⟩:=N.open;have q:=hid (Z1_ w m z y);have s:=hid (N.up q.out);have B:=hid (T.up q.out);have u:=hid (Z4_ w m z y);have o:=u.out.cell;have H:=o 0;have I:=o 1;have J:=o 2;have K:=o 3;have L:=o 4;have M:=o 5;subst x2;clear N T o;unfold boxed at *
 have Z:=dp_le 4 m;by_cases x:dp 4 m=5
 ·rw [show chk m=91 from if_pos x]
  have hd:deepI m=5:=by unfold deepI;omega
  have Hd:=hid hd;clear x Z hd
  go_enter Tryz.func64,Tryz.ntmps64
  go_wp2_with fail
  refine (Ze9 m _ _ s.out hs).mono ?_;rintro e w1 ⟨rfl,d⟩;rw [Hd.out];have r:=hid (Z0_ q.out (le_refl _) d);have k:=hid (B.out.up d);have c:=u.out.below d k40_;have R:=c.cell 0;have e0:=k.out.g0;unfold eS at e0;clear d H I J K L M c
  go_wp2_with fail
  refine (Xi8 E m.t _ k.out).mono ?_;rintro e O ⟨rfl,g⟩;have Hb2:=hid (Z0_ r.out (le_refl _) g);clear g;exact j2_
 ·have hd:deepI m≤4:=by unfold deepI;omega
  have V:dp 4 m≤4:=y40_;have x0:=hid V;have U:chk m=if ok 4 m then 0 else 90:=by unfold chk;rw [if_neg x]
  clear x Z V;rw [U];clear U;have Q:Hid (∀ (W:World) (b:Bool),ok 4 m=b→MatV W W.heap.size (.agg #[.int .i64 m.t,.int .i64 m.n,.int .i64 m.a,.int .i64 m.b,z,y]) m→Env E W→Calls Tryz.prog 91 #[.agg #[.int .i64 m.t,.int .i64 m.n,.int .i64 m.a,.int .i64 m.b,z,y]] W (Ys3 E W b)):=fun W b h h1 h2=>by
   subst h;exact Vq1 E 4 m _ W h1 hs h2 x0.out
  generalize S:deepI m=D at *
  have P:=hid S;clear S;rcases hok:ok 4 m with _ | _
  ·have F:=hid hok
   clear hok;rw [if_neg q41_]
   go_enter Tryz.func64,Tryz.ntmps64
   go_wp2_with fail
   refine (Ze9 m _ _ s.out hs).mono ?_;rintro e w1 ⟨rfl,d⟩;rw [P.out];have r:=hid (Z0_ q.out (le_refl _) d);have k:=hid (B.out.up d);have G:=hid (s.out.up d);have c:=u.out.below d k40_;have R:=c.cell 0;have c1:=c.cell 1;have c2:=c.cell 2;have c3:=c.cell 3;have c4:=c.cell 4;have c5:=c.cell 5;clear d H I J K L M c
   go_wp2_with fail
   refine (Q.out _ false F.out G.out k.out).mono ?_;rintro e O ⟨p,g⟩;rcases p with ⟨p,_⟩ | ⟨_,t,ts,j,X,Y,rfl⟩
   ·cases p
   have Hb2:=hid (Z0_ r.out (le_refl _) g);have C:=hid (k.out.up g);have Hj:=hid (⟨X,Y⟩:1≤j∧j≤4);have x1:=hid (Vv8 E t ts j Hj.out O C.out);clear g X Y;generalize chain (t :: ts) (eS (E j))=vv at *
   go_wp2_with fail
   refine (x1.out).mono ?_;exact x5_
  ·have F:=hid hok
   clear hok;rw [if_pos rfl]
   go_enter Tryz.func64,Tryz.ntmps64
   go_wp2_with fail
   refine (Ze9 m _ _ s.out hs).mono ?_;rintro e w1 ⟨rfl,d⟩;rw [P.out];have r:=hid (Z0_ q.out (le_refl _) d);have k:=hid (B.out.up d);have G:=hid (s.out.up d);have c:=u.out.below d k40_;have R:=c.cell 0;have c1:=c.cell 1;have c2:=c.cell 2;have c3:=c.cell 3;have c4:=c.cell 4;have c5:=c.cell 5;clear d H I J K L M c
   go_wp2_with fail
   refine (Q.out _ true F.out G.out k.out).mono ?_;rintro e O ⟨p,g⟩;rcases p with ⟨_,rfl⟩ | ⟨p,_⟩;rotate_left
   ·cases p
   have Hb2:=hid (Z0_ r.out (le_refl _) g);have C:=hid (k.out.up g);clear g
   go_wp2_with fail
   refine (Vv7 E _ C.out).mono ?_;exact x5_
end Go.Proofs.YtigobiacbficaaaGreatDoor.Wp
