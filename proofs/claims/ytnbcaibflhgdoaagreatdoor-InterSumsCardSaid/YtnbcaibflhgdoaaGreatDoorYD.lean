/- The program's inter, walked: may, others, Max, Bound (written by gen_ymax.py). The calls whose answers the document fixes, of the greatest common set: they are as it fixes them. -/
import Derived.Test.YtnbcaibflhgdoaaGreatDoorYC
import Derived.Test.YtnbcaibflhgdoaaGreatDoorYB
import Derived.Test.YtnbcaibflhgdoaaGreatDoorVInd
import Derived.Test.YtnbcaibflhgdoaaGreatDoorVFix
import Derived.Test.YtnbcaibflhgdoaaGreatDoorVGraph
import Derived.Test.YtnbcaibflhgdoaaGreatDoorX0A
import Derived.Test.YtnbcaibflhgdoaaGreatDoorX0B
set_option maxHeartbeats 16000000
set_option maxRecDepth 100000
open Go.Lib (hid)
open Nat (le_refl)
namespace Go.Proofs.YtnbcaibflhgdoaaGreatDoor
open Go Go.RowKit
namespace Wp
def mayP (a b:Mat):Bool:=decide (a.n=b.n) && ((chk a==0) && (chk b==0))
theorem mayP_iff {a b:Mat}:mayP a b=true↔a.n=b.n∧chk a=0∧chk b=0:=by
 unfold mayP;rw [Bool.and_eq_true,Bool.and_eq_true,decide_eq_true_iff,beq_iff_eq,beq_iff_eq]
noncomputable def E3_ (a b:Mat) (s:List Int):Int:=if (mayP a b && mayI a s)=true then rankT a s+rankT b (Z4_ (allL b.n) s) else -1
def Xs4 (w:World) (s u:List Int) (e:Ending) (w':World):Prop:=∃ v x,e=.returned (.tuple #[v,x,.int .i64 0])∧Row w' w'.heap.size v s∧Row w' w'.heap.size x u∧Below w.heap.size w w'
def Xe4 (w:World) (e:Ending) (w':World):Prop:=e=.returned (.tuple #[.slice none 0 0,.slice none 0 0,.int .i64 1])∧Below w.heap.size w w'
theorem Za1 (m:Mat) (s:List Int):-1≤rankT m s∧rankT m s≤64:=by
 by_cases h:mayI m s=true
 ·obtain ⟨hc,c⟩:=mayI_iff.1 h
  have d:=(rk_of hc).le_cnt (memP s);have e:=(Z7_ hc).2;have h3:=V1_ c;rw [V6_ c] at h3;rw [C8_ h];omega
 ·rw [show rankT m s=-1 from if_neg h]
  omega
theorem Zx7 (E:Nat→Addr) (a b:Mat) (O P:Value) (w:World) (ha:MatV w w.heap.size O a) (hb:MatV w w.heap.size P b) (M:Sml a) (N:Sml b) (K:Env E w):Calls Tryz.prog 18 #[O,P] w (Says w (mayP a b)):=by
 obtain ⟨I,F⟩:∃ c,chk a=c:=⟨_,rfl⟩;obtain ⟨J,G⟩:∃ c,chk b=c:=⟨_,rfl⟩;have L:mayP a b=(decide (a.n=b.n) && ((I==0) && (J==0))):=by unfold mayP;rw [F,G]
 rw [L];have Q:=hid F;have R:=hid G;clear F G L;have S:=hid M;have T:=hid N;obtain ⟨la,ia,Z,W,U⟩:=ha.open;obtain ⟨lb,ib,x0,X,V⟩:=hb.open;obtain ⟨v,B,rfl,_⟩:=W;obtain ⟨u,z,rfl,_⟩:=U;obtain ⟨y,D,rfl,_⟩:=X;obtain ⟨x,C,rfl,_⟩:=V;subst Z x0;obtain ⟨r,hW2⟩:∃ r,r=(w.alloc (.cells #[.int .i64 a.t,.int .i64 a.n,.int .i64 a.a,.int .i64 a.b,.slice v a.l.length B,.slice u a.i.length z] 25)).alloc (.cells #[.int .i64 b.t,.int .i64 b.n,.int .i64 b.a,.int .i64 b.b,.slice y b.l.length D,.slice x b.i.length C] 25):=⟨_,rfl⟩;have H:=hid hW2;have s:Below w.heap.size w r:=by rw [hW2];exact ((Below.refl _ w).alloc (le_refl _) _).alloc x30_ _
 have m:Hid (Blk r w.heap.size 25 #[.int .i64 a.t,.int .i64 a.n,.int .i64 a.a,.int .i64 a.b,.slice v a.l.length B,.slice u a.i.length z]):=hid q32_;have d:Hid (Blk r (w.heap.size+1) 25 #[.int .i64 b.t,.int .i64 b.n,.int .i64 b.a,.int .i64 b.b,.slice y b.l.length D,.slice x b.i.length C]):=hid (by
  rw [hW2];have:=Blk.new (w.alloc (.cells #[.int .i64 a.t,.int .i64 a.n,.int .i64 a.a,.int .i64 a.b,.slice v a.l.length B,.slice u a.i.length z] 25)) 25 #[.int .i64 b.t,.int .i64 b.n,.int .i64 b.a,.int .i64 b.b,.slice y b.l.length D,.slice x b.i.length C];simpa using this)
 have g:=hid s;have p:=hid (ha.up s);have q:=hid (hb.up s);have k:=hid (K.up s);clear hW2 s ha hb M N K;by_cases o:a.n=b.n
 ·have Y:(a.n==b.n)=true:=by simpa using o
  rw [decide_eq_true o,Bool.true_and];clear o
  go_enter Tryz.func18,Tryz.ntmps18
  go_wp2_with fail
  rw [← H.out];refine (Q2_ E a _ _ p.out S.out k.out).mono ?_;rintro e w3 ⟨rfl,h⟩;rw [Q.out];replace k:=hid (k.out.up h);replace p:=hid (p.out.up h);replace q:=hid (q.out.up h);replace m:=hid (m.out.below h m.out.lt);replace d:=hid (d.out.below h d.out.lt);replace g:=hid (Z0_ g.out (le_refl _) h);clear h;cases hx:(I==0)
  ·go_wp2
   go_ret;exact ⟨by rw [hx];rfl,g.out⟩
  ·have n0:=d.out.cell 0
   have n1:=d.out.cell 1;have n2:=d.out.cell 2;have n3:=d.out.cell 3;have n4:=d.out.cell 4;have n5:=d.out.cell 5
   go_wp2_with fail
   refine (Q2_ E b _ _ q.out T.out k.out).mono ?_;rintro e w4 ⟨rfl,j⟩;rw [R.out];clear n0 n1 n2 n3 n4 n5;replace k:=hid (k.out.up j);replace p:=hid (p.out.up j);replace q:=hid (q.out.up j);replace m:=hid (m.out.below j m.out.lt);replace d:=hid (d.out.below j d.out.lt);replace g:=hid (Z0_ g.out (le_refl _) j);clear j;cases hy:(J==0)
   all_goals
    go_wp2;go_ret;exact ⟨by rw [hx,hy];rfl,g.out⟩
 ·have Y:(a.n==b.n)=false:=by simpa using o
  rw [decide_eq_false o,Bool.false_and];clear o
  go_enter Tryz.func18,Tryz.ntmps18
  go_wp2;rw [← H.out];go_ret;exact ⟨rfl,g.out⟩
theorem Zx8 (m:Mat) (v p:Value) (s:List Int) (w:World) (o:MatV w w.heap.size v m) (c:Row w w.heap.size p s) (hs:s.length≤1048576):Calls Tryz.prog 21 #[v,p] w (Gives w (Z4_ (allL m.n) s)):=by
 have q:=hid (c.up (Z1_ w m (.slice none 0 0) (.slice none 0 0)));have C:=C1_ m.n;obtain ⟨H,G,F,E,D⟩:=o.open;have g:=hid (Z1_ w m H G);have x:=hid (c.up g.out);obtain ⟨I,cs,rfl,_⟩:=id c;subst F;unfold boxed at *
 clear q o E D c
 go_enter Tryz.func21,Tryz.ntmps21
 go_wp2_with fail
 refine (F0_ m.n _).mono ?_;rintro e L ⟨J,rfl,j,d⟩;have r:=hid j;have y:=hid (x.out.up d);have z:=hid (Z0_ g.out (le_refl _) d);clear j d
 go_wp2_with fail
 refine (B6_ _ _ (allL m.n) s _ r.out y.out C hs).mono ?_;rintro e M ⟨K,rfl,k,h⟩;have u:=hid k;have B:=hid (Z0_ z.out (le_refl _) h);clear k h;go_wp2;go_ret;exact ⟨_,rfl,u.out,B.out⟩
theorem Yv1 (E:Nat→Addr) (a b:Mat) (va vb:Value) (w:World) (ha:MatV w w.heap.size va a) (hb:MatV w w.heap.size vb b) (xr:Sml a) (xs:Sml b) (hE:Env E w) (x0:chk a=0) (x6:chk b=0) (hn:a.n=b.n):Calls Tryz.prog 8 #[va,vb] w (fun e w'=>∃ s u,MaxIs a b s u∧Xs4 w s u e w'):=by
 have HM:Hid (mayP a b=true):=hid (by unfold mayP;rw [x0,x6,decide_eq_true hn];rfl);have x1:=(Z7_ x0).2;have HN:=hid (And.intro x0 (And.intro x6 hn));clear x0 x6 hn;have xi:=hid xr;have xj:=hid xs;obtain ⟨la,ia,yo,yl,yj⟩:=ha.open;obtain ⟨lb,ib,yp,ym,yk⟩:=hb.open;obtain ⟨q,y,rfl,_⟩:=yl;obtain ⟨o,r,rfl,_⟩:=yj;obtain ⟨Bl,dl,rfl,_⟩:=ym;obtain ⟨Bi,di,rfl,_⟩:=yk;subst yo yp;obtain ⟨P,hW2⟩:∃ P,P=(w.alloc (.cells #[.int .i64 a.t,.int .i64 a.n,.int .i64 a.a,.int .i64 a.b,.slice q a.l.length y,.slice o a.i.length r] 25)).alloc (.cells #[.int .i64 b.t,.int .i64 b.n,.int .i64 b.a,.int .i64 b.b,.slice Bl b.l.length dl,.slice Bi b.i.length di] 25):=⟨_,rfl⟩;have xe:=hid hW2;have S:Below w.heap.size w P:=by rw [hW2];exact ((Below.refl _ w).alloc (le_refl _) _).alloc x30_ _
 have M:Hid (Blk P w.heap.size 25 #[.int .i64 a.t,.int .i64 a.n,.int .i64 a.a,.int .i64 a.b,.slice q a.l.length y,.slice o a.i.length r]):=hid q32_;have O:Hid (Blk P (w.heap.size+1) 25 #[.int .i64 b.t,.int .i64 b.n,.int .i64 b.a,.int .i64 b.b,.slice Bl b.l.length dl,.slice Bi b.i.length di]):=hid (by
  rw [hW2];have:=Blk.new (w.alloc (.cells #[.int .i64 a.t,.int .i64 a.n,.int .i64 a.a,.int .i64 a.b,.slice q a.l.length y,.slice o a.i.length r] 25)) 25 #[.int .i64 b.t,.int .i64 b.n,.int .i64 b.a,.int .i64 b.b,.slice Bl b.l.length dl,.slice Bi b.i.length di];simpa using this)
 have x4:=hid S;have U:=hid (ha.up S);have V:=hid (hb.up S);have T:=hid (hE.up S);clear hW2 S ha hb xr xs hE
 go_enter Tryz.func8,Tryz.ntmps8
 go_wp2_with fail
 rw [← xe.out];refine (Zx7 E a b _ _ _ U.out V.out xi.out xj.out T.out).mono ?_;rintro e w3 ⟨rfl,D⟩;rw [HM.out];clear HM xe;replace T:=hid (T.out.up D);replace U:=hid (U.out.up D);replace V:=hid (V.out.up D);replace M:=hid (M.out.below D M.out.lt);replace O:=hid (O.out.below D O.out.lt);replace x4:=hid (Z0_ x4.out (le_refl _) D);clear D;go_wp2
 go_loopw [4,5,6,7,8,9,10,11,12,13] (fun _ _ _ v7 _ _ _ _ _ _ wr=>∃ (k:Nat) (s:List Int),Hid (Chain a b k s)∧Hid (Row wr wr.heap.size v7 s)∧Hid (Below w3.heap.size w3 wr)) (fun _ _ _ v7 _ _ _ _ _ _ _=>65 - lenOf v7)
 case atStart=>exact ⟨0,[],hid .zero,hid (Row.nil_ _ _),hid (Below.refl _ _)⟩
 case round =>
  obtain ⟨k,s,x2,HS,B⟩:=hrel;obtain ⟨g,cs,rfl,_,_⟩:=id HS.out;have H:=I4_ HN.out.1 HN.out.2.1 HN.out.2.2 x2.out;have HC:Hid (Common a b s):=hid H.1;have y3:Hid (s.length=k):=hid H.2;have yx:s.length≤64:=Nat.le_trans (V1_ H.1.set) x1;have hd:=Ze0 (b:=b) (s:=s) x1;have x7:PtsP (adjG a b s).length (addG a s):=by rw [E0_];exact A6_ x1
  have xp:PtsP (adjG a b s).length (addG b s):=by
   have h:=A6_ (m:=b) (s:=s) (by rw [H.1.nn];exact x1);rw [E0_];rw [H.1.nn] at h;exact h
  have xv:∀ (n:Nat) (l:List Int),Greedy (adjG a b s) (addG b s) (addG a s) n l→l.length≤1000:=fun n l h=>by
   have h1:=Ye7 hd x7 (.inl ⟨rfl,n,h⟩);rw [E0_] at h1;omega
  have HD:=hid hd;have x9:=hid x7;have xz:=hid xp;have y6:=hid xv;have x3:=hid (U.out.up B.out);have xd:=hid (V.out.up B.out);have x8:=hid (T.out.up B.out);have j:=hid (M.out.below B.out M.out.lt);have C:=hid (O.out.below B.out O.out.lt);have y7:=hid (Z0_ x4.out (le_refl _) B.out);clear H hd x7 xp xv;have k0:=j.out.cell 0;have k1:=j.out.cell 1;have k2:=j.out.cell 2;have k3:=j.out.cell 3;have k4:=j.out.cell 4;have k5:=j.out.cell 5;have n0:=C.out.cell 0;have n1:=C.out.cell 1;have n2:=C.out.cell 2;have n3:=C.out.cell 3;have n4:=C.out.cell 4;have n5:=C.out.cell 5
  go_wp2_with fail
  refine (Yd9 E a b _ _ _ s wr x3.out xd.out xi.out xj.out HS.out x8.out HC.out).mono ?_;rintro e w5 ⟨vj,vf,vt,rfl,xk,hf,ht,G⟩;have HJ:=hid xk;have HF:=hid hf;have HT:=hid ht;have xa:=hid (HS.out.up G);have x5:=hid (j.out.below G j.out.lt);have xc:=hid (x3.out.up G);have xf:=hid (Z0_ B.out (le_refl _) G);have xg:=hid (Z0_ y7.out (le_refl _) G);obtain ⟨L,R,rfl,_,_⟩:=xk;obtain ⟨K,Q,rfl,_⟩:=hf;obtain ⟨At,ct,rfl,_⟩:=ht;clear G k0 k1 k2 k3 k4 k5 n0 n1 n2 n3 n4 n5 j C x3 xd x8
  go_wp2_with fail
  refine (Yr4 _ _ _ (adjG a b s) (addG a s) (addG b s) w5 HJ.out HF.out HT.out HD.out x9.out xz.out).mono ?_;rintro e J ⟨vp,l,ok,rfl,hl,z,yq⟩;have HL:=hid hl;have xb:=hid (xa.out.up z);have xx:=hid (HJ.out.up z);have xw:=hid (HF.out.up z);have xh:=hid (x5.out.below z x5.out.lt);have y5:=hid (xc.out.up z);have y8:=hid (Z0_ xf.out (le_refl _) z);have yb:=hid (Z0_ xg.out (le_refl _) z);clear z HJ HF HT xa x5 xc xf xg;rcases yq with ⟨rfl,n,x,l',rfl,hg⟩ | ⟨rfl,rfl,xt⟩
  ·have HG:=hid hg
   have yn:=y6.out _ _ hg;obtain ⟨Ap,cp,rfl,_⟩:=hl;clear hg
   go_wp2_with fail
   refine (Yf8 _ _ s (x :: l') J xb.out HL.out j29_ yn).mono ?_;rintro e w7 ⟨v7,rfl,xq,xl⟩;have y1:=hid xq;have xy:=hid (Zk7 HC.out HG.out).1;have y9:=hid (Z0_ y8.out (le_refl _) xl);have yc:=hid (Chain.succ x2.out HG.out);obtain ⟨A7,c7,rfl,_⟩:=xq;clear xl;go_wp2
   go_roundw
   case rel=>exact ⟨k+1,_,yc,y1,y9⟩
   case measure =>
    have h1:=y3.out;have h2:=xy.out;simp [lenOf];omega
  ·have y4:Hid (Stop a b s):=hid xt
   have F:Hid (∀ W,Below J.drew.heap.size J.drew W→Below J.heap.size J W):=hid fun W c=>Z0_ (Below.refl _ J).drew (le_refl _) c;obtain ⟨Ap,cp,rfl,_⟩:=hl;clear xt HL;go_wp2;refine K7_ (ops:=ymO) (ymK ⟨w.heap.size,.int .i64 a.t,.int .i64 a.n,.int .i64 a.a,.int .i64 a.b,.slice q a.l.length y,.slice o a.i.length r,.slice g s.length cs,.slice L (adjG a b s).length R,.slice K (addG a s).length Q,comeL a b s,upL a b s⟩) k29_ k29_ (Vx6 (x:=⟨w.heap.size,.int .i64 a.t,.int .i64 a.n,.int .i64 a.a,.int .i64 a.b,.slice q a.l.length y,.slice o a.i.length r,.slice g s.length cs,.slice L (adjG a b s).length R,.slice K (addG a s).length Q,comeL a b s,upL a b s⟩) ⟨rfl,rfl,rfl,rfl,?hK1,?hF,?hO⟩) ?_
   case hK1=>exact fun W c=>by have h:=xh.out.below (F.out W c) xh.out.lt;exact ⟨h.cell 0,h.cell 1,h.cell 2,h.cell 3,h.cell 4,h.cell 5⟩
   case hF=>exact fun W c=>Yr5 _ _ (adjG a b s) (addG a s) W (xx.out.up (F.out W c)) (xw.out.up (F.out W c)) HD.out x9.out
   case hO=>exact fun W c u hu=>Zx8 a _ u _ W (y5.out.up (F.out W c)) hu (Nat.le_trans (V1_ (Zs4 HC.out)) j29_)
   intro d W c xu xm xo Z;have ya:=hid (Z0_ yb.out (le_refl _) (F.out W c));have y2:=hid (xb.out.up (F.out W c));obtain ⟨yr,yd⟩:∃ v,d.tmps.getD 36 undef=v:=⟨_,rfl⟩;obtain ⟨ys,ye⟩:∃ v,d.tmps.getD 37 undef=v:=⟨_,rfl⟩;obtain ⟨yt,yf⟩:∃ v,d.tmps.getD 38 undef=v:=⟨_,rfl⟩;obtain ⟨yu,yg⟩:∃ v,d.tmps.getD 39 undef=v:=⟨_,rfl⟩;obtain ⟨yv,yh⟩:∃ v,d.tmps.getD 40 undef=v:=⟨_,rfl⟩;obtain ⟨yw,yi⟩:∃ v,d.tmps.getD 41 undef=v:=⟨_,rfl⟩;have X:=Z 6 4 q36_ k29_;rw [show ek ymO (ymK ⟨w.heap.size,.int .i64 a.t,.int .i64 a.n,.int .i64 a.a,.int .i64 a.b,.slice q a.l.length y,.slice o a.i.length r,.slice g s.length cs,.slice L (adjG a b s).length R,.slice K (addG a s).length Q,comeL a b s,upL a b s⟩) 6=.eq (.slice g s.length cs) from by kernel_rfl] at X;have X:d.tmps.getD 4 undef=.slice g s.length cs:=X;have I:=Z 7 5 q36_ k29_;rw [show ek ymO (ymK ⟨w.heap.size,.int .i64 a.t,.int .i64 a.n,.int .i64 a.a,.int .i64 a.b,.slice q a.l.length y,.slice o a.i.length r,.slice g s.length cs,.slice L (adjG a b s).length R,.slice K (addG a s).length Q,comeL a b s,upL a b s⟩) 7=.row (upL a b s) from by kernel_rfl] at I;have I:Row W W.heap.size (d.tmps.getD 5 undef) (upL a b s):=I;obtain ⟨v5,h5⟩:∃ v,d.tmps.getD 5 undef=v:=⟨_,rfl⟩;rw [h5] at I;have Y:=Z 8 6 q36_ k29_;rw [show ek ymO (ymK ⟨w.heap.size,.int .i64 a.t,.int .i64 a.n,.int .i64 a.a,.int .i64 a.b,.slice q a.l.length y,.slice o a.i.length r,.slice g s.length cs,.slice L (adjG a b s).length R,.slice K (addG a s).length Q,comeL a b s,upL a b s⟩) 8=.eq (.int .i64 0) from by kernel_rfl] at Y;have Y:d.tmps.getD 6 undef=.int .i64 0:=Y;have xn:=Zd3 (ops:=ymO) (n:=9) (N:=45) [(36,yr),(37,ys),(38,yt),(39,yu),(40,yv),(41,yw),(4,.slice g s.length cs),(5,v5),(6,.int .i64 0)] rfl xu xm (fun t ht=>xo t (by unfold Zq0;rw [show ymO.size=9 by kernel_rfl];exact ht)) k29_ (by
    intro p hp;simp only [List.mem_cons,List.not_mem_nil,or_false] at hp;rcases hp with rfl | rfl | rfl | rfl | rfl | rfl | rfl | rfl | rfl<;>assumption)
   have y0:=hid I;clear I;clear xo Z xu xm yd ye yf yg yh yi X h5 Y;rw [xn];clear xn;simp only [show List.range 45=[0,1,2,3,4,5,6,7,8,9,10,11,12,13,14,15,16,17,18,19,20,21,22,23,24,25,26,27,28,29,30,31,32,33,34,35,36,37,38,39,40,41,42,43,44] from by decide,List.map_cons,List.map_nil,List.lookup_cons,List.lookup_nil];go_simp;go_wp2;refine bodyPost_ret (v:=.tuple #[.slice g s.length cs,v5,.int .i64 0]) (by simp [results,Tryz.results8,go_sem]) rfl ?_;exact ⟨s,_,⟨⟨k,x2.out⟩,y4.out,rfl⟩,_,_,rfl,y2.out,y0.out,ya.out⟩
theorem Xs5 (E:Nat→Addr) (a b:Mat) (J K:Value) (w:World) (ha:MatV w w.heap.size J a) (hb:MatV w w.heap.size K b) (H:Sml a) (I:Sml b) (F:Env E w) (G:mayP a b=false):Calls Tryz.prog 8 #[J,K] w (Xe4 w):=by
 have C:=hid G;clear G;have L:=hid H;have M:=hid I;obtain ⟨V,T,R,P,N⟩:=ha.open;obtain ⟨W,U,S,Q,O⟩:=hb.open;obtain ⟨j,y,rfl,_⟩:=P;obtain ⟨h,x,rfl,_⟩:=N;obtain ⟨m,B,rfl,_⟩:=Q;obtain ⟨k,z,rfl,_⟩:=O;subst R S;obtain ⟨d,hW2⟩:∃ d,d=(w.alloc (.cells #[.int .i64 a.t,.int .i64 a.n,.int .i64 a.a,.int .i64 a.b,.slice j a.l.length y,.slice h a.i.length x] 25)).alloc (.cells #[.int .i64 b.t,.int .i64 b.n,.int .i64 b.a,.int .i64 b.b,.slice m b.l.length B,.slice k b.i.length z] 25):=⟨_,rfl⟩;have D:=hid hW2;have g:Below w.heap.size w d:=by rw [hW2];exact ((Below.refl _ w).alloc (le_refl _) _).alloc x30_ _
 have s:Hid (Blk d w.heap.size 25 #[.int .i64 a.t,.int .i64 a.n,.int .i64 a.a,.int .i64 a.b,.slice j a.l.length y,.slice h a.i.length x]):=hid q32_;have u:Hid (Blk d (w.heap.size+1) 25 #[.int .i64 b.t,.int .i64 b.n,.int .i64 b.a,.int .i64 b.b,.slice m b.l.length B,.slice k b.i.length z]):=hid (by
  rw [hW2];have:=Blk.new (w.alloc (.cells #[.int .i64 a.t,.int .i64 a.n,.int .i64 a.a,.int .i64 a.b,.slice j a.l.length y,.slice h a.i.length x] 25)) 25 #[.int .i64 b.t,.int .i64 b.n,.int .i64 b.a,.int .i64 b.b,.slice m b.l.length B,.slice k b.i.length z];simpa using this)
 have r:=hid g;have p:=hid (ha.up g);have q:=hid (hb.up g);have o:=hid (F.up g);clear hW2 g ha hb H I F
 go_enter Tryz.func8,Tryz.ntmps8
 go_wp2_with fail
 rw [← D.out];refine (Zx7 E a b _ _ _ p.out q.out L.out M.out o.out).mono ?_;rintro e X ⟨rfl,c⟩;rw [C.out];clear C D;replace o:=hid (o.out.up c);replace p:=hid (p.out.up c);replace q:=hid (q.out.up c);replace s:=hid (s.out.below c s.out.lt);replace u:=hid (u.out.below c u.out.lt);replace r:=hid (Z0_ r.out (le_refl _) c);clear c;go_wp2;refine bodyPost_ret (v:=.tuple #[.slice none 0 0,.slice none 0 0,.int .i64 1]) (by simp [results,Tryz.results8,go_sem]) rfl ?_;exact ⟨rfl,r.out⟩
theorem O8_ (E:Nat→Addr) (a b:Mat) (va vb:Value) (w:World) (ha:MatV w w.heap.size va a) (hb:MatV w w.heap.size vb b) (x4:Sml a) (x5:Sml b) (hE:Env E w) (sw:Value) (s:List Int) (hr:Row w w.heap.size sw s) (V:s.length≤1048576):Calls Tryz.prog 11 #[va,vb,sw] w (Tells w (E3_ a b s)):=by
 have xp:=Za1 a s;have xq:=Za1 b (Z4_ (allL b.n) s);have x7:IntKind.i64.wrap (rankT a s+rankT b (Z4_ (allL b.n) s))=rankT a s+rankT b (Z4_ (allL b.n) s):=k30_;have x8:=hid x7;have xs:(Z4_ (allL b.n) s).length≤1048576:=Nat.le_trans (Zx5 _ _) (C1_ b.n);clear xp xq x7;have I:=hid x4;have T:=hid x5;obtain ⟨la,ia,xt,xn,xl⟩:=ha.open;obtain ⟨lb,ib,xu,xo,xm⟩:=hb.open;obtain ⟨F,K,rfl,_⟩:=xn;obtain ⟨D,J,rfl,_⟩:=xl;obtain ⟨H,M,rfl,_⟩:=xo;obtain ⟨G,L,rfl,_⟩:=xm;obtain ⟨X,Z,xr,_⟩:=id hr;subst xt xu xr;obtain ⟨R,hW2⟩:∃ R,R=(w.alloc (.cells #[.int .i64 a.t,.int .i64 a.n,.int .i64 a.a,.int .i64 a.b,.slice F a.l.length K,.slice D a.i.length J] 25)).alloc (.cells #[.int .i64 b.t,.int .i64 b.n,.int .i64 b.a,.int .i64 b.b,.slice H b.l.length M,.slice G b.i.length L] 25):=⟨_,rfl⟩;have Q:=hid hW2;have O:Below w.heap.size w R:=by rw [hW2];exact ((Below.refl _ w).alloc (le_refl _) _).alloc x30_ _
 have c:Hid (Blk R w.heap.size 25 #[.int .i64 a.t,.int .i64 a.n,.int .i64 a.a,.int .i64 a.b,.slice F a.l.length K,.slice D a.i.length J]):=hid q32_;have o:Hid (Blk R (w.heap.size+1) 25 #[.int .i64 b.t,.int .i64 b.n,.int .i64 b.a,.int .i64 b.b,.slice H b.l.length M,.slice G b.i.length L]):=hid (by
  rw [hW2];have:=Blk.new (w.alloc (.cells #[.int .i64 a.t,.int .i64 a.n,.int .i64 a.a,.int .i64 a.b,.slice F a.l.length K,.slice D a.i.length J] 25)) 25 #[.int .i64 b.t,.int .i64 b.n,.int .i64 b.a,.int .i64 b.b,.slice H b.l.length M,.slice G b.i.length L];simpa using this)
 have B:=hid O;have k:=hid (ha.up O);have m:=hid (hb.up O);have j:=hid (hE.up O);have y:=hid (hr.up O);clear hW2 O ha hb x4 x5 hE hr;cases hm:mayP a b with
 | false =>
  have S:=hid hm;have C:E3_ a b s=-1:=by unfold E3_;rw [hm];rfl
  rw [C];clear hm C
  go_enter Tryz.func11,Tryz.ntmps11
  go_wp2_with fail
  rw [← Q.out];refine (Zx7 E a b _ _ _ k.out m.out I.out T.out j.out).mono ?_;rintro e w3 ⟨rfl,d⟩;rw [S.out];have x9:=hid (Z0_ B.out (le_refl _) d);clear d;go_wp2;go_ret;exact ⟨rfl,x9.out⟩
 | true =>
  have S:=hid hm;cases hi:mayI a s with
  | false =>
   have Y:=hid hi;have C:E3_ a b s=-1:=by unfold E3_;rw [hm,hi];rfl
   rw [C];clear hm hi C
   go_enter Tryz.func11,Tryz.ntmps11
   go_wp2_with fail
   rw [← Q.out];refine (Zx7 E a b _ _ _ k.out m.out I.out T.out j.out).mono ?_;rintro e w3 ⟨rfl,d⟩;rw [S.out];clear Q;replace j:=hid (j.out.up d);replace k:=hid (k.out.up d);replace m:=hid (m.out.up d);replace y:=hid (y.out.up d);replace c:=hid (c.out.below d c.out.lt);replace o:=hid (o.out.below d o.out.lt);replace B:=hid (Z0_ B.out (le_refl _) d);clear d;have k0:=c.out.cell 0;have k1:=c.out.cell 1;have k2:=c.out.cell 2;have k3:=c.out.cell 3;have k4:=c.out.cell 4;have k5:=c.out.cell 5
   go_wp2_with fail
   refine (T9_ E a _ _ s _ k.out I.out y.out V j.out).mono ?_;rintro e P ⟨rfl,q⟩;rw [Y.out];clear k0 k1 k2 k3 k4 k5;have xa:=hid (Z0_ B.out (le_refl _) q);clear q;go_wp2;go_ret;exact ⟨rfl,xa.out⟩
  | true =>
   have Y:=hid hi;have C:E3_ a b s=rankT a s+rankT b (Z4_ (allL b.n) s):=by unfold E3_;rw [hm,hi];rfl
   rw [C];clear hm hi C
   go_enter Tryz.func11,Tryz.ntmps11
   go_wp2_with fail
   rw [← Q.out];refine (Zx7 E a b _ _ _ k.out m.out I.out T.out j.out).mono ?_;rintro e w3 ⟨rfl,d⟩;rw [S.out];clear Q;replace j:=hid (j.out.up d);replace k:=hid (k.out.up d);replace m:=hid (m.out.up d);replace y:=hid (y.out.up d);replace c:=hid (c.out.below d c.out.lt);replace o:=hid (o.out.below d o.out.lt);replace B:=hid (Z0_ B.out (le_refl _) d);clear d;have k0:=c.out.cell 0;have k1:=c.out.cell 1;have k2:=c.out.cell 2;have k3:=c.out.cell 3;have k4:=c.out.cell 4;have k5:=c.out.cell 5
   go_wp2_with fail
   refine (T9_ E a _ _ s _ k.out I.out y.out V j.out).mono ?_;rintro e P ⟨rfl,q⟩;rw [Y.out];clear k0 k1 k2 k3 k4 k5;replace j:=hid (j.out.up q);replace k:=hid (k.out.up q);replace m:=hid (m.out.up q);replace y:=hid (y.out.up q);replace c:=hid (c.out.below q c.out.lt);replace o:=hid (o.out.below q o.out.lt);replace B:=hid (Z0_ B.out (le_refl _) q);clear q;have r:Hid (∀ W,Below P.drew.heap.size P.drew W→Below P.heap.size P W):=hid fun W g=>Z0_ (Below.refl _ P).drew (le_refl _) g;go_wp2;refine K7_ (ops:=ybO) (ybK ⟨w.heap.size,w.heap.size+1,.int .i64 a.t,.int .i64 a.n,.int .i64 a.a,.int .i64 a.b,.slice F a.l.length K,.slice D a.i.length J,.int .i64 b.t,.int .i64 b.n,.int .i64 b.a,.int .i64 b.b,.slice H b.l.length M,.slice G b.i.length L,.slice X s.length Z,Z4_ (allL b.n) s,rankT a s,rankT b (Z4_ (allL b.n) s)⟩) k29_ k29_ (Vx7 (x:=⟨w.heap.size,w.heap.size+1,.int .i64 a.t,.int .i64 a.n,.int .i64 a.a,.int .i64 a.b,.slice F a.l.length K,.slice D a.i.length J,.int .i64 b.t,.int .i64 b.n,.int .i64 b.a,.int .i64 b.b,.slice H b.l.length M,.slice G b.i.length L,.slice X s.length Z,Z4_ (allL b.n) s,rankT a s,rankT b (Z4_ (allL b.n) s)⟩) ⟨rfl,rfl,rfl,?hK1,?hK2,?hR1,?hR2,?hO,x8.out⟩) ?_
   case hK1=>exact fun W g=>by have h:=c.out.below (r.out W g) c.out.lt;exact ⟨h.cell 0,h.cell 1,h.cell 2,h.cell 3,h.cell 4,h.cell 5⟩
   case hK2=>exact fun W g=>by have h:=o.out.below (r.out W g) o.out.lt;exact ⟨h.cell 0,h.cell 1,h.cell 2,h.cell 3,h.cell 4,h.cell 5⟩
   case hR1=>exact fun W g=>Zy8 E a _ _ s W (k.out.up (r.out W g)) I.out (y.out.up (r.out W g)) V (j.out.up (r.out W g))
   case hR2=>exact fun W g u hu=>Zy8 E b _ u _ W (m.out.up (r.out W g)) T.out hu xs (j.out.up (r.out W g))
   case hO=>exact fun W g=>Zx8 b _ _ s W (m.out.up (r.out W g)) (y.out.up (r.out W g)) V
   intro z W g x6 x1 x3 x0;have xb:=hid (Z0_ B.out (le_refl _) (r.out W g));obtain ⟨xv,xc⟩:∃ v,z.tmps.getD 17 undef=v:=⟨_,rfl⟩;obtain ⟨xw,xd⟩:∃ v,z.tmps.getD 18 undef=v:=⟨_,rfl⟩;obtain ⟨xx,xe⟩:∃ v,z.tmps.getD 19 undef=v:=⟨_,rfl⟩;obtain ⟨xy,xf⟩:∃ v,z.tmps.getD 20 undef=v:=⟨_,rfl⟩;obtain ⟨xz,xg⟩:∃ v,z.tmps.getD 21 undef=v:=⟨_,rfl⟩;obtain ⟨y0,xh⟩:∃ v,z.tmps.getD 22 undef=v:=⟨_,rfl⟩;obtain ⟨y1,xi⟩:∃ v,z.tmps.getD 23 undef=v:=⟨_,rfl⟩;obtain ⟨y2,xj⟩:∃ v,z.tmps.getD 24 undef=v:=⟨_,rfl⟩;obtain ⟨y3,xk⟩:∃ v,z.tmps.getD 25 undef=v:=⟨_,rfl⟩;have U:=x0 9 6 (by rw [show ybO.size=10 by kernel_rfl];decide) k29_;rw [show ek ybO (ybK ⟨w.heap.size,w.heap.size+1,.int .i64 a.t,.int .i64 a.n,.int .i64 a.a,.int .i64 a.b,.slice F a.l.length K,.slice D a.i.length J,.int .i64 b.t,.int .i64 b.n,.int .i64 b.a,.int .i64 b.b,.slice H b.l.length M,.slice G b.i.length L,.slice X s.length Z,Z4_ (allL b.n) s,rankT a s,rankT b (Z4_ (allL b.n) s)⟩) 9=.eq (.int .i64 (rankT a s+rankT b (Z4_ (allL b.n) s))) from by kernel_rfl] at U;have U:z.tmps.getD 6 undef=.int .i64 (rankT a s+rankT b (Z4_ (allL b.n) s)):=U;have x2:=Zd3 (ops:=ybO) (n:=10) (N:=26) [(17,xv),(18,xw),(19,xx),(20,xy),(21,xz),(22,y0),(23,y1),(24,y2),(25,y3),(6,.int .i64 (rankT a s+rankT b (Z4_ (allL b.n) s)))] rfl x6 x1 (fun t ht=>x3 t (by unfold Zq0;rw [show ybO.size=10 by kernel_rfl];exact ht)) k29_ (by
    intro p hp;simp only [List.mem_cons,List.not_mem_nil,or_false] at hp;rcases hp with rfl | rfl | rfl | rfl | rfl | rfl | rfl | rfl | rfl | rfl<;>assumption)
   clear x3 x0 x6 x1 xc xd xe xf xg xh xi xj xk U;rw [x2];clear x2;simp only [show List.range 26=[0,1,2,3,4,5,6,7,8,9,10,11,12,13,14,15,16,17,18,19,20,21,22,23,24,25] from by decide,List.map_cons,List.map_nil,List.lookup_cons,List.lookup_nil];go_simp;go_wp2;go_ret;exact ⟨rfl,xb.out⟩
open Go Go.RowKit
def unM (n a:Int):Mat:=.mk 0 n a 0 [] []
theorem I7_ (n a:Int) (s:List Int):rankT (unM n a) s=if mayI (unM n a) s then ((min a.toNat (cnt (memP s) n.toNat):Nat):Int) else -1:=by
 unfold rankT;rw [rkP_0 rfl];rfl
theorem Xh1 (n a:Int) (s:List Int):indT (unM n a) s=(mayI (unM n a) s && decide (min a.toNat (cnt (memP s) n.toNat)=s.length)):=by
 unfold indT;rw [I7_];cases mayI (unM n a) s
 ·simp
 ·simp
  omega
theorem Yw2 {a b:Mat} {s u:List Int} (ha:chk a=0) (hb:chk b=0) (c:a.n=b.n) (h:MaxIs a b s u):E3_ a b u=(s.length:Int):=by
 obtain ⟨_,f,e⟩:=E2_ ha hb c h;have d:mayP a b=true:=mayP_iff.2 ⟨c,ha,hb⟩;unfold E3_;rw [d,mayI_iff.2 ⟨ha,f⟩,← e,← c];rfl
theorem Yw3:mayP (unM 3 2) (unM 3 1)=true:=q31_
theorem Xs6:mayP (unM 3 2) (unM 2 1)=false:=q31_
theorem ev14_c:Common (unM 3 2) (unM 3 1) [0]:=⟨rfl,by rw [Xh1];decide +kernel,by rw [Xh1];decide +kernel⟩
theorem Xs7:E3_ (unM 3 2) (unM 3 1) [0,1,2]=2:=by
 unfold E3_;rw [I7_,I7_];decide +kernel
theorem Xs8:E3_ (unM 3 2) (unM 3 1) []=1:=by
 unfold E3_;rw [I7_,I7_];decide +kernel
theorem Xs9:E3_ (unM 3 2) (unM 3 1) [3]=-1:=by
 unfold E3_;rw [I7_,I7_];decide +kernel
theorem Vj5:rankT (unM 3 1) (allL 3)=1:=by
 rw [I7_];decide +kernel
theorem Vj6 {s u:List Int} (h:MaxIs (unM 3 2) (unM 3 1) s u):s=[0]:=by
 obtain ⟨c,ha,hb⟩:=mayP_iff.1 Yw3;obtain ⟨k,d⟩:=h.ch;obtain ⟨hc,hl⟩:=I4_ ha hb c d;have g:=S3_ ha hb c h ev14_c;have j:=Ye4 hc.ib;rw [show (unM 3 1).n=3 from rfl,Vj5] at j;have q:k=1:=by simp at g;omega
 subst q;have f:∀ m:Mat,chk m=0→0<nN m→indT m [0]=true→(0:Int)∈addG m []:=fun m e c p=>by
  have h:=Xd1 e (x:=0) c;rw [show indT m [((0:Nat):Int)]=true from p] at h;exact (D2_ (A6_ (Z7_ e).2).1 _).1 h
 have o:Greedy (adjG (unM 3 2) (unM 3 1) []) (addG (unM 3 1) []) (addG (unM 3 2) []) 0 [0] :=
  .stop _ 0 (f _ ha y30_ ev14_c.ia) (f _ hb y30_ ev14_c.ib) (fun y r v=>by have:=(A6_ (Z7_ ha).2).2 y r;omega)
 rw [← Zl1 (Chain.succ .zero o) d];exact Yt2 y30_
theorem M5_ (E:Nat→Addr) (w:World) (X:Env E w):Calls Tryz.prog 7 #[] w (Truly w):=by
 have j:=hid (mayP_iff.1 Yw3);obtain ⟨M,hW2⟩:∃ M,M=(w.alloc (.cells #[.int .i64 0,.int .i64 3,.int .i64 2,.int .i64 0,.slice none 0 0,.slice none 0 0] 25)).alloc (.cells #[.int .i64 0,.int .i64 3,.int .i64 1,.int .i64 0,.slice none 0 0,.slice none 0 0] 25):=⟨_,rfl⟩;have W:=hid hW2;have V:Below w.heap.size w M:=by rw [hW2];exact ((Below.refl _ w).alloc (le_refl _) _).alloc x30_ _
 have c:Hid (Blk M w.heap.size 25 #[.int .i64 0,.int .i64 3,.int .i64 2,.int .i64 0,.slice none 0 0,.slice none 0 0]):=hid q32_;have d:Hid (Blk M (w.heap.size+1) 25 #[.int .i64 0,.int .i64 3,.int .i64 1,.int .i64 0,.slice none 0 0,.slice none 0 0]):=hid (by
  rw [hW2];have:=Blk.new (w.alloc (.cells #[.int .i64 0,.int .i64 3,.int .i64 2,.int .i64 0,.slice none 0 0,.slice none 0 0] 25)) 25 #[.int .i64 0,.int .i64 3,.int .i64 1,.int .i64 0,.slice none 0 0,.slice none 0 0];simpa using this)
 have Hb0:=hid V;have g:=hid (X.up V);clear X hW2 V
 go_enter Tryz.func7,Tryz.ntmps7
 go_wp2_with fail
 rw [← W.out];refine (Yv1 E (unM 3 2) (unM 3 1) _ _ _ (V9_ _ _ 0 3 2 0) (V9_ _ _ 0 3 1 0) (J0_ ..) (J0_ ..) g.out j.out.2.1 j.out.2.2 j.out.1).mono ?_;rintro e w3 ⟨s,u,Q,v,x,rfl,hs,Y,N⟩;obtain rfl:=Vj6 Q;have Z:=hid (Yw2 j.out.2.1 j.out.2.2 j.out.1 Q);have x0:u.length≤1048576:=Nat.le_trans (V1_ (E2_ j.out.2.1 j.out.2.2 j.out.1 Q).2.1) y30_;have U:=hid hs;have L:=hid Y;obtain ⟨As,cs,rfl,_⟩:=hs;obtain ⟨Au,cu,rfl,_⟩:=Y;clear Q W;replace g:=hid (g.out.up N);replace c:=hid (c.out.below N c.out.lt);replace d:=hid (d.out.below N d.out.lt);replace Hb0:=hid (Z0_ Hb0.out (le_refl _) N);clear N;have k:=c.out.cell 0;have m:=c.out.cell 1;have o:=c.out.cell 2;have p:=c.out.cell 3;have q:=c.out.cell 4;have r:=c.out.cell 5
 go_wp2_with fail
 refine (Xs5 E (unM 3 2) (unM 2 1) _ _ _ (V9_ _ _ 0 3 2 0) (V9_ _ _ 0 2 1 0) (J0_ ..) (J0_ ..) g.out Xs6).mono ?_;rintro e R ⟨rfl,B⟩;clear k m o p q r;replace g:=hid (g.out.up B);replace U:=hid (U.out.up B);replace L:=hid (L.out.up B);replace c:=hid (c.out.below B c.out.lt);replace d:=hid (d.out.below B d.out.lt);replace Hb0:=hid (Z0_ Hb0.out (le_refl _) B);clear B;have y:=hid (Row.here (Row.lit1 R 0));have h:Hid (Below R.heap.size R (R.alloc (.cells #[.int .i64 0] 3))):=hid ((Below.refl _ _).alloc (le_refl _) _)
 go_wp2_with fail
 refine (cS _ _ [0] _ (U.out.up h.out) y.out y30_).mono ?_;rintro e w5 ⟨rfl,z⟩;replace z:=Z0_ h.out (le_refl _) z;clear y h;replace g:=hid (g.out.up z);replace L:=hid (L.out.up z);replace c:=hid (c.out.below z c.out.lt);replace d:=hid (d.out.below z d.out.lt);replace Hb0:=hid (Z0_ Hb0.out (le_refl _) z);clear z;have k:=c.out.cell 0;have m:=c.out.cell 1;have o:=c.out.cell 2;have p:=c.out.cell 3;have q:=c.out.cell 4;have r:=c.out.cell 5;have F:=d.out.cell 0;have G:=d.out.cell 1;have H:=d.out.cell 2;have I:=d.out.cell 3;have J:=d.out.cell 4;have K:=d.out.cell 5
 go_wp2_with fail
 refine (O8_ E (unM 3 2) (unM 3 1) _ _ _ (V9_ _ _ 0 3 2 0) (V9_ _ _ 0 3 1 0) (J0_ ..) (J0_ ..) g.out _ u L.out x0).mono ?_;rintro e S ⟨rfl,O⟩;rw [Z.out];clear k m o p q r F G H I J K;replace g:=hid (g.out.up O);replace c:=hid (c.out.below O c.out.lt);replace d:=hid (d.out.below O d.out.lt);replace Hb0:=hid (Z0_ Hb0.out (le_refl _) O);clear O;have k:=c.out.cell 0;have m:=c.out.cell 1;have o:=c.out.cell 2;have p:=c.out.cell 3;have q:=c.out.cell 4;have r:=c.out.cell 5;have F:=d.out.cell 0;have G:=d.out.cell 1;have H:=d.out.cell 2;have I:=d.out.cell 3;have J:=d.out.cell 4;have K:=d.out.cell 5;have y:=hid (Row.here (Row.lit3 S 0 1 2));have h:Hid (Below S.heap.size S (S.alloc (.cells #[.int .i64 0,.int .i64 1,.int .i64 2] 3))):=hid ((Below.refl _ _).alloc (le_refl _) _)
 go_wp2_with fail
 refine (O8_ E (unM 3 2) (unM 3 1) _ _ _ (V9_ _ _ 0 3 2 0) (V9_ _ _ 0 3 1 0) (J0_ ..) (J0_ ..) (g.out.up h.out) _ [0,1,2] y.out y30_).mono ?_;rintro e w7 ⟨rfl,C⟩;rw [Xs7];replace C:=Z0_ h.out (le_refl _) C;clear k m o p q r F G H I J K;clear y h;replace g:=hid (g.out.up C);replace c:=hid (c.out.below C c.out.lt);replace d:=hid (d.out.below C d.out.lt);replace Hb0:=hid (Z0_ Hb0.out (le_refl _) C);clear C;have k:=c.out.cell 0;have m:=c.out.cell 1;have o:=c.out.cell 2;have p:=c.out.cell 3;have q:=c.out.cell 4;have r:=c.out.cell 5;have F:=d.out.cell 0;have G:=d.out.cell 1;have H:=d.out.cell 2;have I:=d.out.cell 3;have J:=d.out.cell 4;have K:=d.out.cell 5
 go_wp2_with fail
 refine (O8_ E (unM 3 2) (unM 3 1) _ _ _ (V9_ _ _ 0 3 2 0) (V9_ _ _ 0 3 1 0) (J0_ ..) (J0_ ..) g.out _ [] (Row.nil_ _ _) y30_).mono ?_;rintro e T ⟨rfl,P⟩;rw [Xs8];clear k m o p q r F G H I J K;replace g:=hid (g.out.up P);replace c:=hid (c.out.below P c.out.lt);replace d:=hid (d.out.below P d.out.lt);replace Hb0:=hid (Z0_ Hb0.out (le_refl _) P);clear P;have k:=c.out.cell 0;have m:=c.out.cell 1;have o:=c.out.cell 2;have p:=c.out.cell 3;have q:=c.out.cell 4;have r:=c.out.cell 5;have F:=d.out.cell 0;have G:=d.out.cell 1;have H:=d.out.cell 2;have I:=d.out.cell 3;have J:=d.out.cell 4;have K:=d.out.cell 5;have y:=hid (Row.here (Row.lit1 T 3));have h:Hid (Below T.heap.size T (T.alloc (.cells #[.int .i64 3] 3))):=hid ((Below.refl _ _).alloc (le_refl _) _)
 go_wp2_with fail
 refine (O8_ E (unM 3 2) (unM 3 1) _ _ _ (V9_ _ _ 0 3 2 0) (V9_ _ _ 0 3 1 0) (J0_ ..) (J0_ ..) (g.out.up h.out) _ [3] y.out y30_).mono ?_;rintro e w9 ⟨rfl,D⟩;rw [Xs9];replace D:=Z0_ h.out (le_refl _) D;clear k m o p q r F G H I J K;clear y h;replace g:=hid (g.out.up D);replace c:=hid (c.out.below D c.out.lt);replace d:=hid (d.out.below D d.out.lt);replace Hb0:=hid (Z0_ Hb0.out (le_refl _) D);clear D;exact k1_
end Wp
end Go.Proofs.YtnbcaibflhgdoaaGreatDoor
