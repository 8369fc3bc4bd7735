/- The program's inter, walked: may, others, Max, Bound (written by gen_ymax.py). The document's answers of layer 14 but its Max: May, Common, Bound, walked (written by gen_yref.py). The calls whose answers the document fixes, of the greatest common set: they are as it fixes them. -/
import Derived.Test.YtnbcaibflhgdoaaGreatDoorYStR
import Derived.Test.YtnbcaibflhgdoaaGreatDoorYB
import Derived.Test.YtnbcaibflhgdoaaGreatDoorVInd
import Derived.Test.YtnbcaibflhgdoaaGreatDoorYGr
import Derived.Test.YtnbcaibflhgdoaaGreatDoorVGraph
import Derived.Test.YtnbcaibflhgdoaaGreatDoorVR13A
import Derived.Test.YtnbcaibflhgdoaaGreatDoorVIndep
import Derived.Test.YtnbcaibflhgdoaaGreatDoorQTD
import Derived.Test.YtnbcaibflhgdoaaGreatDoorX0A
import Derived.Test.YtnbcaibflhgdoaaGreatDoorX0B
set_option maxHeartbeats 16000000
set_option maxRecDepth 100000
open Go.Lib (hid)
open Nat (le_refl)
namespace Go.Proofs.YtnbcaibflhgdoaaGreatDoor
open Go Go.RowKit
namespace Wp
def mayP (a b:Mat):Bool:=decide (a.n=b.n) && ((chk a==0) && (chk b==0))
theorem mayP_iff {a b:Mat}:mayP a b=true↔a.n=b.n∧chk a=0∧chk b=0:=by
 unfold mayP;rw [Bool.and_eq_true,Bool.and_eq_true,decide_eq_true_iff,beq_iff_eq,beq_iff_eq]
noncomputable def J8_ (a b:Mat) (s:List Int):Int:=if (mayP a b && mayI a s)=true then rankT a s+rankT b (Z5_ (allL b.n) s) else -1
def Xk8 (w:World) (s u:List Int) (e:Ending) (w':World):Prop:=∃ v x,e=.returned (.tuple #[v,x,.int .i64 0])∧Row w' w'.heap.size v s∧Row w' w'.heap.size x u∧Below w.heap.size w w'
def Yn3 (w:World) (e:Ending) (w':World):Prop:=e=.returned (.tuple #[.slice none 0 0,.slice none 0 0,.int .i64 1])∧Below w.heap.size w w'
theorem R4_ (m:Mat) (s:List Int):-1≤rankT m s∧rankT m s≤64:=by
 by_cases h:mayI m s=true
 ·obtain ⟨hc,c⟩:=mayI_iff.1 h
  have d:=(rk_of hc).le_cnt (memP s);have e:=(Z8_ hc).2;have h3:=Y3_ c;rw [X4_ c] at h3;rw [R1_ h];omega
 ·rw [show rankT m s=-1 from if_neg h]
  omega
theorem Zh0 (E:Nat→Addr) (a b:Mat) (N O:Value) (w:World) (ha:MatV w w.heap.size N a) (hb:MatV w w.heap.size O b) (L:Sml a) (M:Sml b) (J:Env E w):Calls Tryz.prog 18 #[N,O] w (Says w (mayP a b)):=by
 obtain ⟨H,D⟩:∃ c,chk a=c:=⟨_,rfl⟩;obtain ⟨I,F⟩:∃ c,chk b=c:=⟨_,rfl⟩;have K:mayP a b=(decide (a.n=b.n) && ((H==0) && (I==0))):=by unfold mayP;rw [D,F]
 rw [K];have P:=hid D;have Q:=hid F;clear D F K;have R:=hid L;have S:=hid M;obtain ⟨la,ia,Y,V,T⟩:=ha.open;obtain ⟨lb,ib,Z,W,U⟩:=hb.open;obtain ⟨v,cl,rfl,_⟩:=V;obtain ⟨u,z,rfl,_⟩:=T;obtain ⟨y,C,rfl,_⟩:=W;obtain ⟨x,B,rfl,_⟩:=U;subst Y Z;obtain ⟨r,hW2⟩:∃ r,r=(w.alloc (.cells #[.int .i64 a.t,.int .i64 a.n,.int .i64 a.a,.int .i64 a.b,.slice v a.l.length cl,.slice u a.i.length z] 25)).alloc (.cells #[.int .i64 b.t,.int .i64 b.n,.int .i64 b.a,.int .i64 b.b,.slice y b.l.length C,.slice x b.i.length B] 25):=⟨_,rfl⟩;have G:=hid hW2;have s:Below w.heap.size w r:=by rw [hW2];exact ((Below.refl _ w).alloc (le_refl _) _).alloc j41_ _
 have m:Hid (Blk r w.heap.size 25 #[.int .i64 a.t,.int .i64 a.n,.int .i64 a.a,.int .i64 a.b,.slice v a.l.length cl,.slice u a.i.length z]):=hid x43_;have d:Hid (Blk r (w.heap.size+1) 25 #[.int .i64 b.t,.int .i64 b.n,.int .i64 b.a,.int .i64 b.b,.slice y b.l.length C,.slice x b.i.length B]):=hid (by
  rw [hW2];have:=Blk.new (w.alloc (.cells #[.int .i64 a.t,.int .i64 a.n,.int .i64 a.a,.int .i64 a.b,.slice v a.l.length cl,.slice u a.i.length z] 25)) 25 #[.int .i64 b.t,.int .i64 b.n,.int .i64 b.a,.int .i64 b.b,.slice y b.l.length C,.slice x b.i.length B];simpa using this)
 have g:=hid s;have p:=hid (ha.up s);have q:=hid (hb.up s);have k:=hid (J.up s);clear hW2 s ha hb L M J;by_cases o:a.n=b.n
 ·have X:(a.n==b.n)=true:=by simpa using o
  rw [decide_eq_true o,Bool.true_and];clear o
  go_enter Tryz.func18,Tryz.ntmps18
  go_wp2_with fail
  rw [← G.out];refine (B9_ E a _ _ p.out R.out k.out).mono ?_;rintro e w3 ⟨rfl,h⟩;rw [P.out];replace k:=hid (k.out.up h);replace p:=hid (p.out.up h);replace q:=hid (q.out.up h);replace m:=hid (m.out.below h m.out.lt);replace d:=hid (d.out.below h d.out.lt);replace g:=hid (Z0_ g.out (le_refl _) h);clear h;cases hx:(H==0)
  ·go_wp2
   go_ret;exact ⟨by rw [hx];rfl,g.out⟩
  ·have n0:=d.out.cell 0
   have n1:=d.out.cell 1;have n2:=d.out.cell 2;have n3:=d.out.cell 3;have n4:=d.out.cell 4;have n5:=d.out.cell 5
   go_wp2_with fail
   refine (B9_ E b _ _ q.out S.out k.out).mono ?_;rintro e w4 ⟨rfl,j⟩;rw [Q.out];clear n0 n1 n2 n3 n4 n5;replace k:=hid (k.out.up j);replace p:=hid (p.out.up j);replace q:=hid (q.out.up j);replace m:=hid (m.out.below j m.out.lt);replace d:=hid (d.out.below j d.out.lt);replace g:=hid (Z0_ g.out (le_refl _) j);clear j;cases hy:(I==0)
   all_goals
    go_wp2;go_ret;exact ⟨by rw [hx,hy];rfl,g.out⟩
 ·have X:(a.n==b.n)=false:=by simpa using o
  rw [decide_eq_false o,Bool.false_and];clear o
  go_enter Tryz.func18,Tryz.ntmps18
  go_wp2;rw [← G.out];go_ret;exact ⟨rfl,g.out⟩
theorem Zh1 (m:Mat) (v p:Value) (s:List Int) (w:World) (o:MatV w w.heap.size v m) (c:Row w w.heap.size p s) (hs:s.length≤1048576):Calls Tryz.prog 21 #[v,p] w (Gives w (Z5_ (allL m.n) s)):=by
 have q:=hid (c.up (Z1_ w m (.slice none 0 0) (.slice none 0 0)));have C:=B3_ m.n;obtain ⟨H,G,F,E,D⟩:=o.open;have g:=hid (Z1_ w m H G);have x:=hid (c.up g.out);obtain ⟨I,cs,rfl,_⟩:=id c;subst F;unfold boxed at *
 clear q o E D c
 go_enter Tryz.func21,Tryz.ntmps21
 go_wp2_with fail
 refine (I5_ m.n _).mono ?_;rintro e L ⟨J,rfl,j,d⟩;have r:=hid j;have y:=hid (x.out.up d);have z:=hid (Z0_ g.out (le_refl _) d);clear j d
 go_wp2_with fail
 refine (F2_ _ _ (allL m.n) s _ r.out y.out C hs).mono ?_;rintro e M ⟨K,rfl,k,h⟩;have u:=hid k;have B:=hid (Z0_ z.out (le_refl _) h);clear k h;go_wp2;go_ret;exact ⟨_,rfl,u.out,B.out⟩
theorem Va2 (E:Nat→Addr) (a b:Mat) (va vb:Value) (w:World) (ha:MatV w w.heap.size va a) (hb:MatV w w.heap.size vb b) (xp:Sml a) (xq:Sml b) (hE:Env E w) (Y:chk a=0) (x4:chk b=0) (hn:a.n=b.n):Calls Tryz.prog 8 #[va,vb] w (fun e w'=>∃ s u,MaxIs a b s u∧Xk8 w s u e w'):=by
 have HM:Hid (mayP a b=true):=hid (by unfold mayP;rw [Y,x4,decide_eq_true hn];rfl);have hn64:=(Z8_ Y).2;have HN:=hid (And.intro Y (And.intro x4 hn));clear Y x4 hn;have xg:=hid xp;have xh:=hid xq;obtain ⟨la,ia,ym,yj,yh⟩:=ha.open;obtain ⟨lb,ib,yn,yk,yi⟩:=hb.open;obtain ⟨q,cl,rfl,_⟩:=yj;obtain ⟨o,r,rfl,_⟩:=yh;obtain ⟨Bl,dl,rfl,_⟩:=yk;obtain ⟨Bi,di,rfl,_⟩:=yi;subst ym yn;obtain ⟨M,hW2⟩:∃ M,M=(w.alloc (.cells #[.int .i64 a.t,.int .i64 a.n,.int .i64 a.a,.int .i64 a.b,.slice q a.l.length cl,.slice o a.i.length r] 25)).alloc (.cells #[.int .i64 b.t,.int .i64 b.n,.int .i64 b.a,.int .i64 b.b,.slice Bl b.l.length dl,.slice Bi b.i.length di] 25):=⟨_,rfl⟩;have xc:=hid hW2;have Q:Below w.heap.size w M:=by rw [hW2];exact ((Below.refl _ w).alloc (le_refl _) _).alloc j41_ _
 have K:Hid (Blk M w.heap.size 25 #[.int .i64 a.t,.int .i64 a.n,.int .i64 a.a,.int .i64 a.b,.slice q a.l.length cl,.slice o a.i.length r]):=hid x43_;have L:Hid (Blk M (w.heap.size+1) 25 #[.int .i64 b.t,.int .i64 b.n,.int .i64 b.a,.int .i64 b.b,.slice Bl b.l.length dl,.slice Bi b.i.length di]):=hid (by
  rw [hW2];have:=Blk.new (w.alloc (.cells #[.int .i64 a.t,.int .i64 a.n,.int .i64 a.a,.int .i64 a.b,.slice q a.l.length cl,.slice o a.i.length r] 25)) 25 #[.int .i64 b.t,.int .i64 b.n,.int .i64 b.a,.int .i64 b.b,.slice Bl b.l.length dl,.slice Bi b.i.length di];simpa using this)
 have x2:=hid Q;have S:=hid (ha.up Q);have T:=hid (hb.up Q);have R:=hid (hE.up Q);clear hW2 Q ha hb xp xq hE
 go_enter Tryz.func8,Tryz.ntmps8
 go_wp2_with fail
 rw [← xc.out];refine (Zh0 E a b _ _ _ S.out T.out xg.out xh.out R.out).mono ?_;rintro e w3 ⟨rfl,C⟩;rw [HM.out];clear HM xc;replace R:=hid (R.out.up C);replace S:=hid (S.out.up C);replace T:=hid (T.out.up C);replace K:=hid (K.out.below C K.out.lt);replace L:=hid (L.out.below C L.out.lt);replace x2:=hid (Z0_ x2.out (le_refl _) C);clear C;go_wp2
 go_loopw [4,5,6,7,8,9,10,11,12,13] (fun _ _ _ v7 _ _ _ _ _ _ wr=>∃ (k:Nat) (s:List Int),Hid (Chain a b k s)∧Hid (Row wr wr.heap.size v7 s)∧Hid (Below w3.heap.size w3 wr)) (fun _ _ _ v7 _ _ _ _ _ _ _=>65 - lenOf v7)
 case atStart=>exact ⟨0,[],hid .zero,hid (Row.nil_ _ _),hid (Below.refl _ _)⟩
 case round =>
  obtain ⟨k,s,x0,HS,z⟩:=hrel;obtain ⟨g,cs,rfl,_,_⟩:=id HS.out;have hck:=F6_ HN.out.1 HN.out.2.1 HN.out.2.2 x0.out;have HC:Hid (Common a b s):=hid hck.1;have y1:Hid (s.length=k):=hid hck.2;have yv:s.length≤64:=Nat.le_trans (Y3_ hck.1.set) hn64;have hd:=Zf4 (b:=b) (s:=s) hn64;have x5:PtsP (adjG a b s).length (addG a s):=by rw [D6_];exact B4_ hn64
  have xn:PtsP (adjG a b s).length (addG b s):=z22_;have xt:∀ (n:Nat) (l:List Int),Greedy (adjG a b s) (addG b s) (addG a s) n l→l.length≤1000:=fun n l h=>by
   have h1:=Zy9 hd x5 (.inl ⟨rfl,n,h⟩);rw [D6_] at h1;omega
  have HD:=hid hd;have x7:=hid x5;have xx:=hid xn;have y4:=hid xt;have x1:=hid (S.out.up z.out);have xb:=hid (T.out.up z.out);have x6:=hid (R.out.up z.out);have j:=hid (K.out.below z.out K.out.lt);have B:=hid (L.out.below z.out L.out.lt);have y5:=hid (Z0_ x2.out (le_refl _) z.out);clear hck hd x5 xn xt;have k0:=j.out.cell 0;have k1:=j.out.cell 1;have k2:=j.out.cell 2;have k3:=j.out.cell 3;have k4:=j.out.cell 4;have k5:=j.out.cell 5;have n0:=B.out.cell 0;have n1:=B.out.cell 1;have n2:=B.out.cell 2;have n3:=B.out.cell 3;have n4:=B.out.cell 4;have n5:=B.out.cell 5
  go_wp2_with fail
  refine (Yw2 E a b _ _ _ s wr x1.out xb.out xg.out xh.out HS.out x6.out HC.out).mono ?_;rintro e w5 ⟨vj,vf,vt,rfl,xi,hf,Z,F⟩;have HJ:=hid xi;have HF:=hid hf;have HT:=hid Z;have x8:=hid (HS.out.up F);have x3:=hid (j.out.below F j.out.lt);have xa:=hid (x1.out.up F);have xd:=hid (Z0_ z.out (le_refl _) F);have xe:=hid (Z0_ y5.out (le_refl _) F);obtain ⟨J,P,rfl,_,_⟩:=xi;obtain ⟨I,O,rfl,_⟩:=hf;obtain ⟨At,ct,rfl,_⟩:=Z;clear F k0 k1 k2 k3 k4 k5 n0 n1 n2 n3 n4 n5 j B x1 xb x6
  go_wp2_with fail
  refine (Xd9 _ _ _ (adjG a b s) (addG a s) (addG b s) w5 HJ.out HF.out HT.out HD.out x7.out xx.out).mono ?_;rintro e H ⟨vp,l,ok,rfl,hl,y,yo⟩;have HL:=hid hl;have x9:=hid (x8.out.up y);have xv:=hid (HJ.out.up y);have xu:=hid (HF.out.up y);have xf:=hid (x3.out.below y x3.out.lt);have y3:=hid (xa.out.up y);have y6:=hid (Z0_ xd.out (le_refl _) y);have y9:=hid (Z0_ xe.out (le_refl _) y);clear y HJ HF HT x8 x3 xa xd xe;rcases yo with ⟨rfl,n,x,l',rfl,hg⟩ | ⟨rfl,rfl,xr⟩
  ·have HG:=hid hg
   have yl:=y4.out _ _ hg;obtain ⟨Ap,cp,rfl,_⟩:=hl;clear hg
   go_wp2_with fail
   refine (Xx0 _ _ s (x :: l') H x9.out HL.out q41_ yl).mono ?_;rintro e w7 ⟨v7,rfl,xo,xj⟩;have xz:=hid xo;have xw:=hid (Yx3 HC.out HG.out).1;have y7:=hid (Z0_ y6.out (le_refl _) xj);have ya:=hid (Chain.succ x0.out HG.out);obtain ⟨A7,c7,rfl,_⟩:=xo;clear xj;go_wp2
   go_roundw
   case rel=>exact ⟨k+1,_,ya,xz,y7⟩
   case measure =>
    have h1:=y1.out;have h2:=xw.out;simp [lenOf];omega
  ·have y2:Hid (Stop a b s):=hid xr
   have D:Hid (∀ W,Below H.drew.heap.size H.drew W→Below H.heap.size H W):=hid fun W c=>Z0_ (Below.refl _ H).drew (le_refl _) c;obtain ⟨Ap,cp,rfl,_⟩:=hl;clear xr HL;go_wp2;refine V9_ (ops:=ymO) (ymK ⟨w.heap.size,.int .i64 a.t,.int .i64 a.n,.int .i64 a.a,.int .i64 a.b,.slice q a.l.length cl,.slice o a.i.length r,.slice g s.length cs,.slice J (adjG a b s).length P,.slice I (addG a s).length O,comeL a b s,upL a b s⟩) x41_ x41_ (Vu0 (x:=⟨w.heap.size,.int .i64 a.t,.int .i64 a.n,.int .i64 a.a,.int .i64 a.b,.slice q a.l.length cl,.slice o a.i.length r,.slice g s.length cs,.slice J (adjG a b s).length P,.slice I (addG a s).length O,comeL a b s,upL a b s⟩) ⟨rfl,rfl,rfl,rfl,?hK1,?hF,?hO⟩) ?_
   case hK1=>exact fun W c=>by have h:=xf.out.below (D.out W c) xf.out.lt;exact ⟨h.cell 0,h.cell 1,h.cell 2,h.cell 3,h.cell 4,h.cell 5⟩
   case hF=>exact fun W c=>Xe0 _ _ (adjG a b s) (addG a s) W (xv.out.up (D.out W c)) (xu.out.up (D.out W c)) HD.out x7.out
   case hO=>exact fun W c u hu=>Zh1 a _ u _ W (y3.out.up (D.out W c)) hu (Nat.le_trans (Y3_ (Zr4 HC.out)) q41_)
   intro d W c xs xk xm X;have y8:=hid (Z0_ y9.out (le_refl _) (D.out W c));have y0:=hid (x9.out.up (D.out W c));obtain ⟨yp,yb⟩:∃ v,d.tmps.getD 36 undef=v:=⟨_,rfl⟩;obtain ⟨yq,yc⟩:∃ v,d.tmps.getD 37 undef=v:=⟨_,rfl⟩;obtain ⟨yr,yd⟩:∃ v,d.tmps.getD 38 undef=v:=⟨_,rfl⟩;obtain ⟨ys,ye⟩:∃ v,d.tmps.getD 39 undef=v:=⟨_,rfl⟩;obtain ⟨yt,yf⟩:∃ v,d.tmps.getD 40 undef=v:=⟨_,rfl⟩;obtain ⟨yu,yg⟩:∃ v,d.tmps.getD 41 undef=v:=⟨_,rfl⟩;have U:=X 6 4 z49_ x41_;rw [show ek ymO (ymK ⟨w.heap.size,.int .i64 a.t,.int .i64 a.n,.int .i64 a.a,.int .i64 a.b,.slice q a.l.length cl,.slice o a.i.length r,.slice g s.length cs,.slice J (adjG a b s).length P,.slice I (addG a s).length O,comeL a b s,upL a b s⟩) 6=.eq (.slice g s.length cs) from by kernel_rfl] at U;have U:d.tmps.getD 4 undef=.slice g s.length cs:=U;have G:=X 7 5 z49_ x41_;rw [show ek ymO (ymK ⟨w.heap.size,.int .i64 a.t,.int .i64 a.n,.int .i64 a.a,.int .i64 a.b,.slice q a.l.length cl,.slice o a.i.length r,.slice g s.length cs,.slice J (adjG a b s).length P,.slice I (addG a s).length O,comeL a b s,upL a b s⟩) 7=.row (upL a b s) from by kernel_rfl] at G;have G:Row W W.heap.size (d.tmps.getD 5 undef) (upL a b s):=G;obtain ⟨v5,h5⟩:∃ v,d.tmps.getD 5 undef=v:=⟨_,rfl⟩;rw [h5] at G;have V:=X 8 6 z49_ x41_;rw [show ek ymO (ymK ⟨w.heap.size,.int .i64 a.t,.int .i64 a.n,.int .i64 a.a,.int .i64 a.b,.slice q a.l.length cl,.slice o a.i.length r,.slice g s.length cs,.slice J (adjG a b s).length P,.slice I (addG a s).length O,comeL a b s,upL a b s⟩) 8=.eq (.int .i64 0) from by kernel_rfl] at V;have V:d.tmps.getD 6 undef=.int .i64 0:=V;have xl:=G6_ (ops:=ymO) (n:=9) (N:=45) [(36,yp),(37,yq),(38,yr),(39,ys),(40,yt),(41,yu),(4,.slice g s.length cs),(5,v5),(6,.int .i64 0)] rfl xs xk (fun t Z=>xm t (by unfold M8_;rw [show ymO.size=9 by kernel_rfl];exact Z)) x41_ (by
    intro p hp;simp only [List.mem_cons,List.not_mem_nil,or_false] at hp;rcases hp with rfl | rfl | rfl | rfl | rfl | rfl | rfl | rfl | rfl<;>assumption)
   have xy:=hid G;clear G;clear xm X xs xk yb yc yd ye yf yg U h5 V;rw [xl];clear xl;simp only [show List.range 45=[0,1,2,3,4,5,6,7,8,9,10,11,12,13,14,15,16,17,18,19,20,21,22,23,24,25,26,27,28,29,30,31,32,33,34,35,36,37,38,39,40,41,42,43,44] from by decide,List.map_cons,List.map_nil,List.lookup_cons,List.lookup_nil];go_simp;go_wp2;refine bodyPost_ret (v:=.tuple #[.slice g s.length cs,v5,.int .i64 0]) (by simp [results,Tryz.results8,go_sem]) rfl ?_;exact ⟨s,_,⟨⟨k,x0.out⟩,y2.out,rfl⟩,_,_,rfl,y0.out,xy.out,y8.out⟩
theorem Xk9 (E:Nat→Addr) (a b:Mat) (I J:Value) (w:World) (ha:MatV w w.heap.size I a) (hb:MatV w w.heap.size J b) (G:Sml a) (H:Sml b) (D:Env E w) (F:mayP a b=false):Calls Tryz.prog 8 #[I,J] w (Yn3 w):=by
 have B:=hid F;clear F;have K:=hid G;have L:=hid H;obtain ⟨U,S,Q,O,M⟩:=ha.open;obtain ⟨V,T,R,P,N⟩:=hb.open;obtain ⟨j,cl,rfl,_⟩:=O;obtain ⟨h,x,rfl,_⟩:=M;obtain ⟨m,z,rfl,_⟩:=P;obtain ⟨k,y,rfl,_⟩:=N;subst Q R;obtain ⟨d,hW2⟩:∃ d,d=(w.alloc (.cells #[.int .i64 a.t,.int .i64 a.n,.int .i64 a.a,.int .i64 a.b,.slice j a.l.length cl,.slice h a.i.length x] 25)).alloc (.cells #[.int .i64 b.t,.int .i64 b.n,.int .i64 b.a,.int .i64 b.b,.slice m b.l.length z,.slice k b.i.length y] 25):=⟨_,rfl⟩;have C:=hid hW2;have g:Below w.heap.size w d:=by rw [hW2];exact ((Below.refl _ w).alloc (le_refl _) _).alloc j41_ _
 have s:Hid (Blk d w.heap.size 25 #[.int .i64 a.t,.int .i64 a.n,.int .i64 a.a,.int .i64 a.b,.slice j a.l.length cl,.slice h a.i.length x]):=hid x43_;have u:Hid (Blk d (w.heap.size+1) 25 #[.int .i64 b.t,.int .i64 b.n,.int .i64 b.a,.int .i64 b.b,.slice m b.l.length z,.slice k b.i.length y]):=hid (by
  rw [hW2];have:=Blk.new (w.alloc (.cells #[.int .i64 a.t,.int .i64 a.n,.int .i64 a.a,.int .i64 a.b,.slice j a.l.length cl,.slice h a.i.length x] 25)) 25 #[.int .i64 b.t,.int .i64 b.n,.int .i64 b.a,.int .i64 b.b,.slice m b.l.length z,.slice k b.i.length y];simpa using this)
 have r:=hid g;have p:=hid (ha.up g);have q:=hid (hb.up g);have o:=hid (D.up g);clear hW2 g ha hb G H D
 go_enter Tryz.func8,Tryz.ntmps8
 go_wp2_with fail
 rw [← C.out];refine (Zh0 E a b _ _ _ p.out q.out K.out L.out o.out).mono ?_;rintro e W ⟨rfl,c⟩;rw [B.out];clear B C;replace o:=hid (o.out.up c);replace p:=hid (p.out.up c);replace q:=hid (q.out.up c);replace s:=hid (s.out.below c s.out.lt);replace u:=hid (u.out.below c u.out.lt);replace r:=hid (Z0_ r.out (le_refl _) c);clear c;go_wp2;refine bodyPost_ret (v:=.tuple #[.slice none 0 0,.slice none 0 0,.int .i64 1]) (by simp [results,Tryz.results8,go_sem]) rfl ?_;exact ⟨rfl,r.out⟩
theorem L0_ (E:Nat→Addr) (a b:Mat) (va vb:Value) (w:World) (ha:MatV w w.heap.size va a) (hb:MatV w w.heap.size vb b) (x4:Sml a) (x5:Sml b) (hE:Env E w) (sw:Value) (s:List Int) (Z:Row w w.heap.size sw s) (U:s.length≤1048576):Calls Tryz.prog 11 #[va,vb,sw] w (Tells w (J8_ a b s)):=by
 have xp:=R4_ a s;have xq:=R4_ b (Z5_ (allL b.n) s);have x7:IntKind.i64.wrap (rankT a s+rankT b (Z5_ (allL b.n) s))=rankT a s+rankT b (Z5_ (allL b.n) s):=q42_;have x8:=hid x7;have xs:(Z5_ (allL b.n) s).length≤1048576:=Nat.le_trans (H6_ _ _) (B3_ b.n);clear xp xq x7;have I:=hid x4;have S:=hid x5;obtain ⟨la,ia,xt,xn,xl⟩:=ha.open;obtain ⟨lb,ib,xu,xo,xm⟩:=hb.open;obtain ⟨F,cl,rfl,_⟩:=xn;obtain ⟨D,J,rfl,_⟩:=xl;obtain ⟨H,L,rfl,_⟩:=xo;obtain ⟨G,K,rfl,_⟩:=xm;obtain ⟨V,Y,xr,_⟩:=id Z;subst xt xu xr;obtain ⟨Q,hW2⟩:∃ Q,Q=(w.alloc (.cells #[.int .i64 a.t,.int .i64 a.n,.int .i64 a.a,.int .i64 a.b,.slice F a.l.length cl,.slice D a.i.length J] 25)).alloc (.cells #[.int .i64 b.t,.int .i64 b.n,.int .i64 b.a,.int .i64 b.b,.slice H b.l.length L,.slice G b.i.length K] 25):=⟨_,rfl⟩;have P:=hid hW2;have M:Below w.heap.size w Q:=by rw [hW2];exact ((Below.refl _ w).alloc (le_refl _) _).alloc j41_ _
 have c:Hid (Blk Q w.heap.size 25 #[.int .i64 a.t,.int .i64 a.n,.int .i64 a.a,.int .i64 a.b,.slice F a.l.length cl,.slice D a.i.length J]):=hid x43_;have o:Hid (Blk Q (w.heap.size+1) 25 #[.int .i64 b.t,.int .i64 b.n,.int .i64 b.a,.int .i64 b.b,.slice H b.l.length L,.slice G b.i.length K]):=hid (by
  rw [hW2];have:=Blk.new (w.alloc (.cells #[.int .i64 a.t,.int .i64 a.n,.int .i64 a.a,.int .i64 a.b,.slice F a.l.length cl,.slice D a.i.length J] 25)) 25 #[.int .i64 b.t,.int .i64 b.n,.int .i64 b.a,.int .i64 b.b,.slice H b.l.length L,.slice G b.i.length K];simpa using this)
 have B:=hid M;have k:=hid (ha.up M);have m:=hid (hb.up M);have j:=hid (hE.up M);have y:=hid (Z.up M);clear hW2 M ha hb x4 x5 hE Z;cases hm:mayP a b with
 | false =>
  have R:=hid hm;have C:J8_ a b s=-1:=by unfold J8_;rw [hm];rfl
  rw [C];clear hm C
  go_enter Tryz.func11,Tryz.ntmps11
  go_wp2_with fail
  rw [← P.out];refine (Zh0 E a b _ _ _ k.out m.out I.out S.out j.out).mono ?_;rintro e w3 ⟨rfl,d⟩;rw [R.out];have x9:=hid (Z0_ B.out (le_refl _) d);clear d;go_wp2;go_ret;exact ⟨rfl,x9.out⟩
 | true =>
  have R:=hid hm;cases hi:mayI a s with
  | false =>
   have X:=hid hi;have C:J8_ a b s=-1:=by unfold J8_;rw [hm,hi];rfl
   rw [C];clear hm hi C
   go_enter Tryz.func11,Tryz.ntmps11
   go_wp2_with fail
   rw [← P.out];refine (Zh0 E a b _ _ _ k.out m.out I.out S.out j.out).mono ?_;rintro e w3 ⟨rfl,d⟩;rw [R.out];clear P;replace j:=hid (j.out.up d);replace k:=hid (k.out.up d);replace m:=hid (m.out.up d);replace y:=hid (y.out.up d);replace c:=hid (c.out.below d c.out.lt);replace o:=hid (o.out.below d o.out.lt);replace B:=hid (Z0_ B.out (le_refl _) d);clear d;have k0:=c.out.cell 0;have k1:=c.out.cell 1;have k2:=c.out.cell 2;have k3:=c.out.cell 3;have k4:=c.out.cell 4;have k5:=c.out.cell 5
   go_wp2_with fail
   refine (Zq4 E a _ _ s _ k.out I.out y.out U j.out).mono ?_;rintro e O ⟨rfl,q⟩;rw [X.out];clear k0 k1 k2 k3 k4 k5;have xa:=hid (Z0_ B.out (le_refl _) q);clear q;go_wp2;go_ret;exact ⟨rfl,xa.out⟩
  | true =>
   have X:=hid hi;have C:J8_ a b s=rankT a s+rankT b (Z5_ (allL b.n) s):=by unfold J8_;rw [hm,hi];rfl
   rw [C];clear hm hi C
   go_enter Tryz.func11,Tryz.ntmps11
   go_wp2_with fail
   rw [← P.out];refine (Zh0 E a b _ _ _ k.out m.out I.out S.out j.out).mono ?_;rintro e w3 ⟨rfl,d⟩;rw [R.out];clear P;replace j:=hid (j.out.up d);replace k:=hid (k.out.up d);replace m:=hid (m.out.up d);replace y:=hid (y.out.up d);replace c:=hid (c.out.below d c.out.lt);replace o:=hid (o.out.below d o.out.lt);replace B:=hid (Z0_ B.out (le_refl _) d);clear d;have k0:=c.out.cell 0;have k1:=c.out.cell 1;have k2:=c.out.cell 2;have k3:=c.out.cell 3;have k4:=c.out.cell 4;have k5:=c.out.cell 5
   go_wp2_with fail
   refine (Zq4 E a _ _ s _ k.out I.out y.out U j.out).mono ?_;rintro e O ⟨rfl,q⟩;rw [X.out];clear k0 k1 k2 k3 k4 k5;replace j:=hid (j.out.up q);replace k:=hid (k.out.up q);replace m:=hid (m.out.up q);replace y:=hid (y.out.up q);replace c:=hid (c.out.below q c.out.lt);replace o:=hid (o.out.below q o.out.lt);replace B:=hid (Z0_ B.out (le_refl _) q);clear q;have r:Hid (∀ W,Below O.drew.heap.size O.drew W→Below O.heap.size O W):=hid fun W g=>Z0_ (Below.refl _ O).drew (le_refl _) g;go_wp2;refine V9_ (ops:=ybO) (ybK ⟨w.heap.size,w.heap.size+1,.int .i64 a.t,.int .i64 a.n,.int .i64 a.a,.int .i64 a.b,.slice F a.l.length cl,.slice D a.i.length J,.int .i64 b.t,.int .i64 b.n,.int .i64 b.a,.int .i64 b.b,.slice H b.l.length L,.slice G b.i.length K,.slice V s.length Y,Z5_ (allL b.n) s,rankT a s,rankT b (Z5_ (allL b.n) s)⟩) x41_ x41_ (Vu1 (x:=⟨w.heap.size,w.heap.size+1,.int .i64 a.t,.int .i64 a.n,.int .i64 a.a,.int .i64 a.b,.slice F a.l.length cl,.slice D a.i.length J,.int .i64 b.t,.int .i64 b.n,.int .i64 b.a,.int .i64 b.b,.slice H b.l.length L,.slice G b.i.length K,.slice V s.length Y,Z5_ (allL b.n) s,rankT a s,rankT b (Z5_ (allL b.n) s)⟩) ⟨rfl,rfl,rfl,?hK1,?hK2,?hR1,?hR2,?hO,x8.out⟩) ?_
   case hK1=>exact fun W g=>by have h:=c.out.below (r.out W g) c.out.lt;exact ⟨h.cell 0,h.cell 1,h.cell 2,h.cell 3,h.cell 4,h.cell 5⟩
   case hK2=>exact fun W g=>by have h:=o.out.below (r.out W g) o.out.lt;exact ⟨h.cell 0,h.cell 1,h.cell 2,h.cell 3,h.cell 4,h.cell 5⟩
   case hR1=>exact fun W g=>Zf0 E a _ _ s W (k.out.up (r.out W g)) I.out (y.out.up (r.out W g)) U (j.out.up (r.out W g))
   case hR2=>exact fun W g u hu=>Zf0 E b _ u _ W (m.out.up (r.out W g)) S.out hu xs (j.out.up (r.out W g))
   case hO=>exact fun W g=>Zh1 b _ _ s W (m.out.up (r.out W g)) (y.out.up (r.out W g)) U
   intro z W g x6 x1 x3 x0;have xb:=hid (Z0_ B.out (le_refl _) (r.out W g));obtain ⟨xv,xc⟩:∃ v,z.tmps.getD 17 undef=v:=⟨_,rfl⟩;obtain ⟨xw,xd⟩:∃ v,z.tmps.getD 18 undef=v:=⟨_,rfl⟩;obtain ⟨xx,xe⟩:∃ v,z.tmps.getD 19 undef=v:=⟨_,rfl⟩;obtain ⟨xy,xf⟩:∃ v,z.tmps.getD 20 undef=v:=⟨_,rfl⟩;obtain ⟨xz,xg⟩:∃ v,z.tmps.getD 21 undef=v:=⟨_,rfl⟩;obtain ⟨y0,xh⟩:∃ v,z.tmps.getD 22 undef=v:=⟨_,rfl⟩;obtain ⟨y1,xi⟩:∃ v,z.tmps.getD 23 undef=v:=⟨_,rfl⟩;obtain ⟨y2,xj⟩:∃ v,z.tmps.getD 24 undef=v:=⟨_,rfl⟩;obtain ⟨y3,xk⟩:∃ v,z.tmps.getD 25 undef=v:=⟨_,rfl⟩;have T:=x0 9 6 (by rw [show ybO.size=10 by kernel_rfl];decide) x41_;rw [show ek ybO (ybK ⟨w.heap.size,w.heap.size+1,.int .i64 a.t,.int .i64 a.n,.int .i64 a.a,.int .i64 a.b,.slice F a.l.length cl,.slice D a.i.length J,.int .i64 b.t,.int .i64 b.n,.int .i64 b.a,.int .i64 b.b,.slice H b.l.length L,.slice G b.i.length K,.slice V s.length Y,Z5_ (allL b.n) s,rankT a s,rankT b (Z5_ (allL b.n) s)⟩) 9=.eq (.int .i64 (rankT a s+rankT b (Z5_ (allL b.n) s))) from by kernel_rfl] at T;have T:z.tmps.getD 6 undef=.int .i64 (rankT a s+rankT b (Z5_ (allL b.n) s)):=T;have x2:=G6_ (ops:=ybO) (n:=10) (N:=26) [(17,xv),(18,xw),(19,xx),(20,xy),(21,xz),(22,y0),(23,y1),(24,y2),(25,y3),(6,.int .i64 (rankT a s+rankT b (Z5_ (allL b.n) s)))] rfl x6 x1 (fun t ht=>x3 t (by unfold M8_;rw [show ybO.size=10 by kernel_rfl];exact ht)) x41_ (by
    intro p hp;simp only [List.mem_cons,List.not_mem_nil,or_false] at hp;rcases hp with rfl | rfl | rfl | rfl | rfl | rfl | rfl | rfl | rfl | rfl<;>assumption)
   clear x3 x0 x6 x1 xc xd xe xf xg xh xi xj xk T;rw [x2];clear x2;simp only [show List.range 26=[0,1,2,3,4,5,6,7,8,9,10,11,12,13,14,15,16,17,18,19,20,21,22,23,24,25] from by decide,List.map_cons,List.map_nil,List.lookup_cons,List.lookup_nil];go_simp;go_wp2;go_ret;exact ⟨rfl,xb.out⟩
open Go Go.RowKit
theorem P3_ (a b:Mat) (M N:Value) (w:World) (ha:MatV w w.heap.size M a) (hb:MatV w w.heap.size N b) (J:Sml a) (K:Sml b):Calls Tryz.prog 24 #[M,N] w (Says w (mayP a b)):=by
 obtain ⟨G,C⟩:∃ c,chk a=c:=⟨_,rfl⟩;obtain ⟨H,D⟩:∃ c,chk b=c:=⟨_,rfl⟩;obtain ⟨y,E⟩:∃ y,decide (a.n=b.n)=y:=⟨_,rfl⟩;have F:(a.n==b.n)=y:=by rw [← E];rfl
 have R:=hid F;have I:mayP a b=((G==0) && ((H==0) && y)):=by unfold mayP;rw [C,D,E];cases y<;>simp
 rw [I];have O:=hid C;have P:=hid D;clear C D I E F;have S:=hid J;have T:=hid K;obtain ⟨la,ia,Y,W,U⟩:=ha.open;obtain ⟨lb,ib,Z,X,V⟩:=hb.open;obtain ⟨s,cl,rfl,_⟩:=W;obtain ⟨r,x,rfl,_⟩:=U;obtain ⟨v,B,rfl,_⟩:=X;obtain ⟨u,z,rfl,_⟩:=V;subst Y Z;obtain ⟨p,hW2⟩:∃ p,p=(w.alloc (.cells #[.int .i64 a.t,.int .i64 a.n,.int .i64 a.a,.int .i64 a.b,.slice s a.l.length cl,.slice r a.i.length x] 25)).alloc (.cells #[.int .i64 b.t,.int .i64 b.n,.int .i64 b.a,.int .i64 b.b,.slice v b.l.length B,.slice u b.i.length z] 25):=⟨_,rfl⟩;have Q:=hid hW2;have q:Below w.heap.size w p:=by rw [hW2];exact ((Below.refl _ w).alloc (le_refl _) _).alloc j41_ _
 have h:Hid (Blk p w.heap.size 25 #[.int .i64 a.t,.int .i64 a.n,.int .i64 a.a,.int .i64 a.b,.slice s a.l.length cl,.slice r a.i.length x]):=hid x43_;have d:Hid (Blk p (w.heap.size+1) 25 #[.int .i64 b.t,.int .i64 b.n,.int .i64 b.a,.int .i64 b.b,.slice v b.l.length B,.slice u b.i.length z]):=hid (by
  rw [hW2];have:=Blk.new (w.alloc (.cells #[.int .i64 a.t,.int .i64 a.n,.int .i64 a.a,.int .i64 a.b,.slice s a.l.length cl,.slice r a.i.length x] 25)) 25 #[.int .i64 b.t,.int .i64 b.n,.int .i64 b.a,.int .i64 b.b,.slice v b.l.length B,.slice u b.i.length z];simpa using this)
 have g:=hid q;have m:=hid (ha.up q);have o:=hid (hb.up q);clear hW2 q ha hb J K
 go_enter Tryz.func24,Tryz.ntmps24
 go_wp2_with fail
 rw [← Q.out];refine (Q8_ a _ _ m.out S.out).mono ?_;rintro e w3 ⟨rfl,j⟩;rw [O.out];replace m:=hid (m.out.up j);replace o:=hid (o.out.up j);replace h:=hid (h.out.below j h.out.lt);replace d:=hid (d.out.below j d.out.lt);replace g:=hid (Z0_ g.out (le_refl _) j);clear j;cases hx:(G==0)
 ·go_wp2
  go_ret;exact ⟨by rw [hx];rfl,g.out⟩
 ·have n0:=d.out.cell 0
  have L:=d.out.cell 1;have n2:=d.out.cell 2;have n3:=d.out.cell 3;have n4:=d.out.cell 4;have n5:=d.out.cell 5
  go_wp2_with fail
  refine (Q8_ b _ _ o.out T.out).mono ?_;rintro e w4 ⟨rfl,k⟩;rw [P.out];clear n0 L n2 n3 n4 n5;replace m:=hid (m.out.up k);replace o:=hid (o.out.up k);replace h:=hid (h.out.below k h.out.lt);replace d:=hid (d.out.below k d.out.lt);replace g:=hid (Z0_ g.out (le_refl _) k);clear k;cases hz:(H==0)
  ·go_wp2
   go_ret;exact ⟨by rw [hx,hz];rfl,g.out⟩
  ·have k1:=h.out.cell 1
   have L:=d.out.cell 1;have F:=R.out;cases y
   all_goals
    go_wp2;go_ret;exact ⟨by rw [hx,hz];rfl,g.out⟩
theorem Zh2 (a b:Mat) (va vb:Value) (w:World) (ha:MatV w w.heap.size va a) (hb:MatV w w.heap.size vb b) (x4:Sml a) (x5:Sml b) (sw:Value) (s:List Int) (Y:Row w w.heap.size sw s) (xu:s.length≤1048576):Calls Tryz.prog 12 #[va,vb,sw] w (Tells w (J8_ a b s)):=by
 have xs:=R4_ a s;have xt:=R4_ b (Z5_ (allL a.n) s);have x7:IntKind.i64.wrap (rankT a s+rankT b (Z5_ (allL a.n) s))=rankT a s+rankT b (Z5_ (allL a.n) s):=q42_;have x8:=hid x7;have xn:(allL a.n).length≤1048576:=B3_ a.n;clear xs xt x7;have P:=hid x4;have Q:=hid x5;obtain ⟨la,ia,xw,xq,xo⟩:=ha.open;obtain ⟨lb,ib,xx,xr,xp⟩:=hb.open;obtain ⟨D,cl,rfl,_⟩:=xq;obtain ⟨C,H,rfl,_⟩:=xo;obtain ⟨F,J,rfl,_⟩:=xr;obtain ⟨E,I,rfl,_⟩:=xp;obtain ⟨U,X,xv,_⟩:=id Y;subst xw xx xv;obtain ⟨L,hW2⟩:∃ L,L=(w.alloc (.cells #[.int .i64 a.t,.int .i64 a.n,.int .i64 a.a,.int .i64 a.b,.slice D a.l.length cl,.slice C a.i.length H] 25)).alloc (.cells #[.int .i64 b.t,.int .i64 b.n,.int .i64 b.a,.int .i64 b.b,.slice F b.l.length J,.slice E b.i.length I] 25):=⟨_,rfl⟩;have G:=hid hW2;have M:Below w.heap.size w L:=by rw [hW2];exact ((Below.refl _ w).alloc (le_refl _) _).alloc j41_ _
 have g:Hid (Blk L w.heap.size 25 #[.int .i64 a.t,.int .i64 a.n,.int .i64 a.a,.int .i64 a.b,.slice D a.l.length cl,.slice C a.i.length H]):=hid x43_;have k:Hid (Blk L (w.heap.size+1) 25 #[.int .i64 b.t,.int .i64 b.n,.int .i64 b.a,.int .i64 b.b,.slice F b.l.length J,.slice E b.i.length I]):=hid (by
  rw [hW2];have:=Blk.new (w.alloc (.cells #[.int .i64 a.t,.int .i64 a.n,.int .i64 a.a,.int .i64 a.b,.slice D a.l.length cl,.slice C a.i.length H] 25)) 25 #[.int .i64 b.t,.int .i64 b.n,.int .i64 b.a,.int .i64 b.b,.slice F b.l.length J,.slice E b.i.length I];simpa using this)
 have y:=hid M;have m:=hid (ha.up M);have o:=hid (hb.up M);have q:=hid (Y.up M);clear hW2 M ha hb x4 x5 Y;cases hm:mayP a b with
 | false =>
  have O:=hid hm;have B:J8_ a b s=-1:=by unfold J8_;rw [hm];rfl
  rw [B];clear hm B
  go_enter Tryz.func12,Tryz.ntmps12
  go_wp2_with fail
  rw [← G.out];refine (P3_ a b _ _ _ m.out o.out P.out Q.out).mono ?_;rintro e w3 ⟨rfl,c⟩;rw [O.out];clear G;have x9:=hid (Z0_ y.out (le_refl _) c);clear c;go_wp2;go_ret;exact ⟨rfl,x9.out⟩
 | true =>
  have O:=hid hm;have S:=mayP_iff.1 hm;have T:mayI a s=okA a.n s:=by rw [Yl7,S.2.1];rfl
  cases hi:okA a.n s with
  | false =>
   have V:=hid hi;have B:J8_ a b s=-1:=by unfold J8_;rw [hm,T,hi];rfl
   rw [B];clear hm hi B T S
   go_enter Tryz.func12,Tryz.ntmps12
   go_wp2_with fail
   rw [← G.out];refine (P3_ a b _ _ _ m.out o.out P.out Q.out).mono ?_;rintro e w3 ⟨rfl,c⟩;rw [O.out];clear G;replace m:=hid (m.out.up c);replace o:=hid (o.out.up c);replace q:=hid (q.out.up c);replace g:=hid (g.out.below c g.out.lt);replace k:=hid (k.out.below c k.out.lt);replace y:=hid (Z0_ y.out (le_refl _) c);clear c;have k1:=g.out.cell 1
   go_wp2_with fail
   refine (E9_ _ s a.n _ q.out).mono ?_;rintro e K ⟨rfl,r⟩;rw [V.out];clear k1;have xa:=hid (Z0_ y.out (le_refl _) r);clear r;go_wp2;go_ret;exact ⟨rfl,xa.out⟩
  | true =>
   have V:=hid hi;have B:J8_ a b s=rankT a s+rankT b (Z5_ (allL a.n) s):=by unfold J8_;rw [hm,T,hi,S.1];rfl
   rw [B];clear hm hi B T S
   go_enter Tryz.func12,Tryz.ntmps12
   go_wp2_with fail
   rw [← G.out];refine (P3_ a b _ _ _ m.out o.out P.out Q.out).mono ?_;rintro e w3 ⟨rfl,c⟩;rw [O.out];clear G;replace m:=hid (m.out.up c);replace o:=hid (o.out.up c);replace q:=hid (q.out.up c);replace g:=hid (g.out.below c g.out.lt);replace k:=hid (k.out.below c k.out.lt);replace y:=hid (Z0_ y.out (le_refl _) c);clear c;have k1:=g.out.cell 1
   go_wp2_with fail
   refine (E9_ _ s a.n _ q.out).mono ?_;rintro e K ⟨rfl,r⟩;rw [V.out];clear k1;replace m:=hid (m.out.up r);replace o:=hid (o.out.up r);replace q:=hid (q.out.up r);replace g:=hid (g.out.below r g.out.lt);replace k:=hid (k.out.below r k.out.lt);replace y:=hid (Z0_ y.out (le_refl _) r);clear r;have z:Hid (∀ W,Below K.drew.heap.size K.drew W→Below K.heap.size K W):=hid fun W d=>Z0_ (Below.refl _ K).drew (le_refl _) d;go_wp2;refine V9_ (ops:=yrO) (yrK ⟨w.heap.size,w.heap.size+1,.int .i64 a.t,.int .i64 a.n,.int .i64 a.a,.int .i64 a.b,.slice D a.l.length cl,.slice C a.i.length H,.int .i64 b.t,.int .i64 b.n,.int .i64 b.a,.int .i64 b.b,.slice F b.l.length J,.slice E b.i.length I,.slice U s.length X,Z5_ (allL a.n) s,allL a.n,a.n,rankT a s,rankT b (Z5_ (allL a.n) s)⟩) x41_ x41_ (Vt9 (x:=⟨w.heap.size,w.heap.size+1,.int .i64 a.t,.int .i64 a.n,.int .i64 a.a,.int .i64 a.b,.slice D a.l.length cl,.slice C a.i.length H,.int .i64 b.t,.int .i64 b.n,.int .i64 b.a,.int .i64 b.b,.slice F b.l.length J,.slice E b.i.length I,.slice U s.length X,Z5_ (allL a.n) s,allL a.n,a.n,rankT a s,rankT b (Z5_ (allL a.n) s)⟩) ⟨rfl,rfl,rfl,?hK1,?hK2,?hN,?hR1,?hR2,?hL,?hO,x8.out⟩) ?_
   case hK1=>exact fun W d=>by have h:=g.out.below (z.out W d) g.out.lt;exact ⟨h.cell 0,h.cell 1,h.cell 2,h.cell 3,h.cell 4,h.cell 5⟩
   case hK2=>exact fun W d=>by have h:=k.out.below (z.out W d) k.out.lt;exact ⟨h.cell 0,h.cell 1,h.cell 2,h.cell 3,h.cell 4,h.cell 5⟩
   case hN=>exact fun W d=>(g.out.below (z.out W d) g.out.lt).cell 1
   case hR1=>exact fun W d=>Yv9 a _ _ s W (m.out.up (z.out W d)) P.out (q.out.up (z.out W d))
   case hR2=>exact fun W d u Z=>Yv9 b _ u _ W (o.out.up (z.out W d)) Q.out Z
   case hL=>exact fun W d=>K8_ a.n W
   case hO=>exact fun W d u Z=>Q0_ u _ (allL a.n) s W Z (q.out.up (z.out W d)) xn xu
   intro j W d x6 x1 x3 x0;have xb:=hid (Z0_ y.out (le_refl _) (z.out W d));obtain ⟨xy,xc⟩:∃ v,j.tmps.getD 18 undef=v:=⟨_,rfl⟩;obtain ⟨xz,xd⟩:∃ v,j.tmps.getD 19 undef=v:=⟨_,rfl⟩;obtain ⟨y0,xe⟩:∃ v,j.tmps.getD 20 undef=v:=⟨_,rfl⟩;obtain ⟨y1,xf⟩:∃ v,j.tmps.getD 21 undef=v:=⟨_,rfl⟩;obtain ⟨y2,xg⟩:∃ v,j.tmps.getD 22 undef=v:=⟨_,rfl⟩;obtain ⟨y3,xh⟩:∃ v,j.tmps.getD 23 undef=v:=⟨_,rfl⟩;obtain ⟨y4,xi⟩:∃ v,j.tmps.getD 24 undef=v:=⟨_,rfl⟩;obtain ⟨y5,xj⟩:∃ v,j.tmps.getD 25 undef=v:=⟨_,rfl⟩;obtain ⟨y6,xk⟩:∃ v,j.tmps.getD 26 undef=v:=⟨_,rfl⟩;obtain ⟨y7,xl⟩:∃ v,j.tmps.getD 27 undef=v:=⟨_,rfl⟩;obtain ⟨y8,xm⟩:∃ v,j.tmps.getD 28 undef=v:=⟨_,rfl⟩;have R:=x0 11 6 (by rw [show yrO.size=12 by kernel_rfl];decide) x41_;rw [show ek yrO (yrK ⟨w.heap.size,w.heap.size+1,.int .i64 a.t,.int .i64 a.n,.int .i64 a.a,.int .i64 a.b,.slice D a.l.length cl,.slice C a.i.length H,.int .i64 b.t,.int .i64 b.n,.int .i64 b.a,.int .i64 b.b,.slice F b.l.length J,.slice E b.i.length I,.slice U s.length X,Z5_ (allL a.n) s,allL a.n,a.n,rankT a s,rankT b (Z5_ (allL a.n) s)⟩) 11=.eq (.int .i64 (rankT a s+rankT b (Z5_ (allL a.n) s))) from by kernel_rfl] at R;have R:j.tmps.getD 6 undef=.int .i64 (rankT a s+rankT b (Z5_ (allL a.n) s)):=R;have x2:=G6_ (ops:=yrO) (n:=12) (N:=29) [(18,xy),(19,xz),(20,y0),(21,y1),(22,y2),(23,y3),(24,y4),(25,y5),(26,y6),(27,y7),(28,y8),(6,.int .i64 (rankT a s+rankT b (Z5_ (allL a.n) s)))] rfl x6 x1 (fun t ht=>x3 t (by unfold M8_;rw [show yrO.size=12 by kernel_rfl];exact ht)) x41_ (by
    intro p hp;simp only [List.mem_cons,List.not_mem_nil,or_false] at hp;rcases hp with rfl | rfl | rfl | rfl | rfl | rfl | rfl | rfl | rfl | rfl | rfl | rfl<;>assumption)
   clear x3 x0 x6 x1 xc xd xe xf xg xh xi xj xk xl xm R;rw [x2];clear x2;simp only [show List.range 29=[0,1,2,3,4,5,6,7,8,9,10,11,12,13,14,15,16,17,18,19,20,21,22,23,24,25,26,27,28] from by decide,List.map_cons,List.map_nil,List.lookup_cons,List.lookup_nil];go_simp;go_wp2;go_ret;exact ⟨rfl,xb.out⟩
open Go Go.RowKit
def unM (n a:Int):Mat:=.mk 0 n a 0 [] []
theorem P4_ (n a:Int) (s:List Int):rankT (unM n a) s=if mayI (unM n a) s then ((min a.toNat (cnt (memP s) n.toNat):Nat):Int) else -1:=by
 unfold rankT;rw [rkP_0 rfl];rfl
theorem Va3 (n a:Int) (s:List Int):indT (unM n a) s=(mayI (unM n a) s && decide (min a.toNat (cnt (memP s) n.toNat)=s.length)):=by
 unfold indT;rw [P4_];cases mayI (unM n a) s
 ·simp
 ·simp
  omega
theorem Xl0 {a b:Mat} {s u:List Int} (ha:chk a=0) (hb:chk b=0) (c:a.n=b.n) (h:MaxIs a b s u):J8_ a b u=(s.length:Int):=by
 obtain ⟨_,f,e⟩:=W7_ ha hb c h;have d:mayP a b=true:=mayP_iff.2 ⟨c,ha,hb⟩;unfold J8_;rw [d,mayI_iff.2 ⟨ha,f⟩,← e,← c];rfl
theorem Xl1:mayP (unM 3 2) (unM 3 1)=true:=j42_
theorem Vl5:mayP (unM 3 2) (unM 2 1)=false:=j42_
theorem ev14_c:Common (unM 3 2) (unM 3 1) [0]:=⟨rfl,by rw [Va3];decide +kernel,by rw [Va3];decide +kernel⟩
theorem Vl6:J8_ (unM 3 2) (unM 3 1) [0,1,2]=2:=by
 unfold J8_;rw [P4_,P4_];decide +kernel
theorem Vl7:J8_ (unM 3 2) (unM 3 1) []=1:=by
 unfold J8_;rw [P4_,P4_];decide +kernel
theorem Vl8:J8_ (unM 3 2) (unM 3 1) [3]=-1:=by
 unfold J8_;rw [P4_,P4_];decide +kernel
theorem Vu5:rankT (unM 3 1) (allL 3)=1:=by
 rw [P4_];decide +kernel
theorem Vu6 {s u:List Int} (h:MaxIs (unM 3 2) (unM 3 1) s u):s=[0]:=by
 obtain ⟨c,ha,hb⟩:=mayP_iff.1 Xl1;obtain ⟨k,d⟩:=h.ch;obtain ⟨hc,hl⟩:=F6_ ha hb c d;have g:=Yv0 ha hb c h ev14_c;have j:=Yw9 hc.ib;rw [show (unM 3 1).n=3 from rfl,Vu5] at j;have q:k=1:=by simp at g;omega
 subst q;have f:∀ m:Mat,chk m=0→0<nN m→indT m [0]=true→(0:Int)∈addG m []:=fun m e c p=>by
  have h:=Vz6 e (x:=0) c;rw [show indT m [((0:Nat):Int)]=true from p] at h;exact (E0_ (B4_ (Z8_ e).2).1 _).1 h
 have o:Greedy (adjG (unM 3 2) (unM 3 1) []) (addG (unM 3 1) []) (addG (unM 3 2) []) 0 [0] :=
  .stop _ 0 (f _ ha x42_ ev14_c.ia) (f _ hb x42_ ev14_c.ib) (fun y r v=>by have:=(B4_ (Z8_ ha).2).2 y r;omega)
 rw [← O6_ (Chain.succ .zero o) d];exact Xf9 x42_
theorem H8_ (E:Nat→Addr) (w:World) (X:Env E w):Calls Tryz.prog 7 #[] w (Truly w):=by
 have j:=hid (mayP_iff.1 Xl1);obtain ⟨M,hW2⟩:∃ M,M=(w.alloc (.cells #[.int .i64 0,.int .i64 3,.int .i64 2,.int .i64 0,.slice none 0 0,.slice none 0 0] 25)).alloc (.cells #[.int .i64 0,.int .i64 3,.int .i64 1,.int .i64 0,.slice none 0 0,.slice none 0 0] 25):=⟨_,rfl⟩;have W:=hid hW2;have V:Below w.heap.size w M:=by rw [hW2];exact ((Below.refl _ w).alloc (le_refl _) _).alloc j41_ _
 have c:Hid (Blk M w.heap.size 25 #[.int .i64 0,.int .i64 3,.int .i64 2,.int .i64 0,.slice none 0 0,.slice none 0 0]):=hid x43_;have d:Hid (Blk M (w.heap.size+1) 25 #[.int .i64 0,.int .i64 3,.int .i64 1,.int .i64 0,.slice none 0 0,.slice none 0 0]):=hid (by
  rw [hW2];have:=Blk.new (w.alloc (.cells #[.int .i64 0,.int .i64 3,.int .i64 2,.int .i64 0,.slice none 0 0,.slice none 0 0] 25)) 25 #[.int .i64 0,.int .i64 3,.int .i64 1,.int .i64 0,.slice none 0 0,.slice none 0 0];simpa using this)
 have Hb0:=hid V;have g:=hid (X.up V);clear X hW2 V
 go_enter Tryz.func7,Tryz.ntmps7
 go_wp2_with fail
 rw [← W.out];refine (Va2 E (unM 3 2) (unM 3 1) _ _ _ (Q6_ _ _ 0 3 2 0) (Q6_ _ _ 0 3 1 0) (Q7_ ..) (Q7_ ..) g.out j.out.2.1 j.out.2.2 j.out.1).mono ?_;rintro e w3 ⟨s,u,Q,v,x,rfl,hs,Y,N⟩;obtain rfl:=Vu6 Q;have Z:=hid (Xl0 j.out.2.1 j.out.2.2 j.out.1 Q);have x0:u.length≤1048576:=Nat.le_trans (Y3_ (W7_ j.out.2.1 j.out.2.2 j.out.1 Q).2.1) x42_;have U:=hid hs;have L:=hid Y;obtain ⟨As,cs,rfl,_⟩:=hs;obtain ⟨Au,cu,rfl,_⟩:=Y;clear Q W;replace g:=hid (g.out.up N);replace c:=hid (c.out.below N c.out.lt);replace d:=hid (d.out.below N d.out.lt);replace Hb0:=hid (Z0_ Hb0.out (le_refl _) N);clear N;have k:=c.out.cell 0;have m:=c.out.cell 1;have o:=c.out.cell 2;have p:=c.out.cell 3;have q:=c.out.cell 4;have r:=c.out.cell 5
 go_wp2_with fail
 refine (Xk9 E (unM 3 2) (unM 2 1) _ _ _ (Q6_ _ _ 0 3 2 0) (Q6_ _ _ 0 2 1 0) (Q7_ ..) (Q7_ ..) g.out Vl5).mono ?_;rintro e R ⟨rfl,B⟩;clear k m o p q r;replace g:=hid (g.out.up B);replace U:=hid (U.out.up B);replace L:=hid (L.out.up B);replace c:=hid (c.out.below B c.out.lt);replace d:=hid (d.out.below B d.out.lt);replace Hb0:=hid (Z0_ Hb0.out (le_refl _) B);clear B;have y:=hid (Row.here (Row.lit1 R 0));have h:Hid (Below R.heap.size R (R.alloc (.cells #[.int .i64 0] 3))):=hid ((Below.refl _ _).alloc (le_refl _) _)
 go_wp2_with fail
 refine (cS _ _ [0] _ (U.out.up h.out) y.out x42_).mono ?_;rintro e w5 ⟨rfl,z⟩;replace z:=Z0_ h.out (le_refl _) z;clear y h;replace g:=hid (g.out.up z);replace L:=hid (L.out.up z);replace c:=hid (c.out.below z c.out.lt);replace d:=hid (d.out.below z d.out.lt);replace Hb0:=hid (Z0_ Hb0.out (le_refl _) z);clear z;have k:=c.out.cell 0;have m:=c.out.cell 1;have o:=c.out.cell 2;have p:=c.out.cell 3;have q:=c.out.cell 4;have r:=c.out.cell 5;have F:=d.out.cell 0;have G:=d.out.cell 1;have H:=d.out.cell 2;have I:=d.out.cell 3;have J:=d.out.cell 4;have K:=d.out.cell 5
 go_wp2_with fail
 refine (L0_ E (unM 3 2) (unM 3 1) _ _ _ (Q6_ _ _ 0 3 2 0) (Q6_ _ _ 0 3 1 0) (Q7_ ..) (Q7_ ..) g.out _ u L.out x0).mono ?_;rintro e S ⟨rfl,O⟩;rw [Z.out];clear k m o p q r F G H I J K;replace g:=hid (g.out.up O);replace c:=hid (c.out.below O c.out.lt);replace d:=hid (d.out.below O d.out.lt);replace Hb0:=hid (Z0_ Hb0.out (le_refl _) O);clear O;have k:=c.out.cell 0;have m:=c.out.cell 1;have o:=c.out.cell 2;have p:=c.out.cell 3;have q:=c.out.cell 4;have r:=c.out.cell 5;have F:=d.out.cell 0;have G:=d.out.cell 1;have H:=d.out.cell 2;have I:=d.out.cell 3;have J:=d.out.cell 4;have K:=d.out.cell 5;have y:=hid (Row.here (Row.lit3 S 0 1 2));have h:Hid (Below S.heap.size S (S.alloc (.cells #[.int .i64 0,.int .i64 1,.int .i64 2] 3))):=hid ((Below.refl _ _).alloc (le_refl _) _)
 go_wp2_with fail
 refine (L0_ E (unM 3 2) (unM 3 1) _ _ _ (Q6_ _ _ 0 3 2 0) (Q6_ _ _ 0 3 1 0) (Q7_ ..) (Q7_ ..) (g.out.up h.out) _ [0,1,2] y.out x42_).mono ?_;rintro e w7 ⟨rfl,C⟩;rw [Vl6];replace C:=Z0_ h.out (le_refl _) C;clear k m o p q r F G H I J K;clear y h;replace g:=hid (g.out.up C);replace c:=hid (c.out.below C c.out.lt);replace d:=hid (d.out.below C d.out.lt);replace Hb0:=hid (Z0_ Hb0.out (le_refl _) C);clear C;have k:=c.out.cell 0;have m:=c.out.cell 1;have o:=c.out.cell 2;have p:=c.out.cell 3;have q:=c.out.cell 4;have r:=c.out.cell 5;have F:=d.out.cell 0;have G:=d.out.cell 1;have H:=d.out.cell 2;have I:=d.out.cell 3;have J:=d.out.cell 4;have K:=d.out.cell 5
 go_wp2_with fail
 refine (L0_ E (unM 3 2) (unM 3 1) _ _ _ (Q6_ _ _ 0 3 2 0) (Q6_ _ _ 0 3 1 0) (Q7_ ..) (Q7_ ..) g.out _ [] (Row.nil_ _ _) x42_).mono ?_;rintro e T ⟨rfl,P⟩;rw [Vl7];clear k m o p q r F G H I J K;replace g:=hid (g.out.up P);replace c:=hid (c.out.below P c.out.lt);replace d:=hid (d.out.below P d.out.lt);replace Hb0:=hid (Z0_ Hb0.out (le_refl _) P);clear P;have k:=c.out.cell 0;have m:=c.out.cell 1;have o:=c.out.cell 2;have p:=c.out.cell 3;have q:=c.out.cell 4;have r:=c.out.cell 5;have F:=d.out.cell 0;have G:=d.out.cell 1;have H:=d.out.cell 2;have I:=d.out.cell 3;have J:=d.out.cell 4;have K:=d.out.cell 5;have y:=hid (Row.here (Row.lit1 T 3));have h:Hid (Below T.heap.size T (T.alloc (.cells #[.int .i64 3] 3))):=hid ((Below.refl _ _).alloc (le_refl _) _)
 go_wp2_with fail
 refine (L0_ E (unM 3 2) (unM 3 1) _ _ _ (Q6_ _ _ 0 3 2 0) (Q6_ _ _ 0 3 1 0) (Q7_ ..) (Q7_ ..) (g.out.up h.out) _ [3] y.out x42_).mono ?_;rintro e w9 ⟨rfl,D⟩;rw [Vl8];replace D:=Z0_ h.out (le_refl _) D;clear k m o p q r F G H I J K;clear y h;replace g:=hid (g.out.up D);replace c:=hid (c.out.below D c.out.lt);replace d:=hid (d.out.below D d.out.lt);replace Hb0:=hid (Z0_ Hb0.out (le_refl _) D);clear D;exact q3_
open Go Go.RowKit
theorem Vv1 (a b:Mat) (F G:Value) (w:World) (ha:MatV w w.heap.size F a) (hb:MatV w w.heap.size G b) (D:Sml a) (E:Sml b) (C:mayP a b=false):Calls Tryz.prog 9 #[F,G] w (Yn3 w):=by
 have z:=hid C;clear C;have H:=hid D;have I:=hid E;obtain ⟨R,P,N,L,J⟩:=ha.open;obtain ⟨S,Q,O,M,K⟩:=hb.open;obtain ⟨j,cl,rfl,_⟩:=L;obtain ⟨h,u,rfl,_⟩:=J;obtain ⟨m,y,rfl,_⟩:=M;obtain ⟨k,x,rfl,_⟩:=K;subst N O;obtain ⟨d,hW2⟩:∃ d,d=(w.alloc (.cells #[.int .i64 a.t,.int .i64 a.n,.int .i64 a.a,.int .i64 a.b,.slice j a.l.length cl,.slice h a.i.length u] 25)).alloc (.cells #[.int .i64 b.t,.int .i64 b.n,.int .i64 b.a,.int .i64 b.b,.slice m b.l.length y,.slice k b.i.length x] 25):=⟨_,rfl⟩;have B:=hid hW2;have g:Below w.heap.size w d:=by rw [hW2];exact ((Below.refl _ w).alloc (le_refl _) _).alloc j41_ _
 have r:Hid (Blk d w.heap.size 25 #[.int .i64 a.t,.int .i64 a.n,.int .i64 a.a,.int .i64 a.b,.slice j a.l.length cl,.slice h a.i.length u]):=hid x43_;have s:Hid (Blk d (w.heap.size+1) 25 #[.int .i64 b.t,.int .i64 b.n,.int .i64 b.a,.int .i64 b.b,.slice m b.l.length y,.slice k b.i.length x]):=hid (by
  rw [hW2];have:=Blk.new (w.alloc (.cells #[.int .i64 a.t,.int .i64 a.n,.int .i64 a.a,.int .i64 a.b,.slice j a.l.length cl,.slice h a.i.length u] 25)) 25 #[.int .i64 b.t,.int .i64 b.n,.int .i64 b.a,.int .i64 b.b,.slice m b.l.length y,.slice k b.i.length x];simpa using this)
 have q:=hid g;have o:=hid (ha.up g);have p:=hid (hb.up g);clear hW2 g ha hb D E
 go_enter Tryz.func9,Tryz.ntmps9
 go_wp2_with fail
 rw [← B.out];refine (P3_ a b _ _ _ o.out p.out H.out I.out).mono ?_;rintro e T ⟨rfl,c⟩;rw [z.out];clear z B;replace o:=hid (o.out.up c);replace p:=hid (p.out.up c);replace r:=hid (r.out.below c r.out.lt);replace s:=hid (s.out.below c s.out.lt);replace q:=hid (Z0_ q.out (le_refl _) c);clear c;go_wp2;refine bodyPost_ret (v:=.tuple #[.slice none 0 0,.slice none 0 0,.int .i64 1]) (by simp [results,Tryz.results9,go_sem]) rfl ?_;exact ⟨rfl,q.out⟩
theorem Vl9 (a b:Mat) (va vb:Value) (w:World) (ha:MatV w w.heap.size va a) (hb:MatV w w.heap.size vb b) (xn:Sml a) (xo:Sml b) (E:chk a=0) (x3:chk b=0) (hn:a.n=b.n):Calls Tryz.prog 9 #[va,vb] w (fun e w'=>∃ s u,MaxIs a b s u∧Xk8 w s u e w'):=by
 have HM:Hid (mayP a b=true):=hid (by unfold mayP;rw [E,x3,decide_eq_true hn];rfl);have hn64:=(Z8_ E).2;have ye:(allL a.n).length≤1048576:=B3_ a.n;obtain ⟨n,J⟩:∃ n:Nat,nN a=n:=⟨_,rfl⟩;have HnI:Hid ((n:Int)=a.n):=hid (by rw [← J];exact (Z8_ E).1);have yd:=hid J;have ys:n≤64:=by rw [← J];exact hn64
 have p:=hid (And.intro E (And.intro x3 hn));clear E x3 hn J;have xf:=hid xn;have xg:=hid xo;obtain ⟨la,ia,yn,yk,yg⟩:=ha.open;obtain ⟨lb,ib,yo,yl,yh⟩:=hb.open;obtain ⟨Q,cl,rfl,_⟩:=yk;obtain ⟨P,ci,rfl,_⟩:=yg;obtain ⟨T,dl,rfl,_⟩:=yl;obtain ⟨R,di,rfl,_⟩:=yh;subst yn yo;obtain ⟨C,hW2⟩:∃ C,C=(w.alloc (.cells #[.int .i64 a.t,.int .i64 a.n,.int .i64 a.a,.int .i64 a.b,.slice Q a.l.length cl,.slice P a.i.length ci] 25)).alloc (.cells #[.int .i64 b.t,.int .i64 b.n,.int .i64 b.a,.int .i64 b.b,.slice T b.l.length dl,.slice R b.i.length di] 25):=⟨_,rfl⟩;have xb:=hid hW2;have K:Below w.heap.size w C:=by rw [hW2];exact ((Below.refl _ w).alloc (le_refl _) _).alloc j41_ _
 have z:Hid (Blk C w.heap.size 25 #[.int .i64 a.t,.int .i64 a.n,.int .i64 a.a,.int .i64 a.b,.slice Q a.l.length cl,.slice P a.i.length ci]):=hid x43_;have B:Hid (Blk C (w.heap.size+1) 25 #[.int .i64 b.t,.int .i64 b.n,.int .i64 b.a,.int .i64 b.b,.slice T b.l.length dl,.slice R b.i.length di]):=hid (by
  rw [hW2];have:=Blk.new (w.alloc (.cells #[.int .i64 a.t,.int .i64 a.n,.int .i64 a.a,.int .i64 a.b,.slice Q a.l.length cl,.slice P a.i.length ci] 25)) 25 #[.int .i64 b.t,.int .i64 b.n,.int .i64 b.a,.int .i64 b.b,.slice T b.l.length dl,.slice R b.i.length di];simpa using this)
 have x0:=hid K;have H:=hid (ha.up K);have I:=hid (hb.up K);clear hW2 K ha hb xn xo
 go_enter Tryz.func9,Tryz.ntmps9
 go_wp2_with fail
 rw [← xb.out];refine (P3_ a b _ _ _ H.out I.out xf.out xg.out).mono ?_;rintro e y ⟨rfl,q⟩;rw [HM.out];clear HM xb;replace H:=hid (H.out.up q);replace I:=hid (I.out.up q);replace z:=hid (z.out.below q z.out.lt);replace B:=hid (B.out.below q B.out.lt);replace x0:=hid (Z0_ x0.out (le_refl _) q);clear q;have yc:=hid (Row.here (Row.lit0 y));have y6:Hid (Below y.heap.size y (y.alloc (.cells #[] 3))):=hid ((Below.refl _ _).alloc (le_refl _) _);go_wp2
 go_loopw [4,5,6,7,8,9,10,11,12,13,14] (fun _ _ _ v7 O _ _ _ _ _ _ wr=>∃ (k:Nat) (s:List Int),O=.int .i64 (k:Int)∧k≤n∧Hid (Chain a b k s)∧Hid (Row wr wr.heap.size v7 s)∧Hid (Below y.heap.size y wr)) (fun _ _ _ _ O _ _ _ _ _ _ _=>65 - (intOf O).toNat)
 case atStart=>exact ⟨0,[],rfl,Nat.zero_le _,hid .zero,yc,y6⟩
 case round =>
  obtain ⟨k,s,rfl,yr,U,Y,o⟩:=hrel;obtain ⟨As,cs,rfl,_,_⟩:=id Y.out;have hck:=F6_ p.out.1 p.out.2.1 p.out.2.2 U.out;have HC:Hid (Common a b s):=hid hck.1;have yp:Hid (s.length=k):=hid hck.2;have yt:s.length≤64:=Nat.le_trans (Y3_ hck.1.set) hn64;have yq:(k:Int)≤a.n:=y51_;have yu:IntKind.i64.wrap ((k:Int)+1)=(k:Int)+1:=q42_;have hd:=Zf4 (b:=b) (s:=s) hn64;have M:PtsP (adjG a b s).length (addG a s):=by rw [D6_];exact B4_ hn64
  have xk:PtsP (adjG a b s).length (addG b s):=z22_;have ym:∃ l r,Xh2 (adjG a b s) (addG a s) (addG b s) l r∧((r=true∧∃ n x N,l=x :: N∧Greedy (adjG a b s) (addG b s) (addG a s) n (x :: N))∨(r=false∧l=[]∧Stop a b s)):=by
   rcases Xh0 (adj:=adjG a b s) (dst:=addG b s) (S:=addG a s) hd M with ⟨n,x,l,F⟩ | xj
   ·exact ⟨x :: l,true,.inl ⟨rfl,n,F⟩,.inl ⟨rfl,n,x,l,rfl,F⟩⟩
   ·exact ⟨[],false,.inr ⟨rfl,rfl,xj⟩,.inr ⟨rfl,rfl,xj⟩⟩
  obtain ⟨l,r,x4,xq⟩:=ym;have xi:=Zy9 hd M x4;rw [D6_] at xi;have yj:l.length≤1000:=q41_;have yf:(comeL a b s).length≤1048576:=Nat.le_trans (Y3_ (Zr4 hck.1)) q41_;have HD:=hid hd;have x5:=hid M;have xw:=hid xk;have x6:=hid x4;have Z:=hid xq;have x9:=hid (H.out.up o.out);have xa:=hid (I.out.up o.out);have c:=hid (z.out.below o.out z.out.lt);have g:=hid (B.out.below o.out B.out.lt);have y3:=hid (Z0_ x0.out (le_refl _) o.out);clear hck hd M xk x4 xq xi;have k0:=c.out.cell 0;have k1:=c.out.cell 1;have k2:=c.out.cell 2;have k3:=c.out.cell 3;have k4:=c.out.cell 4;have k5:=c.out.cell 5;have n0:=g.out.cell 0;have n1:=g.out.cell 1;have n2:=g.out.cell 2;have n3:=g.out.cell 3;have n4:=g.out.cell 4;have n5:=g.out.cell 5
  go_wp2_with fail
  refine (Yf6 a b _ _ _ s wr x9.out xa.out xf.out xg.out Y.out HC.out).mono ?_;rintro e w5 ⟨vj,vf,vt,rfl,xh,hf,ht,D⟩;have W:=hid xh;have V:=hid hf;have HT:=hid ht;have x7:=hid (Y.out.up D);have x1:=hid (c.out.below D c.out.lt);have xc:=hid (Z0_ o.out (le_refl _) D);have xd:=hid (Z0_ y3.out (le_refl _) D);clear D k0 k1 k2 k3 k4 k5 n0 n1 n2 n3 n4 n5 c g x9 xa xh hf ht
  go_wp2_with fail
  refine (Xz2 (adjG a b s) (addG a s) (addG b s) l r HD.out x5.out xw.out x6.out _ _ _ w5 W.out V.out HT.out).mono ?_;rintro e w6 ⟨vp,rfl,hl,j⟩;have HL:=hid hl;have x8:=hid (x7.out.up j);have xu:=hid (W.out.up j);have xs:=hid (V.out.up j);have yb:=hid (x1.out.below j x1.out.lt);have y4:=hid (Z0_ xc.out (le_refl _) j);have y7:=hid (Z0_ xd.out (le_refl _) j);clear j W V HT x7 x1 xc xd hl x6;rcases Z.out with ⟨rfl,n',x,N,rfl,F⟩ | ⟨rfl,rfl,xp⟩
  ·have HG:=hid F
   clear F Z
   go_wp2_with fail
   refine (Ye5 _ _ s (x :: N) w6 x8.out HL.out q41_ yj).mono ?_;rintro e w7 ⟨v7,rfl,G,d⟩;have X:=hid G;have y5:=hid (Z0_ y4.out (le_refl _) d);have xe:=hid (Chain.succ U.out HG.out);have yi:k+1≤n:=by
    have h1:=F6_ p.out.1 p.out.2.1 p.out.2.2 xe.out;have h2:=Y3_ h1.1.set;rw [h1.2,yd.out] at h2;exact h2
   clear d G;go_wp2
   go_roundw
   case rel=>exact ⟨k+1,_,z42_,yi,xe,X,y5⟩
   case measure=>simp [intOf];omega
  ·have y2:=hid xp
   clear xp HL Z;have k1:=yb.out.cell 1
   go_wp2_with fail
   refine (K8_ a.n _).mono ?_;rintro e w7 ⟨v7,rfl,G,d⟩;have X:=hid G;have xz:=hid (x8.out.up d);have xv:=hid (xu.out.up d);have xt:=hid (xs.out.up d);have y8:=hid (Z0_ y7.out (le_refl _) d);clear G d k1
   go_wp2_with fail
   refine (Xz1 _ _ (adjG a b s) (addG a s) HD.out x5.out _ xv.out xt.out).mono ?_;rintro e w8 ⟨O,rfl,xl,L⟩;have xx:=hid xl;have xr:=hid (X.out.up L);have y0:=hid (xz.out.up L);have y9:=hid (Z0_ y8.out (le_refl _) L);clear xl L
   go_wp2_with fail
   refine (Q0_ _ _ (allL a.n) (comeL a b s) _ xr.out xx.out ye yf).mono ?_;rintro e w9 ⟨v9,rfl,xm,x2⟩;have xy:=hid xm;have y1:=hid (y0.out.up x2);have ya:=hid (Z0_ y9.out (le_refl _) x2);clear xm x2;go_wp2;refine bodyPost_ret (v:=.tuple #[.slice As s.length cs,v9,.int .i64 0]) (by simp [results,Tryz.results9,go_sem]) rfl ?_;exact ⟨s,_,⟨⟨k,U.out⟩,y2.out,rfl⟩,_,_,rfl,y1.out,xy.out,ya.out⟩
end Wp
end Go.Proofs.YtnbcaibflhgdoaaGreatDoor
