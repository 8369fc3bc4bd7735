/- The program's inter, walked: may, others, Max, Bound (written by gen_ymax.py). The calls whose answers the document fixes, of the greatest common set: they are as it fixes them. The document's answers of layer 14 but its Max: May, Common, Bound, walked (written by gen_yref.py). -/
import Derived.Test.YteiejkhdonmcdaaGreatDoorYC
import Derived.Test.YteiejkhdonmcdaaGreatDoorYB
import Derived.Test.YteiejkhdonmcdaaGreatDoorZR
import Derived.Test.YteiejkhdonmcdaaGreatDoorVTurn
import Derived.Test.YteiejkhdonmcdaaGreatDoorVGraph
import Derived.Test.YteiejkhdonmcdaaGreatDoorZI
import Derived.Test.YteiejkhdonmcdaaGreatDoorVFix
import Derived.Test.YteiejkhdonmcdaaGreatDoorVIndep
import Derived.Test.YteiejkhdonmcdaaGreatDoorZT
import Derived.Test.YteiejkhdonmcdaaGreatDoorX0A
import Derived.Test.YteiejkhdonmcdaaGreatDoorX0B
set_option maxHeartbeats 16000000
set_option maxRecDepth 100000
open Go.Lib (hid)
open Nat (le_refl)
namespace Go.Proofs.YteiejkhdonmcdaaGreatDoor
open Go Go.RowKit
namespace Wp
def mayP (a b:Mat):Bool:=decide (a.n=b.n) && ((chk a==0) && (chk b==0))
theorem mayP_iff {a b:Mat}:mayP a b=true↔a.n=b.n∧chk a=0∧chk b=0:=by
 unfold mayP;rw [Bool.and_eq_true,Bool.and_eq_true,decide_eq_true_iff,beq_iff_eq,beq_iff_eq]
noncomputable def A7_ (a b:Mat) (s:List Int):Int:=if (mayP a b && mayI a s)=true then rankT a s+rankT b (Z4_ (allL b.n) s) else -1
def Vf6 (w:World) (s u:List Int) (e:Ending) (w':World):Prop:=∃ v x,e=.returned (.tuple #[v,x,.int .i64 0])∧Row w' w'.heap.size v s∧Row w' w'.heap.size x u∧Below w.heap.size w w'
def Xu7 (w:World) (e:Ending) (w':World):Prop:=e=.returned (.tuple #[.slice none 0 0,.slice none 0 0,.int .i64 1])∧Below w.heap.size w w'
theorem P3_ (m:Mat) (s:List Int):-1≤rankT m s∧rankT m s≤64:=by
 by_cases h:mayI m s=true
 ·obtain ⟨hc,c⟩:=mayI_iff.1 h
  have d:=(rk_of hc).le_cnt (memP s);have e:=(Z6_ hc).2;have h3:=Y4_ c;rw [X2_ c] at h3;rw [E3_ h];omega
 ·rw [show rankT m s=-1 from if_neg h]
  omega
theorem Zf4 (E:Nat→Addr) (a b:Mat) (N O:Value) (w:World) (ha:MatV w w.heap.size N a) (hb:MatV w w.heap.size O b) (L:Sml a) (M:Sml b) (J:Env E w):Calls Tryz.prog 65 #[N,O] w (Says w (mayP a b)):=by
 obtain ⟨H,D⟩:∃ c,chk a=c:=⟨_,rfl⟩;obtain ⟨I,F⟩:∃ c,chk b=c:=⟨_,rfl⟩;have K:mayP a b=(decide (a.n=b.n) && ((H==0) && (I==0))):=by unfold mayP;rw [D,F]
 rw [K];have P:=hid D;have Q:=hid F;clear D F K;have R:=hid L;have S:=hid M;obtain ⟨la,ia,Y,V,T⟩:=ha.open;obtain ⟨lb,ib,Z,W,U⟩:=hb.open;obtain ⟨v,cl,rfl,_⟩:=V;obtain ⟨u,z,rfl,_⟩:=T;obtain ⟨y,C,rfl,_⟩:=W;obtain ⟨x,B,rfl,_⟩:=U;subst Y Z;obtain ⟨r,hW2⟩:∃ r,r=(w.alloc (.cells #[.int .i64 a.t,.int .i64 a.n,.int .i64 a.a,.int .i64 a.b,.slice v a.l.length cl,.slice u a.i.length z] 25)).alloc (.cells #[.int .i64 b.t,.int .i64 b.n,.int .i64 b.a,.int .i64 b.b,.slice y b.l.length C,.slice x b.i.length B] 25):=⟨_,rfl⟩;have G:=hid hW2;have s:Below w.heap.size w r:=by rw [hW2];exact ((Below.refl _ w).alloc (le_refl _) _).alloc z36_ _
 have m:Hid (Blk r w.heap.size 25 #[.int .i64 a.t,.int .i64 a.n,.int .i64 a.a,.int .i64 a.b,.slice v a.l.length cl,.slice u a.i.length z]):=hid z37_;have d:Hid (Blk r (w.heap.size+1) 25 #[.int .i64 b.t,.int .i64 b.n,.int .i64 b.a,.int .i64 b.b,.slice y b.l.length C,.slice x b.i.length B]):=hid (by
  rw [hW2];have:=Blk.new (w.alloc (.cells #[.int .i64 a.t,.int .i64 a.n,.int .i64 a.a,.int .i64 a.b,.slice v a.l.length cl,.slice u a.i.length z] 25)) 25 #[.int .i64 b.t,.int .i64 b.n,.int .i64 b.a,.int .i64 b.b,.slice y b.l.length C,.slice x b.i.length B];simpa using this)
 have g:=hid s;have p:=hid (ha.up s);have q:=hid (hb.up s);have k:=hid (J.up s);clear hW2 s ha hb L M J;by_cases o:a.n=b.n
 ·have X:(a.n==b.n)=true:=by simpa using o
  rw [decide_eq_true o,Bool.true_and];clear o
  go_enter Tryz.func65,Tryz.ntmps65
  go_wp2_with fail
  rw [← G.out];refine (B3_ E a _ _ p.out R.out k.out).mono ?_;rintro e w3 ⟨rfl,h⟩;rw [P.out];replace k:=hid (k.out.up h);replace p:=hid (p.out.up h);replace q:=hid (q.out.up h);replace m:=hid (m.out.below h m.out.lt);replace d:=hid (d.out.below h d.out.lt);replace g:=hid (Z0_ g.out (le_refl _) h);clear h;cases hx:(H==0)
  ·go_wp2
   go_ret;exact ⟨by rw [hx];rfl,g.out⟩
  ·have n0:=d.out.cell 0
   have n1:=d.out.cell 1;have n2:=d.out.cell 2;have n3:=d.out.cell 3;have n4:=d.out.cell 4;have n5:=d.out.cell 5
   go_wp2_with fail
   refine (B3_ E b _ _ q.out S.out k.out).mono ?_;rintro e w4 ⟨rfl,j⟩;rw [Q.out];clear n0 n1 n2 n3 n4 n5;replace k:=hid (k.out.up j);replace p:=hid (p.out.up j);replace q:=hid (q.out.up j);replace m:=hid (m.out.below j m.out.lt);replace d:=hid (d.out.below j d.out.lt);replace g:=hid (Z0_ g.out (le_refl _) j);clear j;cases hy:(I==0)
   all_goals
    go_wp2;go_ret;exact ⟨by rw [hx,hy];rfl,g.out⟩
 ·have X:(a.n==b.n)=false:=by simpa using o
  rw [decide_eq_false o,Bool.false_and];clear o
  go_enter Tryz.func65,Tryz.ntmps65
  go_wp2;rw [← G.out];go_ret;exact ⟨rfl,g.out⟩
theorem Zf5 (m:Mat) (v p:Value) (s:List Int) (w:World) (o:MatV w w.heap.size v m) (c:Row w w.heap.size p s) (hs:s.length≤1048576):Calls Tryz.prog 67 #[v,p] w (Gives w (Z4_ (allL m.n) s)):=by
 have q:=hid (c.up (Z1_ w m (.slice none 0 0) (.slice none 0 0)));have C:=B6_ m.n;obtain ⟨H,G,F,E,D⟩:=o.open;have g:=hid (Z1_ w m H G);have x:=hid (c.up g.out);obtain ⟨I,cs,rfl,_⟩:=id c;subst F;unfold boxed at *
 clear q o E D c
 go_enter Tryz.func67,Tryz.ntmps67
 go_wp2_with fail
 refine (I5_ m.n _).mono ?_;rintro e L ⟨J,rfl,j,d⟩;have r:=hid j;have y:=hid (x.out.up d);have z:=hid (Z0_ g.out (le_refl _) d);clear j d
 go_wp2_with fail
 refine (E7_ _ _ (allL m.n) s _ r.out y.out C hs).mono ?_;rintro e M ⟨K,rfl,k,h⟩;have u:=hid k;have B:=hid (Z0_ z.out (le_refl _) h);clear k h;go_wp2;go_ret;exact ⟨_,rfl,u.out,B.out⟩
theorem Zk5 (E:Nat→Addr) (a b:Mat) (va vb:Value) (w:World) (ha:MatV w w.heap.size va a) (hb:MatV w w.heap.size vb b) (xq:Sml a) (xr:Sml b) (hE:Env E w) (Z:chk a=0) (x5:chk b=0) (hn:a.n=b.n):Calls Tryz.prog 36 #[va,vb] w (fun e w'=>∃ s u,MaxIs a b s u∧Vf6 w s u e w'):=by
 have HM:Hid (mayP a b=true):=hid (by unfold mayP;rw [Z,x5,decide_eq_true hn];rfl);have x0:=(Z6_ Z).2;have HN:=hid (And.intro Z (And.intro x5 hn));clear Z x5 hn;have xh:=hid xq;have xi:=hid xr;obtain ⟨la,ia,yn,yk,yi⟩:=ha.open;obtain ⟨lb,ib,yo,yl,yj⟩:=hb.open;obtain ⟨q,cl,rfl,_⟩:=yk;obtain ⟨o,r,rfl,_⟩:=yi;obtain ⟨Bl,dl,rfl,_⟩:=yl;obtain ⟨Bi,di,rfl,_⟩:=yj;subst yn yo;obtain ⟨O,hW2⟩:∃ O,O=(w.alloc (.cells #[.int .i64 a.t,.int .i64 a.n,.int .i64 a.a,.int .i64 a.b,.slice q a.l.length cl,.slice o a.i.length r] 25)).alloc (.cells #[.int .i64 b.t,.int .i64 b.n,.int .i64 b.a,.int .i64 b.b,.slice Bl b.l.length dl,.slice Bi b.i.length di] 25):=⟨_,rfl⟩;have xd:=hid hW2;have R:Below w.heap.size w O:=by rw [hW2];exact ((Below.refl _ w).alloc (le_refl _) _).alloc z36_ _
 have L:Hid (Blk O w.heap.size 25 #[.int .i64 a.t,.int .i64 a.n,.int .i64 a.a,.int .i64 a.b,.slice q a.l.length cl,.slice o a.i.length r]):=hid z37_;have M:Hid (Blk O (w.heap.size+1) 25 #[.int .i64 b.t,.int .i64 b.n,.int .i64 b.a,.int .i64 b.b,.slice Bl b.l.length dl,.slice Bi b.i.length di]):=hid (by
  rw [hW2];have:=Blk.new (w.alloc (.cells #[.int .i64 a.t,.int .i64 a.n,.int .i64 a.a,.int .i64 a.b,.slice q a.l.length cl,.slice o a.i.length r] 25)) 25 #[.int .i64 b.t,.int .i64 b.n,.int .i64 b.a,.int .i64 b.b,.slice Bl b.l.length dl,.slice Bi b.i.length di];simpa using this)
 have x3:=hid R;have T:=hid (ha.up R);have U:=hid (hb.up R);have S:=hid (hE.up R);clear hW2 R ha hb xq xr hE
 go_enter Tryz.func36,Tryz.ntmps36
 go_wp2_with fail
 rw [← xd.out];refine (Zf4 E a b _ _ _ T.out U.out xh.out xi.out S.out).mono ?_;rintro e w3 ⟨rfl,C⟩;rw [HM.out];clear HM xd;replace S:=hid (S.out.up C);replace T:=hid (T.out.up C);replace U:=hid (U.out.up C);replace L:=hid (L.out.below C L.out.lt);replace M:=hid (M.out.below C M.out.lt);replace x3:=hid (Z0_ x3.out (le_refl _) C);clear C;go_wp2
 go_loopw [4,5,6,7,8,9,10,11,12,13] (fun _ _ _ v7 _ _ _ _ _ _ wr=>∃ (k:Nat) (s:List Int),Hid (Chain a b k s)∧Hid (Row wr wr.heap.size v7 s)∧Hid (Below w3.heap.size w3 wr)) (fun _ _ _ v7 _ _ _ _ _ _ _=>65 - lenOf v7)
 case atStart=>exact ⟨0,[],hid .zero,hid (Row.nil_ _ _),hid (Below.refl _ _)⟩
 case round =>
  obtain ⟨k,s,x1,HS,z⟩:=hrel;obtain ⟨g,cs,rfl,_,_⟩:=id HS.out;have G:=O0_ HN.out.1 HN.out.2.1 HN.out.2.2 x1.out;have HC:Hid (Common a b s):=hid G.1;have y2:Hid (s.length=k):=hid G.2;have yw:s.length≤64:=Nat.le_trans (Y4_ G.1.set) x0;have hd:=Zn9 (b:=b) (s:=s) x0;have x6:PtsP (adjG a b s).length (addG a s):=by rw [H2_];exact C9_ x0
  have xo:PtsP (adjG a b s).length (addG b s):=by
   have h:=C9_ (m:=b) (s:=s) (by rw [G.1.nn];exact x0);rw [H2_];rw [G.1.nn] at h;exact h
  have xu:∀ (n:Nat) (l:List Int),Greedy (adjG a b s) (addG b s) (addG a s) n l→l.length≤1000:=fun n l h=>by
   have h1:=Ys8 hd x6 (.inl ⟨rfl,n,h⟩);rw [H2_] at h1;omega
  have HD:=hid hd;have x8:=hid x6;have xy:=hid xo;have y5:=hid xu;have x2:=hid (T.out.up z.out);have xc:=hid (U.out.up z.out);have x7:=hid (S.out.up z.out);have j:=hid (L.out.below z.out L.out.lt);have B:=hid (M.out.below z.out M.out.lt);have y6:=hid (Z0_ x3.out (le_refl _) z.out);clear G hd x6 xo xu;have k0:=j.out.cell 0;have k1:=j.out.cell 1;have k2:=j.out.cell 2;have k3:=j.out.cell 3;have k4:=j.out.cell 4;have k5:=j.out.cell 5;have n0:=B.out.cell 0;have n1:=B.out.cell 1;have n2:=B.out.cell 2;have n3:=B.out.cell 3;have n4:=B.out.cell 4;have n5:=B.out.cell 5
  go_wp2_with fail
  refine (Yt8 E a b _ _ _ s wr x2.out xc.out xh.out xi.out HS.out x7.out HC.out).mono ?_;rintro e w5 ⟨vj,vf,vt,rfl,xj,hf,ht,F⟩;have HJ:=hid xj;have HF:=hid hf;have HT:=hid ht;have x9:=hid (HS.out.up F);have x4:=hid (j.out.below F j.out.lt);have xb:=hid (x2.out.up F);have xe:=hid (Z0_ z.out (le_refl _) F);have xf:=hid (Z0_ y6.out (le_refl _) F);obtain ⟨K,Q,rfl,_,_⟩:=xj;obtain ⟨J,P,rfl,_⟩:=hf;obtain ⟨At,ct,rfl,_⟩:=ht;clear F k0 k1 k2 k3 k4 k5 n0 n1 n2 n3 n4 n5 j B x2 xc x7
  go_wp2_with fail
  refine (Xd4 _ _ _ (adjG a b s) (addG a s) (addG b s) w5 HJ.out HF.out HT.out HD.out x8.out xy.out).mono ?_;rintro e I ⟨vp,l,ok,rfl,hl,y,yp⟩;have HL:=hid hl;have xa:=hid (x9.out.up y);have xw:=hid (HJ.out.up y);have xv:=hid (HF.out.up y);have xg:=hid (x4.out.below y x4.out.lt);have y4:=hid (xb.out.up y);have y7:=hid (Z0_ xe.out (le_refl _) y);have ya:=hid (Z0_ xf.out (le_refl _) y);clear y HJ HF HT x9 x4 xb xe xf;rcases yp with ⟨rfl,n,x,l',rfl,hg⟩ | ⟨rfl,rfl,xs⟩
  ·have HG:=hid hg
   have ym:=y5.out _ _ hg;obtain ⟨Ap,cp,rfl,_⟩:=hl;clear hg
   go_wp2_with fail
   refine (Yu8 _ _ s (x :: l') I xa.out HL.out k35_ ym).mono ?_;rintro e w7 ⟨v7,rfl,xp,xk⟩;have y0:=hid xp;have xx:=hid (Zw9 HC.out HG.out).1;have y8:=hid (Z0_ y7.out (le_refl _) xk);have yb:=hid (Chain.succ x1.out HG.out);obtain ⟨A7,c7,rfl,_⟩:=xp;clear xk;go_wp2
   go_roundw
   case rel=>exact ⟨k+1,_,yb,y0,y8⟩
   case measure =>
    have h1:=y2.out;have h2:=xx.out;simp [lenOf];omega
  ·have y3:Hid (Stop a b s):=hid xs
   have D:Hid (∀ W,Below I.drew.heap.size I.drew W→Below I.heap.size I W):=hid fun W c=>Z0_ (Below.refl _ I).drew (le_refl _) c;obtain ⟨Ap,cp,rfl,_⟩:=hl;clear xs HL;go_wp2;refine E0_ (ops:=ymO) (ymK ⟨w.heap.size,.int .i64 a.t,.int .i64 a.n,.int .i64 a.a,.int .i64 a.b,.slice q a.l.length cl,.slice o a.i.length r,.slice g s.length cs,.slice K (adjG a b s).length Q,.slice J (addG a s).length P,comeL a b s,upL a b s⟩) q36_ q36_ (Vk5 (x:=⟨w.heap.size,.int .i64 a.t,.int .i64 a.n,.int .i64 a.a,.int .i64 a.b,.slice q a.l.length cl,.slice o a.i.length r,.slice g s.length cs,.slice K (adjG a b s).length Q,.slice J (addG a s).length P,comeL a b s,upL a b s⟩) ⟨rfl,rfl,rfl,rfl,?hK1,?hF,?hO⟩) ?_
   case hK1=>exact fun W c=>by have h:=xg.out.below (D.out W c) xg.out.lt;exact ⟨h.cell 0,h.cell 1,h.cell 2,h.cell 3,h.cell 4,h.cell 5⟩
   case hF=>exact fun W c=>Xd5 _ _ (adjG a b s) (addG a s) W (xw.out.up (D.out W c)) (xv.out.up (D.out W c)) HD.out x8.out
   case hO=>exact fun W c u hu=>Zf5 a _ u _ W (y4.out.up (D.out W c)) hu (Nat.le_trans (Y4_ (Yb4 HC.out)) k35_)
   intro d W c xt xl xn Y;have y9:=hid (Z0_ ya.out (le_refl _) (D.out W c));have y1:=hid (xa.out.up (D.out W c));obtain ⟨yq,yc⟩:∃ v,d.tmps.getD 36 undef=v:=⟨_,rfl⟩;obtain ⟨yr,yd⟩:∃ v,d.tmps.getD 37 undef=v:=⟨_,rfl⟩;obtain ⟨ys,ye⟩:∃ v,d.tmps.getD 38 undef=v:=⟨_,rfl⟩;obtain ⟨yt,yf⟩:∃ v,d.tmps.getD 39 undef=v:=⟨_,rfl⟩;obtain ⟨yu,yg⟩:∃ v,d.tmps.getD 40 undef=v:=⟨_,rfl⟩;obtain ⟨yv,yh⟩:∃ v,d.tmps.getD 41 undef=v:=⟨_,rfl⟩;have V:=Y 6 4 j43_ q36_;rw [show ek ymO (ymK ⟨w.heap.size,.int .i64 a.t,.int .i64 a.n,.int .i64 a.a,.int .i64 a.b,.slice q a.l.length cl,.slice o a.i.length r,.slice g s.length cs,.slice K (adjG a b s).length Q,.slice J (addG a s).length P,comeL a b s,upL a b s⟩) 6=.eq (.slice g s.length cs) from by kernel_rfl] at V;have V:d.tmps.getD 4 undef=.slice g s.length cs:=V;have H:=Y 7 5 j43_ q36_;rw [show ek ymO (ymK ⟨w.heap.size,.int .i64 a.t,.int .i64 a.n,.int .i64 a.a,.int .i64 a.b,.slice q a.l.length cl,.slice o a.i.length r,.slice g s.length cs,.slice K (adjG a b s).length Q,.slice J (addG a s).length P,comeL a b s,upL a b s⟩) 7=.row (upL a b s) from by kernel_rfl] at H;have H:Row W W.heap.size (d.tmps.getD 5 undef) (upL a b s):=H;obtain ⟨v5,h5⟩:∃ v,d.tmps.getD 5 undef=v:=⟨_,rfl⟩;rw [h5] at H;have X:=Y 8 6 j43_ q36_;rw [show ek ymO (ymK ⟨w.heap.size,.int .i64 a.t,.int .i64 a.n,.int .i64 a.a,.int .i64 a.b,.slice q a.l.length cl,.slice o a.i.length r,.slice g s.length cs,.slice K (adjG a b s).length Q,.slice J (addG a s).length P,comeL a b s,upL a b s⟩) 8=.eq (.int .i64 0) from by kernel_rfl] at X;have X:d.tmps.getD 6 undef=.int .i64 0:=X;have xm:=U0_ (ops:=ymO) (n:=9) (N:=45) [(36,yq),(37,yr),(38,ys),(39,yt),(40,yu),(41,yv),(4,.slice g s.length cs),(5,v5),(6,.int .i64 0)] rfl xt xl (fun t ht=>xn t (by unfold Zx5;rw [show ymO.size=9 by kernel_rfl];exact ht)) q36_ (by
    intro p hp;simp only [List.mem_cons,List.not_mem_nil,or_false] at hp;rcases hp with rfl | rfl | rfl | rfl | rfl | rfl | rfl | rfl | rfl<;>assumption)
   have xz:=hid H;clear H;clear xn Y xt xl yc yd ye yf yg yh V h5 X;rw [xm];clear xm;simp only [show List.range 45=[0,1,2,3,4,5,6,7,8,9,10,11,12,13,14,15,16,17,18,19,20,21,22,23,24,25,26,27,28,29,30,31,32,33,34,35,36,37,38,39,40,41,42,43,44] from by decide,List.map_cons,List.map_nil,List.lookup_cons,List.lookup_nil];go_simp;go_wp2;refine bodyPost_ret (v:=.tuple #[.slice g s.length cs,v5,.int .i64 0]) (by simp [results,Tryz.results36,go_sem]) rfl ?_;exact ⟨s,_,⟨⟨k,x1.out⟩,y3.out,rfl⟩,_,_,rfl,y1.out,xz.out,y9.out⟩
theorem Vf7 (E:Nat→Addr) (a b:Mat) (I J:Value) (w:World) (ha:MatV w w.heap.size I a) (hb:MatV w w.heap.size J b) (G:Sml a) (H:Sml b) (D:Env E w) (F:mayP a b=false):Calls Tryz.prog 36 #[I,J] w (Xu7 w):=by
 have B:=hid F;clear F;have K:=hid G;have L:=hid H;obtain ⟨U,S,Q,O,M⟩:=ha.open;obtain ⟨V,T,R,P,N⟩:=hb.open;obtain ⟨j,cl,rfl,_⟩:=O;obtain ⟨h,x,rfl,_⟩:=M;obtain ⟨m,z,rfl,_⟩:=P;obtain ⟨k,y,rfl,_⟩:=N;subst Q R;obtain ⟨d,hW2⟩:∃ d,d=(w.alloc (.cells #[.int .i64 a.t,.int .i64 a.n,.int .i64 a.a,.int .i64 a.b,.slice j a.l.length cl,.slice h a.i.length x] 25)).alloc (.cells #[.int .i64 b.t,.int .i64 b.n,.int .i64 b.a,.int .i64 b.b,.slice m b.l.length z,.slice k b.i.length y] 25):=⟨_,rfl⟩;have C:=hid hW2;have g:Below w.heap.size w d:=by rw [hW2];exact ((Below.refl _ w).alloc (le_refl _) _).alloc z36_ _
 have s:Hid (Blk d w.heap.size 25 #[.int .i64 a.t,.int .i64 a.n,.int .i64 a.a,.int .i64 a.b,.slice j a.l.length cl,.slice h a.i.length x]):=hid z37_;have u:Hid (Blk d (w.heap.size+1) 25 #[.int .i64 b.t,.int .i64 b.n,.int .i64 b.a,.int .i64 b.b,.slice m b.l.length z,.slice k b.i.length y]):=hid (by
  rw [hW2];have:=Blk.new (w.alloc (.cells #[.int .i64 a.t,.int .i64 a.n,.int .i64 a.a,.int .i64 a.b,.slice j a.l.length cl,.slice h a.i.length x] 25)) 25 #[.int .i64 b.t,.int .i64 b.n,.int .i64 b.a,.int .i64 b.b,.slice m b.l.length z,.slice k b.i.length y];simpa using this)
 have r:=hid g;have p:=hid (ha.up g);have q:=hid (hb.up g);have o:=hid (D.up g);clear hW2 g ha hb G H D
 go_enter Tryz.func36,Tryz.ntmps36
 go_wp2_with fail
 rw [← C.out];refine (Zf4 E a b _ _ _ p.out q.out K.out L.out o.out).mono ?_;rintro e W ⟨rfl,c⟩;rw [B.out];clear B C;replace o:=hid (o.out.up c);replace p:=hid (p.out.up c);replace q:=hid (q.out.up c);replace s:=hid (s.out.below c s.out.lt);replace u:=hid (u.out.below c u.out.lt);replace r:=hid (Z0_ r.out (le_refl _) c);clear c;go_wp2;refine bodyPost_ret (v:=.tuple #[.slice none 0 0,.slice none 0 0,.int .i64 1]) (by simp [results,Tryz.results36,go_sem]) rfl ?_;exact ⟨rfl,r.out⟩
theorem O4_ (E:Nat→Addr) (a b:Mat) (va vb:Value) (w:World) (ha:MatV w w.heap.size va a) (hb:MatV w w.heap.size vb b) (x4:Sml a) (x5:Sml b) (hE:Env E w) (sw:Value) (s:List Int) (Z:Row w w.heap.size sw s) (U:s.length≤1048576):Calls Tryz.prog 38 #[va,vb,sw] w (Tells w (A7_ a b s)):=by
 have xp:=P3_ a s;have xq:=P3_ b (Z4_ (allL b.n) s);have x7:IntKind.i64.wrap (rankT a s+rankT b (Z4_ (allL b.n) s))=rankT a s+rankT b (Z4_ (allL b.n) s):=q37_;have x8:=hid x7;have xs:(Z4_ (allL b.n) s).length≤1048576:=Nat.le_trans (W2_ _ _) (B6_ b.n);clear xp xq x7;have I:=hid x4;have S:=hid x5;obtain ⟨la,ia,xt,xn,xl⟩:=ha.open;obtain ⟨lb,ib,xu,xo,xm⟩:=hb.open;obtain ⟨F,cl,rfl,_⟩:=xn;obtain ⟨D,J,rfl,_⟩:=xl;obtain ⟨H,L,rfl,_⟩:=xo;obtain ⟨G,K,rfl,_⟩:=xm;obtain ⟨V,Y,xr,_⟩:=id Z;subst xt xu xr;obtain ⟨Q,hW2⟩:∃ Q,Q=(w.alloc (.cells #[.int .i64 a.t,.int .i64 a.n,.int .i64 a.a,.int .i64 a.b,.slice F a.l.length cl,.slice D a.i.length J] 25)).alloc (.cells #[.int .i64 b.t,.int .i64 b.n,.int .i64 b.a,.int .i64 b.b,.slice H b.l.length L,.slice G b.i.length K] 25):=⟨_,rfl⟩;have P:=hid hW2;have M:Below w.heap.size w Q:=by rw [hW2];exact ((Below.refl _ w).alloc (le_refl _) _).alloc z36_ _
 have c:Hid (Blk Q w.heap.size 25 #[.int .i64 a.t,.int .i64 a.n,.int .i64 a.a,.int .i64 a.b,.slice F a.l.length cl,.slice D a.i.length J]):=hid z37_;have o:Hid (Blk Q (w.heap.size+1) 25 #[.int .i64 b.t,.int .i64 b.n,.int .i64 b.a,.int .i64 b.b,.slice H b.l.length L,.slice G b.i.length K]):=hid (by
  rw [hW2];have:=Blk.new (w.alloc (.cells #[.int .i64 a.t,.int .i64 a.n,.int .i64 a.a,.int .i64 a.b,.slice F a.l.length cl,.slice D a.i.length J] 25)) 25 #[.int .i64 b.t,.int .i64 b.n,.int .i64 b.a,.int .i64 b.b,.slice H b.l.length L,.slice G b.i.length K];simpa using this)
 have B:=hid M;have k:=hid (ha.up M);have m:=hid (hb.up M);have j:=hid (hE.up M);have y:=hid (Z.up M);clear hW2 M ha hb x4 x5 hE Z;cases hm:mayP a b with
 | false =>
  have R:=hid hm;have C:A7_ a b s=-1:=by unfold A7_;rw [hm];rfl
  rw [C];clear hm C
  go_enter Tryz.func38,Tryz.ntmps38
  go_wp2_with fail
  rw [← P.out];refine (Zf4 E a b _ _ _ k.out m.out I.out S.out j.out).mono ?_;rintro e w3 ⟨rfl,d⟩;rw [R.out];have x9:=hid (Z0_ B.out (le_refl _) d);clear d;go_wp2;go_ret;exact ⟨rfl,x9.out⟩
 | true =>
  have R:=hid hm;cases hi:mayI a s with
  | false =>
   have X:=hid hi;have C:A7_ a b s=-1:=by unfold A7_;rw [hm,hi];rfl
   rw [C];clear hm hi C
   go_enter Tryz.func38,Tryz.ntmps38
   go_wp2_with fail
   rw [← P.out];refine (Zf4 E a b _ _ _ k.out m.out I.out S.out j.out).mono ?_;rintro e w3 ⟨rfl,d⟩;rw [R.out];clear P;replace j:=hid (j.out.up d);replace k:=hid (k.out.up d);replace m:=hid (m.out.up d);replace y:=hid (y.out.up d);replace c:=hid (c.out.below d c.out.lt);replace o:=hid (o.out.below d o.out.lt);replace B:=hid (Z0_ B.out (le_refl _) d);clear d;have k0:=c.out.cell 0;have k1:=c.out.cell 1;have k2:=c.out.cell 2;have k3:=c.out.cell 3;have k4:=c.out.cell 4;have k5:=c.out.cell 5
   go_wp2_with fail
   refine (Zj8 E a _ _ s _ k.out I.out y.out U j.out).mono ?_;rintro e O ⟨rfl,q⟩;rw [X.out];clear k0 k1 k2 k3 k4 k5;have xa:=hid (Z0_ B.out (le_refl _) q);clear q;go_wp2;go_ret;exact ⟨rfl,xa.out⟩
  | true =>
   have X:=hid hi;have C:A7_ a b s=rankT a s+rankT b (Z4_ (allL b.n) s):=by unfold A7_;rw [hm,hi];rfl
   rw [C];clear hm hi C
   go_enter Tryz.func38,Tryz.ntmps38
   go_wp2_with fail
   rw [← P.out];refine (Zf4 E a b _ _ _ k.out m.out I.out S.out j.out).mono ?_;rintro e w3 ⟨rfl,d⟩;rw [R.out];clear P;replace j:=hid (j.out.up d);replace k:=hid (k.out.up d);replace m:=hid (m.out.up d);replace y:=hid (y.out.up d);replace c:=hid (c.out.below d c.out.lt);replace o:=hid (o.out.below d o.out.lt);replace B:=hid (Z0_ B.out (le_refl _) d);clear d;have k0:=c.out.cell 0;have k1:=c.out.cell 1;have k2:=c.out.cell 2;have k3:=c.out.cell 3;have k4:=c.out.cell 4;have k5:=c.out.cell 5
   go_wp2_with fail
   refine (Zj8 E a _ _ s _ k.out I.out y.out U j.out).mono ?_;rintro e O ⟨rfl,q⟩;rw [X.out];clear k0 k1 k2 k3 k4 k5;replace j:=hid (j.out.up q);replace k:=hid (k.out.up q);replace m:=hid (m.out.up q);replace y:=hid (y.out.up q);replace c:=hid (c.out.below q c.out.lt);replace o:=hid (o.out.below q o.out.lt);replace B:=hid (Z0_ B.out (le_refl _) q);clear q;have r:Hid (∀ W,Below O.drew.heap.size O.drew W→Below O.heap.size O W):=hid fun W g=>Z0_ (Below.refl _ O).drew (le_refl _) g;go_wp2;refine E0_ (ops:=ybO) (ybK ⟨w.heap.size,w.heap.size+1,.int .i64 a.t,.int .i64 a.n,.int .i64 a.a,.int .i64 a.b,.slice F a.l.length cl,.slice D a.i.length J,.int .i64 b.t,.int .i64 b.n,.int .i64 b.a,.int .i64 b.b,.slice H b.l.length L,.slice G b.i.length K,.slice V s.length Y,Z4_ (allL b.n) s,rankT a s,rankT b (Z4_ (allL b.n) s)⟩) q36_ q36_ (Vk6 (x:=⟨w.heap.size,w.heap.size+1,.int .i64 a.t,.int .i64 a.n,.int .i64 a.a,.int .i64 a.b,.slice F a.l.length cl,.slice D a.i.length J,.int .i64 b.t,.int .i64 b.n,.int .i64 b.a,.int .i64 b.b,.slice H b.l.length L,.slice G b.i.length K,.slice V s.length Y,Z4_ (allL b.n) s,rankT a s,rankT b (Z4_ (allL b.n) s)⟩) ⟨rfl,rfl,rfl,?hK1,?hK2,?hR1,?hR2,?hO,x8.out⟩) ?_
   case hK1=>exact fun W g=>by have h:=c.out.below (r.out W g) c.out.lt;exact ⟨h.cell 0,h.cell 1,h.cell 2,h.cell 3,h.cell 4,h.cell 5⟩
   case hK2=>exact fun W g=>by have h:=o.out.below (r.out W g) o.out.lt;exact ⟨h.cell 0,h.cell 1,h.cell 2,h.cell 3,h.cell 4,h.cell 5⟩
   case hR1=>exact fun W g=>Zd9 E a _ _ s W (k.out.up (r.out W g)) I.out (y.out.up (r.out W g)) U (j.out.up (r.out W g))
   case hR2=>exact fun W g u hu=>Zd9 E b _ u _ W (m.out.up (r.out W g)) S.out hu xs (j.out.up (r.out W g))
   case hO=>exact fun W g=>Zf5 b _ _ s W (m.out.up (r.out W g)) (y.out.up (r.out W g)) U
   intro z W g x6 x1 x3 x0;have xb:=hid (Z0_ B.out (le_refl _) (r.out W g));obtain ⟨xv,xc⟩:∃ v,z.tmps.getD 17 undef=v:=⟨_,rfl⟩;obtain ⟨xw,xd⟩:∃ v,z.tmps.getD 18 undef=v:=⟨_,rfl⟩;obtain ⟨xx,xe⟩:∃ v,z.tmps.getD 19 undef=v:=⟨_,rfl⟩;obtain ⟨xy,xf⟩:∃ v,z.tmps.getD 20 undef=v:=⟨_,rfl⟩;obtain ⟨xz,xg⟩:∃ v,z.tmps.getD 21 undef=v:=⟨_,rfl⟩;obtain ⟨y0,xh⟩:∃ v,z.tmps.getD 22 undef=v:=⟨_,rfl⟩;obtain ⟨y1,xi⟩:∃ v,z.tmps.getD 23 undef=v:=⟨_,rfl⟩;obtain ⟨y2,xj⟩:∃ v,z.tmps.getD 24 undef=v:=⟨_,rfl⟩;obtain ⟨y3,xk⟩:∃ v,z.tmps.getD 25 undef=v:=⟨_,rfl⟩;have T:=x0 9 6 (by rw [show ybO.size=10 by kernel_rfl];decide) q36_;rw [show ek ybO (ybK ⟨w.heap.size,w.heap.size+1,.int .i64 a.t,.int .i64 a.n,.int .i64 a.a,.int .i64 a.b,.slice F a.l.length cl,.slice D a.i.length J,.int .i64 b.t,.int .i64 b.n,.int .i64 b.a,.int .i64 b.b,.slice H b.l.length L,.slice G b.i.length K,.slice V s.length Y,Z4_ (allL b.n) s,rankT a s,rankT b (Z4_ (allL b.n) s)⟩) 9=.eq (.int .i64 (rankT a s+rankT b (Z4_ (allL b.n) s))) from by kernel_rfl] at T;have T:z.tmps.getD 6 undef=.int .i64 (rankT a s+rankT b (Z4_ (allL b.n) s)):=T;have x2:=U0_ (ops:=ybO) (n:=10) (N:=26) [(17,xv),(18,xw),(19,xx),(20,xy),(21,xz),(22,y0),(23,y1),(24,y2),(25,y3),(6,.int .i64 (rankT a s+rankT b (Z4_ (allL b.n) s)))] rfl x6 x1 (fun t ht=>x3 t (by unfold Zx5;rw [show ybO.size=10 by kernel_rfl];exact ht)) q36_ (by
    intro p hp;simp only [List.mem_cons,List.not_mem_nil,or_false] at hp;rcases hp with rfl | rfl | rfl | rfl | rfl | rfl | rfl | rfl | rfl | rfl<;>assumption)
   clear x3 x0 x6 x1 xc xd xe xf xg xh xi xj xk T;rw [x2];clear x2;simp only [show List.range 26=[0,1,2,3,4,5,6,7,8,9,10,11,12,13,14,15,16,17,18,19,20,21,22,23,24,25] from by decide,List.map_cons,List.map_nil,List.lookup_cons,List.lookup_nil];go_simp;go_wp2;go_ret;exact ⟨rfl,xb.out⟩
open Go Go.RowKit
def unM (n a:Int):Mat:=.mk 0 n a 0 [] []
theorem M1_ (n a:Int) (s:List Int):rankT (unM n a) s=if mayI (unM n a) s then ((min a.toNat (cnt (memP s) n.toNat):Nat):Int) else -1:=by
 unfold rankT;rw [rkP_0 rfl];rfl
theorem Vy6 (n a:Int) (s:List Int):indT (unM n a) s=(mayI (unM n a) s && decide (min a.toNat (cnt (memP s) n.toNat)=s.length)):=by
 unfold indT;rw [M1_];cases mayI (unM n a) s
 ·simp
 ·simp
  omega
theorem Vo7 {n:Int} (c:0≤n) (d:n≤64):chk (unM n n)=0:=by
 have hd:dp 4 (unM n n)=1:=by show (if nest (0:Int) then _ else 1)=1;rw [if_neg k36_]
 have hb:bad (unM n n)=0:=Xz9 (by show (0:Int)≤0∧(0:Int)<10;omega) ⟨c,d,c,d⟩ rfl (by
  show decide (n≤n)=true;simp)
 refine chk_ok.2 ⟨k35_,?_⟩;rw [ok,decide_eq_true hb];rfl
theorem Xu8 {a:Mat} {s u:List Int} (ha:chk a=0) (d:chk (unM a.n a.n)=0) (h:MaxIs a (unM a.n a.n) s u):(s.length:Int)=rankT a (allL a.n):=by
 obtain ⟨c,g,e⟩:=E9_ ha d rfl h;have f:=chk_n ha;have o:=Zy2 c.ia;have j:=Yk0 ha g;have hO:InN (nN a) (Z4_ (allL a.n) u):=A8_ f.1 f.2 g.1;have k:mayI (unM a.n a.n) (Z4_ (allL a.n) u)=true:=mayI_iff.2 ⟨d,hO⟩;have hl:cnt (memP (Z4_ (allL a.n) u)) a.n.toNat≤a.n.toNat:=by
  have:=Y4_ hO;rw [X2_ hO] at this;exact this
 have h3:=(rk_of ha).le_cnt (memP (Z4_ (allL a.n) u));unfold Zi8 at e;rw [M1_ a.n a.n,k,if_pos rfl,Nat.min_eq_right hl] at e;rw [E3_ (m:=a) (mayI_iff.2 ⟨ha,hO⟩)] at j;have p:cnt (memP (Z4_ (allL a.n) u)) (nN a)=cnt (memP (Z4_ (allL a.n) u)) a.n.toNat:=rfl;omega
theorem Yy4 {a b:Mat} {s u:List Int} (ha:chk a=0) (hb:chk b=0) (c:a.n=b.n) (h:MaxIs a b s u):A7_ a b u=(s.length:Int):=by
 obtain ⟨_,f,e⟩:=E9_ ha hb c h;have d:mayP a b=true:=mayP_iff.2 ⟨c,ha,hb⟩;unfold A7_;rw [d,mayI_iff.2 ⟨ha,f⟩,← e,← c];rfl
theorem Xg2:mayP (unM 3 2) (unM 3 1)=true:=y37_
theorem Vf8:mayP (unM 3 2) (unM 2 1)=false:=y37_
theorem ev14_c:Common (unM 3 2) (unM 3 1) [0]:=⟨rfl,by rw [Vy6];decide +kernel,by rw [Vy6];decide +kernel⟩
theorem Vf9:A7_ (unM 3 2) (unM 3 1) [0,1,2]=2:=by
 unfold A7_;rw [M1_,M1_];decide +kernel
theorem Vg0:A7_ (unM 3 2) (unM 3 1) []=1:=by
 unfold A7_;rw [M1_,M1_];decide +kernel
theorem Vg1:A7_ (unM 3 2) (unM 3 1) [3]=-1:=by
 unfold A7_;rw [M1_,M1_];decide +kernel
theorem Vo8:rankT (unM 3 1) (allL 3)=1:=by
 rw [M1_];decide +kernel
theorem Vo9 {s u:List Int} (h:MaxIs (unM 3 2) (unM 3 1) s u):s=[0]:=by
 obtain ⟨c,ha,hb⟩:=mayP_iff.1 Xg2;obtain ⟨k,d⟩:=h.ch;obtain ⟨hc,hl⟩:=O0_ ha hb c d;have g:=H9_ ha hb c h ev14_c;have j:=Zy2 hc.ib;rw [show (unM 3 1).n=3 from rfl,Vo8] at j;have q:k=1:=by simp at g;omega
 subst q;have f:∀ m:Mat,chk m=0→0<nN m→indT m [0]=true→(0:Int)∈addG m []:=fun m e c p=>by
  have h:=Xs4 e (x:=0) c;rw [show indT m [((0:Nat):Int)]=true from p] at h;exact (G6_ (C9_ (Z6_ e).2).1 _).1 h
 have o:Greedy (adjG (unM 3 2) (unM 3 1) []) (addG (unM 3 1) []) (addG (unM 3 2) []) 0 [0] :=
  .stop _ 0 (f _ ha k36_ ev14_c.ia) (f _ hb k36_ ev14_c.ib) (fun y r v=>by have:=(C9_ (Z6_ ha).2).2 y r;omega)
 rw [← Yz4 (Chain.succ .zero o) d];exact Xc5 k36_
theorem X6_ (E:Nat→Addr) (w:World) (X:Env E w):Calls Tryz.prog 35 #[] w (Truly w):=by
 have j:=hid (mayP_iff.1 Xg2);obtain ⟨M,hW2⟩:∃ M,M=(w.alloc (.cells #[.int .i64 0,.int .i64 3,.int .i64 2,.int .i64 0,.slice none 0 0,.slice none 0 0] 25)).alloc (.cells #[.int .i64 0,.int .i64 3,.int .i64 1,.int .i64 0,.slice none 0 0,.slice none 0 0] 25):=⟨_,rfl⟩;have W:=hid hW2;have V:Below w.heap.size w M:=by rw [hW2];exact ((Below.refl _ w).alloc (le_refl _) _).alloc z36_ _
 have c:Hid (Blk M w.heap.size 25 #[.int .i64 0,.int .i64 3,.int .i64 2,.int .i64 0,.slice none 0 0,.slice none 0 0]):=hid z37_;have d:Hid (Blk M (w.heap.size+1) 25 #[.int .i64 0,.int .i64 3,.int .i64 1,.int .i64 0,.slice none 0 0,.slice none 0 0]):=hid (by
  rw [hW2];have:=Blk.new (w.alloc (.cells #[.int .i64 0,.int .i64 3,.int .i64 2,.int .i64 0,.slice none 0 0,.slice none 0 0] 25)) 25 #[.int .i64 0,.int .i64 3,.int .i64 1,.int .i64 0,.slice none 0 0,.slice none 0 0];simpa using this)
 have Hb0:=hid V;have g:=hid (X.up V);clear X hW2 V
 go_enter Tryz.func35,Tryz.ntmps35
 go_wp2_with fail
 rw [← W.out];refine (Zk5 E (unM 3 2) (unM 3 1) _ _ _ (J7_ _ _ 0 3 2 0) (J7_ _ _ 0 3 1 0) (J8_ ..) (J8_ ..) g.out j.out.2.1 j.out.2.2 j.out.1).mono ?_;rintro e w3 ⟨s,u,Q,v,x,rfl,hs,Y,N⟩;obtain rfl:=Vo9 Q;have Z:=hid (Yy4 j.out.2.1 j.out.2.2 j.out.1 Q);have x0:u.length≤1048576:=Nat.le_trans (Y4_ (E9_ j.out.2.1 j.out.2.2 j.out.1 Q).2.1) k36_;have U:=hid hs;have L:=hid Y;obtain ⟨As,cs,rfl,_⟩:=hs;obtain ⟨Au,cu,rfl,_⟩:=Y;clear Q W;replace g:=hid (g.out.up N);replace c:=hid (c.out.below N c.out.lt);replace d:=hid (d.out.below N d.out.lt);replace Hb0:=hid (Z0_ Hb0.out (le_refl _) N);clear N;have k:=c.out.cell 0;have m:=c.out.cell 1;have o:=c.out.cell 2;have p:=c.out.cell 3;have q:=c.out.cell 4;have r:=c.out.cell 5
 go_wp2_with fail
 refine (Vf7 E (unM 3 2) (unM 2 1) _ _ _ (J7_ _ _ 0 3 2 0) (J7_ _ _ 0 2 1 0) (J8_ ..) (J8_ ..) g.out Vf8).mono ?_;rintro e R ⟨rfl,B⟩;clear k m o p q r;replace g:=hid (g.out.up B);replace U:=hid (U.out.up B);replace L:=hid (L.out.up B);replace c:=hid (c.out.below B c.out.lt);replace d:=hid (d.out.below B d.out.lt);replace Hb0:=hid (Z0_ Hb0.out (le_refl _) B);clear B;have y:=hid (Row.here (Row.lit1 R 0));have h:Hid (Below R.heap.size R (R.alloc (.cells #[.int .i64 0] 3))):=hid ((Below.refl _ _).alloc (le_refl _) _)
 go_wp2_with fail
 refine (cS _ _ [0] _ (U.out.up h.out) y.out k36_).mono ?_;rintro e w5 ⟨rfl,z⟩;replace z:=Z0_ h.out (le_refl _) z;clear y h;replace g:=hid (g.out.up z);replace L:=hid (L.out.up z);replace c:=hid (c.out.below z c.out.lt);replace d:=hid (d.out.below z d.out.lt);replace Hb0:=hid (Z0_ Hb0.out (le_refl _) z);clear z;have k:=c.out.cell 0;have m:=c.out.cell 1;have o:=c.out.cell 2;have p:=c.out.cell 3;have q:=c.out.cell 4;have r:=c.out.cell 5;have F:=d.out.cell 0;have G:=d.out.cell 1;have H:=d.out.cell 2;have I:=d.out.cell 3;have J:=d.out.cell 4;have K:=d.out.cell 5
 go_wp2_with fail
 refine (O4_ E (unM 3 2) (unM 3 1) _ _ _ (J7_ _ _ 0 3 2 0) (J7_ _ _ 0 3 1 0) (J8_ ..) (J8_ ..) g.out _ u L.out x0).mono ?_;rintro e S ⟨rfl,O⟩;rw [Z.out];clear k m o p q r F G H I J K;replace g:=hid (g.out.up O);replace c:=hid (c.out.below O c.out.lt);replace d:=hid (d.out.below O d.out.lt);replace Hb0:=hid (Z0_ Hb0.out (le_refl _) O);clear O;have k:=c.out.cell 0;have m:=c.out.cell 1;have o:=c.out.cell 2;have p:=c.out.cell 3;have q:=c.out.cell 4;have r:=c.out.cell 5;have F:=d.out.cell 0;have G:=d.out.cell 1;have H:=d.out.cell 2;have I:=d.out.cell 3;have J:=d.out.cell 4;have K:=d.out.cell 5;have y:=hid (Row.here (Row.lit3 S 0 1 2));have h:Hid (Below S.heap.size S (S.alloc (.cells #[.int .i64 0,.int .i64 1,.int .i64 2] 3))):=hid ((Below.refl _ _).alloc (le_refl _) _)
 go_wp2_with fail
 refine (O4_ E (unM 3 2) (unM 3 1) _ _ _ (J7_ _ _ 0 3 2 0) (J7_ _ _ 0 3 1 0) (J8_ ..) (J8_ ..) (g.out.up h.out) _ [0,1,2] y.out k36_).mono ?_;rintro e w7 ⟨rfl,C⟩;rw [Vf9];replace C:=Z0_ h.out (le_refl _) C;clear k m o p q r F G H I J K;clear y h;replace g:=hid (g.out.up C);replace c:=hid (c.out.below C c.out.lt);replace d:=hid (d.out.below C d.out.lt);replace Hb0:=hid (Z0_ Hb0.out (le_refl _) C);clear C;have k:=c.out.cell 0;have m:=c.out.cell 1;have o:=c.out.cell 2;have p:=c.out.cell 3;have q:=c.out.cell 4;have r:=c.out.cell 5;have F:=d.out.cell 0;have G:=d.out.cell 1;have H:=d.out.cell 2;have I:=d.out.cell 3;have J:=d.out.cell 4;have K:=d.out.cell 5
 go_wp2_with fail
 refine (O4_ E (unM 3 2) (unM 3 1) _ _ _ (J7_ _ _ 0 3 2 0) (J7_ _ _ 0 3 1 0) (J8_ ..) (J8_ ..) g.out _ [] (Row.nil_ _ _) k36_).mono ?_;rintro e T ⟨rfl,P⟩;rw [Vg0];clear k m o p q r F G H I J K;replace g:=hid (g.out.up P);replace c:=hid (c.out.below P c.out.lt);replace d:=hid (d.out.below P d.out.lt);replace Hb0:=hid (Z0_ Hb0.out (le_refl _) P);clear P;have k:=c.out.cell 0;have m:=c.out.cell 1;have o:=c.out.cell 2;have p:=c.out.cell 3;have q:=c.out.cell 4;have r:=c.out.cell 5;have F:=d.out.cell 0;have G:=d.out.cell 1;have H:=d.out.cell 2;have I:=d.out.cell 3;have J:=d.out.cell 4;have K:=d.out.cell 5;have y:=hid (Row.here (Row.lit1 T 3));have h:Hid (Below T.heap.size T (T.alloc (.cells #[.int .i64 3] 3))):=hid ((Below.refl _ _).alloc (le_refl _) _)
 go_wp2_with fail
 refine (O4_ E (unM 3 2) (unM 3 1) _ _ _ (J7_ _ _ 0 3 2 0) (J7_ _ _ 0 3 1 0) (J8_ ..) (J8_ ..) (g.out.up h.out) _ [3] y.out k36_).mono ?_;rintro e w9 ⟨rfl,D⟩;rw [Vg1];replace D:=Z0_ h.out (le_refl _) D;clear k m o p q r F G H I J K;clear y h;replace g:=hid (g.out.up D);replace c:=hid (c.out.below D c.out.lt);replace d:=hid (d.out.below D d.out.lt);replace Hb0:=hid (Z0_ Hb0.out (le_refl _) D);clear D;exact j2_
open Go Go.RowKit
theorem H4_ (a b:Mat) (M N:Value) (w:World) (ha:MatV w w.heap.size M a) (hb:MatV w w.heap.size N b) (J:Sml a) (K:Sml b):Calls Tryz.prog 40 #[M,N] w (Says w (mayP a b)):=by
 obtain ⟨G,C⟩:∃ c,chk a=c:=⟨_,rfl⟩;obtain ⟨H,D⟩:∃ c,chk b=c:=⟨_,rfl⟩;obtain ⟨y,E⟩:∃ y,decide (a.n=b.n)=y:=⟨_,rfl⟩;have F:(a.n==b.n)=y:=by rw [← E];rfl
 have R:=hid F;have I:mayP a b=((G==0) && ((H==0) && y)):=by unfold mayP;rw [C,D,E];cases y<;>simp
 rw [I];have O:=hid C;have P:=hid D;clear C D I E F;have S:=hid J;have T:=hid K;obtain ⟨la,ia,Y,W,U⟩:=ha.open;obtain ⟨lb,ib,Z,X,V⟩:=hb.open;obtain ⟨s,cl,rfl,_⟩:=W;obtain ⟨r,x,rfl,_⟩:=U;obtain ⟨v,B,rfl,_⟩:=X;obtain ⟨u,z,rfl,_⟩:=V;subst Y Z;obtain ⟨p,hW2⟩:∃ p,p=(w.alloc (.cells #[.int .i64 a.t,.int .i64 a.n,.int .i64 a.a,.int .i64 a.b,.slice s a.l.length cl,.slice r a.i.length x] 25)).alloc (.cells #[.int .i64 b.t,.int .i64 b.n,.int .i64 b.a,.int .i64 b.b,.slice v b.l.length B,.slice u b.i.length z] 25):=⟨_,rfl⟩;have Q:=hid hW2;have q:Below w.heap.size w p:=by rw [hW2];exact ((Below.refl _ w).alloc (le_refl _) _).alloc z36_ _
 have h:Hid (Blk p w.heap.size 25 #[.int .i64 a.t,.int .i64 a.n,.int .i64 a.a,.int .i64 a.b,.slice s a.l.length cl,.slice r a.i.length x]):=hid z37_;have d:Hid (Blk p (w.heap.size+1) 25 #[.int .i64 b.t,.int .i64 b.n,.int .i64 b.a,.int .i64 b.b,.slice v b.l.length B,.slice u b.i.length z]):=hid (by
  rw [hW2];have:=Blk.new (w.alloc (.cells #[.int .i64 a.t,.int .i64 a.n,.int .i64 a.a,.int .i64 a.b,.slice s a.l.length cl,.slice r a.i.length x] 25)) 25 #[.int .i64 b.t,.int .i64 b.n,.int .i64 b.a,.int .i64 b.b,.slice v b.l.length B,.slice u b.i.length z];simpa using this)
 have g:=hid q;have m:=hid (ha.up q);have o:=hid (hb.up q);clear hW2 q ha hb J K
 go_enter Tryz.func40,Tryz.ntmps40
 go_wp2_with fail
 rw [← Q.out];refine (Q4_ a _ _ m.out S.out).mono ?_;rintro e w3 ⟨rfl,j⟩;rw [O.out];replace m:=hid (m.out.up j);replace o:=hid (o.out.up j);replace h:=hid (h.out.below j h.out.lt);replace d:=hid (d.out.below j d.out.lt);replace g:=hid (Z0_ g.out (le_refl _) j);clear j;cases hx:(G==0)
 ·go_wp2
  go_ret;exact ⟨by rw [hx];rfl,g.out⟩
 ·have n0:=d.out.cell 0
  have L:=d.out.cell 1;have n2:=d.out.cell 2;have n3:=d.out.cell 3;have n4:=d.out.cell 4;have n5:=d.out.cell 5
  go_wp2_with fail
  refine (Q4_ b _ _ o.out T.out).mono ?_;rintro e w4 ⟨rfl,k⟩;rw [P.out];clear n0 L n2 n3 n4 n5;replace m:=hid (m.out.up k);replace o:=hid (o.out.up k);replace h:=hid (h.out.below k h.out.lt);replace d:=hid (d.out.below k d.out.lt);replace g:=hid (Z0_ g.out (le_refl _) k);clear k;cases hz:(H==0)
  ·go_wp2
   go_ret;exact ⟨by rw [hx,hz];rfl,g.out⟩
  ·have k1:=h.out.cell 1
   have L:=d.out.cell 1;have F:=R.out;cases y
   all_goals
    go_wp2;go_ret;exact ⟨by rw [hx,hz];rfl,g.out⟩
theorem Zv6 (a b:Mat) (J K:Value) (w:World) (ha:MatV w w.heap.size J a) (hb:MatV w w.heap.size K b) (G:Sml a) (H:Sml b) (I:Value) (s:List Int) (D:Row w w.heap.size I s):Calls Tryz.prog 41 #[J,K,I] w (Says w (indT a s && indT b s)):=by
 obtain ⟨x,E⟩:∃ x,indT a s=x:=⟨_,rfl⟩;obtain ⟨y,F⟩:∃ y,indT b s=y:=⟨_,rfl⟩;rw [E,F];have M:=hid E;have N:=hid F;clear E F;have O:=hid G;have P:=hid H;obtain ⟨la,ia,V,S,Q⟩:=ha.open;obtain ⟨lb,ib,W,T,R⟩:=hb.open;obtain ⟨r,cl,rfl,_⟩:=S;obtain ⟨q,z,rfl,_⟩:=Q;obtain ⟨v,C,rfl,_⟩:=T;obtain ⟨u,B,rfl,_⟩:=R;obtain ⟨Aw,cw,U,_⟩:=id D;subst V W U;obtain ⟨m,hW2⟩:∃ m,m=(w.alloc (.cells #[.int .i64 a.t,.int .i64 a.n,.int .i64 a.a,.int .i64 a.b,.slice r a.l.length cl,.slice q a.i.length z] 25)).alloc (.cells #[.int .i64 b.t,.int .i64 b.n,.int .i64 b.a,.int .i64 b.b,.slice v b.l.length C,.slice u b.i.length B] 25):=⟨_,rfl⟩;have L:=hid hW2;have o:Below w.heap.size w m:=by rw [hW2];exact ((Below.refl _ w).alloc (le_refl _) _).alloc z36_ _
 have g:Hid (Blk m w.heap.size 25 #[.int .i64 a.t,.int .i64 a.n,.int .i64 a.a,.int .i64 a.b,.slice r a.l.length cl,.slice q a.i.length z]):=hid z37_;have c:Hid (Blk m (w.heap.size+1) 25 #[.int .i64 b.t,.int .i64 b.n,.int .i64 b.a,.int .i64 b.b,.slice v b.l.length C,.slice u b.i.length B]):=hid (by
  rw [hW2];have:=Blk.new (w.alloc (.cells #[.int .i64 a.t,.int .i64 a.n,.int .i64 a.a,.int .i64 a.b,.slice r a.l.length cl,.slice q a.i.length z] 25)) 25 #[.int .i64 b.t,.int .i64 b.n,.int .i64 b.a,.int .i64 b.b,.slice v b.l.length C,.slice u b.i.length B];simpa using this)
 have Hb0:=hid o;have j:=hid (ha.up o);have k:=hid (hb.up o);have p:=hid (D.up o);clear hW2 o ha hb G H D
 go_enter Tryz.func41,Tryz.ntmps41
 go_wp2_with fail
 rw [← L.out];refine (Zk4 a _ _ s _ j.out O.out p.out).mono ?_;rintro e w3 ⟨rfl,d⟩;rw [M.out];replace j:=hid (j.out.up d);replace k:=hid (k.out.up d);replace p:=hid (p.out.up d);replace g:=hid (g.out.below d g.out.lt);replace c:=hid (c.out.below d c.out.lt);replace Hb0:=hid (Z0_ Hb0.out (le_refl _) d);clear d;cases x
 ·exact j2_
 ·have X:=c.out.cell 0
  have Y:=c.out.cell 1;have Z:=c.out.cell 2;have n3:=c.out.cell 3;have n4:=c.out.cell 4;have n5:=c.out.cell 5
  go_wp2_with fail
  refine (Zk4 b _ _ s _ k.out P.out p.out).mono ?_;rintro e w4 ⟨rfl,h⟩;rw [N.out];clear X Y Z n3 n4 n5;replace j:=hid (j.out.up h);replace k:=hid (k.out.up h);replace g:=hid (g.out.below h g.out.lt);replace c:=hid (c.out.below h c.out.lt);replace Hb0:=hid (Z0_ Hb0.out (le_refl _) h);clear h;exact j2_
theorem Yd0 (a b:Mat) (va vb:Value) (w:World) (ha:MatV w w.heap.size va a) (hb:MatV w w.heap.size vb b) (x4:Sml a) (x5:Sml b) (sw:Value) (s:List Int) (Y:Row w w.heap.size sw s) (xu:s.length≤1048576):Calls Tryz.prog 39 #[va,vb,sw] w (Tells w (A7_ a b s)):=by
 have xs:=P3_ a s;have xt:=P3_ b (Z4_ (allL a.n) s);have x7:IntKind.i64.wrap (rankT a s+rankT b (Z4_ (allL a.n) s))=rankT a s+rankT b (Z4_ (allL a.n) s):=q37_;have x8:=hid x7;have xn:(allL a.n).length≤1048576:=B6_ a.n;clear xs xt x7;have P:=hid x4;have Q:=hid x5;obtain ⟨la,ia,xw,xq,xo⟩:=ha.open;obtain ⟨lb,ib,xx,xr,xp⟩:=hb.open;obtain ⟨D,cl,rfl,_⟩:=xq;obtain ⟨C,H,rfl,_⟩:=xo;obtain ⟨F,J,rfl,_⟩:=xr;obtain ⟨E,I,rfl,_⟩:=xp;obtain ⟨U,X,xv,_⟩:=id Y;subst xw xx xv;obtain ⟨L,hW2⟩:∃ L,L=(w.alloc (.cells #[.int .i64 a.t,.int .i64 a.n,.int .i64 a.a,.int .i64 a.b,.slice D a.l.length cl,.slice C a.i.length H] 25)).alloc (.cells #[.int .i64 b.t,.int .i64 b.n,.int .i64 b.a,.int .i64 b.b,.slice F b.l.length J,.slice E b.i.length I] 25):=⟨_,rfl⟩;have G:=hid hW2;have M:Below w.heap.size w L:=by rw [hW2];exact ((Below.refl _ w).alloc (le_refl _) _).alloc z36_ _
 have g:Hid (Blk L w.heap.size 25 #[.int .i64 a.t,.int .i64 a.n,.int .i64 a.a,.int .i64 a.b,.slice D a.l.length cl,.slice C a.i.length H]):=hid z37_;have k:Hid (Blk L (w.heap.size+1) 25 #[.int .i64 b.t,.int .i64 b.n,.int .i64 b.a,.int .i64 b.b,.slice F b.l.length J,.slice E b.i.length I]):=hid (by
  rw [hW2];have:=Blk.new (w.alloc (.cells #[.int .i64 a.t,.int .i64 a.n,.int .i64 a.a,.int .i64 a.b,.slice D a.l.length cl,.slice C a.i.length H] 25)) 25 #[.int .i64 b.t,.int .i64 b.n,.int .i64 b.a,.int .i64 b.b,.slice F b.l.length J,.slice E b.i.length I];simpa using this)
 have y:=hid M;have m:=hid (ha.up M);have o:=hid (hb.up M);have q:=hid (Y.up M);clear hW2 M ha hb x4 x5 Y;cases hm:mayP a b with
 | false =>
  have O:=hid hm;have B:A7_ a b s=-1:=by unfold A7_;rw [hm];rfl
  rw [B];clear hm B
  go_enter Tryz.func39,Tryz.ntmps39
  go_wp2_with fail
  rw [← G.out];refine (H4_ a b _ _ _ m.out o.out P.out Q.out).mono ?_;rintro e w3 ⟨rfl,c⟩;rw [O.out];clear G;have x9:=hid (Z0_ y.out (le_refl _) c);clear c;go_wp2;go_ret;exact ⟨rfl,x9.out⟩
 | true =>
  have O:=hid hm;have S:=mayP_iff.1 hm;have T:mayI a s=okA a.n s:=by rw [Yi6,S.2.1];rfl
  cases hi:okA a.n s with
  | false =>
   have V:=hid hi;have B:A7_ a b s=-1:=by unfold A7_;rw [hm,T,hi];rfl
   rw [B];clear hm hi B T S
   go_enter Tryz.func39,Tryz.ntmps39
   go_wp2_with fail
   rw [← G.out];refine (H4_ a b _ _ _ m.out o.out P.out Q.out).mono ?_;rintro e w3 ⟨rfl,c⟩;rw [O.out];clear G;replace m:=hid (m.out.up c);replace o:=hid (o.out.up c);replace q:=hid (q.out.up c);replace g:=hid (g.out.below c g.out.lt);replace k:=hid (k.out.below c k.out.lt);replace y:=hid (Z0_ y.out (le_refl _) c);clear c;have k1:=g.out.cell 1
   go_wp2_with fail
   refine (E2_ _ s a.n _ q.out).mono ?_;rintro e K ⟨rfl,r⟩;rw [V.out];clear k1;have xa:=hid (Z0_ y.out (le_refl _) r);clear r;go_wp2;go_ret;exact ⟨rfl,xa.out⟩
  | true =>
   have V:=hid hi;have B:A7_ a b s=rankT a s+rankT b (Z4_ (allL a.n) s):=by unfold A7_;rw [hm,T,hi,S.1];rfl
   rw [B];clear hm hi B T S
   go_enter Tryz.func39,Tryz.ntmps39
   go_wp2_with fail
   rw [← G.out];refine (H4_ a b _ _ _ m.out o.out P.out Q.out).mono ?_;rintro e w3 ⟨rfl,c⟩;rw [O.out];clear G;replace m:=hid (m.out.up c);replace o:=hid (o.out.up c);replace q:=hid (q.out.up c);replace g:=hid (g.out.below c g.out.lt);replace k:=hid (k.out.below c k.out.lt);replace y:=hid (Z0_ y.out (le_refl _) c);clear c;have k1:=g.out.cell 1
   go_wp2_with fail
   refine (E2_ _ s a.n _ q.out).mono ?_;rintro e K ⟨rfl,r⟩;rw [V.out];clear k1;replace m:=hid (m.out.up r);replace o:=hid (o.out.up r);replace q:=hid (q.out.up r);replace g:=hid (g.out.below r g.out.lt);replace k:=hid (k.out.below r k.out.lt);replace y:=hid (Z0_ y.out (le_refl _) r);clear r;have z:Hid (∀ W,Below K.drew.heap.size K.drew W→Below K.heap.size K W):=hid fun W d=>Z0_ (Below.refl _ K).drew (le_refl _) d;go_wp2;refine E0_ (ops:=yrO) (yrK ⟨w.heap.size,w.heap.size+1,.int .i64 a.t,.int .i64 a.n,.int .i64 a.a,.int .i64 a.b,.slice D a.l.length cl,.slice C a.i.length H,.int .i64 b.t,.int .i64 b.n,.int .i64 b.a,.int .i64 b.b,.slice F b.l.length J,.slice E b.i.length I,.slice U s.length X,Z4_ (allL a.n) s,allL a.n,a.n,rankT a s,rankT b (Z4_ (allL a.n) s)⟩) q36_ q36_ (Vk7 (x:=⟨w.heap.size,w.heap.size+1,.int .i64 a.t,.int .i64 a.n,.int .i64 a.a,.int .i64 a.b,.slice D a.l.length cl,.slice C a.i.length H,.int .i64 b.t,.int .i64 b.n,.int .i64 b.a,.int .i64 b.b,.slice F b.l.length J,.slice E b.i.length I,.slice U s.length X,Z4_ (allL a.n) s,allL a.n,a.n,rankT a s,rankT b (Z4_ (allL a.n) s)⟩) ⟨rfl,rfl,rfl,?hK1,?hK2,?hN,?hR1,?hR2,?hL,?hO,x8.out⟩) ?_
   case hK1=>exact fun W d=>by have h:=g.out.below (z.out W d) g.out.lt;exact ⟨h.cell 0,h.cell 1,h.cell 2,h.cell 3,h.cell 4,h.cell 5⟩
   case hK2=>exact fun W d=>by have h:=k.out.below (z.out W d) k.out.lt;exact ⟨h.cell 0,h.cell 1,h.cell 2,h.cell 3,h.cell 4,h.cell 5⟩
   case hN=>exact fun W d=>(g.out.below (z.out W d) g.out.lt).cell 1
   case hR1=>exact fun W d=>Zf2 a _ _ s W (m.out.up (z.out W d)) P.out (q.out.up (z.out W d))
   case hR2=>exact fun W d u Z=>Zf2 b _ u _ W (o.out.up (z.out W d)) Q.out Z
   case hL=>exact fun W d=>K5_ a.n W
   case hO=>exact fun W d u Z=>H8_ u _ (allL a.n) s W Z (q.out.up (z.out W d)) xn xu
   intro j W d x6 x1 x3 x0;have xb:=hid (Z0_ y.out (le_refl _) (z.out W d));obtain ⟨xy,xc⟩:∃ v,j.tmps.getD 18 undef=v:=⟨_,rfl⟩;obtain ⟨xz,xd⟩:∃ v,j.tmps.getD 19 undef=v:=⟨_,rfl⟩;obtain ⟨y0,xe⟩:∃ v,j.tmps.getD 20 undef=v:=⟨_,rfl⟩;obtain ⟨y1,xf⟩:∃ v,j.tmps.getD 21 undef=v:=⟨_,rfl⟩;obtain ⟨y2,xg⟩:∃ v,j.tmps.getD 22 undef=v:=⟨_,rfl⟩;obtain ⟨y3,xh⟩:∃ v,j.tmps.getD 23 undef=v:=⟨_,rfl⟩;obtain ⟨y4,xi⟩:∃ v,j.tmps.getD 24 undef=v:=⟨_,rfl⟩;obtain ⟨y5,xj⟩:∃ v,j.tmps.getD 25 undef=v:=⟨_,rfl⟩;obtain ⟨y6,xk⟩:∃ v,j.tmps.getD 26 undef=v:=⟨_,rfl⟩;obtain ⟨y7,xl⟩:∃ v,j.tmps.getD 27 undef=v:=⟨_,rfl⟩;obtain ⟨y8,xm⟩:∃ v,j.tmps.getD 28 undef=v:=⟨_,rfl⟩;have R:=x0 11 6 (by rw [show yrO.size=12 by kernel_rfl];decide) q36_;rw [show ek yrO (yrK ⟨w.heap.size,w.heap.size+1,.int .i64 a.t,.int .i64 a.n,.int .i64 a.a,.int .i64 a.b,.slice D a.l.length cl,.slice C a.i.length H,.int .i64 b.t,.int .i64 b.n,.int .i64 b.a,.int .i64 b.b,.slice F b.l.length J,.slice E b.i.length I,.slice U s.length X,Z4_ (allL a.n) s,allL a.n,a.n,rankT a s,rankT b (Z4_ (allL a.n) s)⟩) 11=.eq (.int .i64 (rankT a s+rankT b (Z4_ (allL a.n) s))) from by kernel_rfl] at R;have R:j.tmps.getD 6 undef=.int .i64 (rankT a s+rankT b (Z4_ (allL a.n) s)):=R;have x2:=U0_ (ops:=yrO) (n:=12) (N:=29) [(18,xy),(19,xz),(20,y0),(21,y1),(22,y2),(23,y3),(24,y4),(25,y5),(26,y6),(27,y7),(28,y8),(6,.int .i64 (rankT a s+rankT b (Z4_ (allL a.n) s)))] rfl x6 x1 (fun t ht=>x3 t (by unfold Zx5;rw [show yrO.size=12 by kernel_rfl];exact ht)) q36_ (by
    intro p hp;simp only [List.mem_cons,List.not_mem_nil,or_false] at hp;rcases hp with rfl | rfl | rfl | rfl | rfl | rfl | rfl | rfl | rfl | rfl | rfl | rfl<;>assumption)
   clear x3 x0 x6 x1 xc xd xe xf xg xh xi xj xk xl xm R;rw [x2];clear x2;simp only [show List.range 29=[0,1,2,3,4,5,6,7,8,9,10,11,12,13,14,15,16,17,18,19,20,21,22,23,24,25,26,27,28] from by decide,List.map_cons,List.map_nil,List.lookup_cons,List.lookup_nil];go_simp;go_wp2;go_ret;exact ⟨rfl,xb.out⟩
end Wp
end Go.Proofs.YteiejkhdonmcdaaGreatDoor
