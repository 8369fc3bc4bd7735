/- union's stands, walked (written by gen_ustand.py). -/
import Derived.Test.YtheeajnkiniopaaGreatDoorUTurn
import Derived.Test.YtheeajnkiniopaaGreatDoorZI
import Derived.Test.YtheeajnkiniopaaGreatDoorZR
import Derived.Test.YtheeajnkiniopaaGreatDoorZT
import Derived.Deep.Slices
import Derived.Test.YtheeajnkiniopaaGreatDoorX0A
import Derived.Test.YtheeajnkiniopaaGreatDoorX0B
set_option maxHeartbeats 8000000
set_option maxRecDepth 100000
open Go.Lib (hid)
open Nat (le_refl)
namespace Go.Proofs.YtheeajnkiniopaaGreatDoor.Wp
open Go Go.RowKit
theorem Yj3 {l:List Int} {P:Int→Bool} {k:Nat} (h:k<l.length):(l.take (k+1)).filter P=(l.take k).filter P ++ if P (l.getD k 0)=true then [l.getD k 0] else []:=by
 rw [List.take_succ_eq_append_getElem h,List.filter_append];congr 1;rw [show l.getD k 0=l[k] by simp [List.getD,h]];cases hp:P l[k]<;>simp [List.filter,hp]
theorem Zx4 (a b:List Int):(Z9_ a b).length≤a.length:=k26_
theorem Yf8 (E:Nat→Addr) (ms:List Mat) (p H:Option Addr) (r q:Nat) (c:List Int) (x:Nat) (sv:Value) (s:List Int) (w:World) (hl:MatL w w.heap.size (.slice p ms.length r) ms) (hs:∀ m∈ms,Sml m) (ho:Row w w.heap.size (.slice H c.length q) c) (Y:Row w w.heap.size sv s) (x9:c.length≤64) (hx:x<c.length) (xw:s.length≤64) (xe:∀ y∈s,(0≤y∧y<(c.length:Int))∧0≤c.getD y.toNat 0∧c.getD y.toNat 0<(ms.length:Int)) (hE:Env E w) :
  Calls Tryz.prog 67 #[.agg #[.slice p ms.length r,.slice H c.length q],.int .i64 (x:Int),sv] w (GivesF w (s.filter fun y=>A6_ ms c (x:Int) y)):=by
 have xy:(x:Int)<(c.length:Int):=x37_;have xu:(c.length:Int)≤64:=x37_;have xx:(s.length:Int)≤64:=x37_;obtain ⟨As,cs,rfl,_⟩:=id Y;obtain ⟨o,hW0⟩:∃ o,o=w.alloc (.cells #[.slice p ms.length r,.slice H c.length q] 47):=⟨_,rfl⟩;have xk:=hid hW0;have v:Below w.heap.size w o:=q39_;have x7:Blk o w.heap.size 47 #[.slice p ms.length r,.slice H c.length q]:=y41_;have Hb0:=hid v;have x3:=hid x7;have HL:=hid (hl.up v);have N:=hid (ho.up v);have HE:=hid (hE.up v);have Hs:=hid hs;have HS:=hid (Y.up v);have xn:=hid xe;clear hW0 v x7 hl ho hE hs Y xe
 go_enter Tryz.func67,Tryz.ntmps67
 go_wp2;rw [← xk.out]
 go_loopw [7,9,10,13] (fun v7 _ _ vk wr=>∃ j:Nat,vk=.int .i64 j∧j≤s.length∧wr.ownsRow o.heap.size 3 1 v7 ((s.take j).filter fun y=>A6_ ms c (x:Int) y).length (ints ((s.take j).filter fun y=>A6_ ms c (x:Int) y))∧Below o.heap.size o wr) (fun _ _ _ vk _=>s.length - (intOf vk).toNat)
 case atStart=>exact ⟨0,rfl,Nat.zero_le _,World.ownsRow_nil _ _ _ _,Below.refl _ _⟩
 case round =>
  obtain ⟨j,rfl,hj,xf,hb⟩:=hrel;have Hown:=hid xf;have Hb:=hid hb;clear xf;by_cases V:j<s.length
  ·have xv:(j:Int)<(s.length:Int):=by omega
   have Hkr:=hid (x3.out.below hb x3.out.lt);obtain ⟨ax,u,xd⟩:=Row.nth HS.out V;subst u;obtain ⟨I,u,xc⟩:=Row.nth N.out hx;subst u;have L:=xn.out _ (Q5_ 0 V);have Hn:=hid (Yj3 (P:=fun y=>A6_ ms c (x:Int) y) V);have xm:Hid (((s.take j).filter fun y=>A6_ ms c (x:Int) y).length≤1048576):=hid (Nat.le_trans (List.length_filter_le _ _) k39_);have O:=xd wr hb;obtain ⟨y,hy⟩:∃ y:Nat,s.getD j 0=(y:Int):=⟨(s.getD j 0).toNat,x37_⟩;rw [hy] at L Hn O;rw [Int.toNat_natCast] at L;have xt:y<c.length:=x37_;have xz:(y:Int)<(c.length:Int):=x37_;obtain ⟨ay,u,T⟩:=Row.nth N.out xt;obtain rfl:=Option.some.inj u;obtain ⟨k,U⟩:∃ k:Nat,c.getD y 0=(k:Int):=⟨(c.getD y 0).toNat,x37_⟩;rw [U] at L T;have xr:k<ms.length:=x37_;have g1:=T wr hb;have g2:=Hkr.out.cell 1;have xi:=hid (HL.out.up hb);have x2:=hid (N.out.up hb);have xh:=hid (HE.out.up hb);have HOc:=hid xc;obtain ⟨z,hz⟩:∃ z,c.getD x 0=z:=⟨_,rfl⟩;have x5:Hid (A6_ ms c (x:Int) (y:Int)=(!((k:Int)==z) && indT (ms.getD k default) (Y2_ (Z9_ (Z3_ c (k:Int)) [(y:Int)]) [(x:Int)]))):=hid (by
    unfold A6_;rw [Int.toNat_natCast,Int.toNat_natCast,U,hz,Ze6,decide_eq_true (show (0:Int)≤(k:Int) by omega),Bool.true_and])
   have xb:(Z9_ (Z3_ c (k:Int)) [(y:Int)]).length≤1000:=by have J:=Y4_ (J2_ x9 (k:Int));have Q:=Zx4 (Z3_ c (k:Int)) [(y:Int)];omega
   have xa:(Z3_ c (k:Int)).length≤1048576:=by have J:=Y4_ (J2_ x9 (k:Int));omega
   have xl:=hid xb;have x4:=hid xa;rw [hz] at HOc;have HK:Hid (∀ W,Below wr.drew.heap.size wr.drew W→W.cell? ⟨w.heap.size,0,none⟩=some (.slice p ms.length r)∧W.cell? ⟨w.heap.size,1,none⟩=some (.slice (some I) c.length q)∧W.cell? (I.add x)=some (.int .i64 z)):=hid fun W hW=>y14_;generalize (s.take j).filter (fun y=>A6_ ms c (x:Int) y)=Z at *
   have d:Hid (Below wr.drew.heap.size wr.drew wr.drew):=hid (Below.refl _ _);have xo:=hid xr;clear hb xc xd T hz xb xa hy U L u;by_cases K:(k:Int)=z
   ·have xs:((k:Int) != z)=false:=by rw [K];simp
    have X:((k:Int)==z)=true:=by rw [K];simp
    have hrf:Hid (A6_ ms c (x:Int) (y:Int)=false):=hid (by rw [x5.out,X];rfl);go_wp2;refine Z6_ wr.heap.size wr y37_ y37_ (Below.refl _ _) ?_
    iterate 20 (first
     | go_big_quiet_skip
     | (go_big_quiet_want;apply Exists.intro;refine ⟨fun W hW=>?_,?_⟩;(· have h:=Hkr.out.below hW Hkr.out.lt;have q0:=h.cell 0;have q1:=h.cell 1;have q2:=HOc.out W (Z0_ Hb.out (le_refl _) hW);go_simp;first | exact rfl | exact ⟨rfl,rfl⟩);go_simp;go_big_quiet_on))
    refine wpQuiet_nil ?_;intro w5 R;have Hb5:=hid (Z0_ Hb.out (le_refl _) R);have Ho5:=hid (I6_ Hown.out R);clear R O g1 g2;exact j11_
   ·have xs:((k:Int) != z)=true:=by simpa using K
    have X:((k:Int)==z)=false:=by simpa using K
    obtain ⟨b,S⟩:∃ b,indT (ms.getD k default) (Y2_ (Z9_ (Z3_ c (k:Int)) [(y:Int)]) [(x:Int)])=b:=⟨_,rfl⟩;have HY:=hid S;have hrf:Hid (A6_ ms c (x:Int) (y:Int)=b):=hid (by rw [x5.out,X,S];rfl);have x8:c.length≤1048576:=x37_;have C:Hid (∀ W,Below wr.drew.heap.size wr.drew W→Below wr.heap.size wr W):=hid fun W hW=>Z0_ (Below.refl _ wr).drew (le_refl _) hW;clear S;go_wp2
    go_region_held3 (fun W=>W.cell? ⟨w.heap.size,0,none⟩=some (.slice p ms.length r)∧W.cell? ⟨w.heap.size,1,none⟩=some (.slice (some I) c.length q)∧W.cell? (I.add x)=some (.int .i64 z))
     (first | exact HK.out _ d.out | exact HK.out _ (d.out.alloc d.out.size _))
     (first
     | (go_at_call 18;refine (G0_ _ c (k:Int) wr.drew (x2.out.up (C.out _ d.out)) x8).mono ?_;rintro e w3 ⟨v3,rfl,F,B,_⟩;replace d:=hid (Z0_ d.out (le_refl _) B);have M:=hid F;clear F B)
     | (go_at_call 18;refine (G0_ _ c (k:Int) (wr.drew.alloc (.cells #[.int .i64 (y:Int)] 3)) (x2.out.up (C.out _ (d.out.alloc (le_refl _) _))) x8).mono ?_;rintro e w3 ⟨v3,rfl,F,B,_⟩;have xj:=hid ((Row.here (Row.lit1 wr.drew (y:Int))).up B);replace d:=hid (Z0_ (d.out.alloc (le_refl _) _) (le_refl _) B);have M:=hid F;clear F B)
     | (go_at_call 64;refine (N3_ _ _ (Z3_ c (k:Int)) [(y:Int)] _ M.out xj.out x4.out j37_).mono ?_;rintro e w4 ⟨v4,rfl,G,D⟩;replace d:=hid (Z0_ d.out (le_refl _) D);have x1:=hid G;clear G D)
     | (go_at_call 64;refine (N3_ _ _ (Z3_ c (k:Int)) [(y:Int)] _ (M.out.upA _) (Row.here (Row.lit1 _ (y:Int))) x4.out j37_).mono ?_;rintro e w4 ⟨v4,rfl,G,D⟩;replace d:=hid (Z0_ (d.out.alloc d.out.size _) (le_refl _) D);have x1:=hid G;clear G D)
     | (go_at_call 91;refine (Zk5 E ms _ _ _ (Z9_ (Z3_ c (k:Int)) [(y:Int)]) k (x:Int) _ (xi.out.up (C.out _ d.out)) xo.out Hs.out x1.out xl.out (xh.out.up (C.out _ d.out))).mono ?_;rintro e w5 ⟨rfl,x6⟩;rw [HY.out];replace d:=hid (Z0_ d.out (le_refl _) x6);clear x6))
    all_goals
     have x0:=hid (C.out _ d.out);have Hb5:=hid (Z0_ Hb.out (le_refl _) x0.out);have Ho5:=hid (I6_ Hown.out x0.out);clear O g1 g2;cases b
     ·exact j11_
     ·go_wp2_with (at_builtin;refine Z5_ rfl _ _ rfl o.heap.size _ _ _ Z [(y:Int)] rfl rfl (Ho5.out.alloc _) (Row.lit1 _ _) (by have:=xm.out;omega) j37_ k44_ ?_)
      intro v' y0 J Q;have xg:=hid ((Hb5.out.alloc Hb5.out.size _).grown Q k44_ (fun i hi=>(Ho5.out.lt i hi).1));have xp:=hid J;clear J Q;go_wp2
      go_roundw
      case rel=>exact ⟨j+1,y38_,x37_,by rw [Hn.out,if_pos hrf.out,List.length_append];exact xp.out,xg.out⟩
      exact mz_
  ·have xq:j=s.length:=by omega
   subst xq;rw [List.take_length] at Hown;exact q13_
open Go Go.RowKit
theorem Row.behindV {w:World} {B:Nat} {d:Addr} {n c:Nat} {x:Int} {l:List Int} (h:Row w B (.slice (some d) n c) (x :: l)):Row w B (.slice (some (d.add 1)) l.length (c - 1)) l∧n=l.length+1∧1≤c:=by
 obtain ⟨A,o,e,⟨g,p,_⟩,k⟩:=h;injection e with e1 e2 e3;subst e1 e2 e3;simp only [List.length_cons] at g;refine ⟨⟨some (d.add 1),c - 1,rfl,⟨x37_,x37_,fun e=>by cases e⟩,fun i q=>?_⟩,rfl,x37_⟩;obtain ⟨m,f,hb,j⟩:=k (i+1) (by simp only [List.length_cons];omega);injection f with f;subst f;refine ⟨d.add 1,rfl,by rw [Z2_];exact hb,?_⟩;rw [Go.Deep.add_add,Nat.add_comm 1 i,j];rfl
theorem Xm9 (a b:List Int):(Z9_ a b).length≤a.length:=k26_
theorem Va1 {l:List Int} {p:Int→Bool} {k:Nat} (c:k<l.length) (h:(l.take k).any p=false):(l.take (k+1)).any p=p (l.getD k 0):=by
 rw [List.take_succ_eq_append_getElem c,List.any_append,h,show l[k]=l.getD k 0 by simp [List.getD,c]];simp
theorem Zg0 (l:List (List Int)) (hl:∀ i,IsSet (l.getD i [])) (T:∀ i,(l.getD i []).length≤64) (hL:l.length≤64):∀ (s d:List Int) (j m o:Value) (w:World),(∀ x∈s,0≤x∧x<(l.length:Int))→IsSet d→d.length+s.length≤1000→Rows2 w w.heap.size j l→Row w w.heap.size m s→Row w w.heap.size o d →
  Calls Tryz.prog 140 #[j,m,o] w (Says w (F1_ l s d))
 | [],d,j,m,o,w,_,_,_,hv,hs,hu=>by
  obtain ⟨As,cs,rfl,_⟩:=hs
  go_enter Tryz.func140,Tryz.ntmps140
  exact k3_
 | x :: s,d,j,m,o,w,hin,hus,hsz,hv,hs,hu=>by
  have ih:Hid (∀ (d:List Int) (j m o:Value) (w:World),IsSet d→d.length+s.length≤1000→Rows2 w w.heap.size j l→Row w w.heap.size m s→Row w w.heap.size o d →
   Calls Tryz.prog 140 #[j,m,o] w (Says w (F1_ l s d))):=hid fun d j m o w g p h3 h4 h5=>Zg0 l hl T hL s d j m o w (fun y hy=>hin y q42_) g p h3 h4 h5
  have HV:=hid hv;have HS:=hid hs;have HU:=hid hu;have xw:=hid hus;obtain ⟨X,R⟩:∃ X:Nat,x=(X:Int):=⟨x.toNat,by have:=hin x j37_;omega⟩;have xo:X<l.length:=by have:=hin x j37_;omega
  have y1:(X:Int)<(l.length:Int):=x37_;have xv:=hid (hl X);have xh:=hid (T X);obtain ⟨Al,cl,rfl,_⟩:=id hv;obtain ⟨As,cs,rfl,_⟩:=id hs;obtain ⟨Au,cu,rfl,_⟩:=id hu;obtain ⟨E,Q,x6⟩:=Row.nthV hs (k:=0) j37_;subst Q;have P:=x6 w (Below.refl _ _);rw [show (x :: s).getD 0 0=(X:Int) from R,add_zero] at P;obtain ⟨xx,ul,xn,gl,xa⟩:=Rows2.read hv X xo;subst xn;have xi:=hid xa;obtain ⟨C,_,y2⟩:=Row.behindV hs;have xd:=hid C;have y3:(1:Int)≤(cs:Int):=x37_;have y4:(s.length:Int)+1≤(cs:Int):=by obtain ⟨_,_,e,⟨g,_⟩,_⟩:=id hs;injection e with e1 I e3;subst e3;simp only [List.length_cons] at g;omega
  have xb:d.length≤1048576:=x37_;have xr:(Z9_ (l.getD X []) d).length≤64:=Nat.le_trans (Xm9 _ _) (T X);have xs:((Z9_ (l.getD X []) d).length:Int)≤64:=x37_;have K:Hid (F1_ l (x :: s) d=(Z9_ (l.getD X []) d).any fun r=>F1_ l s (Y2_ d [r])):=hid (by rw [F1_,R,Int.toNat_natCast]);have xg:=hid (G6_ (l.getD X []) d);clear hv hs hu hin hus C xa x6 R
  go_enter Tryz.func140,Tryz.ntmps140
  go_wp2_with fail
  refine (O5_ _ _ (l.getD X []) d _ xi.out HU.out (by have:=xh.out;omega) xb).mono ?_;rintro e w1 ⟨v1,rfl,x8,x4⟩;have N:=hid x8;have x0:=hid x4;obtain ⟨M,hM⟩:∃ M,Z9_ (l.getD X []) d=M:=⟨_,rfl⟩;rw [hM] at N xr xs K xg;obtain ⟨Am,H,rfl,_⟩:=id N.out;have xe:=hid P;have xp:E.block<w.heap.size:=by obtain ⟨_,_,e,_,hk⟩:=HS.out;injection e with e1;subst e1;obtain ⟨a,I,hb,_⟩:=hk 0 j37_;injection I with I;rw [I];exact hb
  clear x8 x4 hM P gl;go_wp2
  go_loopw [6,8] (fun _ Z wr=>∃ k:Nat,Z=.int .i64 (k:Int)∧k≤M.length∧Hid ((M.take k).any (fun r=>F1_ l s (Y2_ d [r]))=false∧Below w1.heap.size w1 wr)) (fun _ Z _=>M.length - (intOf Z).toNat)
  case atStart=>exact ⟨0,rfl,Nat.zero_le _,j37_,Below.refl _ _⟩
  case round =>
   obtain ⟨k,rfl,hk,B⟩:=hrel;by_cases x7:k<M.length
   ·have y8:(k:Int)<(M.length:Int):=by omega
    have ya:IntKind.i64.wrap ((k:Int)+1)=(k:Int)+1:=q38_;obtain ⟨ad,Q,_,y5,U⟩:=Row.oneV (N.out.up B.out.2) x7;subst Q;have y6:(k:Int)+1≤(H:Int):=x37_;have y7:(k:Int)≤(k:Int)+1:=x37_;have v:=hid (Z0_ x0.out (le_refl _) B.out.2);obtain ⟨r,V⟩:∃ r,M.getD k 0=r:=⟨_,rfl⟩;rw [V] at U;have x2:Hid (∀ (A:Option Addr) (n c:Nat),A=some (ad.add k)→n=1→c=H - k→Row wr wr.heap.size (.slice A n c) [r]):=hid fun A n c g p h3=>by subst g p h3;exact U
    have D:=hid (Va1 x7 B.out.1);rw [V] at D;have xf:Hid ((Y2_ d [r]).length+s.length≤1000):=hid (by have:=Zv0 d [r];simp only [List.length_cons,List.length_nil] at this hsz;omega);clear U V;obtain ⟨z,Y⟩:∃ z,F1_ l s (Y2_ d [r])=z:=⟨_,rfl⟩;have F:=(Below.refl wr.heap.size wr).drew;have xl:=hid ((HU.out.up v.out).up F);have O:=hid ((HV.out.up v.out).up F);have C:=(xd.out.up v.out).up F;have x3:Hid (cs=1→s=[]):=hid fun h=>List.eq_nil_of_length_eq_zero x37_;have xj:Hid (∀ (A:Option Addr) (n c:Nat),(A=some (E.add 1)∨(s=[]∧A=some E))→n=s.length→c=cs - 1→∀ W,Below wr.drew.heap.size wr.drew W→Row W W.heap.size (.slice A n c) s):=hid fun A n c g p h3 W J=>by
     subst p h3;rcases g with rfl | ⟨g,rfl⟩
     ·exact C.up J
     ·have hc:=C.up J
      obtain ⟨_,_,e,⟨q1,q2,_⟩,_⟩:=hc;injection e with _ _ e3;subst e3;subst g;exact ⟨_,_,rfl,⟨q1,q2,fun e=>by cases e⟩,fun i hi=>absurd hi j37_⟩
    have xy:(1:Int)≤(s.length:Int)+1:=x37_;have xz:(0:Int)≤1:=x37_;have y0:((s.length:Int)+1 - 1).toNat=s.length:=x37_;have xm:Hid (∀ (A:Option Addr) (n c:Nat),A=some (ad.add k)→n=1→c=H - k→Row wr.drew wr.drew.heap.size (.slice A n c) [r]):=hid fun A n c g p h3=>(x2.out A n c g p h3).up F;have u:Hid (Below wr.drew.heap.size wr.drew wr.drew):=hid (Below.refl _ _);have K5:Hid (∀ W,Below wr.drew.heap.size wr.drew W→W.cell? E=some (.int .i64 (X:Int))):=hid fun W J=>((Z0_ v.out.drew (le_refl _) J).cell xp).trans xe.out;have HM:Hid (∀ (j m o:Value) (W:World),Rows2 W W.heap.size j l→Row W W.heap.size m s→Row W W.heap.size o (Y2_ d [r])→Calls Tryz.prog 140 #[j,m,o] W (Says W z)):=hid fun j m o W g p h3=>by rw [← Y];exact ih.out _ j m o W (A3_ _ _) xf.out g p h3
    rw [Y] at D;clear Y F x2 ih C;have y9:¬ H=k:=x37_;by_cases G:cs=1
    all_goals
     go_wp2
     go_region_held3 (fun W=>W.cell? E=some (.int .i64 (X:Int)))
      (exact K5.out _ u.out)
      (first
      | (go_at_call 47;refine (H6_ _ _ d [r] _ xl.out (xm.out _ _ _ (by first | rfl | (simp [Addr.add];done) | (simp [Addr.add];omega) | (simp;intro h;omega)) (by first | rfl | omega | (simp;try omega)) (by first | rfl | omega | (simp;try omega))) xb j37_).mono ?_;rintro e yb ⟨xu,rfl,x9,S⟩;replace u:=hid (Z0_ u.out (le_refl _) S);replace O:=hid (O.out.up S);have xk:=hid x9;clear x9 S)
      | (go_at_call_of 140 xu;refine (HM.out _ _ _ _ O.out (xj.out _ _ _ (by first | exact .inl rfl | exact .inr ⟨x3.out G,rfl⟩ | exact .inl (by simp [G]) | exact .inr ⟨x3.out G,by simp [G]⟩) (by first | rfl | omega | (simp;done) | (simp;omega)) (by first | rfl | omega | (simp;done) | (simp;omega)) _ u.out) xk.out).mono ?_;rintro e yc ⟨rfl,x5⟩;replace u:=hid (Z0_ u.out (le_refl _) x5);clear x5))
     go_simp;have xc:=hid (Z0_ v.out.drew (le_refl _) u.out);have x1:=hid (Z0_ B.out.2.drew (le_refl _) u.out);cases z
     ·go_wp2
      go_roundw
      case rel=>first | exact ⟨k+1,y38_,x37_,D.out,x1.out⟩ | exact ⟨_,.int .i64 ((k:Int)+1),_,_,_,_,_,_,_,_,_,_,_,_,_,_,_,_,_,⟨k+1,y38_,x37_,D.out,x1.out⟩,by rw [G]⟩
      exact mz_
     ·have L:Hid (F1_ l (x :: s) d=true):=hid (by
       rw [K.out];have g:=D.out;rw [List.any_eq_true] at g ⊢;obtain ⟨q,hq,xt⟩:=g;exact ⟨q,List.mem_of_mem_take hq,xt⟩)
      go_wp2;go_ret;exact ⟨by rw [L.out];rfl,xc.out⟩
   ·have xq:k=M.length:=by omega
    subst xq;have L:Hid (F1_ l (x :: s) d=false):=hid (by rw [K.out,← B.out.1,List.take_length]);have v:=hid (Z0_ x0.out (le_refl _) B.out.2);go_wp2;go_ret;exact ⟨by rw [L.out];rfl,v.out⟩
end Go.Proofs.YtheeajnkiniopaaGreatDoor.Wp
