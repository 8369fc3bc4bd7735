/- The program's Turn of layer 13; the document's May and Lists; walked (written by gen_vturn.py). -/
import Derived.Test.YtnbcaibflhgdoaaGreatDoorVGraph
import Derived.Test.YtnbcaibflhgdoaaGreatDoorVR13A
import Derived.Test.YtnbcaibflhgdoaaGreatDoorVIndep
import Derived.Test.YtnbcaibflhgdoaaGreatDoorIUnion
import Derived.Test.YtnbcaibflhgdoaaGreatDoorZI
import Derived.Test.YtnbcaibflhgdoaaGreatDoorZH
import Derived.Test.YtnbcaibflhgdoaaGreatDoorYStR
import Derived.Test.YtnbcaibflhgdoaaGreatDoorYSt
import Derived.Test.YtnbcaibflhgdoaaGreatDoorX0A
import Derived.Test.YtnbcaibflhgdoaaGreatDoorX0B
set_option maxHeartbeats 16000000
set_option maxRecDepth 100000
open Go.Lib (hid)
open Nat (le_refl)
namespace Go.Proofs.YtnbcaibflhgdoaaGreatDoor
open Go Go.RowKit
namespace Wp
theorem Zg9 (v:Value) (l:List Int) (b:Bool) (h:mayB l=b) (w:World) (c:Row w w.heap.size v l):Calls Tryz.prog 53 #[v] w (Says w b):=by
 obtain ⟨_,_,_,⟨e,d,_⟩,_⟩:=id c;have:=may_any v l w c (by unfold maxLen at d;omega)
 rwa [h] at this
theorem Xk7 (G F:Value) (s l:List Int) (w:World) (y:mayB s=true) (x:(sortL l).length=l.length) (hs:Row w w.heap.size G s) (z:Row w w.heap.size F l) (x3:s.length≤1000) (x2:l.length≤1000) :
  Calls Tryz.prog 23 #[G,F] w (Gives w (Z9_ (Z5_ s (sortL l)) (Z5_ (sortL l) s))):=by
 have q:=hid hs;have L:=hid z;have K:=hid y;obtain ⟨Z,cs,rfl,_⟩:=hs;obtain ⟨X,cp,rfl,_⟩:=z;clear y
 go_enter Tryz.func23,Tryz.ntmps23
 go_wp2_with fail
 refine (U6_ _ l _ L.out q41_).mono ?_;rintro e w1 ⟨v1,rfl,B,u⟩;have d:=hid B;have m:=hid u;obtain ⟨P,hP⟩:∃ P,sortL l=P:=⟨_,rfl⟩;have M:=hid hP;rw [hP] at d x;have g:P.length≤1048576:=q41_;have k:s.length≤1048576:=q41_;obtain ⟨Y,cq,rfl,_⟩:=id d.out;have x0:¬ (P.length:Int)<(l.length:Int):=q41_;have x1:P.length≤1048576:=q41_;clear B u hP x
 go_wp2_with fail
 refine (Zg9 _ s true K.out _ (q.out.up m.out)).mono ?_;rintro e w2 ⟨rfl,h⟩;have o:=hid (Z0_ m.out (le_refl _) h);have p:=hid (d.out.up h);have r:=hid (q.out.up o.out);clear h
 go_wp2_with fail
 refine (F2_ _ _ s P _ r.out p.out k g).mono ?_;rintro e w3 ⟨v3,rfl,C,c⟩;have O:=hid C;have H:=hid (Z0_ o.out (le_refl _) c);have N:=hid (p.out.up c);have T:=hid (r.out.up c);clear c C
 go_wp2_with fail
 refine (F2_ _ _ P s _ N.out T.out g k).mono ?_;rintro e w4 ⟨v4,rfl,D,j⟩;have R:=hid D;have I:=hid (Z0_ H.out (le_refl _) j);have Q:=hid (O.out.up j);clear j D;have U:(Z5_ s P).length≤1048576:=Nat.le_trans (H6_ s P) k;have V:(Z5_ P s).length≤1048576:=Nat.le_trans (H6_ P s) g
 go_wp2_with fail
 refine (Zc5 _ _ (Z5_ s P) (Z5_ P s) _ Q.out R.out U V).mono ?_;rintro e w5 ⟨W,rfl,E,v⟩;have S:=hid E;have J:=hid (Z0_ I.out (le_refl _) v);clear v E;go_wp2;go_ret;exact ⟨W,rfl,by rw [M.out];exact S.out,J.out⟩
theorem Xy9 (r q:Value) (s l:List Int) (w:World) (c:mayB s=false∨(mayB s=true∧(sortL l).length≠l.length)) (hs:Row w w.heap.size r s) (p:Row w w.heap.size q l) (_hsl:s.length≤1000) (F:l.length≤1000) :
  Calls Tryz.prog 23 #[r,q] w (Gives w []):=by
 have o:=hid hs;have m:=hid p;obtain ⟨B,cs,rfl,_⟩:=hs;obtain ⟨z,C,rfl,_⟩:=p;obtain ⟨P,hP⟩:∃ P,sortL l=P:=⟨_,rfl⟩;have k:=hid hP;rw [hP] at c;clear hP;rcases c with c | ⟨c,D⟩
 ·have j:=hid c
  clear c
  go_enter Tryz.func23,Tryz.ntmps23
  go_wp2_with fail
  refine (U6_ _ l _ m.out q41_).mono ?_;rintro e y ⟨x,rfl,g,d⟩;rw [k.out] at g;have HB1:=hid d;obtain ⟨u,v,rfl,_⟩:=g;clear d
  go_wp2_with fail
  refine (Zg9 _ s false j.out _ (o.out.up HB1.out)).mono ?_;exact y6_
 ·have j:=hid c
  have E:(P.length:Int)<(l.length:Int):=by have h:=F0_ l;rw [k.out] at h;omega
  clear c
  go_enter Tryz.func23,Tryz.ntmps23
  go_wp2_with fail
  refine (U6_ _ l _ m.out q41_).mono ?_;rintro e y ⟨x,rfl,g,d⟩;rw [k.out] at g;have HB1:=hid d;obtain ⟨u,v,rfl,_⟩:=g;clear d
  go_wp2_with fail
  refine (Zg9 _ s true j.out _ (o.out.up HB1.out)).mono ?_;exact y6_
theorem Xx0 (d c:Value) (s l:List Int) (w:World) (hs:Row w w.heap.size d s) (g:Row w w.heap.size c l) (k:s.length≤1000) (j:l.length≤1000) :
  Calls Tryz.prog 23 #[d,c] w (Gives w (turnL s l)):=by
 unfold turnL;by_cases h:mayB s=true∧(sortL l).length=l.length
 ·rw [if_pos h];exact Xk7 d c s l w h.1 h.2 hs g k j
 ·rw [if_neg h]
  refine Xy9 d c s l w ?_ hs g k j;exact q27_
theorem Xx1 (a b:Mat) (F G E:Value) (s:List Int) (w:World) (ha:MatV w w.heap.size F a) (hb:MatV w w.heap.size G b) (C:Sml a) (D:Sml b) (k:Row w w.heap.size E s) :
  Calls Tryz.prog 55 #[F,G,E] w (Says w (mayS a b s)):=by
 have X:=hid ha;have Y:=hid hb;have M:=hid C;have N:=hid D;have x0:=hid k;obtain ⟨la,ia,U,Q,O⟩:=ha.open;obtain ⟨lb,ib,V,R,P⟩:=hb.open;obtain ⟨Al,cl,rfl,_⟩:=Q;obtain ⟨Ai,ci,rfl,_⟩:=O;obtain ⟨Bl,dl,rfl,_⟩:=R;obtain ⟨Bi,di,rfl,_⟩:=P;obtain ⟨W,cs,T,_⟩:=id k;subst U V T;obtain ⟨g,hW2⟩:∃ g,g=(w.alloc (.cells #[.int .i64 a.t,.int .i64 a.n,.int .i64 a.a,.int .i64 a.b,.slice Al a.l.length cl,.slice Ai a.i.length ci] 25)).alloc (.cells #[.int .i64 b.t,.int .i64 b.n,.int .i64 b.a,.int .i64 b.b,.slice Bl b.l.length dl,.slice Bi b.i.length di] 25):=⟨_,rfl⟩;have q:=hid hW2;have h:Below w.heap.size w g:=by rw [hW2];exact ((Below.refl _ w).alloc (le_refl _) _).alloc j41_ _
 have v:Blk g w.heap.size 25 #[.int .i64 a.t,.int .i64 a.n,.int .i64 a.a,.int .i64 a.b,.slice Al a.l.length cl,.slice Ai a.i.length ci]:=x43_;have z:Blk g (w.heap.size+1) 25 #[.int .i64 b.t,.int .i64 b.n,.int .i64 b.a,.int .i64 b.b,.slice Bl b.l.length dl,.slice Bi b.i.length di]:=y4_;have r:=hid h;have Z:=hid v;have u:=hid z;have H:=hid (ha.up h);have I:=hid (hb.up h);have p:=hid (k.up h);obtain ⟨x,m⟩:∃ x,indT a s=x:=⟨_,rfl⟩;obtain ⟨y,o⟩:∃ y,indT b s=y:=⟨_,rfl⟩;have L:=hid m;have HY:=hid o;have B:mayS a b s=(decide (a.n=b.n) && (x && y)):=by unfold mayS;rw [m,o]
 rw [B];clear hW2 h v z ha hb C D k m o B;by_cases d:a.n=b.n
 ·have S:(a.n==b.n)=true:=by simpa using d
  rw [decide_eq_true d,Bool.true_and];clear d
  go_enter Tryz.func55,Tryz.ntmps55
  go_wp2_with fail
  rw [← q.out];refine (R3_ a _ _ s _ H.out M.out p.out).mono ?_;rintro e w3 ⟨rfl,j⟩;rw [L.out];have Hb3:=hid (Z0_ r.out (le_refl _) j);have c:=hid (u.out.below j u.out.lt);have J:=hid (I.out.up j);have K:=hid (p.out.up j);clear j;cases x
  ·exact j6_
  ·have n0:=c.out.cell 0
   have n1:=c.out.cell 1;have n2:=c.out.cell 2;have n3:=c.out.cell 3;have n4:=c.out.cell 4;have n5:=c.out.cell 5
   go_wp2_with fail
   refine (R3_ b _ _ s _ J.out N.out K.out).mono ?_;exact j14_
 ·have S:(a.n==b.n)=false:=by simpa using d
  rw [decide_eq_false d,Bool.false_and];clear d
  go_enter Tryz.func55,Tryz.ntmps55
  go_wp2;rw [← q.out];go_ret;exact ⟨rfl,r.out⟩
open Go Go.RowKit
theorem cS (u v:Value) (l:List Int) (W:World) (c:Row W W.heap.size u l) (d:Row W W.heap.size v l) (hl:l.length≤1000):Calls Tryz.prog 10 #[u,v] W (Says W true) :=
 Vh8 u v l l W c d q41_ q41_ (by unfold sameB;simp)
open Go Go.RowKit
theorem RowO.of_own {w:World} {base:Nat} {o:Option Nat} {v:Value} {zs:List Int} (h:w.ownsRow base 3 1 v zs.length (ints zs)) (r:∀ g,o=some g→g<base):RowO w o v zs:=by
 obtain ⟨A,c,rfl,q,m⟩:=Row.of_own h rfl;refine ⟨A,c,rfl,q,fun k p=>?_⟩;obtain ⟨d,rfl,f,j⟩:=m k p;refine ⟨d,rfl,f,fun e=>?_,j⟩;have s:=(h.lt d.block rfl).1;have:=r _ e.symm;omega
theorem OwnR.lt2 {w:World} {base:Nat} {v:Value} {pp:List (List Int)} (h:OwnR w base v pp):∀ g,v.ownBlock=some g→g<w.heap.size:=by
 obtain ⟨e,d,_⟩:=h;exact fun g c=>(d.lt g c).2
theorem OwnR.name {w:World} {base:Nat} {v:Value} {pp:List (List Int)} (_h:OwnR w base v pp):∃ u,u=v:=⟨v,rfl⟩
theorem Yf6 (a b:Mat) (va vb sw:Value) (s:List Int) (w:World) (ha:MatV w w.heap.size va a) (hb:MatV w w.heap.size vb b) (y0:Sml a) (y1:Sml b) (hr:Row w w.heap.size sw s) (M:Common a b s):Calls Tryz.prog 25 #[va,vb,sw] w (Yx4 w (adjG a b s) (addG a s) (addG b s) 0):=by
 have HM:Hid (mayS a b s=true):=hid (mayS_iff.2 M);have x6:=(mayI_iff.1 (J6_ M.ia)).1;have xt:=(mayI_iff.1 (J6_ M.ib)).1;have zh:s.length≤64:=Nat.le_trans (Y3_ M.set) M.n64;obtain ⟨n,hN⟩:∃ n:Nat,nN a=n:=⟨_,rfl⟩;have HnI:Hid ((n:Int)=a.n):=hid (by rw [← hN];exact (Z8_ x6).1);have zd:n≤64:=by rw [← hN];exact (Z8_ x6).2
 have xm:=hid (And.intro x6 xt);have y5:Hid (adjG a b s=(upTo n).map (arcsG a b s)):=hid (by unfold adjG;rw [hN]);have y7:Hid (∀ p:Int,arcsG a b s p=(upTo n).filter fun q=>C0_ a s q p || C0_ b s p q):=hid fun p=>by unfold arcsG;rw [hN]
 clear M x6 xt hN;have xf:=hid y0;have xg:=hid y1;obtain ⟨la,ia,xi,yv,yt⟩:=ha.open;obtain ⟨lb,ib,z2,yw,yu⟩:=hb.open;obtain ⟨m,cl,rfl,_⟩:=yv;obtain ⟨k,z,rfl,_⟩:=yt;obtain ⟨r,C,rfl,_⟩:=yw;obtain ⟨o,B,rfl,_⟩:=yu;obtain ⟨J,L,z1,_⟩:=id hr;subst xi z2 z1;obtain ⟨V,hW2⟩:∃ V,V=(w.alloc (.cells #[.int .i64 a.t,.int .i64 a.n,.int .i64 a.a,.int .i64 a.b,.slice m a.l.length cl,.slice k a.i.length z] 25)).alloc (.cells #[.int .i64 b.t,.int .i64 b.n,.int .i64 b.a,.int .i64 b.b,.slice r b.l.length C,.slice o b.i.length B] 25):=⟨_,rfl⟩;have xs:=hid hW2;have Y:Below w.heap.size w V:=by rw [hW2];exact ((Below.refl _ w).alloc (le_refl _) _).alloc j41_ _
 have S:Hid (Blk V w.heap.size 25 #[.int .i64 a.t,.int .i64 a.n,.int .i64 a.a,.int .i64 a.b,.slice m a.l.length cl,.slice k a.i.length z]):=hid x43_;have U:Hid (Blk V (w.heap.size+1) 25 #[.int .i64 b.t,.int .i64 b.n,.int .i64 b.a,.int .i64 b.b,.slice r b.l.length C,.slice o b.i.length B]):=hid (by
  rw [hW2];have:=Blk.new (w.alloc (.cells #[.int .i64 a.t,.int .i64 a.n,.int .i64 a.a,.int .i64 a.b,.slice m a.l.length cl,.slice k a.i.length z] 25)) 25 #[.int .i64 b.t,.int .i64 b.n,.int .i64 b.a,.int .i64 b.b,.slice r b.l.length C,.slice o b.i.length B];simpa using this)
 have xd:=hid Y;have x1:=hid (ha.up Y);have x2:=hid (hb.up Y);have HW:=hid (hr.up Y);clear hW2 Y ha hb y0 y1 hr
 go_enter Tryz.func25,Tryz.ntmps25
 go_wp2_with fail
 rw [← xs.out];refine (Xx1 a b _ _ _ s _ x1.out x2.out xf.out xg.out HW.out).mono ?_;rintro e G ⟨rfl,I⟩;rw [HM.out];clear HM xs;replace x1:=hid (x1.out.up I);replace x2:=hid (x2.out.up I);replace HW:=hid (HW.out.up I);replace S:=hid (S.out.below I S.out.lt);replace U:=hid (U.out.below I U.out.lt);replace xd:=hid (Z0_ xd.out (le_refl _) I);clear I;have y3:=hid (OwnR.new G G.heap.size G.heap.size (le_refl _) rfl);have y8:=hid ((Below.refl G.heap.size G).alloc (le_refl _) (.cells #[] 26));go_wp2
 go_loopw [10,11,12,13] (fun va vp _ _ wr=>∃ p:Nat,vp=.int .i64 (p:Int)∧p≤n∧Hid (OwnR wr G.heap.size va ((upTo p).map (arcsG a b s)))∧Hid (Below G.heap.size G wr)) (fun _ vp _ _ _=>n - (intOf vp).toNat)
 case atStart=>exact ⟨0,rfl,Nat.zero_le _,y3,y8⟩
 case round =>
  obtain ⟨p,rfl,ze,R,H⟩:=hrel;obtain ⟨j,xi⟩:=OwnR.name R.out;subst xi;obtain ⟨c,ys⟩:∃ W:World,W=wr:=⟨_,rfl⟩;subst ys;have xo:=hid (x1.out.up H.out);have xq:=hid (x2.out.up H.out);have xb:=hid (HW.out.up H.out);have T:=hid (S.out.below H.out S.out.lt);have x3:=hid (U.out.below H.out U.out.lt);have q1:=T.out.cell 1;by_cases zc:p<n
  ·have yx:(p:Int)<a.n:=by rw [← HnI.out];omega
   have zi:IntKind.i64.wrap ((p:Int)+1)=(p:Int)+1:=q42_;obtain ⟨f,hf⟩:∃ f:Int→Bool,(fun q=>C0_ a s q (p:Int) || C0_ b s (p:Int) q)=f:=⟨_,rfl⟩;have HF:=hid hf;have y6:Hid (arcsG a b s (p:Int)=(upTo n).filter f):=hid (by rw [y7.out,hf]);have x5:Hid ((c.alloc (.cells #[] 3)).ownsRow c.heap.size 3 1 (.slice (some ⟨c.heap.size,0,none⟩) 0 0) 0 []) :=
    hid (World.ownsRow_made c #[] 0 (le_refl _) y42_ rfl)
   have x0:Hid (Below c.heap.size c (c.alloc (.cells #[] 3))):=hid ((Below.refl _ c).alloc (le_refl _) _);clear hf;go_wp2;clear q1
   go_loopw [12,13] (fun vl vq wq=>∃ q:Nat,vq=.int .i64 (q:Int)∧q≤n∧Hid (wq.ownsRow c.heap.size 3 1 vl ((upTo q).filter f).length (ints ((upTo q).filter f)))∧Hid (Below c.heap.size c wq)) (fun _ vq _=>n - (intOf vq).toNat)
   case atStart=>exact ⟨0,rfl,Nat.zero_le _,x5,x0⟩
   case round =>
    obtain ⟨q,rfl,zf,x4,u⟩:=hrel;have zb:((upTo q).filter f).length≤64:=Nat.le_trans (List.length_filter_le _ _) (by rw [J2_];omega);have E:=hid (T.out.below u.out T.out.lt);have q1:=E.out.cell 1;by_cases zg:q<n
    ·have yz:(q:Int)<a.n:=by rw [← HnI.out];omega
     have zj:IntKind.i64.wrap ((q:Int)+1)=(q:Int)+1:=q42_;have xv:f (q:Int)=(C0_ a s (q:Int) (p:Int) || C0_ b s (p:Int) (q:Int)):=by rw [← HF.out]
     have x9:=hid xv;have xa:Hid ((upTo (q+1)).filter f=(upTo q).filter f ++ (if f (q:Int) then [(q:Int)] else [])):=hid (by
      rw [Zg7,List.filter_append];cases h:f (q:Int)<;>simp [h])
     have xp:=hid (xo.out.up u.out);have xr:=hid (xq.out.up u.out);have xc:=hid (xb.out.up u.out);have xe:=hid (x3.out.below u.out x3.out.lt);obtain ⟨x,hx⟩:∃ x,C0_ a s (q:Int) (p:Int)=x:=⟨_,rfl⟩;obtain ⟨y,hy⟩:∃ y,C0_ b s (p:Int) (q:Int)=y:=⟨_,rfl⟩;have HX:=hid hx;have HY:=hid hy;clear xv hx hy q1;have k0:=E.out.cell 0;have k1:=E.out.cell 1;have k2:=E.out.cell 2;have k3:=E.out.cell 3;have k4:=E.out.cell 4;have k5:=E.out.cell 5
     go_wp2_with fail
     refine (Zz0 a _ _ s (q:Int) (p:Int) wr xp.out xf.out xc.out q41_).mono ?_;rintro e WX ⟨rfl,O⟩;rw [HX.out];have F:=hid (B1_ x4.out O);have HB1:=hid (Z0_ u.out (le_refl _) O);have yh:=hid (xr.out.up O);have yi:=hid (xc.out.up O);have K:=hid (xe.out.below O xe.out.lt);clear O k0 k1 k2 k3 k4 k5 x4 u xp xr xc xe E;cases x
     ·have x5:=F
      have x0:=HB1;clear F HB1;have n0:=K.out.cell 0;have n1:=K.out.cell 1;have n2:=K.out.cell 2;have n3:=K.out.cell 3;have n4:=K.out.cell 4;have n5:=K.out.cell 5
      go_wp2_with fail
      refine (Zz0 b _ _ s (p:Int) (q:Int) WX yh.out xg.out yi.out q41_).mono ?_;rintro e WY ⟨rfl,xh⟩;rw [HY.out];have F:=hid (B1_ x5.out xh);have HB1:=hid (Z0_ x0.out (le_refl _) xh);clear xh n0 n1 n2 n3 n4 n5 x5 x0;cases y
      ·have Z:f (q:Int)=false:=by rw [x9.out,HX.out,HY.out];rfl
       have HN2:Hid ((upTo (q+1)).filter f=(upTo q).filter f):=hid (by rw [xa.out,Z];simp);go_wp2
       go_roundw
       case rel=>exact ⟨q+1,z42_,q41_,by rw [HN2.out];exact F,HB1⟩
       case measure=>simp [intOf];omega
      ·have Z:f (q:Int)=true:=by rw [x9.out,HX.out,HY.out];rfl
       have HN2:Hid ((upTo (q+1)).filter f=(upTo q).filter f ++ [(q:Int)]):=hid (by rw [xa.out,Z];simp)
       go_wp2_with (at_builtin;refine Z6_ rfl _ _ rfl c.heap.size _ _ _ ((upTo q).filter f) [(q:Int)] rfl rfl (F.out.alloc _) (Row.lit1 _ (q:Int)) q41_ j41_ y45_ ?_)
       intro v' xj hown' hgrow;have hb14:Below c.heap.size WY xj:=((Below.refl _ WY).alloc HB1.out.size _).grown hgrow y45_ (fun i hi=>(F.out.lt i hi).1);exact k8_
     ·have Z:f (q:Int)=true:=by rw [x9.out,HX.out];rfl
      have HN2:Hid ((upTo (q+1)).filter f=(upTo q).filter f ++ [(q:Int)]):=hid (by rw [xa.out,Z];simp)
      go_wp2_with (at_builtin;refine Z6_ rfl _ _ rfl c.heap.size _ _ _ ((upTo q).filter f) [(q:Int)] rfl rfl (F.out.alloc _) (Row.lit1 _ (q:Int)) q41_ j41_ y45_ ?_)
      intro v' xj hown' hgrow;have hb14:Below c.heap.size WX xj:=((Below.refl _ WX).alloc HB1.out.size _).grown hgrow y45_ (fun i hi=>(F.out.lt i hi).1);exact k8_
    ·have xz:q=n:=by omega
     have yz:¬ (q:Int)<a.n:=y51_;have HL:Hid ((upTo q).filter f=arcsG a b s (p:Int)):=hid (by rw [y6.out,xz]);have z0:=Row.of_own x4.out rfl;have xn:=hid (RowO.of_own x4.out (OwnR.lt2 R.out));obtain ⟨Aq,cq,rfl,_⟩:=z0;have xl:=hid (R.out.below u.out);have x8:=hid (Z0_ H.out (le_refl _) u.out);have yc:=hid (ListO.one (W:=wr) wr.heap.size rfl xn.out);have xk:=hid (xl.out.upA (.cells #[.slice Aq ((upTo q).filter f).length cq] 26));have x7:=hid (x8.out.alloc x8.out.size (.cells #[.slice Aq ((upTo q).filter f).length cq] 26));have yy:((upTo p).map (arcsG a b s)).length=p:=by rw [List.length_map,J2_]
     have yb:Hid ((upTo (p+1)).map (arcsG a b s)=(upTo p).map (arcsG a b s) ++ [(upTo q).filter f]):=hid (by
      rw [Zg7,List.map_append,HL.out];rfl)
     clear xl x8 xn R xz
     go_wp2_with (at_builtin;go_loud (refine W6_ (by first | rfl | (simp [Region.wanted,yielded,go_sem];omega)) _ _ rfl _ _ _ ((upTo p).map (arcsG a b s)) [(upTo q).filter f] rfl rfl xk.out yc.out x7.out.size (by rw [yy];simp;omega) ?_))
     intro v3 za ho hg;have y4:=hid ho;have y9:=hid (x7.out.grown hg x7.out.size xk.out.lt);clear ho hg;go_wp2
     go_roundw
     case rel=>exact ⟨p+1,z42_,q41_,by rw [yb.out];exact y4,y9⟩
     case measure=>simp [intOf];omega
  ·have xy:p=n:=by omega
   have yx:¬ (p:Int)<a.n:=y51_;have yg:=hid (OwnR.rows R.out);have yd:Hid ((upTo p).map (arcsG a b s)=adjG a b s):=hid (by rw [y5.out,xy]);have D:Hid (∀ W,Below c.drew.heap.size c.drew W→Below c.heap.size c W):=hid fun W d=>Z0_ (Below.refl _ c).drew (le_refl _) d;have yj:=hid (Z0_ xd.out (le_refl _) H.out);clear xy;go_wp2;refine V9_ (ops:=ygO) (ygK ⟨w.heap.size,w.heap.size+1,.int .i64 a.t,.int .i64 a.n,.int .i64 a.a,.int .i64 a.b,.slice m a.l.length cl,.slice k a.i.length z,.int .i64 b.t,.int .i64 b.n,.int .i64 b.a,.int .i64 b.b,.slice r b.l.length C,.slice o b.i.length B,.slice J s.length L,j,addG a s,addG b s⟩) x41_ x41_ (Vu2 (x:=⟨w.heap.size,w.heap.size+1,.int .i64 a.t,.int .i64 a.n,.int .i64 a.a,.int .i64 a.b,.slice m a.l.length cl,.slice k a.i.length z,.int .i64 b.t,.int .i64 b.n,.int .i64 b.a,.int .i64 b.b,.slice r b.l.length C,.slice o b.i.length B,.slice J s.length L,j,addG a s,addG b s⟩) ⟨rfl,rfl,rfl,rfl,?hK1,?hK2,?hL,?hR⟩) ?_
   case hK1=>exact fun W d=>by have h:=T.out.below (D.out W d) T.out.lt;exact ⟨h.cell 0,h.cell 1,h.cell 2,h.cell 3,h.cell 4,h.cell 5⟩
   case hK2=>exact fun W d=>by have h:=x3.out.below (D.out W d) x3.out.lt;exact ⟨h.cell 0,h.cell 1,h.cell 2,h.cell 3,h.cell 4,h.cell 5⟩
   case hL=>exact fun W d=>Zg8 a _ _ s W (xo.out.up (D.out W d)) xf.out (xb.out.up (D.out W d)) q41_ xm.out.1
   case hR=>exact fun W d=>Zg8 b _ _ s W (xq.out.up (D.out W d)) xg.out (xb.out.up (D.out W d)) q41_ xm.out.2
   intro g W d y2 xu xx X;have yk:=hid (Z0_ yj.out (le_refl _) (D.out W d));have ya:=hid (yg.out.up (D.out W d));obtain ⟨z3,yl⟩:∃ v,g.tmps.getD 53 undef=v:=⟨_,rfl⟩;obtain ⟨z4,ym⟩:∃ v,g.tmps.getD 54 undef=v:=⟨_,rfl⟩;obtain ⟨z5,yn⟩:∃ v,g.tmps.getD 55 undef=v:=⟨_,rfl⟩;obtain ⟨z6,yo⟩:∃ v,g.tmps.getD 56 undef=v:=⟨_,rfl⟩;obtain ⟨z7,yp⟩:∃ v,g.tmps.getD 57 undef=v:=⟨_,rfl⟩;obtain ⟨z8,yq⟩:∃ v,g.tmps.getD 58 undef=v:=⟨_,rfl⟩;obtain ⟨z9,yr⟩:∃ v,g.tmps.getD 59 undef=v:=⟨_,rfl⟩;have h6:=X 7 6 k46_ x41_;rw [show ek ygO (ygK ⟨w.heap.size,w.heap.size+1,.int .i64 a.t,.int .i64 a.n,.int .i64 a.a,.int .i64 a.b,.slice m a.l.length cl,.slice k a.i.length z,.int .i64 b.t,.int .i64 b.n,.int .i64 b.a,.int .i64 b.b,.slice r b.l.length C,.slice o b.i.length B,.slice J s.length L,j,addG a s,addG b s⟩) 7=.eq (j) from by kernel_rfl] at h6;have h6:g.tmps.getD 6 undef=j:=h6;have P:=X 8 7 k46_ x41_;rw [show ek ygO (ygK ⟨w.heap.size,w.heap.size+1,.int .i64 a.t,.int .i64 a.n,.int .i64 a.a,.int .i64 a.b,.slice m a.l.length cl,.slice k a.i.length z,.int .i64 b.t,.int .i64 b.n,.int .i64 b.a,.int .i64 b.b,.slice r b.l.length C,.slice o b.i.length B,.slice J s.length L,j,addG a s,addG b s⟩) 8=.row (addG a s) from by kernel_rfl] at P;have P:Row W W.heap.size (g.tmps.getD 7 undef) (addG a s):=P;obtain ⟨v7,h7⟩:∃ v,g.tmps.getD 7 undef=v:=⟨_,rfl⟩;rw [h7] at P;have Q:=X 9 8 k46_ x41_;rw [show ek ygO (ygK ⟨w.heap.size,w.heap.size+1,.int .i64 a.t,.int .i64 a.n,.int .i64 a.a,.int .i64 a.b,.slice m a.l.length cl,.slice k a.i.length z,.int .i64 b.t,.int .i64 b.n,.int .i64 b.a,.int .i64 b.b,.slice r b.l.length C,.slice o b.i.length B,.slice J s.length L,j,addG a s,addG b s⟩) 9=.row (addG b s) from by kernel_rfl] at Q;have Q:Row W W.heap.size (g.tmps.getD 8 undef) (addG b s):=Q;obtain ⟨v8,h8⟩:∃ v,g.tmps.getD 8 undef=v:=⟨_,rfl⟩;rw [h8] at Q;have h9:=X 10 9 k46_ x41_;rw [show ek ygO (ygK ⟨w.heap.size,w.heap.size+1,.int .i64 a.t,.int .i64 a.n,.int .i64 a.a,.int .i64 a.b,.slice m a.l.length cl,.slice k a.i.length z,.int .i64 b.t,.int .i64 b.n,.int .i64 b.a,.int .i64 b.b,.slice r b.l.length C,.slice o b.i.length B,.slice J s.length L,j,addG a s,addG b s⟩) 10=.eq (.int .i64 0) from by kernel_rfl] at h9;have h9:g.tmps.getD 9 undef=.int .i64 0:=h9;have xw:=G6_ (ops:=ygO) (n:=11) (N:=60) [(53,z3),(54,z4),(55,z5),(56,z6),(57,z7),(58,z8),(59,z9),(6,j),(7,v7),(8,v8),(9,.int .i64 0)] rfl y2 xu (fun t ht=>xx t (by unfold M8_;rw [show ygO.size=11 by kernel_rfl];exact ht)) x41_ (by
    intro p hp;simp only [List.mem_cons,List.not_mem_nil,or_false] at hp;rcases hp with rfl | rfl | rfl | rfl | rfl | rfl | rfl | rfl | rfl | rfl | rfl<;>assumption)
   have ye:=hid P;have yf:=hid Q;clear P Q;clear xx X y2 xu yl ym yn yo yp yq yr h6 h7 h8 h9;rw [xw];clear xw;simp only [show List.range 60=[0,1,2,3,4,5,6,7,8,9,10,11,12,13,14,15,16,17,18,19,20,21,22,23,24,25,26,27,28,29,30,31,32,33,34,35,36,37,38,39,40,41,42,43,44,45,46,47,48,49,50,51,52,53,54,55,56,57,58,59] from by decide,List.map_cons,List.map_nil,List.lookup_cons,List.lookup_nil];go_simp;go_wp2;refine bodyPost_ret (v:=.tuple #[j,v7,v8,.int .i64 0]) (by simp [results,Tryz.results25,go_sem]) rfl ?_;exact ⟨_,_,_,rfl,by rw [← yd.out];exact ya.out,ye.out,yf.out,yk.out⟩
end Wp
end Go.Proofs.YtnbcaibflhgdoaaGreatDoor
