/- The document's leads and graph of layer 16, walked (written by gen_urlead.py). -/
import Derived.Test.YtigobiacbficaaaGreatDoorURLeadR
import Derived.Test.YtigobiacbficaaaGreatDoorUWay
import Derived.Test.YtigobiacbficaaaGreatDoorUSev
import Derived.Test.YtigobiacbficaaaGreatDoorZT
import Derived.Test.YtigobiacbficaaaGreatDoorZX
import Derived.Test.YtigobiacbficaaaGreatDoorX0A
import Derived.Test.YtigobiacbficaaaGreatDoorX0B
set_option maxHeartbeats 16000000
set_option maxRecDepth 100000
open Go.Lib (hid)
open Nat (le_refl)
namespace Go.Proofs.YtigobiacbficaaaGreatDoor.Wp
open Go Go.RowKit
theorem RowO.of_ownU {w:World} {base:Nat} {o:Option Nat} {v:Value} {zs:List Int} (h:w.ownsRow base 3 1 v zs.length (ints zs)) (q:∀ g,o=some g→g<base):RowO w o v zs:=by
 obtain ⟨A,c,rfl,p,j⟩:=Row.of_own h rfl;refine ⟨A,c,rfl,p,fun k m=>?_⟩;obtain ⟨d,rfl,h2,f⟩:=j k m;refine ⟨d,rfl,h2,fun e=>?_,f⟩;have r:=(h.lt d.block rfl).1;have:=q _ e.symm;omega
theorem OwnR.lt2U {w:World} {base:Nat} {v:Value} {pp:List (List Int)} (h:OwnR w base v pp):∀ g,v.ownBlock=some g→g<w.heap.size:=by
 obtain ⟨vs,d,_⟩:=h;exact fun g c=>(d.lt g c).2
theorem OwnR.nameU {w:World} {base:Nat} {v:Value} {pp:List (List Int)} (_h:OwnR w base v pp):∃ u,u=v:=⟨v,rfl⟩
theorem Zv2 (c:List Int) (k:Int):(Z3_ c k).length≤c.length:=z27_
theorem Xc3 (a b:List Int):(Z8_ a b).length≤a.length:=x19_
theorem Xc4 (ms:List Mat) (vl vc:Value) (c:List Int) (x y:Nat) (w:World) (hl:MatL w w.heap.size vl ms) (hs:∀ m∈ms,Sml m) (o:Row w w.heap.size vc c) (h:Cls ms c) (hx:x<c.length) (hy:y<c.length):Calls Tryz.prog 51 #[vl,vc,.int .i64 x,.int .i64 y] w (Says w (J3_ ms c (x:Int) (y:Int))):=by
 have HL:=hid hl;have HR:=hid o;obtain ⟨Al,F,rfl,-⟩:=id hl;obtain ⟨Ac,E,rfl,-⟩:=id o;have y4:=h.n64;have j:=h.many.2;have y7:(x:Int)<(c.length:Int):=y40_;have y8:(y:Int)<(c.length:Int):=y40_;obtain ⟨B,C,R⟩:=o.nth hx;obtain ⟨x9,P,S⟩:=o.nth hy;subst C;obtain rfl:B=x9:=Option.some.inj P;have px:=R w (Below.refl _ _);have py:=S w (Below.refl _ _);have x0:=h.rng y hy;have hD:J3_ ms c (x:Int) (y:Int)=(decide (0≤c.getD y 0) && (!(c.getD y 0==c.getD x 0) && indT (mAt ms (c.getD y 0)) (Y1_ (Z8_ (Z3_ c (c.getD y 0)) [(y:Int)]) [(x:Int)]))):=rfl;have hxy:x=y→c.getD y 0=c.getD x 0:=fun e=>by rw [e]
 obtain ⟨z,hz⟩:∃ z,c.getD y 0=z:=⟨_,rfl⟩;obtain ⟨t,D⟩:∃ t,c.getD x 0=t:=⟨_,rfl⟩;rw [hz] at py x0 hD hxy;rw [D] at px hD hxy;clear hl o R S P hz D;by_cases h0:z<0
 ·have HR0:Hid (J3_ ms c (x:Int) (y:Int)=false):=hid (by rw [hD,decide_eq_false y40_];rfl)
  exact x14_
 ·by_cases h1:z=t
  ·have HR0:Hid (J3_ ms c (x:Int) (y:Int)=false):=hid (by rw [hD,h1];simp)
   subst h1;exact x14_
  ·obtain ⟨k,rfl⟩:∃ k:Nat,z=(k:Int):=⟨z.toNat,y40_⟩
   have H:k<ms.length:=y40_;have xp:(k:Int)<(ms.length:Int):=y40_;have y5:¬ x=y:=fun e=>h1 (hxy e);have y6:¬ (x:Int)=(y:Int):=y40_;have xa:((k:Int)==t)=false:=z50_;obtain ⟨s,d2,O,M,C,J,G⟩:=MatL.one HL.out H;obtain rfl:Al=some s:=(Value.slice.inj C).1;have X:ms.getD k default∈ms:=by rw [List.getD_eq_getElem?_getD,List.getElem?_eq_getElem H];exact List.getElem_mem H
   have K:=hs _ X;have HR0:Hid (J3_ ms c (x:Int) (y:Int)=indT (ms.getD k default) (Y1_ (Z8_ (Z3_ c (k:Int)) [(y:Int)]) [(x:Int)])):=hid (by
    rw [hD,decide_eq_true y40_,xa,T5_];simp)
   obtain ⟨m,V⟩:∃ m,ms.getD k default=m:=⟨_,rfl⟩;rw [V] at J G K HR0;obtain ⟨I,hI⟩:∃ I,indT m (Y1_ (Z8_ (Z3_ c (k:Int)) [(y:Int)]) [(x:Int)])=I:=⟨_,rfl⟩;rw [hI] at HR0;have HI:=hid hI;have x7:=hid J;have x6:=hid G;have x8:=hid K;have x3:=hid (show c.length≤1048576 by omega);have x4:=hid (show (Z3_ c (k:Int)).length≤1048576 by have:=Zv2 c (k:Int);omega);have x5:=hid (show (Z8_ (Z3_ c (k:Int)) [(y:Int)]).length≤1048576 by have:=Zv2 c (k:Int);have:=Xc3 (Z3_ c (k:Int)) [(y:Int)];omega);have r:Hid (∀ W,Below w.drew.heap.size w.drew W→Below w.heap.size w W):=hid fun W g=>Z0_ (Below.refl _ w).drew (le_refl _) g;clear hD hxy C X V hI J G K h hs x0
   go_enter Tryz.func51,Tryz.ntmps51
   go_wp2;refine R9_ (ops:=ulO) (ulK ⟨s,k,ms.length,F,.int .i64 m.t,.int .i64 m.n,.int .i64 m.a,.int .i64 m.b,O,M,.slice (some B) c.length E,(x:Int),(y:Int),Z3_ c (k:Int),Z8_ (Z3_ c (k:Int)) [(y:Int)],Y1_ (Z8_ (Z3_ c (k:Int)) [(y:Int)]) [(x:Int)],I⟩) z40_ z40_ (Jq9 (x:=⟨s,k,ms.length,F,.int .i64 m.t,.int .i64 m.n,.int .i64 m.a,.int .i64 m.b,O,M,.slice (some B) c.length E,(x:Int),(y:Int),Z3_ c (k:Int),Z8_ (Z3_ c (k:Int)) [(y:Int)],Y1_ (Z8_ (Z3_ c (k:Int)) [(y:Int)]) [(x:Int)],I⟩) ⟨rfl,rfl,rfl,rfl,rfl,?hK1,xp,?hC,?hM,?hU,?hI⟩) ?_
   case hK1=>exact fun W g=>x6.out W (r.out W g)
   case hC=>exact fun W g=>D7_ _ c (k:Int) W (HR.out.up (r.out W g)) x3.out
   case hM=>exact fun W g u q v L=>E6_ u v (Z3_ c (k:Int)) [(y:Int)] W q L x4.out k40_
   case hU=>exact fun W g u q v L=>B2_ u v (Z8_ (Z3_ c (k:Int)) [(y:Int)]) [(x:Int)] W q L x5.out k40_
   case hI=>exact fun W g u q=>by have h:=Zn8 m _ u _ W (x7.out.up (r.out W g)) x8.out q;rw [HI.out] at h;exact h
   intro d W g x1 T Y Q;have x2:=hid (r.out W g);obtain ⟨xq,xb⟩:∃ v,d.tmps.getD 29 undef=v:=⟨_,rfl⟩;obtain ⟨xr,xc⟩:∃ v,d.tmps.getD 30 undef=v:=⟨_,rfl⟩;obtain ⟨xs,xd⟩:∃ v,d.tmps.getD 31 undef=v:=⟨_,rfl⟩;obtain ⟨xt,xe⟩:∃ v,d.tmps.getD 32 undef=v:=⟨_,rfl⟩;obtain ⟨xu,xf⟩:∃ v,d.tmps.getD 33 undef=v:=⟨_,rfl⟩;obtain ⟨xv,xg⟩:∃ v,d.tmps.getD 34 undef=v:=⟨_,rfl⟩;obtain ⟨xw,xh⟩:∃ v,d.tmps.getD 35 undef=v:=⟨_,rfl⟩;obtain ⟨xx,xi⟩:∃ v,d.tmps.getD 36 undef=v:=⟨_,rfl⟩;obtain ⟨xy,xj⟩:∃ v,d.tmps.getD 37 undef=v:=⟨_,rfl⟩;obtain ⟨xz,xk⟩:∃ v,d.tmps.getD 38 undef=v:=⟨_,rfl⟩;obtain ⟨y0,xl⟩:∃ v,d.tmps.getD 39 undef=v:=⟨_,rfl⟩;obtain ⟨y1,xm⟩:∃ v,d.tmps.getD 40 undef=v:=⟨_,rfl⟩;obtain ⟨y2,xn⟩:∃ v,d.tmps.getD 41 undef=v:=⟨_,rfl⟩;obtain ⟨y3,xo⟩:∃ v,d.tmps.getD 42 undef=v:=⟨_,rfl⟩;have j:=Q 14 8 (by rw [show ulO.size=15 by kernel_rfl];decide) z40_;rw [show ek ulO (ulK ⟨s,k,ms.length,F,.int .i64 m.t,.int .i64 m.n,.int .i64 m.a,.int .i64 m.b,O,M,.slice (some B) c.length E,(x:Int),(y:Int),Z3_ c (k:Int),Z8_ (Z3_ c (k:Int)) [(y:Int)],Y1_ (Z8_ (Z3_ c (k:Int)) [(y:Int)]) [(x:Int)],I⟩) 14=.eq (.bool I) from by kernel_rfl] at j;have j:d.tmps.getD 8 undef=.bool I:=j;have U:=Yu2 (ops:=ulO) (n:=15) (N:=43) [(29,xq),(30,xr),(31,xs),(32,xt),(33,xu),(34,xv),(35,xw),(36,xx),(37,xy),(38,xz),(39,y0),(40,y1),(41,y2),(42,y3),(8,.bool I)] rfl x1 T (fun t D=>Y t (by unfold Zn1;rw [show ulO.size=15 by kernel_rfl];exact D)) z40_ (by
    intro p Z;simp only [List.mem_cons,List.not_mem_nil,or_false] at Z;rcases Z with rfl | rfl | rfl | rfl | rfl | rfl | rfl | rfl | rfl | rfl | rfl | rfl | rfl | rfl | rfl<;>assumption)
   clear Y Q x1 T xb xc xd xe xf xg xh xi xj xk xl xm xn xo j;rw [U];clear U;simp only [show List.range 43=[0,1,2,3,4,5,6,7,8,9,10,11,12,13,14,15,16,17,18,19,20,21,22,23,24,25,26,27,28,29,30,31,32,33,34,35,36,37,38,39,40,41,42] from by decide,List.map_cons,List.map_nil,List.lookup_cons,List.lookup_nil];go_simp;go_wp2;go_ret;exact ⟨by rw [HR0.out];rfl,x2.out⟩
theorem Xc5 (ms:List Mat) (V vc:Value) (c:List Int) (w:World) (hl:MatL w w.heap.size V ms) (hs:∀ m∈ms,Sml m) (hr:Row w w.heap.size vc c) (h:Cls ms c):Calls Tryz.prog 35 #[V,vc] w fun e w'=>∃ u,e=.returned u∧Rows2 w' w'.heap.size u (adjU ms c)∧Below w.heap.size w w':=by
 have HL:=hid hl;have HR:=hid hr;have Hs:=hid hs;have H:=hid h;obtain ⟨Al,dl,rfl,-⟩:=id hl;obtain ⟨Ac,cc,rfl,-⟩:=id hr;have zv:=h.n64;have h8:=h.many.2;have zw:(c.length:Int)≤64:=y40_;have zx:(ms.length:Int)≤8:=y40_;have xp:=hid (OwnR.new w w.heap.size w.heap.size (le_refl _) rfl);have xs:=hid ((Below.refl w.heap.size w).alloc (le_refl _) (.cells #[] 28));clear hl hr hs h
 go_enter Tryz.func35,Tryz.ntmps35
 go_wp2
 go_loopw [5,6,7,8,9] (fun va vp _ _ _ wr=>∃ x:Nat,vp=.int .i64 (x:Int)∧x≤c.length∧Hid (OwnR wr w.heap.size va ((upTo x).map (arcsU ms c)))∧Hid (Below w.heap.size w wr)) (fun _ vp _ _ _ _=>c.length - (intOf vp).toNat)
 case atStart=>exact ⟨0,rfl,Nat.zero_le _,xp,xs⟩
 case round =>
  clear xp xs;obtain ⟨x,rfl,zy,s,F⟩:=hrel;obtain ⟨zs,z8⟩:=OwnR.nameU s.out;subst z8;obtain ⟨d,z2⟩:∃ W:World,W=wr:=⟨_,rfl⟩;subst z2;by_cases y6:x<c.length
  ·have y7:(x:Int)<(c.length:Int):=by omega
   have y2:Hid ((d.alloc (.cells #[] 3)).ownsRow d.heap.size 3 1 (.slice (some ⟨d.heap.size,0,none⟩) 0 0) 0 []) :=
    hid (World.ownsRow_made d #[] 0 (le_refl _) z41_ rfl)
   have xr:Hid (Below d.heap.size d (d.alloc (.cells #[] 3))):=hid ((Below.refl _ d).alloc (le_refl _) _);obtain ⟨f,hf⟩:∃ f:Int→Bool,(fun y=>J3_ ms c (x:Int) y)=f:=⟨_,rfl⟩;obtain ⟨g,D⟩:∃ g:Int→Bool,(fun k=>roomB ms c (x:Int) k)=g:=⟨_,rfl⟩;have HF:Hid (∀ y,J3_ ms c (x:Int) y=f y):=hid fun y=>by rw [← hf]
   have HG:Hid (∀ y,roomB ms c (x:Int) y=g y):=hid fun y=>by rw [← D]
   have y0:Hid (∀ j,j≤c.length→((upTo j).filter f).length≤64):=hid fun j hj=>Nat.le_trans (List.length_filter_le _ _) (by rw [Y8_];omega);have yf:Hid (arcsU ms c (x:Int)=(upTo c.length).filter f ++ Q8_ g (c.length:Int) ms.length):=hid (by unfold arcsU Q8_;rw [hf,D]);clear hf D;go_wp2
   go_loopw [7,8] (fun V vq K=>∃ q:Nat,vq=.int .i64 (q:Int)∧q≤c.length∧Hid (K.ownsRow d.heap.size 3 1 V ((upTo q).filter f).length (ints ((upTo q).filter f)))∧Hid (Below d.heap.size d K)) (fun _ vq _=>c.length - (intOf vq).toNat)
   case atStart=>exact ⟨0,rfl,Nat.zero_le _,y2,xr⟩
   case round =>
    clear y2 xr;obtain ⟨q,rfl,z5,B,x0⟩:=hrel;have x3:=hid (y0.out q z5);have E:=hid (Z0_ F.out (le_refl _) x0.out);by_cases z6:q<c.length
    ·have z4:(q:Int)<(c.length:Int):=by omega
     have C:Hid ((upTo (q+1)).filter f=(upTo q).filter f ++ (if f (q:Int) then [(q:Int)] else [])):=hid (by
      rw [I7_,List.filter_append];cases h:f (q:Int)<;>simp [h])
     go_wp2_with fail
     refine (Xc4 ms _ _ c x q _ (HL.out.up E.out) Hs.out (HR.out.up E.out) H.out y6 z6).mono ?_;rintro e WX ⟨rfl,Q⟩;rw [HF.out];have J:=hid (M7_ B.out Q);have HB1:=hid (Z0_ x0.out (le_refl _) Q);clear Q B x0 E;cases hfq:f (q:Int)
     ·have G:Hid ((upTo (q+1)).filter f=(upTo q).filter f):=hid (by rw [C.out,hfq];simp)
      clear hfq C;go_wp2
      go_roundw
      case rel=>exact ⟨q+1,j41_,y40_,by rw [G.out];exact J,HB1⟩
      exact mz_
     ·have G:Hid ((upTo (q+1)).filter f=(upTo q).filter f ++ [(q:Int)]):=hid (by rw [C.out,hfq];simp)
      clear hfq C
      go_wp2_with (at_builtin;refine Z5_ rfl _ _ rfl d.heap.size _ _ _ ((upTo q).filter f) [(q:Int)] rfl rfl (J.out.alloc _) (Row.lit1 _ (q:Int)) (by have:=x3.out;omega) k40_ q49_ ?_)
      intro v' xo x7 x5;have x4:Below d.heap.size WX xo:=((Below.refl _ WX).alloc HB1.out.size _).grown x5 q49_ (fun i hi=>(J.out.lt i hi).1);have xg:=hid x7;have xe:=hid (HB1.out.trans x4);clear x7 x5 x4;go_wp2
      go_roundw
      case rel=>exact ⟨q+1,j41_,y40_,hid (by rw [G.out,List.length_append];exact xg.out),xe⟩
      exact mz_
    ·have yb:q=c.length:=by omega
     have z4:¬ (q:Int)<(c.length:Int):=y40_;have xu:Hid (wr.ownsRow d.heap.size 3 1 u7 ((upTo c.length).filter f ++ Q8_ g (c.length:Int) 0).length (ints ((upTo c.length).filter f ++ Q8_ g (c.length:Int) 0))):=hid (by
      have e:Q8_ g (c.length:Int) 0=[]:=rfl;rw [e,List.append_nil,← yb];exact B.out)
     clear B E yb;go_wp2
     go_loopw [7,9] (fun V S K=>∃ k:Nat,S=.int .i64 (k:Int)∧k≤ms.length∧Hid (K.ownsRow d.heap.size 3 1 V ((upTo c.length).filter f ++ Q8_ g (c.length:Int) k).length (ints ((upTo c.length).filter f ++ Q8_ g (c.length:Int) k)))∧Hid (Below d.heap.size d K)) (fun _ S _=>ms.length - (intOf S).toNat)
     case atStart=>exact ⟨0,rfl,Nat.zero_le _,xu,x0⟩
     case round =>
      clear xu x0;obtain ⟨k,rfl,z3,B,T⟩:=hrel;have x3:=hid (show ((upTo c.length).filter f ++ Q8_ g (c.length:Int) k).length≤80 by have:=y0.out c.length (le_refl _);have:=Zm8 g (c.length:Int) k;rw [List.length_append];omega);have E:=hid (Z0_ F.out (le_refl _) T.out);by_cases xc:k<ms.length
      ·have xb:(k:Int)<(ms.length:Int):=by omega
       have C:=hid (Zh2 g (c.length:Int) k);obtain ⟨ad,d2,lv,iv,hA,xm,xk⟩:=MatL.one HL.out xc;obtain rfl:Al=some ad:=(Value.slice.inj hA).1;obtain ⟨ao,z1,xl⟩:=HR.out.nth y6;subst z1;have y8:ms.getD k default∈ms:=by rw [List.getD_eq_getElem?_getD,List.getElem?_eq_getElem xc];exact List.getElem_mem xc
       have xn:=Hs.out _ y8;have xa:g (k:Int)=(!(c.getD x 0==(k:Int)) && indT (ms.getD k default) (Y1_ (Z3_ c (k:Int)) [(x:Int)])):=by
        rw [← HG.out];unfold roomB;rw [T5_,Int.toNat_natCast]
       obtain ⟨m,hm⟩:∃ m,ms.getD k default=m:=⟨_,rfl⟩;rw [hm] at xm xk xn xa;obtain ⟨I,hI⟩:∃ I,indT m (Y1_ (Z3_ c (k:Int)) [(x:Int)])=I:=⟨_,rfl⟩;obtain ⟨z,hz⟩:∃ z,c.getD x 0=z:=⟨_,rfl⟩;rw [hI,hz] at xa;rw [hz] at xl;have HI:=hid hI;have y1:=hid xm;have xx:=hid xk;have xy:=hid xl;have yh:=hid xn;have yg:Hid (g (k:Int)=(z != (k:Int) && I)):=hid xa;have HK:Hid (∀ W,Below wr.drew.heap.size wr.drew W→Below w.heap.size w W):=hid fun W r=>Z0_ E.out (le_refl _) (Z0_ (Below.refl _ wr).drew (le_refl _) r);have xt:Hid (∀ W,Below wr.drew.heap.size wr.drew W→Below wr.heap.size wr W):=hid fun W r=>Z0_ (Below.refl _ wr).drew (le_refl _) r;have xw:=hid (show (Z3_ c (k:Int)).length≤1048576 by have:=Zv2 c (k:Int);omega);have xv:=hid (show c.length≤1048576 by omega);clear hA y8 hm hI hz xm xk xl xn xa;go_wp2;refine R9_ (ops:=urO) (urK ⟨ad,k,ms.length,dl,.int .i64 m.t,.int .i64 m.n,.int .i64 m.a,.int .i64 m.b,lv,iv,ao,c.length,cc,x,z,Z3_ c (k:Int),Y1_ (Z3_ c (k:Int)) [(x:Int)],I⟩) z40_ z40_ (Ja0 (x:=⟨ad,k,ms.length,dl,.int .i64 m.t,.int .i64 m.n,.int .i64 m.a,.int .i64 m.b,lv,iv,ao,c.length,cc,x,z,Z3_ c (k:Int),Y1_ (Z3_ c (k:Int)) [(x:Int)],I⟩) ⟨rfl,rfl,rfl,rfl,?hK1,?hK2,xb,y7,?hC,?hU,?hI⟩) ?_
       case hK1=>exact fun W r=>xx.out W (HK.out W r)
       case hK2=>exact fun W r=>xy.out W (HK.out W r)
       case hC=>exact fun W r=>D7_ _ c (k:Int) W (HR.out.up (HK.out W r)) xv.out
       case hU=>exact fun W r u hu v hv=>B2_ u v (Z3_ c (k:Int)) [(x:Int)] W hu hv xw.out k40_
       case hI=>exact fun W r u hu=>by have h:=Zn8 m _ u _ W (y1.out.up (HK.out W r)) yh.out hu;rw [HI.out] at h;exact h
       intro o W r yc y4 y9 y3;have Q:=xt.out W r;have J:=hid (M7_ B.out Q);have HB1:=hid (Z0_ T.out (le_refl _) Q);obtain ⟨za,yj⟩:∃ v,o.tmps.getD 40 undef=v:=⟨_,rfl⟩;obtain ⟨zb,yk⟩:∃ v,o.tmps.getD 41 undef=v:=⟨_,rfl⟩;obtain ⟨zc,yl⟩:∃ v,o.tmps.getD 42 undef=v:=⟨_,rfl⟩;obtain ⟨zd,ym⟩:∃ v,o.tmps.getD 43 undef=v:=⟨_,rfl⟩;obtain ⟨ze,yn⟩:∃ v,o.tmps.getD 44 undef=v:=⟨_,rfl⟩;obtain ⟨zf,yo⟩:∃ v,o.tmps.getD 45 undef=v:=⟨_,rfl⟩;obtain ⟨zg,yp⟩:∃ v,o.tmps.getD 46 undef=v:=⟨_,rfl⟩;obtain ⟨zh,yq⟩:∃ v,o.tmps.getD 47 undef=v:=⟨_,rfl⟩;obtain ⟨zi,yr⟩:∃ v,o.tmps.getD 48 undef=v:=⟨_,rfl⟩;obtain ⟨zj,ys⟩:∃ v,o.tmps.getD 49 undef=v:=⟨_,rfl⟩;obtain ⟨zk,yt⟩:∃ v,o.tmps.getD 50 undef=v:=⟨_,rfl⟩;obtain ⟨zl,yu⟩:∃ v,o.tmps.getD 51 undef=v:=⟨_,rfl⟩;obtain ⟨zm,yv⟩:∃ v,o.tmps.getD 52 undef=v:=⟨_,rfl⟩;obtain ⟨zn,yw⟩:∃ v,o.tmps.getD 53 undef=v:=⟨_,rfl⟩;obtain ⟨zo,yx⟩:∃ v,o.tmps.getD 54 undef=v:=⟨_,rfl⟩;obtain ⟨zp,yy⟩:∃ v,o.tmps.getD 55 undef=v:=⟨_,rfl⟩;obtain ⟨zq,yz⟩:∃ v,o.tmps.getD 56 undef=v:=⟨_,rfl⟩;obtain ⟨zr,z0⟩:∃ v,o.tmps.getD 57 undef=v:=⟨_,rfl⟩;have x9:=y3 18 58 (by rw [show urO.size=19 by kernel_rfl];decide) z40_;rw [show ek urO (urK ⟨ad,k,ms.length,dl,.int .i64 m.t,.int .i64 m.n,.int .i64 m.a,.int .i64 m.b,lv,iv,ao,c.length,cc,x,z,Z3_ c (k:Int),Y1_ (Z3_ c (k:Int)) [(x:Int)],I⟩) 18=.eq (.bool (z != (k:Int) && I)) from by kernel_rfl] at x9;have x9:o.tmps.getD 58 undef=.bool (z != (k:Int) && I):=x9;have y5:=Yu2 (ops:=urO) (n:=19) (N:=81) [(40,za),(41,zb),(42,zc),(43,zd),(44,ze),(45,zf),(46,zg),(47,zh),(48,zi),(49,zj),(50,zk),(51,zl),(52,zm),(53,zn),(54,zo),(55,zp),(56,zq),(57,zr),(58,.bool (z != (k:Int) && I))] rfl yc y4 (fun t ht=>y9 t (by unfold Zn1;rw [show urO.size=19 by kernel_rfl];exact ht)) z40_ (by
        intro p hp;simp only [List.mem_cons,List.not_mem_nil,or_false] at hp;rcases hp with rfl | rfl | rfl | rfl | rfl | rfl | rfl | rfl | rfl | rfl | rfl | rfl | rfl | rfl | rfl | rfl | rfl | rfl | rfl<;>assumption)
       clear y9 y3 yc y4 yj yk yl ym yn yo yp yq yr ys yt yu yv yw yx yy yz z0 x9;rw [y5];clear y5;simp only [show List.range 81=[0,1,2,3,4,5,6,7,8,9,10,11,12,13,14,15,16,17,18,19,20,21,22,23,24,25,26,27,28,29,30,31,32,33,34,35,36,37,38,39,40,41,42,43,44,45,46,47,48,49,50,51,52,53,54,55,56,57,58,59,60,61,62,63,64,65,66,67,68,69,70,71,72,73,74,75,76,77,78,79,80] from by decide,List.map_cons,List.map_nil,List.lookup_cons,List.lookup_nil];go_simp;rw [← yg.out];clear Q B T E HK xt xw xv xx xy y1 HI r;cases hgq:g (k:Int)
       ·have G:Hid (Q8_ g (c.length:Int) (k+1)=Q8_ g (c.length:Int) k):=hid (by rw [C.out,hgq];simp)
        clear hgq C;go_wp2
        go_roundw
        case rel=>exact ⟨k+1,j41_,y40_,by rw [G.out];exact J,HB1⟩
        exact mz_
       ·have G:Hid ((upTo c.length).filter f ++ Q8_ g (c.length:Int) (k+1)=((upTo c.length).filter f ++ Q8_ g (c.length:Int) k) ++ [(c.length:Int)+(k:Int)]):=hid (by rw [C.out,hgq,List.append_assoc];simp)
        have hw:IntKind.i64.wrap ((c.length:Int)+(k:Int))=(c.length:Int)+(k:Int):=y41_;clear hgq C;obtain ⟨Z,U⟩:∃ Z,(upTo c.length).filter f ++ Q8_ g (c.length:Int) k=Z:=⟨_,rfl⟩;rw [U] at G J x3;clear U
        go_wp2_with (at_builtin;refine Z5_ rfl _ _ rfl d.heap.size _ _ _ Z [((c.length:Int)+(k:Int))] rfl rfl (J.out.alloc _) (Row.lit1 _ ((c.length:Int)+(k:Int))) (by have:=x3.out;omega) k40_ q49_ ?_)
        intro v' xo x7 x5;have x4:Below d.heap.size W xo:=((Below.refl _ W).alloc HB1.out.size _).grown x5 q49_ (fun i hi=>(J.out.lt i hi).1);have xg:=hid x7;have xe:=hid (HB1.out.trans x4);clear x7 x5 x4;go_wp2
        go_roundw
        case rel=>exact ⟨k+1,j41_,y40_,hid (by rw [G.out,List.length_append];exact xg.out),xe⟩
        exact mz_
      ·have x6:k=ms.length:=by omega
       have xb:¬ (k:Int)<(ms.length:Int):=y40_;obtain ⟨Z,U⟩:∃ Z,(upTo c.length).filter f ++ Q8_ g (c.length:Int) k=Z:=⟨_,rfl⟩;have HZ:Hid (arcsU ms c (x:Int)=Z):=hid (by rw [yf.out,← U,x6]);rw [U] at B x3;have z7:=Row.of_own B.out rfl;have x2:=hid (RowO.of_ownU B.out (OwnR.lt2U s.out));obtain ⟨Aq,cq,rfl,-⟩:=z7;have Y:=hid (s.out.below T.out);have O:=hid (Z0_ F.out (le_refl _) T.out);have x8:=hid (ListO.one (W:=wr) wr.heap.size rfl x2.out);have L:=hid (Y.out.upA (.cells #[.slice Aq Z.length cq] 28));have M:=hid (O.out.alloc O.out.size (.cells #[.slice Aq Z.length cq] 28));have R:((upTo x).map (arcsU ms c)).length=x:=by rw [List.length_map,Y8_]
       have x1:Hid ((upTo (x+1)).map (arcsU ms c)=(upTo x).map (arcsU ms c) ++ [Z]):=hid (by
        rw [I7_,List.map_append,← HZ.out];rfl)
       obtain ⟨P,hP⟩:∃ P,(upTo x).map (arcsU ms c)=P:=⟨_,rfl⟩;rw [hP] at L x1 R;have xh:=hid R;clear Y O x2 s x6 hP U R E T
       go_wp2_with (at_builtin;go_loud (refine C5_ (by first | rfl | (simp [Region.wanted,yielded,go_sem];omega)) _ _ rfl _ _ _ P [Z] rfl rfl L.out x8.out M.out.size (by rw [xh.out];simp;omega) ?_))
       intro v3 yi ho D;have xd:=hid ho;have xf:=hid (M.out.grown D M.out.size L.out.lt);clear ho D;go_wp2
       go_roundw
       case rel=>exact ⟨x+1,j41_,y40_,by rw [x1.out];exact xd,xf⟩
       exact mz_
  ·have ya:x=c.length:=by omega
   have y7:¬ (x:Int)<(c.length:Int):=y40_;have xq:Hid (OwnR d w.heap.size zs ((upTo c.length).map (arcsU ms c) ++ List.replicate 0 [])):=hid (by
    rw [List.replicate_zero,List.append_nil,← ya];exact s.out)
   have yd:=hid (Below.refl d.heap.size d);clear s ya;go_wp2
   go_loopw [5,10] (fun va S K=>∃ k:Nat,S=.int .i64 (k:Int)∧k≤ms.length∧Hid (OwnR K w.heap.size va ((upTo c.length).map (arcsU ms c) ++ List.replicate k []))∧Hid (Below w.heap.size w K)) (fun _ S _=>ms.length - (intOf S).toNat)
   case atStart=>exact ⟨0,rfl,Nat.zero_le _,xq,F⟩
   case round =>
    clear xq F yd;obtain ⟨k,rfl,z3,s,F⟩:=hrel;obtain ⟨zt,z9⟩:=OwnR.nameU s.out;subst z9;by_cases xc:k<ms.length
    ·have xb:(k:Int)<(ms.length:Int):=by omega
     obtain ⟨X,hX⟩:∃ X,wr.alloc (.cells #[] 3)=X:=⟨_,rfl⟩;have HX:=hid hX;have xj:Below wr.heap.size wr X:=by rw [← hX];exact (Below.refl _ wr).alloc (le_refl _) _
     have xz:Hid (X.ownsRow wr.heap.size 3 1 (.slice (some ⟨wr.heap.size,0,none⟩) 0 0) ([]:List Int).length (ints [])):=hid (by
      rw [← hX];exact World.ownsRow_made wr #[] 0 (le_refl _) z41_ rfl)
     have x2:=hid (RowO.of_ownU xz.out (OwnR.lt2U s.out));have Y:=hid (s.out.below xj);have O:=hid (Z0_ F.out (le_refl _) xj);have x8:=hid (ListO.one (W:=X) X.heap.size rfl x2.out);have L:=hid (Y.out.upA (.cells #[.slice (some ⟨wr.heap.size,0,none⟩) 0 0] 28));have M:=hid (O.out.alloc O.out.size (.cells #[.slice (some ⟨wr.heap.size,0,none⟩) 0 0] 28));have R:((upTo c.length).map (arcsU ms c) ++ List.replicate k []).length=c.length+k:=by rw [List.length_append,List.length_map,Y8_,List.length_replicate]
     have x1:Hid ((upTo c.length).map (arcsU ms c) ++ List.replicate (k+1) []=((upTo c.length).map (arcsU ms c) ++ List.replicate k []) ++ [[]]):=hid (by
      rw [List.replicate_succ',List.append_assoc])
     obtain ⟨P,hP⟩:∃ P,(upTo c.length).map (arcsU ms c) ++ List.replicate k []=P:=⟨_,rfl⟩;rw [hP] at L x1 R;have xh:=hid R;have xi:X.heap.size=wr.heap.size+1:=by rw [← hX];simp
     rw [xi] at x8;have zu:=hid xi;clear Y O x2 s hP R hX xj xi xz
     go_wp2_with (at_builtin;rw [HX.out];go_loud (refine C5_ (by first | rfl | (simp [Region.wanted,yielded,go_sem];omega)) _ _ rfl _ _ _ P [[]] rfl rfl L.out x8.out M.out.size (by rw [xh.out];simp;omega) ?_))
     intro v3 yi ho D;have xd:=hid ho;have xf:=hid (M.out.grown D M.out.size L.out.lt);clear ho D;go_wp2
     go_roundw
     case rel=>exact ⟨k+1,j41_,y40_,by rw [x1.out];exact xd,xf⟩
     exact mz_
    ·have x6:k=ms.length:=by omega
     have xb:¬ (k:Int)<(ms.length:Int):=y40_;have ye:Hid (Rows2 wr wr.heap.size zt (adjU ms c)):=hid (by
      have h:=OwnR.rows s.out;rw [x6] at h;exact h)
     clear x6 s;go_wp2;go_ret;exact ⟨_,rfl,ye.out,F.out⟩
end Go.Proofs.YtigobiacbficaaaGreatDoor.Wp
