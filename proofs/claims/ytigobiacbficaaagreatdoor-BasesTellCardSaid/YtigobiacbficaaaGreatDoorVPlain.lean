/- The document's plain of layer 10, walked, kind by kind (written by gen_vplain.py). -/
import Derived.Test.YtigobiacbficaaaGreatDoorVInd
import Derived.Test.YtigobiacbficaaaGreatDoorVI10C
import Derived.Test.YtigobiacbficaaaGreatDoorZX
import Derived.Test.YtigobiacbficaaaGreatDoorVLR
import Derived.Test.YtigobiacbficaaaGreatDoorIJRef
import Derived.Deep.AppendLies
import Derived.Deep.RegionLaw
import Derived.Deep.RegionHeld3
import Derived.Test.YtigobiacbficaaaGreatDoorX0A
import Derived.Test.YtigobiacbficaaaGreatDoorX0B
set_option maxHeartbeats 8000000
set_option maxRecDepth 100000
open Go.Lib (hid)
open Nat (le_refl)
namespace Go.Proofs.YtigobiacbficaaaGreatDoor.Wp
private theorem z0_ {P:Prop} (h:P:=by
 go_wp2
 go_loopw [4,8] (fun _ vc wr=>∃ c:Nat,vc=.int .i64 (c:Int)∧c≤A∧Hid ((List.range c).all (fun c=>decide ((cntC cls s (c:Int):Int)≤mo.getD c 0))=true∧Below W2.heap.size W2 wr)) (fun _ vc _=>A - (intOf vc).toNat)
 case atStart=>exact ⟨0,rfl,Nat.zero_le _,by simp,Below.refl _ _⟩
 case round =>
  obtain ⟨c,rfl,hcA,HT⟩:=hrel
  have HBq:=hid (Z0_ Hb2.out (le_refl _) HT.out.2)
  have q2:=(HT.out.2.cell (p:=⟨w.heap.size,2,none⟩) HK.out.lt).trans (HK.out.cell 2)
  by_cases hlt:c<A
  ·have hltI:(c:Int)<m.a:=by have:=HA.out;omega
   obtain ⟨am,hAm,hbm,hcm⟩:=HM.out c (by have:=Hml.out;omega)
   subst hAm
   have hmI:(c:Int)<(mo.length:Int):=by have:=Hml.out;omega
   have hmN:c<mo.length:=by have:=Hml.out;omega
   have hw1:IntKind.i64.wrap ((c:Int)+1)=(c:Int)+1:=by rw [IntKind.wrap_i64];omega
   obtain ⟨N,hN⟩:∃ N:Nat,cntC cls s (c:Int)=N:=⟨_,rfl⟩
   obtain ⟨y,hy⟩:∃ y:Int,mo.getD c 0=y:=⟨_,rfl⟩
   rw [hy] at hcm
   have HCM:=hid hcm
   have HBM:=hid hbm
   have HCq:Hid (∀ (vc vs:Value) (W:World),Row W W.heap.size vc cls→Row W W.heap.size vs s→Calls Tryz.prog 115 #[vc,vs,.int .i64 (c:Int)] W (Tells W (N:Int))):=hid fun vc vs W h1 h2=>by rw [← hN];exact HC.out c vc vs W h1 h2
   have K1:Hid (∀ W,Below wr.drew.heap.size wr.drew W→W.cell? ⟨w.heap.size,4,none⟩=some (.slice (some al) m.l.length cl)∧W.cell? al=some (.slice Ac cls.length cc)∧W.cell? ⟨al.block,al.off+1,none⟩=some (.slice (some am) mo.length cm)∧W.cell? (am.add c)=some (.int .i64 y)):=hid fun W hW=>by
    have hWW:=Z0_ HBq.out.drew (le_refl _) hW
    exact ⟨((Z0_ HT.out.2.drew (le_refl _) hW).cell (p:=⟨w.heap.size,4,none⟩) HK.out.lt).trans (HK.out.cell 4),(hWW.cell (p:=al) HAB.out).trans HG0.out,(hWW.cell (p:=⟨al.block,al.off+1,none⟩) HAB.out).trans HG1.out,(hWW.cell (p:=am.add c) (by rw [Z2_];exact HBM.out)).trans HCM.out⟩
   have HB:Hid (Below wr.drew.heap.size wr.drew wr.drew):=hid (Below.refl _ _)
   have HBd:=hid HBq.out.drew
   have HRs:=hid (HR.out.up HBd.out)
   have HCs:=hid (HCR.out.up HBd.out)
   clear hcm hbm
   by_cases hgt:y<(N:Int)
   ·have HF:Hid (R=false):=hid (HAR.out.symm.trans (Zi4 hlt (by rw [hN,hy];exact decide_eq_false (by omega))))
    clear hN hy
    go_wp2
    go_region_held3 (fun W=>W.cell? ⟨w.heap.size,4,none⟩=some (.slice (some al) m.l.length cl)∧W.cell? al=some (.slice Ac cls.length cc)∧W.cell? ⟨al.block,al.off+1,none⟩=some (.slice (some am) mo.length cm)∧W.cell? (am.add c)=some (.int .i64 y))
     (exact K1.out _ HB.out)
     (first
     | (go_at_call 115;refine (HCq.out _ _ _ HCs.out HRs.out).mono ?_;rintro e w11 ⟨rfl,hb11⟩;replace HB:=hid (Z0_ HB.out (le_refl _) hb11);clear hb11))
    all_goals
     go_simp
     have HB9:=hid (Z0_ HBd.out (le_refl _) HB.out)
     go_wp2
     go_ret
     exact ⟨by rw [HF.out];rfl,HB9.out⟩
   ·have HF:Hid ((List.range (c+1)).all (fun c=>decide ((cntC cls s (c:Int):Int)≤mo.getD c 0))=true):=hid (Zi3 hlt HT.out.1 (by rw [hN,hy];exact decide_eq_true (by omega)))
    have hle:(N:Int)≤y:=by omega
    clear hN hy
    go_wp2
    go_region_held3 (fun W=>W.cell? ⟨w.heap.size,4,none⟩=some (.slice (some al) m.l.length cl)∧W.cell? al=some (.slice Ac cls.length cc)∧W.cell? ⟨al.block,al.off+1,none⟩=some (.slice (some am) mo.length cm)∧W.cell? (am.add c)=some (.int .i64 y))
     (exact K1.out _ HB.out)
     (first
     | (go_at_call 115;refine (HCq.out _ _ _ HCs.out HRs.out).mono ?_;rintro e w11 ⟨rfl,hb11⟩;replace HB:=hid (Z0_ HB.out (le_refl _) hb11);clear hb11))
    all_goals
     go_simp
     have HB9:=hid (Z0_ HT.out.2.drew (le_refl _) HB.out)
     go_wp2
     go_roundw
     case rel=>exact ⟨c+1,by go_num,by omega,HF.out,HB9.out⟩
     exact mz_
  ·have hce:c=A:=by omega
   have hltI:¬ (c:Int)<m.a:=by have:=HA.out;omega
   have HF:Hid (R=true):=hid (by rw [← HAR.out,← hce];exact HT.out.1)
   go_wp2
   go_ret
   exact ⟨by rw [HF.out];rfl,HBq.out⟩):P:=h
open Go Go.RowKit
theorem flat2 (w:World) (a b:Value):∀ (j:Nat) (v:Value),[a,b][j]?=some v→(w.alloc (.cells #[a,b] 108)).cell? ((⟨w.heap.size,0,none⟩:Addr).add j)=some v:=by
 intro j v d;have hb:=Blk.new w 108 #[a,b];have hc:=hb.cell j;have c:((⟨w.heap.size,0,none⟩:Addr).add j)=⟨w.heap.size,j,none⟩:=by
  unfold Addr.add;split<;>simp_all
 rw [c,hc];simpa using d
theorem Xb4 {w:World} {base:Nat} {v:Value} {us:List Value} {pp:List (List Int)} (h:w.ownsRow base 28 1 v us.length us) (hl:us.length=pp.length) (o:∀ j u,us[j]?=some u→Row w w.heap.size u (pp.getD j [])):Rows2 w w.heap.size v pp:=by
 rcases h.2 with ⟨rfl,q⟩ | ⟨g,d,p,rfl,hb,r,f,m,_⟩
 ·have hp0:pp.length=0:=by omega
  exact k37_
 ·refine ⟨some ⟨g,0,none⟩,d,by rw [hl],⟨by rw [← hl];exact f,m,fun e=>by cases e⟩,fun k hk=>?_⟩
  have c:k<us.length:=y40_;exact ⟨⟨g,0,none⟩,us[k],rfl,(h.lt g rfl).2,h.cells (g:=g) rfl k _ (List.getElem?_eq_getElem c),o k _ (List.getElem?_eq_getElem c)⟩
theorem Vu5 (k:Nat) (m:Mat) (v F:Value) (s:List Int) (w:World) (D:MatV w w.heap.size v m) (hc:chk m=0) (B:Row w w.heap.size F s) (q:InN (nN m) s) (C:m.t=0):Calls Tryz.prog 85 #[v,F] w (Says w (indB (k+1) m s)):=by
 rw [ind_0 hc q C];have V:=X0_ q;have S:=(Y0_ hc).2;have U:(s.length:Int)≤64:=y40_;obtain ⟨X,W,rfl,z,y⟩:=D.open;obtain ⟨g,cl,rfl,_⟩:=id z;obtain ⟨e,h,rfl,_⟩:=id y;obtain ⟨J,cs,rfl,_⟩:=id B;have p:=Z4_ w m (.slice g m.l.length cl) (.slice e m.i.length h);have o:=Z1_ w m (.slice g m.l.length cl) (.slice e m.i.length h);unfold boxed at *
 obtain ⟨c,hW0⟩:∃ c,c=w.alloc (.cells #[.int .i64 m.t,.int .i64 m.n,.int .i64 m.a,.int .i64 m.b,.slice g m.l.length cl,.slice e m.i.length h] 25):=⟨_,rfl⟩;rw [← hW0] at p o;have T:c.heap.size=w.heap.size+1:=z42_;obtain ⟨d,r⟩:∃ d,d=(c.alloc (.cells #[] 108)).alloc (.cells #[] 28):=⟨_,rfl⟩;have G:Hid (d=((w.alloc (.cells #[.int .i64 m.t,.int .i64 m.n,.int .i64 m.a,.int .i64 m.b,.slice g m.l.length cl,.slice e m.i.length h] 25)).alloc (.cells #[] 108)).alloc (.cells #[] 28)):=hid (by rw [r,hW0]);have j:Below c.heap.size c d:=by rw [r];exact ((Below.refl _ c).alloc (le_refl _) _).alloc k40_ _
 have K:=hid j;have x:Below w.heap.size w d:=Z0_ o (le_refl _) j;have u:=hid (p.below j y40_);have Hb2:=hid x;have L:(m.t==1)=false:=x41_;have M:(m.t==2)=false:=x41_;have N:(m.t==3)=false:=x41_;have O:(m.t==4)=false:=x41_;have P:=u.out.cell 0;have Q:=u.out.cell 2;clear C hW0 r p o j x z y B q D
 go_enter Tryz.func85,Tryz.ntmps85
 go_wp2;rw [← G.out]
 go_loopw [5,6,7] (fun _ _ I wr=>I=.int .i64 0∧wr=d) (fun _ _ _ _=>1)
 case atStart=>exact ⟨rfl,rfl⟩
 case round =>
  obtain ⟨rfl,E⟩:=hrel;rw [E];clear E;by_cases R:0<s.length
  ·have H:(0:Int)<(s.length:Int):=by omega
   exact j2_
  ·have H:¬ (0:Int)<(s.length:Int):=by omega
   exact j2_
theorem Vu6 (k:Nat) (m:Mat) (v d:Value) (s:List Int) (w:World) (J:MatV w w.heap.size v m) (hc:chk m=0) (j:Row w w.heap.size d s) (z:InN (nN m) s) (ht:m.t=3):Calls Tryz.prog 85 #[v,d] w (Says w (indB (k+1) m s)):=by
 rw [ind_3 hc z ht];obtain ⟨T,C⟩:=Zd9 hc ht;have P:=Y0_ hc;have I:∀ i,IsSet (m.l.getD i [])∧(m.l.getD i []).length≤64:=fun i=>by
  rcases Nat.lt_or_ge i m.l.length with G | G
  ·unfold mayM at C
   rw [Bool.and_eq_true,List.all_eq_true] at C;have h:=Zr7 (C.2 _ (Q7_ [] G));have ha:=chk_a hc;have h2:InN m.a.toNat (m.l.getD i []):=⟨h.1,fun r j=>by have:=h.2 r j;omega⟩;exact ⟨h.1,by have:=X0_ h2;omega⟩
  ·rw [List.getD_eq_getElem?_getD,List.getElem?_eq_none G]
   exact ⟨J0_,k40_⟩
 have Q:=J;have x3:=X0_ z;have x0:=(Y0_ hc).2;have x2:(s.length:Int)≤64:=y40_;obtain ⟨o,iv,rfl,H,L⟩:=J.open;obtain ⟨q,cl,rfl,_⟩:=id H;obtain ⟨p,u,rfl,_⟩:=id L;obtain ⟨V,cs,rfl,_⟩:=id j;have E:=Z4_ w m (.slice q m.l.length cl) (.slice p m.i.length u);have D:=Z1_ w m (.slice q m.l.length cl) (.slice p m.i.length u);unfold boxed at *
 obtain ⟨c,hW0⟩:∃ c,c=w.alloc (.cells #[.int .i64 m.t,.int .i64 m.n,.int .i64 m.a,.int .i64 m.b,.slice q m.l.length cl,.slice p m.i.length u] 25):=⟨_,rfl⟩;rw [← hW0] at E D;have x1:c.heap.size=w.heap.size+1:=z42_;obtain ⟨g,F⟩:∃ g,g=(c.alloc (.cells #[] 108)).alloc (.cells #[] 28):=⟨_,rfl⟩;have N:Hid (g=((w.alloc (.cells #[.int .i64 m.t,.int .i64 m.n,.int .i64 m.a,.int .i64 m.b,.slice q m.l.length cl,.slice p m.i.length u] 25)).alloc (.cells #[] 108)).alloc (.cells #[] 28)):=hid (by rw [F,hW0]);have y:Below c.heap.size c g:=by rw [F];exact ((Below.refl _ c).alloc (le_refl _) _).alloc k40_ _
 have X:=hid y;have B:Below w.heap.size w g:=Z0_ D (le_refl _) y;have K:=hid (E.below y y40_);have Hb2:=hid B;have Y:(m.t==1)=false:=x41_;have Z:(m.t==2)=false:=x41_;have d3:(m.t==3)=true:=z48_;have d4:(m.t==4)=false:=x41_;have HC:Hid (∀ (o d:Value) (W:World),Rows2 W W.heap.size o m.l→Row W W.heap.size d s→Calls Tryz.prog 116 #[o,d,.slice none 0 0] W (Says W (F8_ m.l s []))):=hid fun o d W h h2=>Zi2 m.l (fun i=>(I i).1) (fun i=>(I i).2) y40_ s [] o d _ W (fun x S=>by have:=z.2 x S;omega) J0_ x41_ h h2 (Row.nil_ _ _);have HL:=hid (H.up B);have HR:=hid (j.up B);generalize F8_ m.l s []=R at *
 have g0:=K.out.cell 0;have g4:=K.out.cell 4;clear ht hW0 F E D y B H L j z J Q I T C P hc
 go_enter Tryz.func85,Tryz.ntmps85
 go_wp2;rw [← N.out]
 go_loopw [5,6,7] (fun _ _ U wr=>U=.int .i64 0∧wr=g) (fun _ _ _ _=>1)
 case atStart=>exact ⟨rfl,rfl⟩
 case round =>
  obtain ⟨rfl,M⟩:=hrel;rw [M];clear M;by_cases h0:0<s.length
  ·have O:(0:Int)<(s.length:Int):=by omega
   exact j37_
  ·have O:¬ (0:Int)<(s.length:Int):=by omega
   exact j37_
theorem Zi3 {A:Nat} {p:Nat→Bool} {c:Nat} (_hc:c<A) (h:(List.range c).all p=true) (d:p c=true):(List.range (c+1)).all p=true:=by
 rw [List.range_succ,List.all_append,h];simp [d]
theorem Zi4 {A:Nat} {p:Nat→Bool} {c:Nat} (hc:c<A) (d:p c=false):(List.range A).all p=false:=by
 rw [Bool.eq_false_iff];intro h;rw [List.all_eq_true] at h;rw [h c (List.mem_range.2 hc)] at d;cases d
theorem Vu7 (k:Nat) (m:Mat) (v S:Value) (s:List Int) (w:World) (P:MatV w w.heap.size v m) (hc:chk m=0) (F:Row w w.heap.size S s) (r:InN (nN m) s) (ht:m.t=2):Calls Tryz.prog 85 #[v,S] w (Says w (indB (k+1) m s)):=by
 rw [ind_2 hc r ht];obtain ⟨p0,p1,p2,p3,p4⟩:=Za2 hc ht;have x0:=Y0_ hc;have ha:=chk_a hc;have xa:=X0_ r;have x7:=(Y0_ hc).2;have x9:(s.length:Int)≤64:=y40_;obtain ⟨lv,iv,rfl,E,K⟩:=P.open;obtain ⟨j,cl,rfl,_⟩:=id E;obtain ⟨h,o,rfl,_⟩:=id K;obtain ⟨As,cs,rfl,_⟩:=id F;have z:=Z4_ w m (.slice j m.l.length cl) (.slice h m.i.length o);have x:=Z1_ w m (.slice j m.l.length cl) (.slice h m.i.length o);unfold boxed at *
 obtain ⟨d,hW0⟩:∃ d,d=w.alloc (.cells #[.int .i64 m.t,.int .i64 m.n,.int .i64 m.a,.int .i64 m.b,.slice j m.l.length cl,.slice h m.i.length o] 25):=⟨_,rfl⟩;rw [← hW0] at z x;have x8:d.heap.size=w.heap.size+1:=z42_;obtain ⟨W2,D⟩:∃ W2,W2=(d.alloc (.cells #[] 108)).alloc (.cells #[] 28):=⟨_,rfl⟩;have T:Hid (W2=((w.alloc (.cells #[.int .i64 m.t,.int .i64 m.n,.int .i64 m.a,.int .i64 m.b,.slice j m.l.length cl,.slice h m.i.length o] 25)).alloc (.cells #[] 108)).alloc (.cells #[] 28)):=hid (by rw [D,hW0]);have q:Below d.heap.size d W2:=by rw [D];exact ((Below.refl _ d).alloc (le_refl _) _).alloc k40_ _
 have x1:=hid q;have J:Below w.heap.size w W2:=Z0_ x (le_refl _) q;have HK:=hid (z.below q y40_);have Hb2:=hid J;have d1:(m.t==1)=false:=x41_;have d2:(m.t==2)=true:=z48_;have d3:(m.t==3)=false:=x41_;have d4:(m.t==4)=false:=x41_;obtain ⟨A',c',Y,_,g⟩:=id E;injection Y with e1 e2 e3;subst e1 e3;obtain ⟨al,u0,V,I,B,u⟩:=g 0 y40_;subst V;obtain ⟨al',u1,X,_,G,O⟩:=g 1 y40_;obtain rfl:=Option.some.inj X;rw [add_zero] at B;change Row w w.heap.size u0 (row m 0) at u;change Row w w.heap.size u1 (row m 1) at O;obtain ⟨A,H⟩:∃ A:Nat,m.a=(A:Int):=⟨m.a.toNat,y40_⟩;have L:∀ k,k<s.length→0≤s.getD k 0∧s.getD k 0<((row m 0).length:Int):=fun k g=>by have:=M1_ r g;omega
 have Hml:Hid ((row m 1).length=A):=hid y40_;have HC:Hid (∀ (c:Nat) (vc vs:Value) (W:World),Row W W.heap.size vc (row m 0)→Row W W.heap.size vs s→Calls Tryz.prog 115 #[vc,vs,.int .i64 (c:Int)] W (Tells W (cntC (row m 0) s c:Nat))):=hid fun c vc vs W h1 h2=>Xp5 vc vs (row m 0) s c W h1 h2 L y40_;rw [show m.a.toNat=A by omega];generalize row m 0=cls at *
 generalize row m 1=mo at *
 obtain ⟨R,C⟩:∃ R,(List.range A).all (fun c=>decide ((cntC cls s (c:Int):Int)≤mo.getD c 0))=R:=⟨_,rfl⟩;rw [C];have HAR:=hid C;clear C;have HCR:=hid u;obtain ⟨Ac,cc,rfl,_⟩:=id u;obtain ⟨Am,cm,rfl,_,M⟩:=O;have HM:=hid M;have HR:=hid F;have HG0:=hid B;have HG1:=hid G;rw [show al.add 1=(⟨al.block,al.off+1,none⟩:Addr) by simp [Addr.add]] at HG1;have HAB:=hid I;have Z:(m.l.length:Int)=2:=y40_;have x2:(0:Int)<(m.l.length:Int):=y40_;have x3:(1:Int)<(m.l.length:Int):=y40_;have x4:0<m.l.length:=y40_;have x5:1<m.l.length:=y40_;clear Z;have g0:=HK.out.cell 0;have x6:A≤64:=y40_;have HA:=hid H;clear H ht hW0 D z x q J E K F r P L M B G I u g p0 p1 p2 p3 p4 x0 ha hc
 go_enter Tryz.func85,Tryz.ntmps85
 go_wp2;rw [← T.out]
 go_loopw [5,6,7] (fun _ _ vi wr=>vi=.int .i64 0∧wr=W2) (fun _ _ _ _=>1)
 case atStart=>exact ⟨rfl,rfl⟩
 case round =>
  obtain ⟨rfl,Q⟩:=hrel;rw [Q];clear Q;by_cases h0:0<s.length
  ·have U:(0:Int)<(s.length:Int):=by omega
   exact z0_
  ·have U:¬ (0:Int)<(s.length:Int):=by omega
   exact z0_
theorem Vu8 (k:Nat) (m:Mat) (v sv:Value) (s:List Int) (w:World) (hv:MatV w w.heap.size v m) (hc:chk m=0) (hr:Row w w.heap.size sv s) (P:InN (nN m) s) (ht:m.t=1):Calls Tryz.prog 85 #[v,sv] w (Says w (indB (k+1) m s)):=by
 have hg:=O3_ hc ht;have ha:=chk_a hc;have T:=Zl7 hc ht P;have U:=Yq3 (s:=s) hc ht;have ya:=Y0_ hc;obtain ⟨A,N⟩:∃ A:Nat,m.a=(A:Int):=⟨m.a.toNat,y40_⟩;rw [N,Int.toNat_natCast] at U;have xy:1≤A:=y40_;have y1:A≤64:=y40_;obtain ⟨d,x6⟩:∃ d,edgP (nN m) (edgOf m) (memP s)=d:=⟨_,rfl⟩;rw [x6] at T U;have x5:d.length=s.length:=by
  have:=congrArg List.length T;rw [V2_] at this;unfold R8_ at this;rw [List.length_map] at this;omega
 have xl:(rankN A d==(d.length:Int))=indB (k+1) m s:=by
  have e1:((O1_ A (nN m) (edgOf m) (memP s):Nat):Int)=rankN A d:=by rw [← x6];unfold O1_ rankN;have:=Zc2 A (edgP (nN m) (edgOf m) (memP s));omega
  rw [Bool.eq_iff_iff,beq_iff_eq,V4_,rkP_1 ht,N,Int.toNat_natCast,← e1,x5];omega
 rw [← xl];obtain ⟨b,hb⟩:∃ b,(rankN A d==(d.length:Int))=b:=⟨_,rfl⟩;rw [hb];have yo:=X0_ P;have ym:=(Y0_ hc).2;have yn:(s.length:Int)≤64:=y40_;obtain ⟨lv,iv,rfl,x4,xh⟩:=hv.open;obtain ⟨C,cl,rfl,_⟩:=id x4;obtain ⟨F,K,rfl,_⟩:=id xh;obtain ⟨As,cs,rfl,_⟩:=id hr;have I:=Z4_ w m (.slice C m.l.length cl) (.slice F m.i.length K);have H:=Z1_ w m (.slice C m.l.length cl) (.slice F m.i.length K);unfold boxed at *
 obtain ⟨g,hW0⟩:∃ g,g=w.alloc (.cells #[.int .i64 m.t,.int .i64 m.n,.int .i64 m.a,.int .i64 m.b,.slice C m.l.length cl,.slice F m.i.length K] 25):=⟨_,rfl⟩;rw [← hW0] at I H;have x7:g.heap.size=w.heap.size+1:=z42_;obtain ⟨B,Q⟩:∃ B,B=(g.alloc (.cells #[] 108)).alloc (.cells #[] 28):=⟨_,rfl⟩;have xq:Hid (B=((w.alloc (.cells #[.int .i64 m.t,.int .i64 m.n,.int .i64 m.a,.int .i64 m.b,.slice C m.l.length cl,.slice F m.i.length K] 25)).alloc (.cells #[] 108)).alloc (.cells #[] 28)):=hid (by rw [Q,hW0]);have L:Below g.heap.size g B:=by rw [Q];exact ((Below.refl _ g).alloc (le_refl _) _).alloc k40_ _
 have xm:=hid L;have xa:Below w.heap.size w B:=Z0_ H (le_refl _) L;have HK:=hid (I.below L y40_);have yf:=hid xa;have d1:(m.t==1)=true:=z48_;have d2:(m.t==2)=false:=x41_;have d3:(m.t==3)=false:=x41_;have d4:(m.t==4)=false:=x41_;obtain ⟨A',c',he,_,hk⟩:=id x4;injection he with e1 e2 e3;subst e1 e3;have xn:Hid (∀ (v:Value) (W:World),Edges W W.heap.size v (castE d)→Calls Tryz.prog 114 #[.int .i64 m.a,v] W (Says W b)):=hid fun v W h=>by rw [N];exact Zk1 A v d W h xy y1 y40_ U b hb
 have xr:Hid (∀ i,i<s.length→∃ (X:Nat) (p q:Int) (j al c:Addr) (o:Nat),As=some j∧C=some al∧X<m.l.length∧j.block<w.heap.size∧al.block<w.heap.size∧c.block<w.heap.size∧w.cell? (j.add i)=some (.int .i64 (X:Int))∧w.cell? (al.add X)=some (.slice (some c) 2 o)∧w.cell? c=some (.int .i64 p)∧w.cell? ⟨c.block,c.off+1,none⟩=some (.int .i64 q)∧((d.getD i (0,0)).1:Int)=p∧((d.getD i (0,0)).2:Int)=q):=hid fun i r=>by
  have hx:=M1_ P r;obtain ⟨X,hX⟩:∃ X:Nat,s.getD i 0=(X:Int):=⟨(s.getD i 0).toNat,y40_⟩;obtain ⟨A0,c0,y7,_,y9⟩:=id hr;injection y7 with q1 q2 q3;subst q1 q3;obtain ⟨j,x2,y4,xe⟩:=y9 i r;rw [hX] at hx xe;have S:X<m.l.length:=y40_;obtain ⟨al,u,x3,y3,y6,yb⟩:=hk X S;have xx:(m.l.getD X []).length=2:=by have:=(hg.2.2 X S).1;omega
  have O:=congrArg (fun l=>List.getD l i (0,0)) T;change (R8_ m.l s).getD i (0,0)=(castE d).getD i (0,0) at O;rw [I8_] at O;have y2:(R8_ m.l s).getD i (0,0)=((m.l.getD X []).getD 0 0,(m.l.getD X []).getD 1 0):=by
   have:(s.getD i 0)=s[i]:=by simp [List.getD,r]
   rw [this] at hX;simp [R8_,List.getD,r,hX]
  rw [y2] at O;generalize m.l.getD X []=z at *
  obtain ⟨p,q,rfl⟩:∃ p q,z=[p,q]:=by
   match z,xx with
   | [p,q],_=>exact ⟨p,q,rfl⟩
  obtain ⟨Az,o,rfl,_,xf⟩:=yb;obtain ⟨c,xz,y5,xc⟩:=xf 0 k40_;subst xz;obtain ⟨yg,y0,_,xd⟩:=xf 1 k40_;obtain rfl:=Option.some.inj y0;rw [add_zero] at xc;rw [show c.add 1=(⟨c.block,c.off+1,none⟩:Addr) by simp [Addr.add]] at xd;injection O with M h2;exact ⟨X,p,q,j,al,c,o,x2,x3,S,y4,y3,y5,xe,y6,xc,xd,M.symm,h2.symm⟩
 have x9:=hid x5;have xk:OwnE B (w.heap.size+1) (.slice (some ⟨w.heap.size+1,0,none⟩) 0 0) []:=by
  unfold OwnE;rw [Q,← x7];exact (World.ownsRow_lit g #[] 0 (le_refl _) z41_ rfl).alloc _
 have xo:=hid xk;obtain ⟨i0,y8,yc,yd,ye⟩:=info_parts Jq3;have x1:=hid x7;have G:=hid I;have x8:=hid H;have g0:=HK.out.cell 0;clear ht hW0 Q I H L xa x4 xh hr P hv hk hg ha T U ya N xl hb x6 hc xk x5 x7
 go_enter Tryz.func85,Tryz.ntmps85
 go_wp2;rw [← xq.out]
 go_loopw [5,6,7] (fun ve _ vi wr=>∃ i:Nat,vi=.int .i64 (i:Int)∧i≤s.length∧Hid (OwnE wr (w.heap.size+1) ve (d.take i)∧Below g.heap.size g wr)) (fun _ _ vi _=>s.length - (intOf vi).toNat)
 case atStart=>exact ⟨0,rfl,Nat.zero_le _,by rw [List.take_zero];exact xo.out,xm.out⟩
 case round =>
  obtain ⟨i,rfl,r,E⟩:=hrel;clear g0;have V:w.heap.size<g.heap.size:=by rw [x1.out];omega
  have y:=hid (E.out.2);have D:=hid (Z0_ x8.out (le_refl _) E.out.2);have r0:=(y.out.cell (p:=⟨w.heap.size,0,none⟩) V).trans (G.out.cell 0);by_cases xi:i<s.length
  ·have yl:(i:Int)<(s.length:Int):=by omega
   obtain ⟨X,p,q,j,al,c,o,x2,x3,S,b1,b2,J,k1,k2,k3,k4,M,h2⟩:=xr.out i xi;subst x2 x3;have yh:(X:Int)<(m.l.length:Int):=y40_;have g1:=(D.out.cell (p:=j.add i) (by rw [Z2_];exact b1)).trans k1;have g2:=(D.out.cell (p:=al.add X) (by rw [Z2_];exact b2)).trans k2;have g3:=(D.out.cell (p:=c) J).trans k3;have g4:=(D.out.cell (p:=⟨c.block,c.off+1,none⟩) J).trans k4;have g5:=(y.out.cell (p:=⟨w.heap.size,4,none⟩) V).trans (G.out.cell 4);have yq:IntKind.i64.wrap ((i:Int)+1)=(i:Int)+1:=y41_;have Hn:Hid (d.take (i+1)=d.take i ++ [d.getD i (0,0)]):=hid (by
    have:i<d.length:=by rw [x9.out];exact xi
    rw [List.take_succ_eq_append_getElem this];simp [List.getD,this])
   have xu:Hid (flatE [d.getD i (0,0)]=[.int .i64 p,.int .i64 q]):=hid (by simp [flatE,← M,← h2]);have yi:(d.take i).length≤64:=k42_;have yp:w.heap.size+1≤wr.heap.size:=by rw [← x1.out];exact y.out.size
   have x0:=hid E.out.1;generalize d.take i=bk at *
   obtain ⟨Ae,ce,rfl⟩:=x0.out.slice;have xv:Hid ((j.add i).block<w.heap.size∧(al.add X).block<w.heap.size∧c.block<w.heap.size∧w.cell? (j.add i)=some (.int .i64 (X:Int))∧w.cell? (al.add X)=some (.slice (some c) 2 o)∧w.cell? c=some (.int .i64 p)∧w.cell? ⟨c.block,c.off+1,none⟩=some (.int .i64 q)):=hid ⟨by rw [Z2_];exact b1,by rw [Z2_];exact b2,J,k1,k2,k3,k4⟩;clear k1 k2 k3 k4 M h2 b1 b2 J E;have K1:Hid (∀ W,Below g.heap.size g W→W.cell? ⟨w.heap.size,4,none⟩=some (.slice (some al) m.l.length cl)∧W.cell? (j.add i)=some (.int .i64 (X:Int))∧W.cell? (al.add X)=some (.slice (some c) 2 o)∧W.cell? c=some (.int .i64 p)∧W.cell? ⟨c.block,c.off+1,none⟩=some (.int .i64 q)):=hid fun W hW=>by
    have R:=Z0_ x8.out (le_refl _) hW;have e:=xv.out;exact ⟨(hW.cell (p:=⟨w.heap.size,4,none⟩) V).trans (G.out.cell 4),(R.cell (p:=j.add i) e.1).trans e.2.2.2.1,(R.cell (p:=al.add X) e.2.1).trans e.2.2.2.2.1,(R.cell (p:=c) e.2.2.1).trans e.2.2.2.2.2.1,(R.cell (p:=⟨c.block,c.off+1,none⟩) e.2.2.1).trans e.2.2.2.2.2.2⟩
   have x:=hid y.out.drew;have Z:=hid y.out.drew.size;clear g1 g2 g3 g4 g5;go_wp2
   go_region_held3 (fun W=>W.cell? ⟨w.heap.size,4,none⟩=some (.slice (some al) m.l.length cl)∧W.cell? (j.add i)=some (.int .i64 (X:Int))∧W.cell? (al.add X)=some (.slice (some c) 2 o)∧W.cell? c=some (.int .i64 p)∧W.cell? ⟨c.block,c.off+1,none⟩=some (.int .i64 q))
    (first | exact K1.out _ x.out | exact K1.out _ (Below.alloc x.out Z.out _))
    (first | (refine step_append_lies _ rfl _ _ 79 rfl (w.heap.size+1) 108 i0 (.agg #[.int .i64 0,.int .i64 0]) 2 16 z40_ y8 yc yd ye rfl q41_ _ bk.length (flatE bk) rfl (World.ownsRow.drew x0.out |>.alloc _) _ 1 1 [.int .i64 p,.int .i64 q] rfl rfl (fun a b h=>by exact flat2 _ _ _ a b h) (by intro u hu;simp at hu;rcases hu with rfl | rfl<;>rfl) q41_ z41_ y40_ x41_ _ rfl ?_;intro gg xw w4 xj xg _ _;replace x:Hid (Below g.heap.size g w4):=hid ((Below.alloc x.out Z.out _).grown xg (Nat.le_trans Z.out k40_) (fun i r=>by have:=(World.ownsRow.lt x0.out i r).1;rw [x1.out];exact this))))
   all_goals
    have xs:=hid x.out;have xt:Hid (OwnE w4 (w.heap.size+1) (.slice (some ⟨gg,0,none⟩) (bk.length+1) xw) (d.take (i+1))):=hid (by
     rw [Hn.out];unfold OwnE;rw [Zq5,List.length_append,xu.out];exact xj)
    clear xg xj x;go_simp;go_wp2
    go_roundw
    case rel=>exact ⟨i+1,j41_,y40_,xt.out,xs.out⟩
    exact mz_
  ·have yk:i=s.length:=by omega
   have yj:¬ (i:Int)<(s.length:Int):=y40_;have Y:=E.out.1;rw [List.take_of_length_le (by rw [x9.out];omega)] at Y;obtain ⟨Ae,ce,rfl⟩:=Y.slice;have xp:=hid Y;clear Y;have r2:=(y.out.cell (p:=⟨w.heap.size,2,none⟩) V).trans (G.out.cell 2)
   go_wp2_with fail
   refine (xn.out _ _ xp.out.edges).mono ?_;rintro e w3 ⟨rfl,xb⟩;have Hb3:=hid (Z0_ D.out (le_refl _) xb);clear xb r2 r0;exact q8_
theorem Vu9 (k:Nat) (m:Mat) (v sv:Value) (s:List Int) (w:World) (hv:MatV w w.heap.size v m) (hc:chk m=0) (hr:Row w w.heap.size sv s) (N:InN (nN m) s) (ht:m.t=4):Calls Tryz.prog 85 #[v,sv] w (Says w (indB (k+1) m s)):=by
 obtain ⟨p1,p2⟩:=Yi0 hc ht;have y3:=Y0_ hc;obtain ⟨adj,P⟩:∃ adj,adj=(pickN (nN m) (memP s)).map fun i=>m.l.getD i []:=⟨_,rfl⟩;have x2:F4_ m.l s=adj:=by rw [P];exact T2_ N
 have xe:(L.rankI m.b m.a adj==(s.length:Int))=indB (k+1) m s:=by
  have V:L.rankI m.b m.a adj=(linR m.b m.a.toNat (nN m) (colOf m) (memP s):Nat):=Vi3 P (by rw [elimK,P];exact Zf2 p2 y40_);rw [Bool.eq_iff_iff,beq_iff_eq,V4_,rkP_4 ht,V];omega
 rw [← xe];have x5:adj.length=s.length:=by rw [← x2];unfold F4_;rw [List.length_map]
 have yd:=X0_ N;have yb:=(Y0_ hc).2;have yc:(s.length:Int)≤64:=y40_;obtain ⟨lv,iv,rfl,x1,xa⟩:=hv.open;obtain ⟨C,cl,rfl,_⟩:=id x1;obtain ⟨E,K,rfl,_⟩:=id xa;obtain ⟨As,cs,rfl,_⟩:=id hr;have I:=Z4_ w m (.slice C m.l.length cl) (.slice E m.i.length K);have H:=Z1_ w m (.slice C m.l.length cl) (.slice E m.i.length K);unfold boxed at *
 obtain ⟨c,hW0⟩:∃ c,c=w.alloc (.cells #[.int .i64 m.t,.int .i64 m.n,.int .i64 m.a,.int .i64 m.b,.slice C m.l.length cl,.slice E m.i.length K] 25):=⟨_,rfl⟩;rw [← hW0] at I H;have T:c.heap.size=w.heap.size+1:=z42_;obtain ⟨B,O⟩:∃ B,B=(c.alloc (.cells #[] 108)).alloc (.cells #[] 28):=⟨_,rfl⟩;have xn:Hid (B=((w.alloc (.cells #[.int .i64 m.t,.int .i64 m.n,.int .i64 m.a,.int .i64 m.b,.slice C m.l.length cl,.slice E m.i.length K] 25)).alloc (.cells #[] 108)).alloc (.cells #[] 28)):=hid (by rw [O,hW0]);have M:Below c.heap.size c B:=by rw [O];exact ((Below.refl _ c).alloc (le_refl _) _).alloc k40_ _
 have xg:=hid M;have x6:Below w.heap.size w B:=Z0_ H (le_refl _) M;have HK:=hid (I.below M y40_);have y7:=hid x6;have d1:(m.t==1)=false:=x41_;have d2:(m.t==2)=false:=x41_;have d3:(m.t==3)=false:=x41_;have d4:(m.t==4)=true:=z48_;obtain ⟨A',c',he,_,hk⟩:=id x1;injection he with V e2 e3;subst V e3;have xl:Hid (∀ (v:Value) (W:World),Rows2 W W.heap.size v adj→Calls Tryz.prog 117 #[.int .i64 m.b,.int .i64 m.a,v] W (Gets W (.int .i64 (L.rankI m.b m.a adj)))):=hid fun v W h=>L.refrankI_any m.b m.a v adj W h;have xp:Hid (∀ i,i<s.length→∃ (X:Nat) (u:Value) (y al:Addr),As=some y∧C=some al∧X<m.l.length∧y.block<w.heap.size∧al.block<w.heap.size∧w.cell? (y.add i)=some (.int .i64 (X:Int))∧w.cell? (al.add X)=some u∧Row w w.heap.size u (adj.getD i [])):=hid fun i z=>by
  have hx:=M1_ N z;obtain ⟨X,hX⟩:∃ X:Nat,s.getD i 0=(X:Int):=⟨(s.getD i 0).toNat,y40_⟩;obtain ⟨A0,c0,xx,_,y1⟩:=id hr;injection xx with q1 q2 q3;subst q1 q3;obtain ⟨y,Y,xv,x8⟩:=y1 i z;rw [hX] at hx x8;have x0:X<m.l.length:=y40_;obtain ⟨al,u,Z,xu,xw,S⟩:=hk X x0;have xt:adj.getD i []=m.l.getD X []:=by
   have:(s.getD i 0)=s[i]:=by simp [List.getD,z]
   rw [this] at hX;rw [← x2];simp [F4_,List.getD,z,hX]
  exact ⟨X,u,y,al,Y,Z,x0,xv,xu,x8,xw,by rw [xt];exact S⟩
 have xo:=hid x5;generalize L.rankI m.b m.a adj=R at *
 have xd:B.ownsRow (w.heap.size+1) 28 1 (.slice (some ⟨w.heap.size+2,0,none⟩) 0 0) ([]:List Value).length []:=by
  rw [O,show w.heap.size+2=(c.alloc (.cells #[] 108)).heap.size by simp [T],← T];exact World.ownsRow_lit (c.alloc (.cells #[] 108)) #[] 0 k40_ z41_ rfl
 have xj:=hid xd;obtain ⟨i0,xy,y4,y5,y6⟩:=info_parts Yv0;have J:=hid T;have F:=hid I;have xh:=hid H;have g0:=HK.out.cell 0;clear ht hW0 O I H M x6 x1 xa hr N hv hk y3 xe P x2 hc xd x5 T p1 p2
 go_enter Tryz.func85,Tryz.ntmps85
 go_wp2;rw [← xn.out]
 go_loopw [5,6,7] (fun _ vc vi wr=>∃ (i:Nat) (us:List Value),vi=.int .i64 (i:Int)∧i≤s.length∧Hid (us.length=i∧wr.ownsRow (w.heap.size+1) 28 1 vc us.length us∧(∀ j u,us[j]?=some u→Row w w.heap.size u (adj.getD j []))∧Below c.heap.size c wr)) (fun _ _ vi _=>s.length - (intOf vi).toNat)
 case atStart=>exact ⟨0,[],rfl,Nat.zero_le _,rfl,xj.out,fun j u h=>by simp at h,xg.out⟩
 case round =>
  obtain ⟨i,us,rfl,z,x⟩:=hrel;clear g0;have Q:w.heap.size<c.heap.size:=by rw [J.out];omega
  have r:=hid (x.out.2.2.2);have G:=hid (Z0_ xh.out (le_refl _) x.out.2.2.2);have r0:=(r.out.cell (p:=⟨w.heap.size,0,none⟩) Q).trans (F.out.cell 0);have U:=hid x.out.1;have x4:=hid x.out.2.2.1;have D:=hid x.out.2.1;have yf:us.length≤64:=by rw [x.out.1];omega
  clear x;by_cases y2:i<s.length
  ·have ya:(i:Int)<(s.length:Int):=by omega
   obtain ⟨X,u,y,al,Y,Z,x0,b1,b2,k1,k2,S⟩:=xp.out i y2;subst Y Z;have x3:=hid S;obtain ⟨g,o,rfl,_⟩:=S;obtain ⟨d,xb⟩:∃ d,(adj.getD i []).length=d:=⟨_,rfl⟩;rw [xb] at x3 k2;have y8:(X:Int)<(m.l.length:Int):=y40_;have g1:=(G.out.cell (p:=y.add i) (by rw [Z2_];exact b1)).trans k1;have g2:=(G.out.cell (p:=al.add X) (by rw [Z2_];exact b2)).trans k2;have g5:=(r.out.cell (p:=⟨w.heap.size,4,none⟩) Q).trans (F.out.cell 4);have yg:IntKind.i64.wrap ((i:Int)+1)=(i:Int)+1:=y41_;have ye:w.heap.size+1≤wr.heap.size:=by rw [← J.out];exact r.out.size
   obtain ⟨Ac,cc,rfl⟩:=A6_ D.out;clear k1 k2 b1 b2 xb;go_wp2
   go_region_law (refine step_append_lies _ rfl _ _ 22 rfl (w.heap.size+1) 28 i0 (.slice none 0 0) 1 24 z40_ xy y4 y5 y6 rfl q41_ _ us.length us rfl (World.ownsRow.alloc D.out _).drew _ 1 1 [.slice g d o] rfl rfl (fun a b h=>by exact Yn9 _ _ _ a b h) (by intro u hu;simp at hu;subst hu;rfl) q41_ z41_ y40_ x41_ _ rfl ?_;intro gg xs w4 xc x9 _ _)
   all_goals
    have xf:c.heap.size≤(wr.alloc (.cells #[.slice g d o] 28)).drew.heap.size:=by rw [J.out];simp;omega
    have xq:Hid (Below c.heap.size c w4):=hid (((r.out.alloc r.out.size (.cells #[.slice g d o] 28)).drew).grown x9 xf (fun i z=>by have:=(World.ownsRow.lt D.out i z).1;rw [J.out];exact this));have xr:Hid (w4.ownsRow (w.heap.size+1) 28 1 (.slice (some ⟨gg,0,none⟩) (us.length+1) xs) (us ++ [Value.slice g d o]).length (us ++ [Value.slice g d o])):=hid (by
     rw [List.length_append];exact xc)
    have xm:Hid (∀ j u,(us ++ [Value.slice g d o])[j]?=some u→Row w w.heap.size u (adj.getD j [])):=hid (by
     intro j u q;by_cases y0:j<us.length
     ·rw [List.getElem?_append_left y0] at q
      exact x4.out j u q
     ·have:j=us.length:=by
       have:=(List.getElem?_eq_some_iff.1 q).1;simp at this;omega
      subst this;rw [List.getElem?_append_right (le_refl _)] at q;simp at q;subst q;rw [U.out];exact x3.out)
    have xi:Hid ((us ++ [Value.slice g d o]).length=i+1):=hid (by rw [List.length_append,U.out];rfl);clear xf x9 xc;go_wp2
    go_roundw
    case rel=>exact ⟨i+1,us ++ [.slice g d o],j41_,y40_,xi.out,xr.out,xm.out,xq.out⟩
    exact mz_
  ·have xz:i=s.length:=by omega
   have y9:¬ (i:Int)<(s.length:Int):=y40_;have xk:=hid (Xb4 (pp:=adj) D.out (by rw [U.out,xo.out];exact xz) fun j u q=>(x4.out j u q).up G.out);obtain ⟨Ac,cc,rfl⟩:=A6_ D.out;have r2:=(r.out.cell (p:=⟨w.heap.size,2,none⟩) Q).trans (F.out.cell 2);have r3:=(r.out.cell (p:=⟨w.heap.size,3,none⟩) Q).trans (F.out.cell 3)
   go_wp2_with fail
   refine (xl.out _ _ xk.out).mono ?_;rintro e w3 ⟨rfl,x7⟩;have Hb3:=hid (Z0_ G.out (le_refl _) x7);clear x7 r2 r3 r0;exact q8_
theorem Xs5 (k:Nat) (m:Mat) (v d:Value) (s:List Int) (w:World) (h:MatV w w.heap.size v m) (hc:chk m=0) (g:Row w w.heap.size d s) (e:InN (nN m) s) (c:m.t<5):Calls Tryz.prog 85 #[v,d] w (Says w (indB (k+1) m s)):=by
 have j:=Zr8 hc;rcases (by omega:m.t=0∨m.t=1∨m.t=2∨m.t=3∨m.t=4) with c | c | c | c | c
 ·exact Vu5 k m v d s w h hc g e c
 ·exact Vu8 k m v d s w h hc g e c
 ·exact Vu7 k m v d s w h hc g e c
 ·exact Vu6 k m v d s w h hc g e c
 ·exact Vu9 k m v d s w h hc g e c
end Go.Proofs.YtigobiacbficaaaGreatDoor.Wp
