/- The document's plain of layer 10, walked, kind by kind (written by gen_vplain.py). -/
import Derived.Test.YtheeajnkiniopaaGreatDoorVInd
import Derived.Test.YtheeajnkiniopaaGreatDoorVI10C
import Derived.Test.YtheeajnkiniopaaGreatDoorZX
import Derived.Test.YtheeajnkiniopaaGreatDoorVLR
import Derived.Test.YtheeajnkiniopaaGreatDoorIJRef
import Derived.Deep.AppendLies
import Derived.Deep.RegionLaw
import Derived.Deep.RegionHeld3
import Derived.Test.YtheeajnkiniopaaGreatDoorX0A
import Derived.Test.YtheeajnkiniopaaGreatDoorX0B
set_option maxHeartbeats 8000000
set_option maxRecDepth 100000
open Go.Lib (hid)
open Nat (le_refl)
namespace Go.Proofs.YtheeajnkiniopaaGreatDoor.Wp
private theorem y0_ {P:Prop} (h:P:=by
 go_wp2
 go_loopw [4,8] (fun _ vc wr=>∃ c:Nat,vc=.int .i64 (c:Int)∧c≤A∧Hid ((List.range c).all (fun c=>decide ((cntC cls s (c:Int):Int)≤mo.getD c 0))=true∧Below W2.heap.size W2 wr)) (fun _ vc _=>A - (intOf vc).toNat)
 case atStart=>exact ⟨0,rfl,Nat.zero_le _,by simp,Below.refl _ _⟩
 case round =>
  obtain ⟨c,rfl,hcA,HT⟩:=hrel
  have HBq:=hid (Z0_ Hb2.out (le_refl _) HT.out.2)
  have q2:=(HT.out.2.cell (p:=⟨w.heap.size,2,none⟩) HK.out.lt).trans (HK.out.cell 2)
  by_cases hlt:c<A
  ·have hltI:(c:Int)<m.a:=by have:=HA.out;omega
   obtain ⟨am,hAm,hbm,hcm⟩:=HM.out c (by have:=Hml.out;omega)
   subst hAm
   have hmI:(c:Int)<(mo.length:Int):=by have:=Hml.out;omega
   have hmN:c<mo.length:=by have:=Hml.out;omega
   have hw1:IntKind.i64.wrap ((c:Int)+1)=(c:Int)+1:=by rw [IntKind.wrap_i64];omega
   obtain ⟨N,hN⟩:∃ N:Nat,cntC cls s (c:Int)=N:=⟨_,rfl⟩
   obtain ⟨y,hy⟩:∃ y:Int,mo.getD c 0=y:=⟨_,rfl⟩
   rw [hy] at hcm
   have HCM:=hid hcm
   have HBM:=hid hbm
   have HCq:Hid (∀ (vc vs:Value) (W:World),Row W W.heap.size vc cls→Row W W.heap.size vs s→Calls Tryz.prog 139 #[vc,vs,.int .i64 (c:Int)] W (Tells W (N:Int))):=hid fun vc vs W h1 h2=>by rw [← hN];exact HC.out c vc vs W h1 h2
   have K1:Hid (∀ W,Below wr.drew.heap.size wr.drew W→W.cell? ⟨w.heap.size,4,none⟩=some (.slice (some al) m.l.length cl)∧W.cell? al=some (.slice Ac cls.length cc)∧W.cell? ⟨al.block,al.off+1,none⟩=some (.slice (some am) mo.length cm)∧W.cell? (am.add c)=some (.int .i64 y)):=hid fun W hW=>by
    have hWW:=Z0_ HBq.out.drew (le_refl _) hW
    exact ⟨((Z0_ HT.out.2.drew (le_refl _) hW).cell (p:=⟨w.heap.size,4,none⟩) HK.out.lt).trans (HK.out.cell 4),(hWW.cell (p:=al) HAB.out).trans HG0.out,(hWW.cell (p:=⟨al.block,al.off+1,none⟩) HAB.out).trans HG1.out,(hWW.cell (p:=am.add c) (by rw [Z2_];exact HBM.out)).trans HCM.out⟩
   have HB:Hid (Below wr.drew.heap.size wr.drew wr.drew):=hid (Below.refl _ _)
   have HBd:=hid HBq.out.drew
   have HRs:=hid (HR.out.up HBd.out)
   have HCs:=hid (HCR.out.up HBd.out)
   clear hcm hbm
   by_cases hgt:y<(N:Int)
   ·have HF:Hid (R=false):=hid (HAR.out.symm.trans (Zg3 hlt (by rw [hN,hy];exact decide_eq_false (by omega))))
    clear hN hy
    go_wp2
    go_region_held3 (fun W=>W.cell? ⟨w.heap.size,4,none⟩=some (.slice (some al) m.l.length cl)∧W.cell? al=some (.slice Ac cls.length cc)∧W.cell? ⟨al.block,al.off+1,none⟩=some (.slice (some am) mo.length cm)∧W.cell? (am.add c)=some (.int .i64 y))
     (exact K1.out _ HB.out)
     (first
     | (go_at_call 139;refine (HCq.out _ _ _ HCs.out HRs.out).mono ?_;rintro e w11 ⟨rfl,hb11⟩;replace HB:=hid (Z0_ HB.out (le_refl _) hb11);clear hb11))
    all_goals
     go_simp
     have HB9:=hid (Z0_ HBd.out (le_refl _) HB.out)
     go_wp2
     go_ret
     exact ⟨by rw [HF.out];rfl,HB9.out⟩
   ·have HF:Hid ((List.range (c+1)).all (fun c=>decide ((cntC cls s (c:Int):Int)≤mo.getD c 0))=true):=hid (Zg2 hlt HT.out.1 (by rw [hN,hy];exact decide_eq_true (by omega)))
    have hle:(N:Int)≤y:=by omega
    clear hN hy
    go_wp2
    go_region_held3 (fun W=>W.cell? ⟨w.heap.size,4,none⟩=some (.slice (some al) m.l.length cl)∧W.cell? al=some (.slice Ac cls.length cc)∧W.cell? ⟨al.block,al.off+1,none⟩=some (.slice (some am) mo.length cm)∧W.cell? (am.add c)=some (.int .i64 y))
     (exact K1.out _ HB.out)
     (first
     | (go_at_call 139;refine (HCq.out _ _ _ HCs.out HRs.out).mono ?_;rintro e w11 ⟨rfl,hb11⟩;replace HB:=hid (Z0_ HB.out (le_refl _) hb11);clear hb11))
    all_goals
     go_simp
     have HB9:=hid (Z0_ HT.out.2.drew (le_refl _) HB.out)
     go_wp2
     go_roundw
     case rel=>exact ⟨c+1,by go_num,by omega,HF.out,HB9.out⟩
     exact mz_
  ·have hce:c=A:=by omega
   have hltI:¬ (c:Int)<m.a:=by have:=HA.out;omega
   have HF:Hid (R=true):=hid (by rw [← HAR.out,← hce];exact HT.out.1)
   go_wp2
   go_ret
   exact ⟨by rw [HF.out];rfl,HBq.out⟩):P:=h
open Go Go.RowKit
theorem flat2 (w:World) (a b:Value):∀ (j:Nat) (v:Value),[a,b][j]?=some v→(w.alloc (.cells #[a,b] 116)).cell? ((⟨w.heap.size,0,none⟩:Addr).add j)=some v:=by
 intro j v d;have hb:=Blk.new w 116 #[a,b];have hc:=hb.cell j;have c:((⟨w.heap.size,0,none⟩:Addr).add j)=⟨w.heap.size,j,none⟩:=by
  unfold Addr.add;split<;>simp_all
 rw [c,hc];simpa using d
theorem Xv0 {w:World} {base:Nat} {v:Value} {us:List Value} {pp:List (List Int)} (h:w.ownsRow base 23 1 v us.length us) (hl:us.length=pp.length) (o:∀ j u,us[j]?=some u→Row w w.heap.size u (pp.getD j [])):Rows2 w w.heap.size v pp:=by
 rcases h.2 with ⟨rfl,q⟩ | ⟨g,d,p,rfl,hb,r,f,m,_⟩
 ·have hp0:pp.length=0:=by omega
  exact z37_
 ·refine ⟨some ⟨g,0,none⟩,d,by rw [hl],⟨by rw [← hl];exact f,m,fun e=>by cases e⟩,fun k hk=>?_⟩
  have c:k<us.length:=q40_;exact ⟨⟨g,0,none⟩,us[k],rfl,(h.lt g rfl).2,h.cells (g:=g) rfl k _ (List.getElem?_eq_getElem c),o k _ (List.getElem?_eq_getElem c)⟩
theorem Vo4 (k:Nat) (m:Mat) (v F:Value) (s:List Int) (w:World) (D:MatV w w.heap.size v m) (hc:chk m=0) (B:Row w w.heap.size F s) (q:InN (nN m) s) (C:m.t=0):Calls Tryz.prog 111 #[v,F] w (Says w (indB (k+1) m s)):=by
 rw [ind_0 hc q C];have V:=Y7_ q;have S:=(Y0_ hc).2;have U:(s.length:Int)≤64:=q40_;obtain ⟨X,W,rfl,z,y⟩:=D.open;obtain ⟨g,cl,rfl,_⟩:=id z;obtain ⟨e,h,rfl,_⟩:=id y;obtain ⟨J,cs,rfl,_⟩:=id B;have p:=Z5_ w m (.slice g m.l.length cl) (.slice e m.i.length h);have o:=Z1_ w m (.slice g m.l.length cl) (.slice e m.i.length h);unfold boxed at *
 obtain ⟨c,hW0⟩:∃ c,c=w.alloc (.cells #[.int .i64 m.t,.int .i64 m.n,.int .i64 m.a,.int .i64 m.b,.slice g m.l.length cl,.slice e m.i.length h] 37):=⟨_,rfl⟩;rw [← hW0] at p o;have T:c.heap.size=w.heap.size+1:=x42_;obtain ⟨d,r⟩:∃ d,d=(c.alloc (.cells #[] 116)).alloc (.cells #[] 23):=⟨_,rfl⟩;have G:Hid (d=((w.alloc (.cells #[.int .i64 m.t,.int .i64 m.n,.int .i64 m.a,.int .i64 m.b,.slice g m.l.length cl,.slice e m.i.length h] 37)).alloc (.cells #[] 116)).alloc (.cells #[] 23)):=hid (by rw [r,hW0]);have j:Below c.heap.size c d:=by rw [r];exact ((Below.refl _ c).alloc (le_refl _) _).alloc z40_ _
 have K:=hid j;have x:Below w.heap.size w d:=Z0_ o (le_refl _) j;have u:=hid (p.below j q40_);have Hb2:=hid x;have L:(m.t==1)=false:=j40_;have M:(m.t==2)=false:=j40_;have N:(m.t==3)=false:=j40_;have O:(m.t==4)=false:=j40_;have P:=u.out.cell 0;have Q:=u.out.cell 2;clear C hW0 r p o j x z y B q D
 go_enter Tryz.func111,Tryz.ntmps111
 go_wp2;rw [← G.out]
 go_loopw [5,6,7] (fun _ _ I wr=>I=.int .i64 0∧wr=d) (fun _ _ _ _=>1)
 case atStart=>exact ⟨rfl,rfl⟩
 case round =>
  obtain ⟨rfl,E⟩:=hrel;rw [E];clear E;by_cases R:0<s.length
  ·have H:(0:Int)<(s.length:Int):=by omega
   exact z2_
  ·have H:¬ (0:Int)<(s.length:Int):=by omega
   exact z2_
theorem Vo5 (k:Nat) (m:Mat) (v d:Value) (s:List Int) (w:World) (K:MatV w w.heap.size v m) (hc:chk m=0) (j:Row w w.heap.size d s) (z:InN (nN m) s) (ht:m.t=3):Calls Tryz.prog 111 #[v,d] w (Says w (indB (k+1) m s)):=by
 rw [ind_3 hc z ht];obtain ⟨U,C⟩:=Zc4 hc ht;have Q:=Y0_ hc;have J:∀ i,IsSet (m.l.getD i [])∧(m.l.getD i []).length≤64:=fun i=>by
  rcases Nat.lt_or_ge i m.l.length with H | H
  ·unfold mayM at C
   rw [Bool.and_eq_true,List.all_eq_true] at C;have h:=Zo2 (C.2 _ (Q5_ [] H));have ha:=chk_a hc;have F:InN m.a.toNat (m.l.getD i []):=⟨h.1,fun r j=>by have:=h.2 r j;omega⟩;exact ⟨h.1,by have:=Y7_ F;omega⟩
  ·rw [List.getD_eq_getElem?_getD,List.getElem?_eq_none H]
   exact ⟨J0_,z40_⟩
 have S:=K;have x3:=Y7_ z;have x0:=(Y0_ hc).2;have x2:(s.length:Int)≤64:=q40_;obtain ⟨o,iv,rfl,I,M⟩:=K.open;obtain ⟨q,cl,rfl,_⟩:=id I;obtain ⟨p,u,rfl,_⟩:=id M;obtain ⟨X,cs,rfl,_⟩:=id j;have E:=Z5_ w m (.slice q m.l.length cl) (.slice p m.i.length u);have D:=Z1_ w m (.slice q m.l.length cl) (.slice p m.i.length u);unfold boxed at *
 obtain ⟨c,hW0⟩:∃ c,c=w.alloc (.cells #[.int .i64 m.t,.int .i64 m.n,.int .i64 m.a,.int .i64 m.b,.slice q m.l.length cl,.slice p m.i.length u] 37):=⟨_,rfl⟩;rw [← hW0] at E D;have x1:c.heap.size=w.heap.size+1:=x42_;obtain ⟨g,G⟩:∃ g,g=(c.alloc (.cells #[] 116)).alloc (.cells #[] 23):=⟨_,rfl⟩;have O:Hid (g=((w.alloc (.cells #[.int .i64 m.t,.int .i64 m.n,.int .i64 m.a,.int .i64 m.b,.slice q m.l.length cl,.slice p m.i.length u] 37)).alloc (.cells #[] 116)).alloc (.cells #[] 23)):=hid (by rw [G,hW0]);have y:Below c.heap.size c g:=by rw [G];exact ((Below.refl _ c).alloc (le_refl _) _).alloc z40_ _
 have Y:=hid y;have B:Below w.heap.size w g:=Z0_ D (le_refl _) y;have L:=hid (E.below y q40_);have Hb2:=hid B;have Z:(m.t==1)=false:=j40_;have d2:(m.t==2)=false:=j40_;have d3:(m.t==3)=true:=x47_;have d4:(m.t==4)=false:=j40_;have HC:Hid (∀ (o d:Value) (W:World),Rows2 W W.heap.size o m.l→Row W W.heap.size d s→Calls Tryz.prog 140 #[o,d,.slice none 0 0] W (Says W (F3_ m.l s []))):=hid fun o d W h F=>Zg1 m.l (fun i=>(J i).1) (fun i=>(J i).2) q40_ s [] o d _ W (fun x T=>by have:=z.2 x T;omega) J0_ j40_ h F (Row.nil_ _ _);have HL:=hid (I.up B);have HR:=hid (j.up B);generalize F3_ m.l s []=R at *
 have g0:=L.out.cell 0;have g4:=L.out.cell 4;clear ht hW0 G E D y B I M j z K S J U C Q hc
 go_enter Tryz.func111,Tryz.ntmps111
 go_wp2;rw [← O.out]
 go_loopw [5,6,7] (fun _ _ V wr=>V=.int .i64 0∧wr=g) (fun _ _ _ _=>1)
 case atStart=>exact ⟨rfl,rfl⟩
 case round =>
  obtain ⟨rfl,N⟩:=hrel;rw [N];clear N;by_cases h0:0<s.length
  ·have P:(0:Int)<(s.length:Int):=by omega
   exact y37_
  ·have P:¬ (0:Int)<(s.length:Int):=by omega
   exact y37_
theorem Zg2 {A:Nat} {p:Nat→Bool} {c:Nat} (_hc:c<A) (h:(List.range c).all p=true) (d:p c=true):(List.range (c+1)).all p=true:=by
 rw [List.range_succ,List.all_append,h];simp [d]
theorem Zg3 {A:Nat} {p:Nat→Bool} {c:Nat} (hc:c<A) (d:p c=false):(List.range A).all p=false:=by
 rw [Bool.eq_false_iff];intro h;rw [List.all_eq_true] at h;rw [h c (List.mem_range.2 hc)] at d;cases d
theorem Vo6 (k:Nat) (m:Mat) (v S:Value) (s:List Int) (w:World) (P:MatV w w.heap.size v m) (hc:chk m=0) (F:Row w w.heap.size S s) (r:InN (nN m) s) (ht:m.t=2):Calls Tryz.prog 111 #[v,S] w (Says w (indB (k+1) m s)):=by
 rw [ind_2 hc r ht];obtain ⟨p0,p1,p2,p3,p4⟩:=Zj6 hc ht;have x0:=Y0_ hc;have ha:=chk_a hc;have xa:=Y7_ r;have x7:=(Y0_ hc).2;have x9:(s.length:Int)≤64:=q40_;obtain ⟨lv,iv,rfl,E,K⟩:=P.open;obtain ⟨j,cl,rfl,_⟩:=id E;obtain ⟨h,o,rfl,_⟩:=id K;obtain ⟨As,cs,rfl,_⟩:=id F;have z:=Z5_ w m (.slice j m.l.length cl) (.slice h m.i.length o);have x:=Z1_ w m (.slice j m.l.length cl) (.slice h m.i.length o);unfold boxed at *
 obtain ⟨d,hW0⟩:∃ d,d=w.alloc (.cells #[.int .i64 m.t,.int .i64 m.n,.int .i64 m.a,.int .i64 m.b,.slice j m.l.length cl,.slice h m.i.length o] 37):=⟨_,rfl⟩;rw [← hW0] at z x;have x8:d.heap.size=w.heap.size+1:=x42_;obtain ⟨W2,D⟩:∃ W2,W2=(d.alloc (.cells #[] 116)).alloc (.cells #[] 23):=⟨_,rfl⟩;have T:Hid (W2=((w.alloc (.cells #[.int .i64 m.t,.int .i64 m.n,.int .i64 m.a,.int .i64 m.b,.slice j m.l.length cl,.slice h m.i.length o] 37)).alloc (.cells #[] 116)).alloc (.cells #[] 23)):=hid (by rw [D,hW0]);have q:Below d.heap.size d W2:=by rw [D];exact ((Below.refl _ d).alloc (le_refl _) _).alloc z40_ _
 have x1:=hid q;have J:Below w.heap.size w W2:=Z0_ x (le_refl _) q;have HK:=hid (z.below q q40_);have Hb2:=hid J;have d1:(m.t==1)=false:=j40_;have d2:(m.t==2)=true:=x47_;have d3:(m.t==3)=false:=j40_;have d4:(m.t==4)=false:=j40_;obtain ⟨A',c',Y,_,g⟩:=id E;injection Y with e1 e2 e3;subst e1 e3;obtain ⟨al,u0,V,I,B,u⟩:=g 0 q40_;subst V;obtain ⟨al',u1,X,_,G,O⟩:=g 1 q40_;obtain rfl:=Option.some.inj X;rw [add_zero] at B;change Row w w.heap.size u0 (row m 0) at u;change Row w w.heap.size u1 (row m 1) at O;obtain ⟨A,H⟩:∃ A:Nat,m.a=(A:Int):=⟨m.a.toNat,q40_⟩;have L:∀ k,k<s.length→0≤s.getD k 0∧s.getD k 0<((row m 0).length:Int):=fun k g=>by have:=L9_ r g;omega
 have Hml:Hid ((row m 1).length=A):=hid q40_;have HC:Hid (∀ (c:Nat) (vc vs:Value) (W:World),Row W W.heap.size vc (row m 0)→Row W W.heap.size vs s→Calls Tryz.prog 139 #[vc,vs,.int .i64 (c:Int)] W (Tells W (cntC (row m 0) s c:Nat))):=hid fun c vc vs W h1 h2=>Xl3 vc vs (row m 0) s c W h1 h2 L q40_;rw [show m.a.toNat=A by omega];generalize row m 0=cls at *
 generalize row m 1=mo at *
 obtain ⟨R,C⟩:∃ R,(List.range A).all (fun c=>decide ((cntC cls s (c:Int):Int)≤mo.getD c 0))=R:=⟨_,rfl⟩;rw [C];have HAR:=hid C;clear C;have HCR:=hid u;obtain ⟨Ac,cc,rfl,_⟩:=id u;obtain ⟨Am,cm,rfl,_,M⟩:=O;have HM:=hid M;have HR:=hid F;have HG0:=hid B;have HG1:=hid G;rw [show al.add 1=(⟨al.block,al.off+1,none⟩:Addr) by simp [Addr.add]] at HG1;have HAB:=hid I;have Z:(m.l.length:Int)=2:=q40_;have x2:(0:Int)<(m.l.length:Int):=q40_;have x3:(1:Int)<(m.l.length:Int):=q40_;have x4:0<m.l.length:=q40_;have x5:1<m.l.length:=q40_;clear Z;have g0:=HK.out.cell 0;have x6:A≤64:=q40_;have HA:=hid H;clear H ht hW0 D z x q J E K F r P L M B G I u g p0 p1 p2 p3 p4 x0 ha hc
 go_enter Tryz.func111,Tryz.ntmps111
 go_wp2;rw [← T.out]
 go_loopw [5,6,7] (fun _ _ vi wr=>vi=.int .i64 0∧wr=W2) (fun _ _ _ _=>1)
 case atStart=>exact ⟨rfl,rfl⟩
 case round =>
  obtain ⟨rfl,Q⟩:=hrel;rw [Q];clear Q;by_cases h0:0<s.length
  ·have U:(0:Int)<(s.length:Int):=by omega
   exact y0_
  ·have U:¬ (0:Int)<(s.length:Int):=by omega
   exact y0_
theorem Vo7 (k:Nat) (m:Mat) (v sv:Value) (s:List Int) (w:World) (hv:MatV w w.heap.size v m) (hc:chk m=0) (hr:Row w w.heap.size sv s) (Q:InN (nN m) s) (ht:m.t=1):Calls Tryz.prog 111 #[v,sv] w (Says w (indB (k+1) m s)):=by
 have hg:=O1_ hc ht;have ha:=chk_a hc;have U:=Zi4 hc ht Q;have V:=Yy6 (s:=s) hc ht;have yb:=Y0_ hc;obtain ⟨A,O⟩:∃ A:Nat,m.a=(A:Int):=⟨m.a.toNat,q40_⟩;rw [O,Int.toNat_natCast] at V;have xz:1≤A:=q40_;have y2:A≤64:=q40_;obtain ⟨d,x7⟩:∃ d,edgP (nN m) (edgOf m) (memP s)=d:=⟨_,rfl⟩;rw [x7] at U V;have x6:d.length=s.length:=by
  have:=congrArg List.length U;rw [V2_] at this;unfold R3_ at this;rw [List.length_map] at this;omega
 have xm:(rankN A d==(d.length:Int))=indB (k+1) m s:=by
  have e1:((N9_ A (nN m) (edgOf m) (memP s):Nat):Int)=rankN A d:=by rw [← x7];unfold N9_ rankN;have:=Za7 A (edgP (nN m) (edgOf m) (memP s));omega
  rw [Bool.eq_iff_iff,beq_iff_eq,V4_,rkP_1 ht,O,Int.toNat_natCast,← e1,x6];omega
 rw [← xm];obtain ⟨b,hb⟩:∃ b,(rankN A d==(d.length:Int))=b:=⟨_,rfl⟩;rw [hb];have yp:=Y7_ Q;have yn:=(Y0_ hc).2;have yo:(s.length:Int)≤64:=q40_;obtain ⟨lv,iv,rfl,x5,xi⟩:=hv.open;obtain ⟨C,cl,rfl,_⟩:=id x5;obtain ⟨F,K,rfl,_⟩:=id xi;obtain ⟨As,cs,rfl,_⟩:=id hr;have I:=Z5_ w m (.slice C m.l.length cl) (.slice F m.i.length K);have H:=Z1_ w m (.slice C m.l.length cl) (.slice F m.i.length K);unfold boxed at *
 obtain ⟨g,hW0⟩:∃ g,g=w.alloc (.cells #[.int .i64 m.t,.int .i64 m.n,.int .i64 m.a,.int .i64 m.b,.slice C m.l.length cl,.slice F m.i.length K] 37):=⟨_,rfl⟩;rw [← hW0] at I H;have x8:g.heap.size=w.heap.size+1:=x42_;obtain ⟨B,R⟩:∃ B,B=(g.alloc (.cells #[] 116)).alloc (.cells #[] 23):=⟨_,rfl⟩;have xr:Hid (B=((w.alloc (.cells #[.int .i64 m.t,.int .i64 m.n,.int .i64 m.a,.int .i64 m.b,.slice C m.l.length cl,.slice F m.i.length K] 37)).alloc (.cells #[] 116)).alloc (.cells #[] 23)):=hid (by rw [R,hW0]);have L:Below g.heap.size g B:=by rw [R];exact ((Below.refl _ g).alloc (le_refl _) _).alloc z40_ _
 have xn:=hid L;have xb:Below w.heap.size w B:=Z0_ H (le_refl _) L;have HK:=hid (I.below L q40_);have yg:=hid xb;have d1:(m.t==1)=true:=x47_;have d2:(m.t==2)=false:=j40_;have d3:(m.t==3)=false:=j40_;have d4:(m.t==4)=false:=j40_;obtain ⟨A',c',he,_,hk⟩:=id x5;injection he with e1 e2 e3;subst e1 e3;have xo:Hid (∀ (v:Value) (W:World),Edges W W.heap.size v (castE d)→Calls Tryz.prog 138 #[.int .i64 m.a,v] W (Says W b)):=hid fun v W h=>by rw [O];exact Zg9 A v d W h xz y2 q40_ V b hb
 have xs:Hid (∀ i,i<s.length→∃ (X:Nat) (p q:Int) (j al c:Addr) (o:Nat),As=some j∧C=some al∧X<m.l.length∧j.block<w.heap.size∧al.block<w.heap.size∧c.block<w.heap.size∧w.cell? (j.add i)=some (.int .i64 (X:Int))∧w.cell? (al.add X)=some (.slice (some c) 2 o)∧w.cell? c=some (.int .i64 p)∧w.cell? ⟨c.block,c.off+1,none⟩=some (.int .i64 q)∧((d.getD i (0,0)).1:Int)=p∧((d.getD i (0,0)).2:Int)=q):=hid fun i r=>by
  have hx:=L9_ Q r;obtain ⟨X,hX⟩:∃ X:Nat,s.getD i 0=(X:Int):=⟨(s.getD i 0).toNat,q40_⟩;obtain ⟨A0,c0,y8,_,ya⟩:=id hr;injection y8 with q1 q2 q3;subst q1 q3;obtain ⟨j,x3,y5,xf⟩:=ya i r;rw [hX] at hx xf;have T:X<m.l.length:=q40_;obtain ⟨al,u,x4,y4,y7,yc⟩:=hk X T;have xy:(m.l.getD X []).length=2:=by have:=(hg.2.2 X T).1;omega
  have P:=congrArg (fun l=>List.getD l i (0,0)) U;change (R3_ m.l s).getD i (0,0)=(castE d).getD i (0,0) at P;rw [I2_] at P;have y3:(R3_ m.l s).getD i (0,0)=((m.l.getD X []).getD 0 0,(m.l.getD X []).getD 1 0):=by
   have:(s.getD i 0)=s[i]:=by simp [List.getD,r]
   rw [this] at hX;simp [R3_,List.getD,r,hX]
  rw [y3] at P;generalize m.l.getD X []=z at *
  obtain ⟨p,q,rfl⟩:∃ p q,z=[p,q]:=by
   match z,xy with
   | [p,q],_=>exact ⟨p,q,rfl⟩
  obtain ⟨Az,o,rfl,_,xg⟩:=yc;obtain ⟨c,y0,y6,xd⟩:=xg 0 z40_;subst y0;obtain ⟨yh,y1,_,xe⟩:=xg 1 z40_;obtain rfl:=Option.some.inj y1;rw [add_zero] at xd;rw [show c.add 1=(⟨c.block,c.off+1,none⟩:Addr) by simp [Addr.add]] at xe;injection P with M N;exact ⟨X,p,q,j,al,c,o,x3,x4,T,y5,y4,y6,xf,y7,xd,xe,M.symm,N.symm⟩
 have xa:=hid x6;have xl:OwnE B (w.heap.size+1) (.slice (some ⟨w.heap.size+1,0,none⟩) 0 0) []:=by
  unfold OwnE;rw [R,← x8];exact (World.ownsRow_lit g #[] 0 (le_refl _) y41_ rfl).alloc _
 have xp:=hid xl;obtain ⟨i0,y9,yd,ye,yf⟩:=info_parts Jz9;have x2:=hid x8;have G:=hid I;have x9:=hid H;have g0:=HK.out.cell 0;clear ht hW0 R I H L xb x5 xi hr Q hv hk hg ha U V yb O xm hb x7 hc xl x6 x8
 go_enter Tryz.func111,Tryz.ntmps111
 go_wp2;rw [← xr.out]
 go_loopw [5,6,7] (fun ve _ vi wr=>∃ i:Nat,vi=.int .i64 (i:Int)∧i≤s.length∧Hid (OwnE wr (w.heap.size+1) ve (d.take i)∧Below g.heap.size g wr)) (fun _ _ vi _=>s.length - (intOf vi).toNat)
 case atStart=>exact ⟨0,rfl,Nat.zero_le _,by rw [List.take_zero];exact xp.out,xn.out⟩
 case round =>
  obtain ⟨i,rfl,r,E⟩:=hrel;clear g0;have Y:w.heap.size<g.heap.size:=by rw [x2.out];omega
  have y:=hid (E.out.2);have D:=hid (Z0_ x9.out (le_refl _) E.out.2);have r0:=(y.out.cell (p:=⟨w.heap.size,0,none⟩) Y).trans (G.out.cell 0);by_cases xj:i<s.length
  ·have ym:(i:Int)<(s.length:Int):=by omega
   obtain ⟨X,p,q,j,al,c,o,x3,x4,T,b1,b2,J,k1,k2,k3,k4,M,N⟩:=xs.out i xj;subst x3 x4;have yi:(X:Int)<(m.l.length:Int):=q40_;have g1:=(D.out.cell (p:=j.add i) (by rw [Z2_];exact b1)).trans k1;have g2:=(D.out.cell (p:=al.add X) (by rw [Z2_];exact b2)).trans k2;have g3:=(D.out.cell (p:=c) J).trans k3;have g4:=(D.out.cell (p:=⟨c.block,c.off+1,none⟩) J).trans k4;have g5:=(y.out.cell (p:=⟨w.heap.size,4,none⟩) Y).trans (G.out.cell 4);have yr:IntKind.i64.wrap ((i:Int)+1)=(i:Int)+1:=k40_;have Hn:Hid (d.take (i+1)=d.take i ++ [d.getD i (0,0)]):=hid (by
    have:i<d.length:=by rw [xa.out];exact xj
    rw [List.take_succ_eq_append_getElem this];simp [List.getD,this])
   have xv:Hid (flatE [d.getD i (0,0)]=[.int .i64 p,.int .i64 q]):=hid (by simp [flatE,← M,← N]);have yj:(d.take i).length≤64:=z42_;have yq:w.heap.size+1≤wr.heap.size:=by rw [← x2.out];exact y.out.size
   have x1:=hid E.out.1;generalize d.take i=bk at *
   obtain ⟨Ae,ce,rfl⟩:=x1.out.slice;have xw:Hid ((j.add i).block<w.heap.size∧(al.add X).block<w.heap.size∧c.block<w.heap.size∧w.cell? (j.add i)=some (.int .i64 (X:Int))∧w.cell? (al.add X)=some (.slice (some c) 2 o)∧w.cell? c=some (.int .i64 p)∧w.cell? ⟨c.block,c.off+1,none⟩=some (.int .i64 q)):=hid ⟨by rw [Z2_];exact b1,by rw [Z2_];exact b2,J,k1,k2,k3,k4⟩;clear k1 k2 k3 k4 M N b1 b2 J E;have K1:Hid (∀ W,Below g.heap.size g W→W.cell? ⟨w.heap.size,4,none⟩=some (.slice (some al) m.l.length cl)∧W.cell? (j.add i)=some (.int .i64 (X:Int))∧W.cell? (al.add X)=some (.slice (some c) 2 o)∧W.cell? c=some (.int .i64 p)∧W.cell? ⟨c.block,c.off+1,none⟩=some (.int .i64 q)):=hid fun W hW=>by
    have S:=Z0_ x9.out (le_refl _) hW;have e:=xw.out;exact ⟨(hW.cell (p:=⟨w.heap.size,4,none⟩) Y).trans (G.out.cell 4),(S.cell (p:=j.add i) e.1).trans e.2.2.2.1,(S.cell (p:=al.add X) e.2.1).trans e.2.2.2.2.1,(S.cell (p:=c) e.2.2.1).trans e.2.2.2.2.2.1,(S.cell (p:=⟨c.block,c.off+1,none⟩) e.2.2.1).trans e.2.2.2.2.2.2⟩
   have x:=hid y.out.drew;have x0:=hid y.out.drew.size;clear g1 g2 g3 g4 g5;go_wp2
   go_region_held3 (fun W=>W.cell? ⟨w.heap.size,4,none⟩=some (.slice (some al) m.l.length cl)∧W.cell? (j.add i)=some (.int .i64 (X:Int))∧W.cell? (al.add X)=some (.slice (some c) 2 o)∧W.cell? c=some (.int .i64 p)∧W.cell? ⟨c.block,c.off+1,none⟩=some (.int .i64 q))
    (first | exact K1.out _ x.out | exact K1.out _ (Below.alloc x.out x0.out _))
    (first | (refine step_append_lies _ rfl _ _ 100 rfl (w.heap.size+1) 116 i0 (.agg #[.int .i64 0,.int .i64 0]) 2 16 x40_ y9 yd ye yf rfl q41_ _ bk.length (flatE bk) rfl (World.ownsRow.drew x1.out |>.alloc _) _ 1 1 [.int .i64 p,.int .i64 q] rfl rfl (fun a b h=>by exact flat2 _ _ _ a b h) (by intro u hu;simp at hu;rcases hu with rfl | rfl<;>rfl) q41_ y41_ q40_ j40_ _ rfl ?_;intro gg xx w4 xk xh _ _;replace x:Hid (Below g.heap.size g w4):=hid ((Below.alloc x.out x0.out _).grown xh (Nat.le_trans x0.out z40_) (fun i r=>by have:=(World.ownsRow.lt x1.out i r).1;rw [x2.out];exact this))))
   all_goals
    have xt:=hid x.out;have xu:Hid (OwnE w4 (w.heap.size+1) (.slice (some ⟨gg,0,none⟩) (bk.length+1) xx) (d.take (i+1))):=hid (by
     rw [Hn.out];unfold OwnE;rw [Zv8,List.length_append,xv.out];exact xk)
    clear xh xk x;go_simp;go_wp2
    go_roundw
    case rel=>exact ⟨i+1,x41_,q40_,xu.out,xt.out⟩
    exact mz_
  ·have yl:i=s.length:=by omega
   have yk:¬ (i:Int)<(s.length:Int):=q40_;have Z:=E.out.1;rw [List.take_of_length_le (by rw [xa.out];omega)] at Z;obtain ⟨Ae,ce,rfl⟩:=Z.slice;have xq:=hid Z;clear Z;have r2:=(y.out.cell (p:=⟨w.heap.size,2,none⟩) Y).trans (G.out.cell 2)
   go_wp2_with fail
   refine (xo.out _ _ xq.out.edges).mono ?_;rintro e w3 ⟨rfl,xc⟩;have Hb3:=hid (Z0_ D.out (le_refl _) xc);clear xc r2 r0;exact q8_
theorem Vo8 (k:Nat) (m:Mat) (v sv:Value) (s:List Int) (w:World) (hv:MatV w w.heap.size v m) (hc:chk m=0) (hr:Row w w.heap.size sv s) (N:InN (nN m) s) (ht:m.t=4):Calls Tryz.prog 111 #[v,sv] w (Says w (indB (k+1) m s)):=by
 obtain ⟨p1,p2⟩:=Ye2 hc ht;have y3:=Y0_ hc;obtain ⟨adj,P⟩:∃ adj,adj=(pickN (nN m) (memP s)).map fun i=>m.l.getD i []:=⟨_,rfl⟩;have x2:E9_ m.l s=adj:=by rw [P];exact S5_ N
 have xe:(L.rankI m.b m.a adj==(s.length:Int))=indB (k+1) m s:=by
  have V:L.rankI m.b m.a adj=(linR m.b m.a.toNat (nN m) (colOf m) (memP s):Nat):=Vc5 P (by rw [elimK,P];exact Zd7 p2 q40_);rw [Bool.eq_iff_iff,beq_iff_eq,V4_,rkP_4 ht,V];omega
 rw [← xe];have x5:adj.length=s.length:=by rw [← x2];unfold E9_;rw [List.length_map]
 have yd:=Y7_ N;have yb:=(Y0_ hc).2;have yc:(s.length:Int)≤64:=q40_;obtain ⟨lv,iv,rfl,x1,xa⟩:=hv.open;obtain ⟨C,cl,rfl,_⟩:=id x1;obtain ⟨E,K,rfl,_⟩:=id xa;obtain ⟨As,cs,rfl,_⟩:=id hr;have I:=Z5_ w m (.slice C m.l.length cl) (.slice E m.i.length K);have H:=Z1_ w m (.slice C m.l.length cl) (.slice E m.i.length K);unfold boxed at *
 obtain ⟨c,hW0⟩:∃ c,c=w.alloc (.cells #[.int .i64 m.t,.int .i64 m.n,.int .i64 m.a,.int .i64 m.b,.slice C m.l.length cl,.slice E m.i.length K] 37):=⟨_,rfl⟩;rw [← hW0] at I H;have T:c.heap.size=w.heap.size+1:=x42_;obtain ⟨B,O⟩:∃ B,B=(c.alloc (.cells #[] 116)).alloc (.cells #[] 23):=⟨_,rfl⟩;have xn:Hid (B=((w.alloc (.cells #[.int .i64 m.t,.int .i64 m.n,.int .i64 m.a,.int .i64 m.b,.slice C m.l.length cl,.slice E m.i.length K] 37)).alloc (.cells #[] 116)).alloc (.cells #[] 23)):=hid (by rw [O,hW0]);have M:Below c.heap.size c B:=by rw [O];exact ((Below.refl _ c).alloc (le_refl _) _).alloc z40_ _
 have xg:=hid M;have x6:Below w.heap.size w B:=Z0_ H (le_refl _) M;have HK:=hid (I.below M q40_);have y7:=hid x6;have d1:(m.t==1)=false:=j40_;have d2:(m.t==2)=false:=j40_;have d3:(m.t==3)=false:=j40_;have d4:(m.t==4)=true:=x47_;obtain ⟨A',c',he,_,hk⟩:=id x1;injection he with V e2 e3;subst V e3;have xl:Hid (∀ (v:Value) (W:World),Rows2 W W.heap.size v adj→Calls Tryz.prog 141 #[.int .i64 m.b,.int .i64 m.a,v] W (Gets W (.int .i64 (L.rankI m.b m.a adj)))):=hid fun v W h=>L.refrankI_any m.b m.a v adj W h;have xp:Hid (∀ i,i<s.length→∃ (X:Nat) (u:Value) (y al:Addr),As=some y∧C=some al∧X<m.l.length∧y.block<w.heap.size∧al.block<w.heap.size∧w.cell? (y.add i)=some (.int .i64 (X:Int))∧w.cell? (al.add X)=some u∧Row w w.heap.size u (adj.getD i [])):=hid fun i z=>by
  have hx:=L9_ N z;obtain ⟨X,hX⟩:∃ X:Nat,s.getD i 0=(X:Int):=⟨(s.getD i 0).toNat,q40_⟩;obtain ⟨A0,c0,xx,_,y1⟩:=id hr;injection xx with q1 q2 q3;subst q1 q3;obtain ⟨y,Y,xv,x8⟩:=y1 i z;rw [hX] at hx x8;have x0:X<m.l.length:=q40_;obtain ⟨al,u,Z,xu,xw,S⟩:=hk X x0;have xt:adj.getD i []=m.l.getD X []:=by
   have:(s.getD i 0)=s[i]:=by simp [List.getD,z]
   rw [this] at hX;rw [← x2];simp [E9_,List.getD,z,hX]
  exact ⟨X,u,y,al,Y,Z,x0,xv,xu,x8,xw,by rw [xt];exact S⟩
 have xo:=hid x5;generalize L.rankI m.b m.a adj=R at *
 have xd:B.ownsRow (w.heap.size+1) 23 1 (.slice (some ⟨w.heap.size+2,0,none⟩) 0 0) ([]:List Value).length []:=by
  rw [O,show w.heap.size+2=(c.alloc (.cells #[] 116)).heap.size by simp [T],← T];exact World.ownsRow_lit (c.alloc (.cells #[] 116)) #[] 0 z40_ y41_ rfl
 have xj:=hid xd;obtain ⟨i0,xy,y4,y5,y6⟩:=info_parts Zw3;have J:=hid T;have F:=hid I;have xh:=hid H;have g0:=HK.out.cell 0;clear ht hW0 O I H M x6 x1 xa hr N hv hk y3 xe P x2 hc xd x5 T p1 p2
 go_enter Tryz.func111,Tryz.ntmps111
 go_wp2;rw [← xn.out]
 go_loopw [5,6,7] (fun _ vc vi wr=>∃ (i:Nat) (us:List Value),vi=.int .i64 (i:Int)∧i≤s.length∧Hid (us.length=i∧wr.ownsRow (w.heap.size+1) 23 1 vc us.length us∧(∀ j u,us[j]?=some u→Row w w.heap.size u (adj.getD j []))∧Below c.heap.size c wr)) (fun _ _ vi _=>s.length - (intOf vi).toNat)
 case atStart=>exact ⟨0,[],rfl,Nat.zero_le _,rfl,xj.out,fun j u h=>by simp at h,xg.out⟩
 case round =>
  obtain ⟨i,us,rfl,z,x⟩:=hrel;clear g0;have Q:w.heap.size<c.heap.size:=by rw [J.out];omega
  have r:=hid (x.out.2.2.2);have G:=hid (Z0_ xh.out (le_refl _) x.out.2.2.2);have r0:=(r.out.cell (p:=⟨w.heap.size,0,none⟩) Q).trans (F.out.cell 0);have U:=hid x.out.1;have x4:=hid x.out.2.2.1;have D:=hid x.out.2.1;have yf:us.length≤64:=by rw [x.out.1];omega
  clear x;by_cases y2:i<s.length
  ·have ya:(i:Int)<(s.length:Int):=by omega
   obtain ⟨X,u,y,al,Y,Z,x0,b1,b2,k1,k2,S⟩:=xp.out i y2;subst Y Z;have x3:=hid S;obtain ⟨g,o,rfl,_⟩:=S;obtain ⟨d,xb⟩:∃ d,(adj.getD i []).length=d:=⟨_,rfl⟩;rw [xb] at x3 k2;have y8:(X:Int)<(m.l.length:Int):=q40_;have g1:=(G.out.cell (p:=y.add i) (by rw [Z2_];exact b1)).trans k1;have g2:=(G.out.cell (p:=al.add X) (by rw [Z2_];exact b2)).trans k2;have g5:=(r.out.cell (p:=⟨w.heap.size,4,none⟩) Q).trans (F.out.cell 4);have yg:IntKind.i64.wrap ((i:Int)+1)=(i:Int)+1:=k40_;have ye:w.heap.size+1≤wr.heap.size:=by rw [← J.out];exact r.out.size
   obtain ⟨Ac,cc,rfl⟩:=A7_ D.out;clear k1 k2 b1 b2 xb;go_wp2
   go_region_law (refine step_append_lies _ rfl _ _ 35 rfl (w.heap.size+1) 23 i0 (.slice none 0 0) 1 24 x40_ xy y4 y5 y6 rfl q41_ _ us.length us rfl (World.ownsRow.alloc D.out _).drew _ 1 1 [.slice g d o] rfl rfl (fun a b h=>by exact Yi6 _ _ _ a b h) (by intro u hu;simp at hu;subst hu;rfl) q41_ y41_ q40_ j40_ _ rfl ?_;intro gg xs w4 xc x9 _ _)
   all_goals
    have xf:c.heap.size≤(wr.alloc (.cells #[.slice g d o] 23)).drew.heap.size:=by rw [J.out];simp;omega
    have xq:Hid (Below c.heap.size c w4):=hid (((r.out.alloc r.out.size (.cells #[.slice g d o] 23)).drew).grown x9 xf (fun i z=>by have:=(World.ownsRow.lt D.out i z).1;rw [J.out];exact this));have xr:Hid (w4.ownsRow (w.heap.size+1) 23 1 (.slice (some ⟨gg,0,none⟩) (us.length+1) xs) (us ++ [Value.slice g d o]).length (us ++ [Value.slice g d o])):=hid (by
     rw [List.length_append];exact xc)
    have xm:Hid (∀ j u,(us ++ [Value.slice g d o])[j]?=some u→Row w w.heap.size u (adj.getD j [])):=hid (by
     intro j u q;by_cases y0:j<us.length
     ·rw [List.getElem?_append_left y0] at q
      exact x4.out j u q
     ·have:j=us.length:=by
       have:=(List.getElem?_eq_some_iff.1 q).1;simp at this;omega
      subst this;rw [List.getElem?_append_right (le_refl _)] at q;simp at q;subst q;rw [U.out];exact x3.out)
    have xi:Hid ((us ++ [Value.slice g d o]).length=i+1):=hid (by rw [List.length_append,U.out];rfl);clear xf x9 xc;go_wp2
    go_roundw
    case rel=>exact ⟨i+1,us ++ [.slice g d o],x41_,q40_,xi.out,xr.out,xm.out,xq.out⟩
    exact mz_
  ·have xz:i=s.length:=by omega
   have y9:¬ (i:Int)<(s.length:Int):=q40_;have xk:=hid (Xv0 (pp:=adj) D.out (by rw [U.out,xo.out];exact xz) fun j u q=>(x4.out j u q).up G.out);obtain ⟨Ac,cc,rfl⟩:=A7_ D.out;have r2:=(r.out.cell (p:=⟨w.heap.size,2,none⟩) Q).trans (F.out.cell 2);have r3:=(r.out.cell (p:=⟨w.heap.size,3,none⟩) Q).trans (F.out.cell 3)
   go_wp2_with fail
   refine (xl.out _ _ xk.out).mono ?_;rintro e w3 ⟨rfl,x7⟩;have Hb3:=hid (Z0_ G.out (le_refl _) x7);clear x7 r2 r3 r0;exact q8_
theorem Xn3 (k:Nat) (m:Mat) (v d:Value) (s:List Int) (w:World) (h:MatV w w.heap.size v m) (hc:chk m=0) (g:Row w w.heap.size d s) (e:InN (nN m) s) (c:m.t<5):Calls Tryz.prog 111 #[v,d] w (Says w (indB (k+1) m s)):=by
 have j:=Zo4 hc;rcases (by omega:m.t=0∨m.t=1∨m.t=2∨m.t=3∨m.t=4) with c | c | c | c | c
 ·exact Vo4 k m v d s w h hc g e c
 ·exact Vo7 k m v d s w h hc g e c
 ·exact Vo6 k m v d s w h hc g e c
 ·exact Vo5 k m v d s w h hc g e c
 ·exact Vo8 k m v d s w h hc g e c
end Go.Proofs.YtheeajnkiniopaaGreatDoor.Wp
