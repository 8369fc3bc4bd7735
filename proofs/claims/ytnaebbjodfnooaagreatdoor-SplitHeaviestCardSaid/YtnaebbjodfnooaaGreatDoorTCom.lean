/- The document's plain of layer 10, walked, kind by kind (written by gen_vplain.py). -/
import Derived.Test.YtnaebbjodfnooaaGreatDoorVI10C
import Derived.Test.YtnaebbjodfnooaaGreatDoorZX
import Derived.Test.YtnaebbjodfnooaaGreatDoorVLR
import Derived.Test.YtnaebbjodfnooaaGreatDoorIJRef
import Derived.Deep.AppendLies
import Derived.Deep.RegionLaw
import Derived.Deep.RegionHeld3
import Derived.Test.YtnaebbjodfnooaaGreatDoorQTD
import Derived.Test.YtnaebbjodfnooaaGreatDoorZR
import Derived.Test.YtnaebbjodfnooaaGreatDoorX0A
import Derived.Test.YtnaebbjodfnooaaGreatDoorX0C
set_option maxHeartbeats 16000000
set_option maxRecDepth 100000
open Go.Lib (hid)
open Nat (le_refl)
namespace Go.Proofs.YtnaebbjodfnooaaGreatDoor.Wp
private theorem y0_ {P:Prop} (h:P:=by
 go_wp2
 go_loopw [4,8] (fun _ vc wr=>∃ c:Nat,vc=.int .i64 (c:Int)∧c≤A∧Hid ((List.range c).all (fun c=>decide ((cntC cls s (c:Int):Int)≤mo.getD c 0))=true∧Below W2.heap.size W2 wr)) (fun _ vc _=>A - (intOf vc).toNat)
 case atStart=>exact ⟨0,rfl,Nat.zero_le _,by simp,Below.refl _ _⟩
 case round =>
  obtain ⟨c,rfl,hcA,HT⟩:=hrel
  have HBq:=hid (Z0_ Hb2.out (le_refl _) HT.out.2)
  have q2:=(HT.out.2.cell (p:=⟨w.heap.size,2,none⟩) HK.out.lt).trans (HK.out.cell 2)
  by_cases hlt:c<A
  ·have hltI:(c:Int)<m.a:=by have:=HA.out;omega
   obtain ⟨am,hAm,hbm,hcm⟩:=HM.out c (by have:=Hml.out;omega)
   subst hAm
   have hmI:(c:Int)<(mo.length:Int):=by have:=Hml.out;omega
   have hmN:c<mo.length:=by have:=Hml.out;omega
   have hw1:IntKind.i64.wrap ((c:Int)+1)=(c:Int)+1:=by rw [IntKind.wrap_i64];omega
   obtain ⟨N,hN⟩:∃ N:Nat,cntC cls s (c:Int)=N:=⟨_,rfl⟩
   obtain ⟨y,hy⟩:∃ y:Int,mo.getD c 0=y:=⟨_,rfl⟩
   rw [hy] at hcm
   have HCM:=hid hcm
   have HBM:=hid hbm
   have HCq:Hid (∀ (vc vs:Value) (W:World),Row W W.heap.size vc cls→Row W W.heap.size vs s→Calls Tryz.prog 93 #[vc,vs,.int .i64 (c:Int)] W (Tells W (N:Int))):=hid fun vc vs W h1 h2=>by rw [← hN];exact HC.out c vc vs W h1 h2
   have K1:Hid (∀ W,Below wr.drew.heap.size wr.drew W→W.cell? ⟨w.heap.size,4,none⟩=some (.slice (some al) m.l.length cl)∧W.cell? al=some (.slice Ac cls.length cc)∧W.cell? ⟨al.block,al.off+1,none⟩=some (.slice (some am) mo.length cm)∧W.cell? (am.add c)=some (.int .i64 y)):=hid fun W hW=>by
    have hWW:=Z0_ HBq.out.drew (le_refl _) hW
    exact ⟨((Z0_ HT.out.2.drew (le_refl _) hW).cell (p:=⟨w.heap.size,4,none⟩) HK.out.lt).trans (HK.out.cell 4),(hWW.cell (p:=al) HAB.out).trans HG0.out,(hWW.cell (p:=⟨al.block,al.off+1,none⟩) HAB.out).trans HG1.out,(hWW.cell (p:=am.add c) (by rw [Z2_];exact HBM.out)).trans HCM.out⟩
   have HB:Hid (Below wr.drew.heap.size wr.drew wr.drew):=hid (Below.refl _ _)
   have HBd:=hid HBq.out.drew
   have HRs:=hid (HR.out.up HBd.out)
   have HCs:=hid (HCR.out.up HBd.out)
   clear hcm hbm
   by_cases hgt:y<(N:Int)
   ·have HF:Hid (R=false):=hid (HAR.out.symm.trans (Zf7 hlt (by rw [hN,hy];exact decide_eq_false (by omega))))
    clear hN hy
    go_wp2
    go_region_held3 (fun W=>W.cell? ⟨w.heap.size,4,none⟩=some (.slice (some al) m.l.length cl)∧W.cell? al=some (.slice Ac cls.length cc)∧W.cell? ⟨al.block,al.off+1,none⟩=some (.slice (some am) mo.length cm)∧W.cell? (am.add c)=some (.int .i64 y))
     (exact K1.out _ HB.out)
     (first
     | (go_at_call 93;refine (HCq.out _ _ _ HCs.out HRs.out).mono ?_;rintro e w11 ⟨rfl,hb11⟩;replace HB:=hid (Z0_ HB.out (le_refl _) hb11);clear hb11))
    all_goals
     go_simp
     have HB9:=hid (Z0_ HBd.out (le_refl _) HB.out)
     go_wp2
     go_ret
     exact ⟨by rw [HF.out];rfl,HB9.out⟩
   ·have HF:Hid ((List.range (c+1)).all (fun c=>decide ((cntC cls s (c:Int):Int)≤mo.getD c 0))=true):=hid (Zf6 hlt HT.out.1 (by rw [hN,hy];exact decide_eq_true (by omega)))
    have hle:(N:Int)≤y:=by omega
    clear hN hy
    go_wp2
    go_region_held3 (fun W=>W.cell? ⟨w.heap.size,4,none⟩=some (.slice (some al) m.l.length cl)∧W.cell? al=some (.slice Ac cls.length cc)∧W.cell? ⟨al.block,al.off+1,none⟩=some (.slice (some am) mo.length cm)∧W.cell? (am.add c)=some (.int .i64 y))
     (exact K1.out _ HB.out)
     (first
     | (go_at_call 93;refine (HCq.out _ _ _ HCs.out HRs.out).mono ?_;rintro e w11 ⟨rfl,hb11⟩;replace HB:=hid (Z0_ HB.out (le_refl _) hb11);clear hb11))
    all_goals
     go_simp
     have HB9:=hid (Z0_ HT.out.2.drew (le_refl _) HB.out)
     go_wp2
     go_roundw
     case rel=>exact ⟨c+1,by go_num,by omega,HF.out,HB9.out⟩
     exact mz_
  ·have hce:c=A:=by omega
   have hltI:¬ (c:Int)<m.a:=by have:=HA.out;omega
   have HF:Hid (R=true):=hid (by rw [← HAR.out,← hce];exact HT.out.1)
   go_wp2
   go_ret
   exact ⟨by rw [HF.out];rfl,HBq.out⟩):P:=h
open Go Go.RowKit
theorem flat2 (w:World) (a b:Value):∀ (j:Nat) (v:Value),[a,b][j]?=some v→(w.alloc (.cells #[a,b] 99)).cell? ((⟨w.heap.size,0,none⟩:Addr).add j)=some v:=by
 intro j v d;have hb:=Blk.new w 99 #[a,b];have hc:=hb.cell j;have c:((⟨w.heap.size,0,none⟩:Addr).add j)=⟨w.heap.size,j,none⟩:=by
  unfold Addr.add;split<;>simp_all
 rw [c,hc];simpa using d
theorem Xq3 {w:World} {base:Nat} {v:Value} {us:List Value} {pp:List (List Int)} (h:w.ownsRow base 26 1 v us.length us) (hl:us.length=pp.length) (o:∀ j u,us[j]?=some u→Row w w.heap.size u (pp.getD j [])):Rows2 w w.heap.size v pp:=by
 rcases h.2 with ⟨rfl,q⟩ | ⟨g,d,p,rfl,hb,r,f,m,_⟩
 ·have hp0:pp.length=0:=by omega
  exact x35_
 ·refine ⟨some ⟨g,0,none⟩,d,by rw [hl],⟨by rw [← hl];exact f,m,fun e=>by cases e⟩,fun k hk=>?_⟩
  have c:k<us.length:=x37_;exact ⟨⟨g,0,none⟩,us[k],rfl,(h.lt g rfl).2,h.cells (g:=g) rfl k _ (List.getElem?_eq_getElem c),o k _ (List.getElem?_eq_getElem c)⟩
theorem Vr8 (k:Nat) (m:Mat) (v F:Value) (s:List Int) (w:World) (D:MatV w w.heap.size v m) (hc:chk m=0) (B:Row w w.heap.size F s) (q:InN (nN m) s) (C:m.t=0):Calls Tryz.prog 67 #[v,F] w (Says w (indB (k+1) m s)):=by
 rw [ind_0 hc q C];have V:=Y1_ q;have S:=(Y0_ hc).2;have U:(s.length:Int)≤64:=x37_;obtain ⟨X,W,rfl,z,y⟩:=D.open;obtain ⟨g,cl,rfl,_⟩:=id z;obtain ⟨e,h,rfl,_⟩:=id y;obtain ⟨J,cs,rfl,_⟩:=id B;have p:=Z3_ w m (.slice g m.l.length cl) (.slice e m.i.length h);have o:=Z1_ w m (.slice g m.l.length cl) (.slice e m.i.length h);unfold boxed at *
 obtain ⟨c,hW0⟩:∃ c,c=w.alloc (.cells #[.int .i64 m.t,.int .i64 m.n,.int .i64 m.a,.int .i64 m.b,.slice g m.l.length cl,.slice e m.i.length h] 25):=⟨_,rfl⟩;rw [← hW0] at p o;have T:c.heap.size=w.heap.size+1:=x39_;obtain ⟨d,r⟩:∃ d,d=(c.alloc (.cells #[] 99)).alloc (.cells #[] 26):=⟨_,rfl⟩;have G:Hid (d=((w.alloc (.cells #[.int .i64 m.t,.int .i64 m.n,.int .i64 m.a,.int .i64 m.b,.slice g m.l.length cl,.slice e m.i.length h] 25)).alloc (.cells #[] 99)).alloc (.cells #[] 26)):=hid (by rw [r,hW0]);have j:Below c.heap.size c d:=by rw [r];exact ((Below.refl _ c).alloc (le_refl _) _).alloc j37_ _
 have K:=hid j;have x:Below w.heap.size w d:=Z0_ o (le_refl _) j;have u:=hid (p.below j x37_);have Hb2:=hid x;have L:(m.t==1)=false:=k37_;have M:(m.t==2)=false:=k37_;have N:(m.t==3)=false:=k37_;have O:(m.t==4)=false:=k37_;have P:=u.out.cell 0;have Q:=u.out.cell 2;clear C hW0 r p o j x z y B q D
 go_enter Tryz.func67,Tryz.ntmps67
 go_wp2;rw [← G.out]
 go_loopw [5,6,7] (fun _ _ I wr=>I=.int .i64 0∧wr=d) (fun _ _ _ _=>1)
 case atStart=>exact ⟨rfl,rfl⟩
 case round =>
  obtain ⟨rfl,E⟩:=hrel;rw [E];clear E;by_cases R:0<s.length
  ·have H:(0:Int)<(s.length:Int):=by omega
   exact y2_
  ·have H:¬ (0:Int)<(s.length:Int):=by omega
   exact y2_
theorem Vr9 (k:Nat) (m:Mat) (v d:Value) (s:List Int) (w:World) (J:MatV w w.heap.size v m) (hc:chk m=0) (j:Row w w.heap.size d s) (z:InN (nN m) s) (ht:m.t=3):Calls Tryz.prog 67 #[v,d] w (Says w (indB (k+1) m s)):=by
 rw [ind_3 hc z ht];obtain ⟨T,C⟩:=Zg2 hc ht;have P:=Y0_ hc;have I:∀ i,IsSet (m.l.getD i [])∧(m.l.getD i []).length≤64:=fun i=>by
  rcases Nat.lt_or_ge i m.l.length with hi | hi
  ·unfold mayM at C
   rw [Bool.and_eq_true,List.all_eq_true] at C;have h:=Zn6 (C.2 _ (Y9_ [] hi));have ha:=chk_a hc;have F:InN m.a.toNat (m.l.getD i []):=⟨h.1,fun r j=>by have:=h.2 r j;omega⟩;exact ⟨h.1,by have:=Y1_ F;omega⟩
  ·rw [List.getD_eq_getElem?_getD,List.getElem?_eq_none hi]
   exact ⟨J1_,j37_⟩
 have Q:=J;have x3:=Y1_ z;have x0:=(Y0_ hc).2;have x2:(s.length:Int)≤64:=x37_;obtain ⟨o,iv,rfl,H,L⟩:=J.open;obtain ⟨q,cl,rfl,_⟩:=id H;obtain ⟨p,u,rfl,_⟩:=id L;obtain ⟨V,cs,rfl,_⟩:=id j;have E:=Z3_ w m (.slice q m.l.length cl) (.slice p m.i.length u);have D:=Z1_ w m (.slice q m.l.length cl) (.slice p m.i.length u);unfold boxed at *
 obtain ⟨c,hW0⟩:∃ c,c=w.alloc (.cells #[.int .i64 m.t,.int .i64 m.n,.int .i64 m.a,.int .i64 m.b,.slice q m.l.length cl,.slice p m.i.length u] 25):=⟨_,rfl⟩;rw [← hW0] at E D;have x1:c.heap.size=w.heap.size+1:=x39_;obtain ⟨g,G⟩:∃ g,g=(c.alloc (.cells #[] 99)).alloc (.cells #[] 26):=⟨_,rfl⟩;have N:Hid (g=((w.alloc (.cells #[.int .i64 m.t,.int .i64 m.n,.int .i64 m.a,.int .i64 m.b,.slice q m.l.length cl,.slice p m.i.length u] 25)).alloc (.cells #[] 99)).alloc (.cells #[] 26)):=hid (by rw [G,hW0]);have y:Below c.heap.size c g:=by rw [G];exact ((Below.refl _ c).alloc (le_refl _) _).alloc j37_ _
 have X:=hid y;have B:Below w.heap.size w g:=Z0_ D (le_refl _) y;have K:=hid (E.below y x37_);have Hb2:=hid B;have Y:(m.t==1)=false:=k37_;have Z:(m.t==2)=false:=k37_;have d3:(m.t==3)=true:=j44_;have d4:(m.t==4)=false:=k37_;have HC:Hid (∀ (o d:Value) (W:World),Rows2 W W.heap.size o m.l→Row W W.heap.size d s→Calls Tryz.prog 94 #[o,d,.slice none 0 0] W (Says W (G2_ m.l s []))):=hid fun o d W h F=>Zf5 m.l (fun i=>(I i).1) (fun i=>(I i).2) x37_ s [] o d _ W (fun x S=>by have:=z.2 x S;omega) J1_ k37_ h F (Row.nil_ _ _);have HL:=hid (H.up B);have HR:=hid (j.up B);generalize G2_ m.l s []=R at *
 have g0:=K.out.cell 0;have g4:=K.out.cell 4;clear ht hW0 G E D y B H L j z J Q I T C P hc
 go_enter Tryz.func67,Tryz.ntmps67
 go_wp2;rw [← N.out]
 go_loopw [5,6,7] (fun _ _ U wr=>U=.int .i64 0∧wr=g) (fun _ _ _ _=>1)
 case atStart=>exact ⟨rfl,rfl⟩
 case round =>
  obtain ⟨rfl,M⟩:=hrel;rw [M];clear M;by_cases h0:0<s.length
  ·have O:(0:Int)<(s.length:Int):=by omega
   exact q35_
  ·have O:¬ (0:Int)<(s.length:Int):=by omega
   exact q35_
theorem Zf6 {A:Nat} {p:Nat→Bool} {c:Nat} (_hc:c<A) (h:(List.range c).all p=true) (d:p c=true):(List.range (c+1)).all p=true:=by
 rw [List.range_succ,List.all_append,h];simp [d]
theorem Zf7 {A:Nat} {p:Nat→Bool} {c:Nat} (hc:c<A) (d:p c=false):(List.range A).all p=false:=by
 rw [Bool.eq_false_iff];intro h;rw [List.all_eq_true] at h;rw [h c (List.mem_range.2 hc)] at d;cases d
theorem Vs0 (k:Nat) (m:Mat) (v P:Value) (s:List Int) (w:World) (M:MatV w w.heap.size v m) (hc:chk m=0) (F:Row w w.heap.size P s) (r:InN (nN m) s) (ht:m.t=2):Calls Tryz.prog 67 #[v,P] w (Says w (indB (k+1) m s)):=by
 rw [ind_2 hc r ht];obtain ⟨Z,p1,p2,p3,p4⟩:=Zq9 hc ht;have Y:=Y0_ hc;have ha:=chk_a hc;have x9:=Y1_ r;have x6:=(Y0_ hc).2;have x8:(s.length:Int)≤64:=x37_;obtain ⟨lv,iv,rfl,E,I⟩:=M.open;obtain ⟨j,cl,rfl,_⟩:=id E;obtain ⟨h,o,rfl,_⟩:=id I;obtain ⟨As,cs,rfl,_⟩:=id F;have z:=Z3_ w m (.slice j m.l.length cl) (.slice h m.i.length o);have x:=Z1_ w m (.slice j m.l.length cl) (.slice h m.i.length o);unfold boxed at *
 obtain ⟨d,hW0⟩:∃ d,d=w.alloc (.cells #[.int .i64 m.t,.int .i64 m.n,.int .i64 m.a,.int .i64 m.b,.slice j m.l.length cl,.slice h m.i.length o] 25):=⟨_,rfl⟩;rw [← hW0] at z x;have x7:d.heap.size=w.heap.size+1:=x39_;obtain ⟨W2,D⟩:∃ W2,W2=(d.alloc (.cells #[] 99)).alloc (.cells #[] 26):=⟨_,rfl⟩;have Q:Hid (W2=((w.alloc (.cells #[.int .i64 m.t,.int .i64 m.n,.int .i64 m.a,.int .i64 m.b,.slice j m.l.length cl,.slice h m.i.length o] 25)).alloc (.cells #[] 99)).alloc (.cells #[] 26)):=hid (by rw [D,hW0]);have q:Below d.heap.size d W2:=by rw [D];exact ((Below.refl _ d).alloc (le_refl _) _).alloc j37_ _
 have x0:=hid q;have H:Below w.heap.size w W2:=Z0_ x (le_refl _) q;have HK:=hid (z.below q x37_);have Hb2:=hid H;have d1:(m.t==1)=false:=k37_;have d2:(m.t==2)=true:=j44_;have d3:(m.t==3)=false:=k37_;have d4:(m.t==4)=false:=k37_;obtain ⟨A',c',V,_,g⟩:=id E;injection V with e1 e2 e3;subst e1 e3;obtain ⟨al,u0,T,hB,B,u⟩:=g 0 x37_;subst T;obtain ⟨al',u1,U,_,G,L⟩:=g 1 x37_;obtain rfl:=Option.some.inj U;rw [add_zero] at B;change Row w w.heap.size u0 (row m 0) at u;change Row w w.heap.size u1 (row m 1) at L;obtain ⟨A,hA⟩:∃ A:Nat,m.a=(A:Int):=⟨m.a.toNat,x37_⟩;have J:∀ k,k<s.length→0≤s.getD k 0∧s.getD k 0<((row m 0).length:Int):=fun k g=>by have:=I8_ r g;omega
 have Hml:Hid ((row m 1).length=A):=hid x37_;have HC:Hid (∀ (c:Nat) (vc vs:Value) (W:World),Row W W.heap.size vc (row m 0)→Row W W.heap.size vs s→Calls Tryz.prog 93 #[vc,vs,.int .i64 (c:Int)] W (Tells W (cntC (row m 0) s c:Nat))):=hid fun c vc vs W h1 h2=>Xm8 vc vs (row m 0) s c W h1 h2 J x37_;rw [show m.a.toNat=A by omega];generalize row m 0=cls at *
 generalize row m 1=mo at *
 obtain ⟨R,C⟩:∃ R,(List.range A).all (fun c=>decide ((cntC cls s (c:Int):Int)≤mo.getD c 0))=R:=⟨_,rfl⟩;rw [C];have HAR:=hid C;clear C;have HCR:=hid u;obtain ⟨Ac,cc,rfl,_⟩:=id u;obtain ⟨Am,cm,rfl,_,K⟩:=L;have HM:=hid K;have HR:=hid F;have HG0:=hid B;have HG1:=hid G;rw [show al.add 1=(⟨al.block,al.off+1,none⟩:Addr) by simp [Addr.add]] at HG1;have HAB:=hid hB;have X:(m.l.length:Int)=2:=x37_;have x1:(0:Int)<(m.l.length:Int):=x37_;have x2:(1:Int)<(m.l.length:Int):=x37_;have x3:0<m.l.length:=x37_;have x4:1<m.l.length:=x37_;clear X;have g0:=HK.out.cell 0;have x5:A≤64:=x37_;have HA:=hid hA;clear hA ht hW0 D z x q H E I F r M J K B G hB u g Z p1 p2 p3 p4 Y ha hc
 go_enter Tryz.func67,Tryz.ntmps67
 go_wp2;rw [← Q.out]
 go_loopw [5,6,7] (fun _ _ vi wr=>vi=.int .i64 0∧wr=W2) (fun _ _ _ _=>1)
 case atStart=>exact ⟨rfl,rfl⟩
 case round =>
  obtain ⟨rfl,O⟩:=hrel;rw [O];clear O;by_cases h0:0<s.length
  ·have S:(0:Int)<(s.length:Int):=by omega
   exact y0_
  ·have S:¬ (0:Int)<(s.length:Int):=by omega
   exact y0_
theorem Vs1 (k:Nat) (m:Mat) (v sv:Value) (s:List Int) (w:World) (hv:MatV w w.heap.size v m) (hc:chk m=0) (hr:Row w w.heap.size sv s) (O:InN (nN m) s) (ht:m.t=1):Calls Tryz.prog 67 #[v,sv] w (Says w (indB (k+1) m s)):=by
 have hg:=P5_ hc ht;have ha:=chk_a hc;have S:=Zi2 hc ht O;have T:=Yy0 (s:=s) hc ht;have y9:=Y0_ hc;obtain ⟨A,hA⟩:∃ A:Nat,m.a=(A:Int):=⟨m.a.toNat,x37_⟩;rw [hA,Int.toNat_natCast] at T;have xx:1≤A:=x37_;have y0:A≤64:=x37_;obtain ⟨d,x5⟩:∃ d,edgP (nN m) (edgOf m) (memP s)=d:=⟨_,rfl⟩;rw [x5] at S T;have x4:d.length=s.length:=by
  have:=congrArg List.length S;rw [V3_] at this;unfold R4_ at this;rw [List.length_map] at this;omega
 have xk:(rankN A d==(d.length:Int))=indB (k+1) m s:=by
  have e1:((N7_ A (nN m) (edgOf m) (memP s):Nat):Int)=rankN A d:=by rw [← x5];unfold N7_ rankN;have:=Za8 A (edgP (nN m) (edgOf m) (memP s));omega
  rw [Bool.eq_iff_iff,beq_iff_eq,J0_,rkP_1 ht,hA,Int.toNat_natCast,← e1,x4];omega
 rw [← xk];obtain ⟨b,hb⟩:∃ b,(rankN A d==(d.length:Int))=b:=⟨_,rfl⟩;rw [hb];have yn:=Y1_ O;have yl:=(Y0_ hc).2;have ym:(s.length:Int)≤64:=x37_;obtain ⟨lv,iv,rfl,x3,xg⟩:=hv.open;obtain ⟨B,cl,rfl,_⟩:=id x3;obtain ⟨E,J,rfl,_⟩:=id xg;obtain ⟨As,cs,rfl,_⟩:=id hr;have H:=Z3_ w m (.slice B m.l.length cl) (.slice E m.i.length J);have G:=Z1_ w m (.slice B m.l.length cl) (.slice E m.i.length J);unfold boxed at *
 obtain ⟨g,hW0⟩:∃ g,g=w.alloc (.cells #[.int .i64 m.t,.int .i64 m.n,.int .i64 m.a,.int .i64 m.b,.slice B m.l.length cl,.slice E m.i.length J] 25):=⟨_,rfl⟩;rw [← hW0] at H G;have x6:g.heap.size=w.heap.size+1:=x39_;obtain ⟨y,P⟩:∃ y,y=(g.alloc (.cells #[] 99)).alloc (.cells #[] 26):=⟨_,rfl⟩;have xp:Hid (y=((w.alloc (.cells #[.int .i64 m.t,.int .i64 m.n,.int .i64 m.a,.int .i64 m.b,.slice B m.l.length cl,.slice E m.i.length J] 25)).alloc (.cells #[] 99)).alloc (.cells #[] 26)):=hid (by rw [P,hW0]);have K:Below g.heap.size g y:=by rw [P];exact ((Below.refl _ g).alloc (le_refl _) _).alloc j37_ _
 have xl:=hid K;have x9:Below w.heap.size w y:=Z0_ G (le_refl _) K;have HK:=hid (H.below K x37_);have ye:=hid x9;have d1:(m.t==1)=true:=j44_;have d2:(m.t==2)=false:=k37_;have d3:(m.t==3)=false:=k37_;have d4:(m.t==4)=false:=k37_;obtain ⟨A',c',he,_,hk⟩:=id x3;injection he with e1 e2 e3;subst e1 e3;have xm:Hid (∀ (v:Value) (W:World),Edges W W.heap.size v (castE d)→Calls Tryz.prog 92 #[.int .i64 m.a,v] W (Says W b)):=hid fun v W h=>by rw [hA];exact Zh0 A v d W h xx y0 x37_ T b hb
 have xq:Hid (∀ i,i<s.length→∃ (X:Nat) (p q:Int) (j al c:Addr) (o:Nat),As=some j∧B=some al∧X<m.l.length∧j.block<w.heap.size∧al.block<w.heap.size∧c.block<w.heap.size∧w.cell? (j.add i)=some (.int .i64 (X:Int))∧w.cell? (al.add X)=some (.slice (some c) 2 o)∧w.cell? c=some (.int .i64 p)∧w.cell? ⟨c.block,c.off+1,none⟩=some (.int .i64 q)∧((d.getD i (0,0)).1:Int)=p∧((d.getD i (0,0)).2:Int)=q):=hid fun i hi=>by
  have hx:=I8_ O hi;obtain ⟨X,hX⟩:∃ X:Nat,s.getD i 0=(X:Int):=⟨(s.getD i 0).toNat,x37_⟩;obtain ⟨A0,c0,y6,_,y8⟩:=id hr;injection y6 with q1 q2 q3;subst q1 q3;obtain ⟨j,x1,y3,xd⟩:=y8 i hi;rw [hX] at hx xd;have R:X<m.l.length:=x37_;obtain ⟨al,u,x2,y2,y5,ya⟩:=hk X R;have xw:(m.l.getD X []).length=2:=by have:=(hg.2.2 X R).1;omega
  have N:=congrArg (fun l=>List.getD l i (0,0)) S;change (R4_ m.l s).getD i (0,0)=(castE d).getD i (0,0) at N;rw [K7_] at N;have y1:(R4_ m.l s).getD i (0,0)=((m.l.getD X []).getD 0 0,(m.l.getD X []).getD 1 0):=by
   have:(s.getD i 0)=s[i]:=by simp [List.getD,hi]
   rw [this] at hX;simp [R4_,List.getD,hi,hX]
  rw [y1] at N;generalize m.l.getD X []=z at *
  obtain ⟨p,q,rfl⟩:∃ p q,z=[p,q]:=by
   match z,xw with
   | [p,q],_=>exact ⟨p,q,rfl⟩
  obtain ⟨Az,o,rfl,_,xe⟩:=ya;obtain ⟨c,xy,y4,xb⟩:=xe 0 j37_;subst xy;obtain ⟨yf,xz,_,xc⟩:=xe 1 j37_;obtain rfl:=Option.some.inj xz;rw [add_zero] at xb;rw [show c.add 1=(⟨c.block,c.off+1,none⟩:Addr) by simp [Addr.add]] at xc;injection N with L M;exact ⟨X,p,q,j,al,c,o,x1,x2,R,y3,y2,y4,xd,y5,xb,xc,L.symm,M.symm⟩
 have x8:=hid x4;have xj:OwnE y (w.heap.size+1) (.slice (some ⟨w.heap.size+1,0,none⟩) 0 0) []:=by
  unfold OwnE;rw [P,← x6];exact (World.ownsRow_lit g #[] 0 (le_refl _) z38_ rfl).alloc _
 have xn:=hid xj;obtain ⟨i0,y7,yb,yc,yd⟩:=info_parts Jy9;have x0:=hid x6;have F:=hid H;have x7:=hid G;have g0:=HK.out.cell 0;clear ht hW0 P H G K x9 x3 xg hr O hv hk hg ha S T y9 hA xk hb x5 hc xj x4 x6
 go_enter Tryz.func67,Tryz.ntmps67
 go_wp2;rw [← xp.out]
 go_loopw [5,6,7] (fun ve _ vi wr=>∃ i:Nat,vi=.int .i64 (i:Int)∧i≤s.length∧Hid (OwnE wr (w.heap.size+1) ve (d.take i)∧Below g.heap.size g wr)) (fun _ _ vi _=>s.length - (intOf vi).toNat)
 case atStart=>exact ⟨0,rfl,Nat.zero_le _,by rw [List.take_zero];exact xn.out,xl.out⟩
 case round =>
  obtain ⟨i,rfl,hi,D⟩:=hrel;clear g0;have U:w.heap.size<g.heap.size:=by rw [x0.out];omega
  have x:=hid (D.out.2);have C:=hid (Z0_ x7.out (le_refl _) D.out.2);have r0:=(x.out.cell (p:=⟨w.heap.size,0,none⟩) U).trans (F.out.cell 0);by_cases xh:i<s.length
  ·have yk:(i:Int)<(s.length:Int):=by omega
   obtain ⟨X,p,q,j,al,c,o,x1,x2,R,b1,b2,I,k1,k2,k3,k4,L,M⟩:=xq.out i xh;subst x1 x2;have yg:(X:Int)<(m.l.length:Int):=x37_;have g1:=(C.out.cell (p:=j.add i) (by rw [Z2_];exact b1)).trans k1;have g2:=(C.out.cell (p:=al.add X) (by rw [Z2_];exact b2)).trans k2;have g3:=(C.out.cell (p:=c) I).trans k3;have g4:=(C.out.cell (p:=⟨c.block,c.off+1,none⟩) I).trans k4;have g5:=(x.out.cell (p:=⟨w.heap.size,4,none⟩) U).trans (F.out.cell 4);have yp:IntKind.i64.wrap ((i:Int)+1)=(i:Int)+1:=x38_;have Hn:Hid (d.take (i+1)=d.take i ++ [d.getD i (0,0)]):=hid (by
    have:i<d.length:=by rw [x8.out];exact xh
    rw [List.take_succ_eq_append_getElem this];simp [List.getD,this])
   have xt:Hid (flatE [d.getD i (0,0)]=[.int .i64 p,.int .i64 q]):=hid (by simp [flatE,← L,← M]);have yh:(d.take i).length≤64:=k39_;have yo:w.heap.size+1≤wr.heap.size:=by rw [← x0.out];exact x.out.size
   have Z:=hid D.out.1;generalize d.take i=bk at *
   obtain ⟨Ae,ce,rfl⟩:=Z.out.slice;have xu:Hid ((j.add i).block<w.heap.size∧(al.add X).block<w.heap.size∧c.block<w.heap.size∧w.cell? (j.add i)=some (.int .i64 (X:Int))∧w.cell? (al.add X)=some (.slice (some c) 2 o)∧w.cell? c=some (.int .i64 p)∧w.cell? ⟨c.block,c.off+1,none⟩=some (.int .i64 q)):=hid ⟨by rw [Z2_];exact b1,by rw [Z2_];exact b2,I,k1,k2,k3,k4⟩;clear k1 k2 k3 k4 L M b1 b2 I D;have K1:Hid (∀ W,Below g.heap.size g W→W.cell? ⟨w.heap.size,4,none⟩=some (.slice (some al) m.l.length cl)∧W.cell? (j.add i)=some (.int .i64 (X:Int))∧W.cell? (al.add X)=some (.slice (some c) 2 o)∧W.cell? c=some (.int .i64 p)∧W.cell? ⟨c.block,c.off+1,none⟩=some (.int .i64 q)):=hid fun W hW=>by
    have Q:=Z0_ x7.out (le_refl _) hW;have e:=xu.out;exact ⟨(hW.cell (p:=⟨w.heap.size,4,none⟩) U).trans (F.out.cell 4),(Q.cell (p:=j.add i) e.1).trans e.2.2.2.1,(Q.cell (p:=al.add X) e.2.1).trans e.2.2.2.2.1,(Q.cell (p:=c) e.2.2.1).trans e.2.2.2.2.2.1,(Q.cell (p:=⟨c.block,c.off+1,none⟩) e.2.2.1).trans e.2.2.2.2.2.2⟩
   have r:=hid x.out.drew;have Y:=hid x.out.drew.size;clear g1 g2 g3 g4 g5;go_wp2
   go_region_held3 (fun W=>W.cell? ⟨w.heap.size,4,none⟩=some (.slice (some al) m.l.length cl)∧W.cell? (j.add i)=some (.int .i64 (X:Int))∧W.cell? (al.add X)=some (.slice (some c) 2 o)∧W.cell? c=some (.int .i64 p)∧W.cell? ⟨c.block,c.off+1,none⟩=some (.int .i64 q))
    (first | exact K1.out _ r.out | exact K1.out _ (Below.alloc r.out Y.out _))
    (first | (refine step_append_lies _ rfl _ _ 98 rfl (w.heap.size+1) 99 i0 (.agg #[.int .i64 0,.int .i64 0]) 2 16 y37_ y7 yb yc yd rfl q38_ _ bk.length (flatE bk) rfl (World.ownsRow.drew Z.out |>.alloc _) _ 1 1 [.int .i64 p,.int .i64 q] rfl rfl (fun a b h=>by exact flat2 _ _ _ a b h) (by intro u hu;simp at hu;rcases hu with rfl | rfl<;>rfl) q38_ z38_ x37_ k37_ _ rfl ?_;intro gg xv w4 xi xf _ _;replace r:Hid (Below g.heap.size g w4):=hid ((Below.alloc r.out Y.out _).grown xf (Nat.le_trans Y.out j37_) (fun i hi=>by have:=(World.ownsRow.lt Z.out i hi).1;rw [x0.out];exact this))))
   all_goals
    have xr:=hid r.out;have xs:Hid (OwnE w4 (w.heap.size+1) (.slice (some ⟨gg,0,none⟩) (bk.length+1) xv) (d.take (i+1))):=hid (by
     rw [Hn.out];unfold OwnE;rw [Zv7,List.length_append,xt.out];exact xi)
    clear xf xi r;go_simp;go_wp2
    go_roundw
    case rel=>exact ⟨i+1,y38_,x37_,xs.out,xr.out⟩
    exact mz_
  ·have yj:i=s.length:=by omega
   have yi:¬ (i:Int)<(s.length:Int):=x37_;have V:=D.out.1;rw [List.take_of_length_le (by rw [x8.out];omega)] at V;obtain ⟨Ae,ce,rfl⟩:=V.slice;have xo:=hid V;clear V;have r2:=(x.out.cell (p:=⟨w.heap.size,2,none⟩) U).trans (F.out.cell 2)
   go_wp2_with fail
   refine (xm.out _ _ xo.out.edges).mono ?_;rintro e w3 ⟨rfl,xa⟩;have Hb3:=hid (Z0_ C.out (le_refl _) xa);clear xa r2 r0;exact q6_
theorem Vs2 (k:Nat) (m:Mat) (v sv:Value) (s:List Int) (w:World) (hv:MatV w w.heap.size v m) (hc:chk m=0) (hr:Row w w.heap.size sv s) (M:InN (nN m) s) (ht:m.t=4):Calls Tryz.prog 67 #[v,sv] w (Says w (indB (k+1) m s)):=by
 obtain ⟨p1,p2⟩:=Yi5 hc ht;have y3:=Y0_ hc;obtain ⟨adj,O⟩:∃ adj,adj=(pickN (nN m) (memP s)).map fun i=>m.l.getD i []:=⟨_,rfl⟩;have x2:F6_ m.l s=adj:=by rw [O];exact S4_ M
 have xe:(L.rankI m.b m.a adj==(s.length:Int))=indB (k+1) m s:=by
  have U:L.rankI m.b m.a adj=(linR m.b m.a.toNat (nN m) (colOf m) (memP s):Nat):=Ve9 O (by rw [elimK,O];exact Zc7 p2 x37_);rw [Bool.eq_iff_iff,beq_iff_eq,J0_,rkP_4 ht,U];omega
 rw [← xe];have x5:adj.length=s.length:=by rw [← x2];unfold F6_;rw [List.length_map]
 have yd:=Y1_ M;have yb:=(Y0_ hc).2;have yc:(s.length:Int)≤64:=x37_;obtain ⟨lv,iv,rfl,x1,xa⟩:=hv.open;obtain ⟨B,cl,rfl,_⟩:=id x1;obtain ⟨D,J,rfl,_⟩:=id xa;obtain ⟨As,cs,rfl,_⟩:=id hr;have H:=Z3_ w m (.slice B m.l.length cl) (.slice D m.i.length J);have G:=Z1_ w m (.slice B m.l.length cl) (.slice D m.i.length J);unfold boxed at *
 obtain ⟨c,hW0⟩:∃ c,c=w.alloc (.cells #[.int .i64 m.t,.int .i64 m.n,.int .i64 m.a,.int .i64 m.b,.slice B m.l.length cl,.slice D m.i.length J] 25):=⟨_,rfl⟩;rw [← hW0] at H G;have S:c.heap.size=w.heap.size+1:=x39_;obtain ⟨z,N⟩:∃ z,z=(c.alloc (.cells #[] 99)).alloc (.cells #[] 26):=⟨_,rfl⟩;have xn:Hid (z=((w.alloc (.cells #[.int .i64 m.t,.int .i64 m.n,.int .i64 m.a,.int .i64 m.b,.slice B m.l.length cl,.slice D m.i.length J] 25)).alloc (.cells #[] 99)).alloc (.cells #[] 26)):=hid (by rw [N,hW0]);have K:Below c.heap.size c z:=by rw [N];exact ((Below.refl _ c).alloc (le_refl _) _).alloc j37_ _
 have xg:=hid K;have x6:Below w.heap.size w z:=Z0_ G (le_refl _) K;have HK:=hid (H.below K x37_);have y7:=hid x6;have d1:(m.t==1)=false:=k37_;have d2:(m.t==2)=false:=k37_;have d3:(m.t==3)=false:=k37_;have d4:(m.t==4)=true:=j44_;obtain ⟨A',c',he,_,hk⟩:=id x1;injection he with U e2 e3;subst U e3;have xl:Hid (∀ (v:Value) (W:World),Rows2 W W.heap.size v adj→Calls Tryz.prog 95 #[.int .i64 m.b,.int .i64 m.a,v] W (Gets W (.int .i64 (L.rankI m.b m.a adj)))):=hid fun v W h=>L.refrankI_any m.b m.a v adj W h;have xp:Hid (∀ i,i<s.length→∃ (X:Nat) (u:Value) (y al:Addr),As=some y∧B=some al∧X<m.l.length∧y.block<w.heap.size∧al.block<w.heap.size∧w.cell? (y.add i)=some (.int .i64 (X:Int))∧w.cell? (al.add X)=some u∧Row w w.heap.size u (adj.getD i [])):=hid fun i hi=>by
  have hx:=I8_ M hi;obtain ⟨X,Z⟩:∃ X:Nat,s.getD i 0=(X:Int):=⟨(s.getD i 0).toNat,x37_⟩;obtain ⟨A0,c0,xx,_,y1⟩:=id hr;injection xx with q1 q2 q3;subst q1 q3;obtain ⟨y,V,xv,x8⟩:=y1 i hi;rw [Z] at hx x8;have x0:X<m.l.length:=x37_;obtain ⟨al,u,Y,xu,xw,Q⟩:=hk X x0;have xt:adj.getD i []=m.l.getD X []:=by
   have:(s.getD i 0)=s[i]:=by simp [List.getD,hi]
   rw [this] at Z;rw [← x2];simp [F6_,List.getD,hi,Z]
  exact ⟨X,u,y,al,V,Y,x0,xv,xu,x8,xw,by rw [xt];exact Q⟩
 have xo:=hid x5;generalize L.rankI m.b m.a adj=R at *
 have xd:z.ownsRow (w.heap.size+1) 26 1 (.slice (some ⟨w.heap.size+2,0,none⟩) 0 0) ([]:List Value).length []:=by
  rw [N,show w.heap.size+2=(c.alloc (.cells #[] 99)).heap.size by simp [S],← S];exact World.ownsRow_lit (c.alloc (.cells #[] 99)) #[] 0 j37_ z38_ rfl
 have xj:=hid xd;obtain ⟨i0,xy,y4,y5,y6⟩:=info_parts Yo2;have I:=hid S;have E:=hid H;have xh:=hid G;have g0:=HK.out.cell 0;clear ht hW0 N H G K x6 x1 xa hr M hv hk y3 xe O x2 hc xd x5 S p1 p2
 go_enter Tryz.func67,Tryz.ntmps67
 go_wp2;rw [← xn.out]
 go_loopw [5,6,7] (fun _ vc vi wr=>∃ (i:Nat) (us:List Value),vi=.int .i64 (i:Int)∧i≤s.length∧Hid (us.length=i∧wr.ownsRow (w.heap.size+1) 26 1 vc us.length us∧(∀ j u,us[j]?=some u→Row w w.heap.size u (adj.getD j []))∧Below c.heap.size c wr)) (fun _ _ vi _=>s.length - (intOf vi).toNat)
 case atStart=>exact ⟨0,[],rfl,Nat.zero_le _,rfl,xj.out,fun j u h=>by simp at h,xg.out⟩
 case round =>
  obtain ⟨i,us,rfl,hi,x⟩:=hrel;clear g0;have P:w.heap.size<c.heap.size:=by rw [I.out];omega
  have r:=hid (x.out.2.2.2);have F:=hid (Z0_ xh.out (le_refl _) x.out.2.2.2);have r0:=(r.out.cell (p:=⟨w.heap.size,0,none⟩) P).trans (E.out.cell 0);have T:=hid x.out.1;have x4:=hid x.out.2.2.1;have C:=hid x.out.2.1;have yf:us.length≤64:=by rw [x.out.1];omega
  clear x;by_cases y2:i<s.length
  ·have ya:(i:Int)<(s.length:Int):=by omega
   obtain ⟨X,u,y,al,V,Y,x0,b1,b2,k1,k2,Q⟩:=xp.out i y2;subst V Y;have x3:=hid Q;obtain ⟨g,o,rfl,_⟩:=Q;obtain ⟨d,xb⟩:∃ d,(adj.getD i []).length=d:=⟨_,rfl⟩;rw [xb] at x3 k2;have y8:(X:Int)<(m.l.length:Int):=x37_;have g1:=(F.out.cell (p:=y.add i) (by rw [Z2_];exact b1)).trans k1;have g2:=(F.out.cell (p:=al.add X) (by rw [Z2_];exact b2)).trans k2;have g5:=(r.out.cell (p:=⟨w.heap.size,4,none⟩) P).trans (E.out.cell 4);have yg:IntKind.i64.wrap ((i:Int)+1)=(i:Int)+1:=x38_;have ye:w.heap.size+1≤wr.heap.size:=by rw [← I.out];exact r.out.size
   obtain ⟨Ac,cc,rfl⟩:=Q6_ C.out;clear k1 k2 b1 b2 xb;go_wp2
   go_region_law (refine step_append_lies _ rfl _ _ 22 rfl (w.heap.size+1) 26 i0 (.slice none 0 0) 1 24 y37_ xy y4 y5 y6 rfl q38_ _ us.length us rfl (World.ownsRow.alloc C.out _).drew _ 1 1 [.slice g d o] rfl rfl (fun a b h=>by exact P7_ _ _ _ a b h) (by intro u hu;simp at hu;subst hu;rfl) q38_ z38_ x37_ k37_ _ rfl ?_;intro gg xs w4 xc x9 _ _)
   all_goals
    have xf:c.heap.size≤(wr.alloc (.cells #[.slice g d o] 26)).drew.heap.size:=by rw [I.out];simp;omega
    have xq:Hid (Below c.heap.size c w4):=hid (((r.out.alloc r.out.size (.cells #[.slice g d o] 26)).drew).grown x9 xf (fun i hi=>by have:=(World.ownsRow.lt C.out i hi).1;rw [I.out];exact this));have xr:Hid (w4.ownsRow (w.heap.size+1) 26 1 (.slice (some ⟨gg,0,none⟩) (us.length+1) xs) (us ++ [Value.slice g d o]).length (us ++ [Value.slice g d o])):=hid (by
     rw [List.length_append];exact xc)
    have xm:Hid (∀ j u,(us ++ [Value.slice g d o])[j]?=some u→Row w w.heap.size u (adj.getD j [])):=hid (by
     intro j u q;by_cases y0:j<us.length
     ·rw [List.getElem?_append_left y0] at q
      exact x4.out j u q
     ·have:j=us.length:=by
       have:=(List.getElem?_eq_some_iff.1 q).1;simp at this;omega
      subst this;rw [List.getElem?_append_right (le_refl _)] at q;simp at q;subst q;rw [T.out];exact x3.out)
    have xi:Hid ((us ++ [Value.slice g d o]).length=i+1):=hid (by rw [List.length_append,T.out];rfl);clear xf x9 xc;go_wp2
    go_roundw
    case rel=>exact ⟨i+1,us ++ [.slice g d o],y38_,x37_,xi.out,xr.out,xm.out,xq.out⟩
    exact mz_
  ·have xz:i=s.length:=by omega
   have y9:¬ (i:Int)<(s.length:Int):=x37_;have xk:=hid (Xq3 (pp:=adj) C.out (by rw [T.out,xo.out];exact xz) fun j u q=>(x4.out j u q).up F.out);obtain ⟨Ac,cc,rfl⟩:=Q6_ C.out;have r2:=(r.out.cell (p:=⟨w.heap.size,2,none⟩) P).trans (E.out.cell 2);have r3:=(r.out.cell (p:=⟨w.heap.size,3,none⟩) P).trans (E.out.cell 3)
   go_wp2_with fail
   refine (xl.out _ _ xk.out).mono ?_;rintro e w3 ⟨rfl,x7⟩;have Hb3:=hid (Z0_ F.out (le_refl _) x7);clear x7 r2 r3 r0;exact q6_
theorem Xp7 (k:Nat) (m:Mat) (v d:Value) (s:List Int) (w:World) (h:MatV w w.heap.size v m) (hc:chk m=0) (g:Row w w.heap.size d s) (e:InN (nN m) s) (c:m.t<5):Calls Tryz.prog 67 #[v,d] w (Says w (indB (k+1) m s)):=by
 have j:=Zt4 hc;rcases (by omega:m.t=0∨m.t=1∨m.t=2∨m.t=3∨m.t=4) with c | c | c | c | c
 ·exact Vr8 k m v d s w h hc g e c
 ·exact Vs1 k m v d s w h hc g e c
 ·exact Vs0 k m v d s w h hc g e c
 ·exact Vr9 k m v d s w h hc g e c
 ·exact Vs2 k m v d s w h hc g e c
open Go Go.RowKit
def IndAt (k:Nat):Prop:=∀ (m:Mat) (v sv:Value) (s:List Int) (w:World),MatV w w.heap.size v m→Sml m→chk m=0→dp 4 m≤k→Row w w.heap.size sv s→InN (nN m) s→Calls Tryz.prog 40 #[v,sv] w (Says w (indB k m s))
theorem Vc2 (k:Nat) (m:Mat) (v c:Value) (s:List Int) (w:World) (h:MatV w w.heap.size v m) (hc:chk m=0) (g:Row w w.heap.size c s) (q:InN (nN m) s) (D:m.t<5):Calls Tryz.prog 40 #[v,c] w (Says w (indB (k+1) m s)):=by
 have x:Hid (∀ (v c:Value) (W:World),MatV W W.heap.size v m→Row W W.heap.size c s→Calls Tryz.prog 67 #[v,c] W (Says W (indB (k+1) m s))):=hid fun v c W B C=>Xp7 k m v c s W B hc C q D;generalize indB (k+1) m s=R at *
 obtain ⟨G,F,rfl,u,r⟩:=h.open;obtain ⟨o,cl,rfl,_⟩:=id u;obtain ⟨j,p,rfl,_⟩:=id r;obtain ⟨E,cs,rfl,_⟩:=id g;have Hb0:=hid (Z1_ w m (.slice o m.l.length cl) (.slice j m.i.length p));have d:=hid (Z3_ w m (.slice o m.l.length cl) (.slice j m.i.length p));have y:=hid (g.up Hb0.out);have z:=hid (h.up Hb0.out);unfold boxed at *
 have g0:=d.out.cell 0;have g1:=d.out.cell 1;have g2:=d.out.cell 2;have g3:=d.out.cell 3;have g4:=d.out.cell 4;have g5:=d.out.cell 5;clear h g q u r
 go_enter Tryz.func40,Tryz.ntmps40
 go_wp2_with fail
 refine (x.out _ _ _ z.out y.out).mono ?_;rintro e H ⟨rfl,hb1⟩;exact j29_
theorem Jv5 (k:Nat) (m:Mat) (v d:Value) (s:List Int) (w:World) (Q:MatV w w.heap.size v m) (hs:Sml m) (hc:chk m=0) (O:Row w w.heap.size d s) (y:InN (nN m) s) (ih:IndAt k) (hd:dp 4 m≤k+1) (ht:m.t=5):Calls Tryz.prog 40 #[v,d] w (Says w (indB (k+1) m s)):=by
 rw [ind_5 hc y ht];have xd:subB s (allL m.n)=true:=(P3_ (chk_n hc).1 (chk_n hc).2).2 y;have J:imgB m s=true:=by unfold imgB;rw [xd,decide_eq_true hc,decide_eq_true (show m.t=5∨m.t=6 by omega)];rfl
 have x6:imgL m s=imgM m s:=by unfold imgL;rw [J,if_pos rfl]
 have L:=Zg4 hc (.inl ht) y;have xn:=chk_n hc;have xv:=Y1_ y;have xt:=(Y0_ hc).2;have xu:(s.length:Int)≤64:=x37_;have xo:s.length≤1048576:=x37_;have xi:Hid (∀ (v d:Value) (W:World),MatV W W.heap.size v m→Row W W.heap.size d s→Calls Tryz.prog 68 #[v,d] W (A7_ W true (imgM m s))):=hid fun v d W r u=>by rw [← J,← x6];exact L0_ m v d s W r hs u xo
 obtain ⟨lv,iv,rfl,xa,K⟩:=Q.open;obtain ⟨Al,cl,rfl,_⟩:=id xa;obtain ⟨Ai,ci,rfl,_⟩:=id K;obtain ⟨As,cs,rfl,_⟩:=id O;obtain ⟨q1,q2,q3⟩:=Q4_ hc x37_;have xm:m.i.length=1:=j45_;obtain ⟨xp,xq,he,_,x9⟩:=id K;injection he with he1 he2 he3;subst he1 he3;obtain ⟨ai,ui,xl,g,xc,B⟩:=x9 0 x37_;subst xl;rw [show (0:Nat) * 6=0 from rfl,add_zero] at xc;rw [show m.i.getD 0 default=inn m from rfl] at B;obtain ⟨lx,ix,P,N,M⟩:=B.open;obtain ⟨x0,x1,x2,x3,x4,x5,c,S,T,U,V,X,Y⟩:=xc;rw [P] at c;injection c with c;injection c with c;injection c with h0 c;injection c with r c;injection c with u c;injection c with h3 c;injection c with h4 c;injection c with h5 _;subst h0 r u h3 h4 h5;have E:=sml_i hs (Y6_ m.i 0 default x37_);rw [show m.i.getD 0 default=inn m from rfl] at E;have xr:(0:Int)<(m.i.length:Int):=x37_;have xs:0<m.i.length:=x37_;obtain ⟨x,hx⟩:∃ x,inn m=x:=⟨_,rfl⟩;simp only [hx] at B N M S T U V X Y E q2 q3 P ⊢;obtain ⟨Alx,clx,rfl,_⟩:=id N;obtain ⟨Aix,cix,rfl,_⟩:=id M;subst P;obtain ⟨C,hW0⟩:∃ C,C=w.alloc (.cells #[.int .i64 m.t,.int .i64 m.n,.int .i64 m.a,.int .i64 m.b,.slice Al m.l.length cl,.slice (some ai) m.i.length ci] 25):=⟨_,rfl⟩;have h:Below w.heap.size w C:=y39_;have D:∀ i,C.cell? ⟨w.heap.size,i,none⟩=#[.int .i64 m.t,.int .i64 m.n,.int .i64 m.a,.int .i64 m.b,.slice Al m.l.length cl,.slice (some ai) m.i.length ci][i]?:=q39_;have t0:=(h.cell (p:=ai) g).trans S;have t1:=(h.cell (p:=⟨ai.block,ai.off+1,none⟩) g).trans T;have t2:=(h.cell (p:=⟨ai.block,ai.off+2,none⟩) g).trans U;have t3:=(h.cell (p:=⟨ai.block,ai.off+3,none⟩) g).trans V;have t4:=(h.cell (p:=⟨ai.block,ai.off+4,none⟩) g).trans X;have t5:=(h.cell (p:=⟨ai.block,ai.off+5,none⟩) g).trans Y;obtain ⟨q,hW1⟩:∃ q,q=(w.alloc (.cells #[.int .i64 m.t,.int .i64 m.n,.int .i64 m.a,.int .i64 m.b,.slice Al m.l.length cl,.slice (some ai) m.i.length ci] 25)).alloc (.cells #[.int .i64 x.t,.int .i64 x.n,.int .i64 x.a,.int .i64 x.b,.slice Alx x.l.length clx,.slice Aix x.i.length cix] 25):=⟨_,rfl⟩;have Z:=hid hW1;have z:Below w.heap.size w q:=by rw [hW1];exact ((Below.refl _ w).alloc (le_refl _) _).alloc j37_ _
 have xe:=hid z;have H:=hid (O.up z);have I:=hid (B.up z);have xk:=hid (Q.up z);have F:Hid (Blk q w.heap.size 25 #[.int .i64 m.t,.int .i64 m.n,.int .i64 m.a,.int .i64 m.b,.slice Al m.l.length cl,.slice (some ai) m.i.length ci]):=hid j39_;have G:Hid (Blk q (w.heap.size+1) 25 #[.int .i64 x.t,.int .i64 x.n,.int .i64 x.a,.int .i64 x.b,.slice Alx x.l.length clx,.slice Aix x.i.length cix]):=hid z37_;have x8:dp 4 x≤k:=x37_;rw [hx] at L;have xh:Hid (∀ (v d:Value) (W:World),MatV W W.heap.size v x→Row W W.heap.size d (imgM m s)→Calls Tryz.prog 40 #[v,d] W (Says W (indB k x (imgM m s)))):=hid fun v d W r u=>ih x v d _ W r E q2 x8 u L;generalize indB k x (imgM m s)=R at *
 have d0:¬ m.t<5:=x37_;have d5:(m.t==5)=true:=j44_;have d6:(m.t==6)=false:=k37_;have d7:(m.t==7)=false:=k37_;have d8:(m.t==8)=false:=k37_;clear ht hs y xm x9 he2 N M S T U V X Y g B q1 Q O E ih L xd J x6 xa K hc hd q2 q3 x8 xn
 go_enter Tryz.func40,Tryz.ntmps40
 rw [hW0] at t0 t1 t2 t3 t4 t5 D;have g0:=D 0;have g5:=D 5;clear hW0 D hW1 h z
 go_wp2_with fail
 rw [← Z.out];refine (xi.out _ _ _ xk.out H.out).mono ?_;rintro e w2 ⟨v2,rfl,xb,o,_⟩;have xf:=hid (Z0_ xe.out (le_refl _) o);have xg:=hid (F.out.below o F.out.lt);have j:=hid (G.out.below o G.out.lt);replace I:=hid (I.out.up o);replace H:=hid (H.out.up o);have xj:=hid xb;have m0:=xg.out.cell 0;have n0:=j.out.cell 0;have n1:=j.out.cell 1;have n2:=j.out.cell 2;have n3:=j.out.cell 3;have n4:=j.out.cell 4;have n5:=j.out.cell 5;clear o xb g0 g5 t0 t1 t2 t3 t4 t5 F G Z
 go_wp2_with fail
 refine (xh.out _ _ _ I.out xj.out).mono ?_;rintro e w3 ⟨rfl,x7⟩;have Hb3:=hid (Z0_ xf.out (le_refl _) x7);clear x7 m0 n0 n1 n2 n3 n4 n5;exact q6_
theorem Jv6 (k:Nat) (m:Mat) (v d:Value) (s:List Int) (w:World) (S:MatV w w.heap.size v m) (hs:Sml m) (hc:chk m=0) (O:Row w w.heap.size d s) (E:InN (nN m) s) (ih:IndAt k) (hd:dp 4 m≤k+1) (ht:m.t=7):Calls Tryz.prog 40 #[v,d] w (Says w (indB (k+1) m s)):=by
 rw [ind_7 hc hd E ht];have J:imgB m s=false:=by unfold imgB;rw [decide_eq_false (show ¬ (m.t=5∨m.t=6) by omega)];simp
 have x9:imgL m s=[]:=by unfold imgL;rw [J];rfl
 have xp:=chk_n hc;have xy:=Y1_ E;have xw:=(Y0_ hc).2;have xx:(s.length:Int)≤64:=x37_;have xq:s.length≤1048576:=x37_;have xk:Hid (∀ (v d:Value) (W:World),MatV W W.heap.size v m→Row W W.heap.size d s→Calls Tryz.prog 68 #[v,d] W (A7_ W false [])):=hid fun v d W r u=>by rw [← J,← x9];exact L0_ m v d s W r hs u xq
 obtain ⟨lv,iv,rfl,xe,L⟩:=S.open;obtain ⟨Al,cl,rfl,_⟩:=id xe;obtain ⟨Ai,ci,rfl,_⟩:=id L;obtain ⟨As,cs,rfl,_⟩:=id O;obtain ⟨q1,q2,q3⟩:=Q4_ hc x37_;have xn:m.i.length=1:=j45_;have P:=I6_ hc (.inl ht);obtain ⟨xr,xt,he,_,xd⟩:=id L;injection he with he1 he2 he3;subst he1 he3;obtain ⟨ai,ui,xm,g,xg,z⟩:=xd 0 x37_;subst xm;rw [show (0:Nat) * 6=0 from rfl,add_zero] at xg;rw [show m.i.getD 0 default=inn m from rfl] at z;obtain ⟨lx,ix,Q,N,M⟩:=z.open;obtain ⟨x0,x1,x2,x3,x4,x5,c,T,U,V,X,Y,s5⟩:=xg;rw [Q] at c;injection c with c;injection c with c;injection c with h0 c;injection c with r c;injection c with u c;injection c with h3 c;injection c with h4 c;injection c with h5 _;subst h0 r u h3 h4 h5;have F:=sml_i hs (Y6_ m.i 0 default x37_);rw [show m.i.getD 0 default=inn m from rfl] at F;have xu:(0:Int)<(m.i.length:Int):=x37_;have xv:0<m.i.length:=x37_;obtain ⟨x,hx⟩:∃ x,inn m=x:=⟨_,rfl⟩;simp only [hx] at z N M T U V X Y s5 F q2 q3 Q ⊢;obtain ⟨Alx,clx,rfl,_⟩:=id N;obtain ⟨Aix,cix,rfl,_⟩:=id M;subst Q;obtain ⟨C,hW0⟩:∃ C,C=w.alloc (.cells #[.int .i64 m.t,.int .i64 m.n,.int .i64 m.a,.int .i64 m.b,.slice Al m.l.length cl,.slice (some ai) m.i.length ci] 25):=⟨_,rfl⟩;have h:Below w.heap.size w C:=y39_;have D:∀ i,C.cell? ⟨w.heap.size,i,none⟩=#[.int .i64 m.t,.int .i64 m.n,.int .i64 m.a,.int .i64 m.b,.slice Al m.l.length cl,.slice (some ai) m.i.length ci][i]?:=q39_;have t0:=(h.cell (p:=ai) g).trans T;have t1:=(h.cell (p:=⟨ai.block,ai.off+1,none⟩) g).trans U;have t2:=(h.cell (p:=⟨ai.block,ai.off+2,none⟩) g).trans V;have t3:=(h.cell (p:=⟨ai.block,ai.off+3,none⟩) g).trans X;have t4:=(h.cell (p:=⟨ai.block,ai.off+4,none⟩) g).trans Y;have t5:=(h.cell (p:=⟨ai.block,ai.off+5,none⟩) g).trans s5;obtain ⟨q,hW1⟩:∃ q,q=(w.alloc (.cells #[.int .i64 m.t,.int .i64 m.n,.int .i64 m.a,.int .i64 m.b,.slice Al m.l.length cl,.slice (some ai) m.i.length ci] 25)).alloc (.cells #[.int .i64 x.t,.int .i64 x.n,.int .i64 x.a,.int .i64 x.b,.slice Alx x.l.length clx,.slice Aix x.i.length cix] 25):=⟨_,rfl⟩;have x6:=hid hW1;have y:Below w.heap.size w q:=by rw [hW1];exact ((Below.refl _ w).alloc (le_refl _) _).alloc j37_ _
 have xh:=hid y;have B:=hid (O.up y);have I:=hid (z.up y);have xl:=hid (S.up y);have G:Hid (Blk q w.heap.size 25 #[.int .i64 m.t,.int .i64 m.n,.int .i64 m.a,.int .i64 m.b,.slice Al m.l.length cl,.slice (some ai) m.i.length ci]):=hid j39_;have H:Hid (Blk q (w.heap.size+1) 25 #[.int .i64 x.t,.int .i64 x.n,.int .i64 x.a,.int .i64 x.b,.slice Alx x.l.length clx,.slice Aix x.i.length cix]):=hid z37_;have xc:dp 4 x≤k:=x37_;rw [hx] at P;have xa:InN (nN x) s:=by unfold nN;rw [← P];exact E
 have xj:Hid (∀ (v d:Value) (W:World),MatV W W.heap.size v x→Row W W.heap.size d s→Calls Tryz.prog 40 #[v,d] W (Says W (indB k x s))):=hid fun v d W r u=>ih x v d _ W r F q2 xc u xa;generalize indB k x s=R at *
 obtain ⟨Z,K⟩:∃ Z,(decide ((s.length:Int)≤m.a) && R)=Z:=⟨_,rfl⟩;rw [K];have HZ:=hid K;clear K;have d0:¬ m.t<5:=x37_;have d5:(m.t==5)=false:=k37_;have d6:(m.t==6)=false:=k37_;have d7:(m.t==7)=true:=j44_;have d8:(m.t==8)=false:=k37_;clear ht hs E xn xd he2 N M T U V X Y s5 g z q1 S O F ih J x9 xe L hc hd q2 q3 xc xp xa P
 go_enter Tryz.func40,Tryz.ntmps40
 rw [hW0] at t0 t1 t2 t3 t4 t5 D;have g0:=D 0;have g5:=D 5;clear hW0 D hW1 h y
 go_wp2_with fail
 rw [← x6.out];refine (xk.out _ _ _ xl.out B.out).mono ?_;rintro e w2 ⟨v2,rfl,xf,o,_⟩;have x7:=hid (Z0_ xh.out (le_refl _) o);have x8:=hid (G.out.below o G.out.lt);have j:=hid (H.out.below o H.out.lt);replace I:=hid (I.out.up o);replace B:=hid (B.out.up o);have xs:=hid xf;have m0:=x8.out.cell 0;have m2:=x8.out.cell 2;have n0:=j.out.cell 0;have n1:=j.out.cell 1;have n2:=j.out.cell 2;have n3:=j.out.cell 3;have n4:=j.out.cell 4;have n5:=j.out.cell 5;clear o xf g0 g5 t0 t1 t2 t3 t4 t5 G H x6;by_cases xo:(s.length:Int)≤m.a
 ·go_wp2_with fail
  refine (xj.out _ _ _ I.out B.out).mono ?_;rintro e w3 ⟨rfl,xb⟩;have xi:=hid (Z0_ x7.out (le_refl _) xb);clear xb m0 m2 n0 n1 n2 n3 n4 n5;go_wp2;go_ret;exact ⟨by rw [← HZ.out,decide_eq_true xo,Bool.true_and];rfl,xi.out⟩
 ·go_wp2
  go_ret;exact ⟨by rw [← HZ.out,decide_eq_false (by omega:¬ (s.length:Int)≤m.a),Bool.false_and];rfl,x7.out⟩
theorem Jv7 (k:Nat) (m:Mat) (v c:Value) (s:List Int) (w:World) (hv:MatV w w.heap.size v m) (hs:Sml m) (hc:chk m=0) (hr:Row w w.heap.size c s) (J:InN (nN m) s) (ih:IndAt k) (hd:dp 4 m≤k+1) (ht:m.t=6):Calls Tryz.prog 40 #[v,c] w (Says w (indB (k+1) m s)):=by
 rw [ind_6 hc hd J ht];have xw:subB s (allL m.n)=true:=(P3_ (chk_n hc).1 (chk_n hc).2).2 J;have x7:imgB m s=true:=by unfold imgB;rw [xw,decide_eq_true hc,decide_eq_true (show m.t=5∨m.t=6 by omega)];rfl
 have xm:imgL m s=imgM m s:=by unfold imgL;rw [x7,if_pos rfl]
 have X:=Zg4 hc (.inr ht) J;have N:=Zg3 hc (.inr ht);have yc:m.l.length=1:=(D7_ hc (.inr ht)).1;have yd:=chk_n hc;have ys:=Y1_ J;have yq:=(Y0_ hc).2;have yr:(s.length:Int)≤64:=x37_;have yf:s.length≤1048576:=x37_;have y4:Hid (∀ (v c:Value) (W:World),MatV W W.heap.size v m→Row W W.heap.size c s→Calls Tryz.prog 68 #[v,c] W (A7_ W true (imgM m s))):=hid fun v c W z B=>by rw [← x7,← xm];exact L0_ m v c s W z hs B yf
 obtain ⟨lv,iv,rfl,xd,xb⟩:=hv.open;obtain ⟨Al,cl,rfl,_⟩:=id xd;obtain ⟨Ai,ci,rfl,_⟩:=id xb;obtain ⟨As,cs,rfl,_⟩:=id hr;obtain ⟨q1,q2,q3⟩:=Q4_ hc x37_;have ya:m.i.length=1:=j45_;obtain ⟨yi,yk,he,_,xp⟩:=id xb;injection he with he1 he2 he3;subst he1 he3;obtain ⟨ai,ui,y7,C,xv,M⟩:=xp 0 x37_;subst y7;rw [show (0:Nat) * 6=0 from rfl,add_zero] at xv;rw [show m.i.getD 0 default=inn m from rfl] at M;obtain ⟨lx,ix,xh,xe,xc⟩:=M.open;obtain ⟨x0,x1,x2,x3,x4,x5,d,s0,s1,s2,s3,s4,s5⟩:=xv;rw [xh] at d;injection d with d;injection d with d;injection d with h0 d;injection d with z d;injection d with B d;injection d with h3 d;injection d with h4 d;injection d with h5 _;subst h0 z B h3 h4 h5;have O:=sml_i hs (Y6_ m.i 0 default x37_);rw [show m.i.getD 0 default=inn m from rfl] at O;have ym:(0:Int)<(m.i.length:Int):=x37_;have yn:0<m.i.length:=x37_;obtain ⟨x,hx⟩:∃ x,inn m=x:=⟨_,rfl⟩;simp only [hx] at M xe xc s0 s1 s2 s3 s4 s5 O q2 q3 xh ⊢;obtain ⟨Alx,clx,rfl,_⟩:=id xe;obtain ⟨Aix,cix,rfl,_⟩:=id xc;subst xh;obtain ⟨S,hW0⟩:∃ S,S=w.alloc (.cells #[.int .i64 m.t,.int .i64 m.n,.int .i64 m.a,.int .i64 m.b,.slice Al m.l.length cl,.slice (some ai) m.i.length ci] 25):=⟨_,rfl⟩;have D:Below w.heap.size w S:=y39_;have T:∀ i,S.cell? ⟨w.heap.size,i,none⟩=#[.int .i64 m.t,.int .i64 m.n,.int .i64 m.a,.int .i64 m.b,.slice Al m.l.length cl,.slice (some ai) m.i.length ci][i]?:=q39_;have t0:=(D.cell (p:=ai) C).trans s0;have t1:=(D.cell (p:=⟨ai.block,ai.off+1,none⟩) C).trans s1;have t2:=(D.cell (p:=⟨ai.block,ai.off+2,none⟩) C).trans s2;have t3:=(D.cell (p:=⟨ai.block,ai.off+3,none⟩) C).trans s3;have t4:=(D.cell (p:=⟨ai.block,ai.off+4,none⟩) C).trans s4;have t5:=(D.cell (p:=⟨ai.block,ai.off+5,none⟩) C).trans s5;obtain ⟨F,hW1⟩:∃ F,F=(w.alloc (.cells #[.int .i64 m.t,.int .i64 m.n,.int .i64 m.a,.int .i64 m.b,.slice Al m.l.length cl,.slice (some ai) m.i.length ci] 25)).alloc (.cells #[.int .i64 x.t,.int .i64 x.n,.int .i64 x.a,.int .i64 x.b,.slice Alx x.l.length clx,.slice Aix x.i.length cix] 25):=⟨_,rfl⟩;have xj:=hid hW1;have K:Below w.heap.size w F:=by rw [hW1];exact ((Below.refl _ w).alloc (le_refl _) _).alloc j37_ _
 have P:=hid K;have H:=hid (hr.up K);have h:=hid (M.up K);have xl:=hid (hv.up K);have Y:Hid (Blk F w.heap.size 25 #[.int .i64 m.t,.int .i64 m.n,.int .i64 m.a,.int .i64 m.b,.slice Al m.l.length cl,.slice (some ai) m.i.length ci]):=hid j39_;have Z:Hid (Blk F (w.heap.size+1) 25 #[.int .i64 x.t,.int .i64 x.n,.int .i64 x.a,.int .i64 x.b,.slice Alx x.l.length clx,.slice Aix x.i.length cix]):=hid z37_;have V:dp 4 x≤k:=x37_;have xi:=(Y0_ q2).2;rw [hx] at X N;obtain ⟨yj,yl,y9,_,xq⟩:=id xd;injection y9 with hel1 hel2 hel3;subst hel1 hel3;obtain ⟨q,u0,y8,x8,xa,xf⟩:=xq 0 x37_;subst y8;rw [add_zero] at xa;rw [show m.l.getD 0 []=row m 0 from rfl] at xf;have yo:(0:Int)<(m.l.length:Int):=x37_;have yp:0<m.l.length:=x37_;obtain ⟨b1,_,b3,_⟩:=W7_ (rk_ok k x q2 V) xi (I:=indB k x) (fun t _=>J0_) N;have xg:=A8_ X b1;have yb:(imgM m s).length≤1048576:=by have:=Y1_ X;omega
 have xo:(baseL (indB k x) [] (row m 0)).length≤1048576:=by have:=Y1_ b1;omega
 have xu:(row m 0).length≤64:=by have:=Y1_ N;omega
 obtain ⟨y,x6⟩:∃ y,baseL (indB k x) [] (row m 0)=y:=⟨_,rfl⟩;rw [x6] at xg xo ⊢;have y0:Hid (∀ (c:Value) (W:World),MatV W W.heap.size (.agg #[.int .i64 x.t,.int .i64 x.n,.int .i64 x.a,.int .i64 x.b,.slice Alx x.l.length clx,.slice Aix x.i.length cix]) x→Row W W.heap.size c (row m 0)→Calls Tryz.prog 70 #[.agg #[.int .i64 x.t,.int .i64 x.n,.int .i64 x.a,.int .i64 x.b,.slice Alx x.l.length clx,.slice Aix x.i.length cix],c] W (Gives W y)):=hid fun c W z B=>by rw [← x6];exact Zs5 (nN x) xi (indB k x) _ _ _ _ _ _ c (row m 0) W N xu B fun t vt W' j yg ye=>ih x _ vt t W' (z.up j) O q2 V ye yg
 have y3:Hid (∀ (v c:Value) (W:World),MatV W W.heap.size v x→Row W W.heap.size c (Y3_ (imgM m s) y)→Calls Tryz.prog 40 #[v,c] W (Says W (indB k x (Y3_ (imgM m s) y)))):=hid fun v c W z B=>ih x v c _ W z O q2 V B xg;generalize indB k x (Y3_ (imgM m s) y)=R at *
 generalize row m 0=rw0 at *
 have E:=hid (xf.up P.out);have y1:=hid ((P.out.cell (p:=q) x8).trans xa);have xk:=hid (show q.block<F.heap.size from Nat.lt_of_lt_of_le x8 P.out.size);have d0:¬ m.t<5:=x37_;have d5:(m.t==5)=false:=k37_;have d6:(m.t==6)=true:=j44_;have d7:(m.t==7)=false:=k37_;have d8:(m.t==8)=false:=k37_;clear ht hs J ya xp he2 xe xc s0 s1 s2 s3 s4 s5 C M q1 hv hr O ih X xw x7 xm xd xb hc hd q2 q3 V yd N yc xi hel2 xq x8 xa xf b1 b3 xg xu x6
 go_enter Tryz.func40,Tryz.ntmps40
 rw [hW0] at t0 t1 t2 t3 t4 t5 T;have g0:=T 0;have g5:=T 5;clear hW0 T hW1 D K
 go_wp2_with fail
 rw [← xj.out];refine (y4.out _ _ _ xl.out H.out).mono ?_;rintro e u ⟨v2,rfl,xr,r,_⟩;have xy:=hid (Z0_ P.out (le_refl _) r);have Q:=hid (Y.out.below r Y.out.lt);have g:=hid (Z.out.below r Z.out.lt);replace h:=hid (h.out.up r);replace H:=hid (H.out.up r);have G:=hid xr;have m0:=Q.out.cell 0;have y2:=hid ((r.cell (p:=q) xk.out).trans y1.out);have xx:=hid (show q.block<u.heap.size from Nat.lt_of_lt_of_le xk.out r.size);replace E:=hid (E.out.up r);obtain ⟨Ag,cg,yh,_⟩:=id E.out;subst yh;clear r xr g0 g5 t0 t1 t2 t3 t4 t5 Y Z xj;go_wp2;have L:=(Below.refl u.heap.size u).drew;replace h:=hid (h.out.up L);replace G:=hid (G.out.up L);replace H:=hid (H.out.up L);replace E:=hid (E.out.up L);clear L;have K1:Hid (∀ W,Below u.drew.heap.size u.drew W→W.cell? ⟨w.heap.size,4,none⟩=some (.slice (some q) m.l.length cl)∧W.cell? q=some (.slice Ag rw0.length cg)∧W.cell? ⟨w.heap.size+1,0,none⟩=some (.int .i64 x.t)∧W.cell? ⟨w.heap.size+1,1,none⟩=some (.int .i64 x.n)∧W.cell? ⟨w.heap.size+1,2,none⟩=some (.int .i64 x.a)∧W.cell? ⟨w.heap.size+1,3,none⟩=some (.int .i64 x.b)∧W.cell? ⟨w.heap.size+1,4,none⟩=some (.slice Alx x.l.length clx)∧W.cell? ⟨w.heap.size+1,5,none⟩=some (.slice Aix x.i.length cix)):=hid fun W j=>⟨(Q.out.drew.below j Q.out.lt).cell 4,(j.cell (p:=q) xx.out).trans y2.out,(g.out.drew.below j g.out.lt).cell 0,(g.out.drew.below j g.out.lt).cell 1,(g.out.drew.below j g.out.lt).cell 2,(g.out.drew.below j g.out.lt).cell 3,(g.out.drew.below j g.out.lt).cell 4,(g.out.drew.below j g.out.lt).cell 5⟩;have o:Hid (Below u.drew.heap.size u.drew u.drew):=hid (Below.refl _ _);clear Q g xl m0;generalize w.heap.size+1=B1 at *
 go_region_held3 (fun W=>W.cell? ⟨w.heap.size,4,none⟩=some (.slice (some q) m.l.length cl)∧W.cell? q=some (.slice Ag rw0.length cg)∧W.cell? ⟨B1,0,none⟩=some (.int .i64 x.t)∧W.cell? ⟨B1,1,none⟩=some (.int .i64 x.n)∧W.cell? ⟨B1,2,none⟩=some (.int .i64 x.a)∧W.cell? ⟨B1,3,none⟩=some (.int .i64 x.b)∧W.cell? ⟨B1,4,none⟩=some (.slice Alx x.l.length clx)∧W.cell? ⟨B1,5,none⟩=some (.slice Aix x.i.length cix))
  (exact K1.out _ o.out)
  (first
  | (go_at_call 70;refine (y0.out _ _ h.out E.out).mono ?_;rintro e w3 ⟨v3,rfl,xs,U⟩;replace o:=hid (Z0_ o.out (le_refl _) U);replace h:=hid (h.out.up U);replace G:=hid (G.out.up U);have y5:=hid xs;clear xs U)
  | (go_at_call 69;refine (O4_ _ _ (imgM m s) y _ G.out y5.out yb xo).mono ?_;rintro e w4 ⟨v4,rfl,xt,x9⟩;replace o:=hid (Z0_ o.out (le_refl _) x9);replace h:=hid (h.out.up x9);have y6:=hid xt;clear xt x9)
  | (go_at_call 40;refine (y3.out _ _ _ h.out y6.out).mono ?_;rintro e w5 ⟨rfl,xn⟩;replace o:=hid (Z0_ o.out (le_refl _) xn);clear xn))
 all_goals
  have xz:=hid (Z0_ xy.out.drew (le_refl _) o.out);clear o;go_simp;go_wp2;go_ret;exact ⟨rfl,xz.out⟩
theorem Jv8 (k:Nat) (m:Mat) (v c:Value) (s:List Int) (w:World) (hv:MatV w w.heap.size v m) (hs:Sml m) (hc:chk m=0) (hr:Row w w.heap.size c s) (X:InN (nN m) s) (ih:IndAt k) (hd:dp 4 m≤k+1) (ht:m.t=8):Calls Tryz.prog 40 #[v,c] w (Says w (indB (k+1) m s)):=by
 rw [ind_8 hc hd X ht];have x8:imgB m s=false:=by unfold imgB;rw [decide_eq_false (show ¬ (m.t=5∨m.t=6) by omega)];simp
 have xo:imgL m s=[]:=by unfold imgL;rw [x8];rfl
 have R:=chk_n hc;have yl:=Y1_ X;have yj:=(Y0_ hc).2;have yk:(s.length:Int)≤64:=x37_;have xx:s.length≤1048576:=x37_;have y4:Hid (∀ (v c:Value) (W:World),MatV W W.heap.size v m→Row W W.heap.size c s→Calls Tryz.prog 68 #[v,c] W (A7_ W false [])):=hid fun v c W B C=>by rw [← x8,← xo];exact L0_ m v c s W B hs C xx
 obtain ⟨lv,iv,rfl,xr,xc⟩:=hv.open;obtain ⟨Al,cl,rfl,_⟩:=id xr;obtain ⟨Ai,ci,rfl,_⟩:=id xc;obtain ⟨As,cs,rfl,_⟩:=id hr;obtain ⟨q1,q2,q3⟩:=Q4_ hc x37_;have y8:m.i.length=1:=j45_;have xi:=I6_ hc (.inr ht);obtain ⟨yd,yg,he,_,xq⟩:=id xc;injection he with he1 he2 he3;subst he1 he3;obtain ⟨ai,ui,y6,D,xy,Q⟩:=xq 0 x37_;subst y6;rw [show (0:Nat) * 6=0 from rfl,add_zero] at xy;rw [show m.i.getD 0 default=inn m from rfl] at Q;obtain ⟨lx,ix,xk,xe,xd⟩:=Q.open;obtain ⟨x0,x1,x2,x3,x4,x5,h,s0,s1,s2,s3,s4,s5⟩:=xy;rw [xk] at h;injection h with h;injection h with h;injection h with h0 h;injection h with B h;injection h with C h;injection h with h3 h;injection h with h4 h;injection h with h5 _;subst h0 B C h3 h4 h5;have S:=sml_i hs (Y6_ m.i 0 default x37_);rw [show m.i.getD 0 default=inn m from rfl] at S;have yh:(0:Int)<(m.i.length:Int):=x37_;have yi:0<m.i.length:=x37_;obtain ⟨x,hx⟩:∃ x,inn m=x:=⟨_,rfl⟩;simp only [hx] at Q xe xd s0 s1 s2 s3 s4 s5 S q2 q3 xk ⊢;obtain ⟨Alx,clx,rfl,_⟩:=id xe;obtain ⟨Aix,cix,rfl,_⟩:=id xd;subst xk;obtain ⟨U,hW0⟩:∃ U,U=w.alloc (.cells #[.int .i64 m.t,.int .i64 m.n,.int .i64 m.a,.int .i64 m.b,.slice Al m.l.length cl,.slice (some ai) m.i.length ci] 25):=⟨_,rfl⟩;have E:Below w.heap.size w U:=y39_;have V:∀ i,U.cell? ⟨w.heap.size,i,none⟩=#[.int .i64 m.t,.int .i64 m.n,.int .i64 m.a,.int .i64 m.b,.slice Al m.l.length cl,.slice (some ai) m.i.length ci][i]?:=q39_;have t0:=(E.cell (p:=ai) D).trans s0;have t1:=(E.cell (p:=⟨ai.block,ai.off+1,none⟩) D).trans s1;have t2:=(E.cell (p:=⟨ai.block,ai.off+2,none⟩) D).trans s2;have t3:=(E.cell (p:=⟨ai.block,ai.off+3,none⟩) D).trans s3;have t4:=(E.cell (p:=⟨ai.block,ai.off+4,none⟩) D).trans s4;have t5:=(E.cell (p:=⟨ai.block,ai.off+5,none⟩) D).trans s5;obtain ⟨O,hW1⟩:∃ O,O=(w.alloc (.cells #[.int .i64 m.t,.int .i64 m.n,.int .i64 m.a,.int .i64 m.b,.slice Al m.l.length cl,.slice (some ai) m.i.length ci] 25)).alloc (.cells #[.int .i64 x.t,.int .i64 x.n,.int .i64 x.a,.int .i64 x.b,.slice Alx x.l.length clx,.slice Aix x.i.length cix] 25):=⟨_,rfl⟩;have xm:=hid hW1;have P:Below w.heap.size w O:=by rw [hW1];exact ((Below.refl _ w).alloc (le_refl _) _).alloc j37_ _
 have y0:=hid P;have d:=hid (hr.up P);have g:=hid (Q.up P);have xn:=hid (hv.up P);have Y:Hid (Blk O w.heap.size 25 #[.int .i64 m.t,.int .i64 m.n,.int .i64 m.a,.int .i64 m.b,.slice Al m.l.length cl,.slice (some ai) m.i.length ci]):=hid j39_;have Z:Hid (Blk O (w.heap.size+1) 25 #[.int .i64 x.t,.int .i64 x.n,.int .i64 x.a,.int .i64 x.b,.slice Alx x.l.length clx,.slice Aix x.i.length cix]):=hid z37_;have xb:dp 4 x≤k:=x37_;have xl:=(Y0_ q2).2;rw [hx] at xi;have xf:nN m=nN x:=by unfold nN;rw [xi]
 have x9:InN (nN x) (allL m.n):=by rw [← xf];exact Zt3 R.1 R.2
 have xh:InN (nN x) (Z5_ (allL m.n) s):=by rw [← xf];exact D3_ R.1 R.2 X.1
 have y7:=F5_ m.n;have xp:(allL m.n).length≤64:=by have:=Y1_ x9;omega
 have xw:(Z5_ (allL m.n) s).length≤64:=by have:=Y1_ xh;omega
 obtain ⟨M,x6⟩:∃ M,baseL (indB k x) [] (Z5_ (allL m.n) s)=M:=⟨_,rfl⟩;obtain ⟨N,x7⟩:∃ N,baseL (indB k x) [] (allL m.n)=N:=⟨_,rfl⟩;rw [x6,x7];obtain ⟨z,hz⟩:∃ z,decide (M.length=N.length)=z:=⟨_,rfl⟩;have y3:Hid (((M.length:Int)==(N.length:Int))=z):=hid (by rw [← hz,Bool.eq_iff_iff,beq_iff_eq,decide_eq_true_iff];omega);rw [hz];have Hbase1:Hid (∀ (c:Value) (W:World),MatV W W.heap.size (.agg #[.int .i64 x.t,.int .i64 x.n,.int .i64 x.a,.int .i64 x.b,.slice Alx x.l.length clx,.slice Aix x.i.length cix]) x→Row W W.heap.size c (Z5_ (allL m.n) s)→Calls Tryz.prog 70 #[.agg #[.int .i64 x.t,.int .i64 x.n,.int .i64 x.a,.int .i64 x.b,.slice Alx x.l.length clx,.slice Aix x.i.length cix],c] W (Gives W M)):=hid fun c W B C=>by rw [← x6];exact Zs5 (nN x) xl (indB k x) _ _ _ _ _ _ c _ W xh xw C fun t vt W' y xj xg=>ih x _ vt t W' (B.up y) S q2 xb xg xj
 have Hbase2:Hid (∀ (c:Value) (W:World),MatV W W.heap.size (.agg #[.int .i64 x.t,.int .i64 x.n,.int .i64 x.a,.int .i64 x.b,.slice Alx x.l.length clx,.slice Aix x.i.length cix]) x→Row W W.heap.size c (allL m.n)→Calls Tryz.prog 70 #[.agg #[.int .i64 x.t,.int .i64 x.n,.int .i64 x.a,.int .i64 x.b,.slice Alx x.l.length clx,.slice Aix x.i.length cix],c] W (Gives W N)):=hid fun c W B C=>by rw [← x7];exact Zs5 (nN x) xl (indB k x) _ _ _ _ _ _ c _ W x9 xp C fun t vt W' y xj xg=>ih x _ vt t W' (B.up y) S q2 xb xg xj
 have d0:¬ m.t<5:=x37_;have d5:(m.t==5)=false:=k37_;have d6:(m.t==6)=false:=k37_;have d7:(m.t==7)=false:=k37_;have d8:(m.t==8)=true:=j44_;clear ht hs X y8 xq he2 xe xd s0 s1 s2 s3 s4 s5 D Q q1 hv hr S ih x8 xo xr xc hc hd q2 q3 xb R xi xl xf x9 xh xp xw x6 x7 hz
 go_enter Tryz.func40,Tryz.ntmps40
 rw [hW0] at t0 t1 t2 t3 t4 t5 V;have g0:=V 0;have g5:=V 5;clear hW0 V hW1 E P
 go_wp2_with fail
 rw [← xm.out];refine (y4.out _ _ _ xn.out d.out).mono ?_;rintro e K ⟨v2,rfl,xs,L,_⟩;have y1:=hid (Z0_ y0.out (le_refl _) L);have T:=hid (Y.out.below L Y.out.lt);have o:=hid (Z.out.below L Z.out.lt);replace g:=hid (g.out.up L);replace d:=hid (d.out.up L);have y5:=hid xs;have m0:=T.out.cell 0;clear L xs g0 g5 t0 t1 t2 t3 t4 t5 Y Z xm;go_wp2;have xa:=(Below.refl K.heap.size K).drew;replace g:=hid (g.out.up xa);replace d:=hid (d.out.up xa);clear xa;have K1:Hid (∀ W,Below K.drew.heap.size K.drew W→W.cell? ⟨w.heap.size,1,none⟩=some (.int .i64 m.n)∧W.cell? ⟨w.heap.size+1,0,none⟩=some (.int .i64 x.t)∧W.cell? ⟨w.heap.size+1,1,none⟩=some (.int .i64 x.n)∧W.cell? ⟨w.heap.size+1,2,none⟩=some (.int .i64 x.a)∧W.cell? ⟨w.heap.size+1,3,none⟩=some (.int .i64 x.b)∧W.cell? ⟨w.heap.size+1,4,none⟩=some (.slice Alx x.l.length clx)∧W.cell? ⟨w.heap.size+1,5,none⟩=some (.slice Aix x.i.length cix)):=hid fun W y=>⟨(T.out.drew.below y T.out.lt).cell 1,(o.out.drew.below y o.out.lt).cell 0,(o.out.drew.below y o.out.lt).cell 1,(o.out.drew.below y o.out.lt).cell 2,(o.out.drew.below y o.out.lt).cell 3,(o.out.drew.below y o.out.lt).cell 4,(o.out.drew.below y o.out.lt).cell 5⟩;have j:Hid (Below K.drew.heap.size K.drew K.drew):=hid (Below.refl _ _);clear T o xn m0 y5;generalize w.heap.size+1=B1 at *
 go_region_held3 (fun W=>W.cell? ⟨w.heap.size,1,none⟩=some (.int .i64 m.n)∧W.cell? ⟨B1,0,none⟩=some (.int .i64 x.t)∧W.cell? ⟨B1,1,none⟩=some (.int .i64 x.n)∧W.cell? ⟨B1,2,none⟩=some (.int .i64 x.a)∧W.cell? ⟨B1,3,none⟩=some (.int .i64 x.b)∧W.cell? ⟨B1,4,none⟩=some (.slice Alx x.l.length clx)∧W.cell? ⟨B1,5,none⟩=some (.slice Aix x.i.length cix))
  (exact K1.out _ j.out)
  (first
  | (go_at_call_of 70 vm;refine (Hbase1.out _ _ g.out u.out).mono ?_;rintro e w5 ⟨yn,rfl,y9,H⟩;replace j:=hid (Z0_ j.out (le_refl _) H);(try replace g:=hid (g.out.up H));(try replace d:=hid (d.out.up H));(try replace q:=hid (q.out.up H));(try replace r:=hid (r.out.up H));(try replace u:=hid (u.out.up H));obtain ⟨xz,ye,rfl,_⟩:=y9;clear H)
  | (go_at_call_of 70 yb;refine (Hbase2.out _ _ g.out r.out).mono ?_;rintro e w6 ⟨yo,rfl,ya,I⟩;replace j:=hid (Z0_ j.out (le_refl _) I);(try replace g:=hid (g.out.up I));(try replace d:=hid (d.out.up I));(try replace q:=hid (q.out.up I));(try replace r:=hid (r.out.up I));(try replace u:=hid (u.out.up I));obtain ⟨yc,yf,rfl,_⟩:=ya;clear I)
  | (go_at_call 71;refine (P1_ _ _ (allL m.n) s _ q.out d.out y7 xx).mono ?_;rintro e w4 ⟨vm,rfl,xu,G⟩;replace j:=hid (Z0_ j.out (le_refl _) G);(try replace g:=hid (g.out.up G));(try replace d:=hid (d.out.up G));(try replace q:=hid (q.out.up G));(try replace r:=hid (r.out.up G));(try replace u:=hid (u.out.up G));have u:=hid xu;clear xu G)
  | (have _ha:=xz;go_at_call 72;refine (Zx3 m.n _).mono ?_;rintro e w7 ⟨yb,rfl,xv,J⟩;replace j:=hid (Z0_ j.out (le_refl _) J);(try replace g:=hid (g.out.up J));(try replace d:=hid (d.out.up J));(try replace q:=hid (q.out.up J));(try replace r:=hid (r.out.up J));(try replace u:=hid (u.out.up J));have r:=hid xv;clear xv J)
  | (go_at_call 72;refine (Zx3 m.n _).mono ?_;rintro e w3 ⟨ym,rfl,xt,F⟩;replace j:=hid (Z0_ j.out (le_refl _) F);(try replace g:=hid (g.out.up F));(try replace d:=hid (d.out.up F));(try replace q:=hid (q.out.up F));(try replace r:=hid (r.out.up F));(try replace u:=hid (u.out.up F));have q:=hid xt;clear xt F))
 all_goals
  have y2:=hid (Z0_ y1.out.drew (le_refl _) j.out);clear j;go_simp;go_wp2;go_ret;exact ⟨by rw [← y3.out];rfl,y2.out⟩
theorem Jv9 (k:Nat) (m:Mat) (v d:Value) (s:List Int) (w:World) (hv:MatV w w.heap.size v m) (hs:Sml m) (hc:chk m=0) (hr:Row w w.heap.size d s) (S:InN (nN m) s) (ih:IndAt k) (hd:dp 4 m≤k+1) (ht:m.t=9):Calls Tryz.prog 40 #[v,d] w (Says w (indB (k+1) m s)):=by
 rw [ind_9 hc hd S ht];obtain ⟨P,hP⟩:∃ P:Nat→Bool,P=fun j=>indB k (m.i.getD j default) (betL s (offN m.i j:Nat) (nN (m.i.getD j default):Nat)):=⟨_,rfl⟩;rw [← hP];have xa:imgB m s=false:=by unfold imgB;rw [decide_eq_false (show ¬ (m.t=5∨m.t=6) by omega)];simp
 have y7:imgL m s=[]:=by unfold imgL;rw [xa];rfl
 obtain ⟨z9,h8⟩:=Zt5 hc ht;have h3:=(takes_iff.1 (V2_ (X0_ hc)).2.2.1).2.2.2;rw [ht] at h3;have yy:(1:Int)≤(m.i.length:Int):=h3.1;have yd:∀ j,offN m.i j≤64:=fun j=>by have:=Xe5 m.i j;have:=(Y0_ hc).2;omega
 have ye:∀ j,j<m.i.length→chk (m.i.getD j default)=0∧dp 4 (m.i.getD j default)≤k∧Sml (m.i.getD j default):=fun j hj=>k21_;have yh:∀ j,j<s.length→0≤s.getD j 0∧s.getD j 0≤64:=fun j hj=>by have:=I8_ S hj;have:=(Y0_ hc).2;omega
 have z5:=chk_n hc;have zj:=Y1_ S;have zh:=(Y0_ hc).2;have zi:(s.length:Int)≤64:=x37_;have z7:s.length≤1048576:=x37_;have yq:Hid (∀ (v d:Value) (W:World),MatV W W.heap.size v m→Row W W.heap.size d s→Calls Tryz.prog 68 #[v,d] W (A7_ W false [])):=hid fun v d W o g=>by rw [← xa,← y7];exact L0_ m v d s W o hs g z7
 obtain ⟨lv,iv,rfl,ya,xf⟩:=hv.open;obtain ⟨Al,cl,rfl,_⟩:=id ya;obtain ⟨Ai,ci,rfl,_⟩:=id xf;obtain ⟨As,cs,rfl,_⟩:=id hr;obtain ⟨za,zc,he,_,xg⟩:=id xf;injection he with he1 he2 he3;subst he1 he3;obtain ⟨ai,ui,yz,C,V,q⟩:=xg 0 x37_;subst yz;rw [show (0:Nat) * 6=0 from rfl,add_zero] at V;rw [show m.i.getD 0 default=inn m from rfl] at q;obtain ⟨lx,ix,xm,xi,xh⟩:=q.open;obtain ⟨x0,x1,x2,x3,x4,x5,c,I,J,K,L,M,N⟩:=V;rw [xm] at c;injection c with c;injection c with c;injection c with h0 c;injection c with o c;injection c with g c;injection c with h3 c;injection c with h4 c;injection c with h5 _;subst h0 o g h3 h4 h5;have xl:=sml_i hs (Y6_ m.i 0 default x37_);rw [show m.i.getD 0 default=inn m from rfl] at xl;have zd:(0:Int)<(m.i.length:Int):=x37_;have ze:0<m.i.length:=x37_;obtain ⟨x,hx⟩:∃ x,inn m=x:=⟨_,rfl⟩;simp only [hx] at q xi xh I J K L M N xl xm ⊢;obtain ⟨Alx,clx,rfl,_⟩:=id xi;obtain ⟨Aix,cix,rfl,_⟩:=id xh;subst xm;obtain ⟨X,hW0⟩:∃ X,X=w.alloc (.cells #[.int .i64 m.t,.int .i64 m.n,.int .i64 m.a,.int .i64 m.b,.slice Al m.l.length cl,.slice (some ai) m.i.length ci] 25):=⟨_,rfl⟩;have D:Below w.heap.size w X:=y39_;have Y:∀ i,X.cell? ⟨w.heap.size,i,none⟩=#[.int .i64 m.t,.int .i64 m.n,.int .i64 m.a,.int .i64 m.b,.slice Al m.l.length cl,.slice (some ai) m.i.length ci][i]?:=q39_;have t0:=(D.cell (p:=ai) C).trans I;have t1:=(D.cell (p:=⟨ai.block,ai.off+1,none⟩) C).trans J;have t2:=(D.cell (p:=⟨ai.block,ai.off+2,none⟩) C).trans K;have t3:=(D.cell (p:=⟨ai.block,ai.off+3,none⟩) C).trans L;have t4:=(D.cell (p:=⟨ai.block,ai.off+4,none⟩) C).trans M;have t5:=(D.cell (p:=⟨ai.block,ai.off+5,none⟩) C).trans N;obtain ⟨R,hW1⟩:∃ R,R=(w.alloc (.cells #[.int .i64 m.t,.int .i64 m.n,.int .i64 m.a,.int .i64 m.b,.slice Al m.l.length cl,.slice (some ai) m.i.length ci] 25)).alloc (.cells #[.int .i64 x.t,.int .i64 x.n,.int .i64 x.a,.int .i64 x.b,.slice Alx x.l.length clx,.slice Aix x.i.length cix] 25):=⟨_,rfl⟩;have xp:=hid hW1;have T:Below w.heap.size w R:=by rw [hW1];exact ((Below.refl _ w).alloc (le_refl _) _).alloc j37_ _
 have yk:=hid T;have x9:=hid (hr.up T);have xy:=hid (q.up T);have yx:=hid (hv.up T);have x7:Hid (Blk R w.heap.size 25 #[.int .i64 m.t,.int .i64 m.n,.int .i64 m.a,.int .i64 m.b,.slice Al m.l.length cl,.slice (some ai) m.i.length ci]):=hid j39_;have x8:Hid (Blk R (w.heap.size+1) 25 #[.int .i64 x.t,.int .i64 x.n,.int .i64 x.a,.int .i64 x.b,.slice Alx x.l.length clx,.slice Aix x.i.length cix]):=hid z37_;have yp:Hid (∀ j,j<m.i.length→∃ u,ai.block<w.heap.size∧SixV w (ai.add (j * 6)) u∧MatV w w.heap.size u (m.i.getD j default)):=hid fun j hj=>by
  obtain ⟨aj,uj,z0,z3,o,g⟩:=xg j hj;obtain rfl:=Option.some.inj z0;exact ⟨uj,z3,o,g⟩
 have HP:=hid hP;have xr:=hid yd;have yr:=hid ye;have yu:=hid yh;have HS:=hid S;have yj:=hid ih;have zf:(m.i.length:Int)≤8:=x37_;have z8:s.length≤64:=x37_;have d0:¬ m.t<5:=x37_;have d5:(m.t==5)=false:=k37_;have d6:(m.t==6)=false:=k37_;have d7:(m.t==7)=false:=k37_;have d8:(m.t==8)=false:=k37_;clear ht hs S xg he2 xi xh I J K L M N C q hv xl ih xa y7 ya xf hc hd z5 hP yd ye yh z9 h3 yy;have yw:=hid hr;clear hr
 go_enter Tryz.func40,Tryz.ntmps40
 rw [hW0] at t0 t1 t2 t3 t4 t5 Y;have g0:=Y 0;have g5:=Y 5;clear hW0 Y hW1 D T
 go_wp2_with fail
 rw [← xp.out];refine (yq.out _ _ _ yx.out x9.out).mono ?_;rintro e w2 ⟨v2,rfl,yf,H,_⟩;have yl:=hid (Z0_ yk.out (le_refl _) H);have Q:=hid (x7.out.below H x7.out.lt);have yo:=hid (x8.out.below H x8.out.lt);replace xy:=hid (xy.out.up H);replace x9:=hid (x9.out.up H);have zb:=hid yf;have m0:=Q.out.cell 0;clear H yf g0 g5 t0 t1 t2 t3 t4 t5 x7 x8 yo xp;go_wp2
 go_loopw [4,8,9] (fun _ vf vj wr=>∃ j:Nat,vj=.int .i64 (j:Int)∧j≤m.i.length∧vf=.int .i64 (offN m.i j:Nat)∧Hid ((List.range j).all P=true∧Below w2.heap.size w2 wr)) (fun _ _ vj _=>m.i.length - (intOf vj).toNat)
 case atStart=>exact ⟨0,rfl,Nat.zero_le _,by simp [offN],j37_,Below.refl _ _⟩
 case round =>
  obtain ⟨j,rfl,hj,rfl,G⟩:=hrel;have E:=hid (Z0_ yl.out (le_refl _) G.out.2);have k5:=(G.out.2.cell (p:=⟨w.heap.size,5,none⟩) Q.out.lt).trans (Q.out.cell 5);clear m0;by_cases U:j<m.i.length
  ·have zg:(j:Int)<(m.i.length:Int):=by omega
   obtain ⟨uj,xb,V,q⟩:=yp.out j U;obtain ⟨c1,c2,c3⟩:=yr.out j U;have xk:=Zc8 U;have yc:=xr.out j;have z6:=xr.out (j+1);have Z:P j=indB k (m.i.getD j default) (betL s (offN m.i j:Nat) (nN (m.i.getD j default):Nat)):=by rw [HP.out]
   have xj:=q.up E.out;obtain ⟨ly,iy,yi,yb,y9⟩:=xj.open;obtain ⟨y0,y1,y2,y3,y4,y5,c,I,J,K,L,M,N⟩:=V.below E.out (by rw [Z2_];exact xb);rw [yi] at c;injection c with c;injection c with c;injection c with h0 c;injection c with o c;injection c with g c;injection c with h3 c;injection c with h4 c;injection c with h5 _;subst h0 o g h3 h4 h5;generalize m.i.getD j default=y at *
   obtain ⟨xo,y6,rfl,_⟩:=id yb;obtain ⟨xn,xz,rfl,_⟩:=id y9;subst yi;have x6:=Y0_ c1;have xe:=Yd9 (f:=offN m.i j) (n:=nN y) HS.out x6.2;rw [x6.1] at Z;have r:Hid ((ai.add (j * 6)).block<wr.drew.heap.size):=hid (by rw [Z2_];exact Nat.lt_of_lt_of_le xb E.out.drew.size);have xs:=hid (show wr.drew.cell? _=_ from I);have xt:=hid (show wr.drew.cell? _=_ from J);have xu:=hid (show wr.drew.cell? _=_ from K);have xv:=hid (show wr.drew.cell? _=_ from L);have xw:=hid (show wr.drew.cell? _=_ from M);have xx:=hid (show wr.drew.cell? _=_ from N);have xd:=(Below.refl wr.heap.size wr).drew;have yv:=hid ((yw.out.up E.out).up xd);have Hy:=hid (xj.up xd);have K1:Hid (∀ W,Below wr.drew.heap.size wr.drew W→W.cell? ⟨w.heap.size,5,none⟩=some (.slice (some ai) m.i.length ci)∧W.cell? (ai.add (j * 6))=some (.int .i64 y.t)∧W.cell? (⟨(ai.add (j * 6)).block,(ai.add (j * 6)).off+1,none⟩)=some (.int .i64 y.n)∧W.cell? (⟨(ai.add (j * 6)).block,(ai.add (j * 6)).off+2,none⟩)=some (.int .i64 y.a)∧W.cell? (⟨(ai.add (j * 6)).block,(ai.add (j * 6)).off+3,none⟩)=some (.int .i64 y.b)∧W.cell? (⟨(ai.add (j * 6)).block,(ai.add (j * 6)).off+4,none⟩)=some (.slice xo y.l.length y6)∧W.cell? (⟨(ai.add (j * 6)).block,(ai.add (j * 6)).off+5,none⟩)=some (.slice xn y.i.length xz)):=hid fun W B=>⟨((Z0_ G.out.2.drew (le_refl _) B).cell (p:=⟨w.heap.size,5,none⟩) Q.out.lt).trans (Q.out.cell 5),(B.cell (p:=ai.add (j * 6)) r.out).trans xs.out,(B.cell (p:=⟨(ai.add (j * 6)).block,(ai.add (j * 6)).off+1,none⟩) r.out).trans xt.out,(B.cell (p:=⟨(ai.add (j * 6)).block,(ai.add (j * 6)).off+2,none⟩) r.out).trans xu.out,(B.cell (p:=⟨(ai.add (j * 6)).block,(ai.add (j * 6)).off+3,none⟩) r.out).trans xv.out,(B.cell (p:=⟨(ai.add (j * 6)).block,(ai.add (j * 6)).off+4,none⟩) r.out).trans xw.out,(B.cell (p:=⟨(ai.add (j * 6)).block,(ai.add (j * 6)).off+5,none⟩) r.out).trans xx.out⟩;have h:Hid (Below wr.drew.heap.size wr.drew wr.drew):=hid (Below.refl _ _);obtain ⟨F,hF⟩:∃ F,offN m.i j=F:=⟨_,rfl⟩;rw [hF] at xe xk yc Z ⊢;have xq:Hid (∀ (v d:Value) (W:World),MatV W W.heap.size v y→Row W W.heap.size d (betL s (F:Nat) y.n)→Calls Tryz.prog 40 #[v,d] W (Says W (P j))):=hid fun v d W o g=>by rw [Z];rw [← x6.1] at g ⊢;exact yj.out y v d _ W o c3 c1 c2 g xe
   have z1:0≤(F:Int)∧(F:Int)≤1000:=x37_;have z2:0≤y.n∧y.n≤1000:=x37_;have zl:IntKind.i64.wrap ((F:Int)+y.n)=(F:Int)+y.n:=x38_;have zk:IntKind.i64.wrap ((j:Int)+1)=(j:Int)+1:=x38_;have ys:Hid ((F:Int)+y.n=(offN m.i (j+1):Nat)):=hid (by rw [xk];omega);obtain ⟨z,hz⟩:∃ z,P j=z:=⟨_,rfl⟩;rw [hz] at xq;have Hz:=hid hz;clear xd xe xk yc z6 hF x6 q xj yb y9 V c1 c2 c3 I J K L M N hz Z xb xs xt xu xv xw xx r;go_wp2
   go_region_held3 (fun W=>W.cell? ⟨w.heap.size,5,none⟩=some (.slice (some ai) m.i.length ci)∧W.cell? (ai.add (j * 6))=some (.int .i64 y.t)∧W.cell? (⟨(ai.add (j * 6)).block,(ai.add (j * 6)).off+1,none⟩)=some (.int .i64 y.n)∧W.cell? (⟨(ai.add (j * 6)).block,(ai.add (j * 6)).off+2,none⟩)=some (.int .i64 y.a)∧W.cell? (⟨(ai.add (j * 6)).block,(ai.add (j * 6)).off+3,none⟩)=some (.int .i64 y.b)∧W.cell? (⟨(ai.add (j * 6)).block,(ai.add (j * 6)).off+4,none⟩)=some (.slice xo y.l.length y6)∧W.cell? (⟨(ai.add (j * 6)).block,(ai.add (j * 6)).off+5,none⟩)=some (.slice xn y.i.length xz))
    (exact K1.out _ h.out)
    (first
    | (go_at_call 73;refine (Yg9 _ s (F:Int) y.n _ yv.out yu.out z1 z2 z8).mono ?_;rintro e w3 ⟨v3,rfl,yg,xc⟩;replace h:=hid (Z0_ h.out (le_refl _) xc);replace Hy:=hid (Hy.out.up xc);have yt:=hid yg;clear yg xc)
    | (go_at_call 40;refine (xq.out _ _ _ Hy.out yt.out).mono ?_;rintro e w4 ⟨rfl,y8⟩;replace h:=hid (Z0_ h.out (le_refl _) y8);clear y8))
   all_goals
    obtain ⟨r5,_,r1,_⟩:=K1.out _ h.out;have yn:=hid (Z0_ G.out.2.drew (le_refl _) h.out);have ym:=hid (Z0_ E.out.drew (le_refl _) h.out);clear h;go_simp;cases z
    ·have O:Hid ((List.range m.i.length).all P=false):=hid (Zf7 U Hz.out)
     go_wp2;go_ret;exact ⟨by rw [O.out];rfl,ym.out⟩
    ·have O:Hid ((List.range (j+1)).all P=true):=hid (Zf6 U G.out.1 Hz.out)
     go_wp2
     go_roundw
     case rel=>exact ⟨j+1,y38_,x37_,by rw [← ys.out],O.out,yn.out⟩
     exact mz_
  ·have z4:j=m.i.length:=by omega
   subst z4;have O:=hid G.out.1;go_wp2;go_ret;exact ⟨by rw [O.out];rfl,E.out⟩
theorem Yr3:∀ k,IndAt k
 | 0=>fun m _ _ _ _ _ _ _ hd _ _=>absurd hd (by have:=Zb7 4 m;omega)
 | k+1=>fun m v g s w f hs hc hd e d=>by
  have h:=Yr3 k;have j:=Zt4 hc;rcases (by omega:m.t<5∨m.t=5∨m.t=6∨m.t=7∨m.t=8∨m.t=9) with c | c | c | c | c | c
  ·exact Vc2 k m v g s w f hc e d c
  ·exact Jv5 k m v g s w f hs hc e d h hd c
  ·exact Jv7 k m v g s w f hs hc e d h hd c
  ·exact Jv6 k m v g s w f hs hc e d h hd c
  ·exact Jv8 k m v g s w f hs hc e d h hd c
  ·exact Jv9 k m v g s w f hs hc e d h hd c
theorem Zm1 (m:Mat) (v d:Value) (s:List Int) (w:World) (j:MatV w w.heap.size v m) (hs:Sml m) (h:Row w w.heap.size d s):Calls Tryz.prog 21 #[v,d] w (Says w (indT m s)):=by
 have q:=hid hs;obtain ⟨y,x,F,_,_⟩:=j.open;obtain ⟨H,cs,rfl,_⟩:=id h;have Hb0:=hid (Z1_ w m y x);have r:=hid (j.up Hb0.out);have p:=hid (h.up Hb0.out);have c:=hid (Z3_ w m y x);have g0:=c.out.cell 0;have g1:=c.out.cell 1;have g2:=c.out.cell 2;have g3:=c.out.cell 3;have g4:=c.out.cell 4;have g5:=c.out.cell 5;subst F;unfold boxed at *
 rcases hm:mayI m s with _ | _
 ·have o:=hid hm
  have u:indT m s=false:=by unfold indT rankT;rw [hm,if_neg q38_];exact decide_eq_false x37_
  rw [u];clear j hs h hm u
  go_enter Tryz.func21,Tryz.ntmps21
  go_wp2_with fail
  refine (Zl4 m _ _ s _ r.out q.out p.out).mono ?_;rintro e G ⟨rfl,hb1⟩;rw [o.out];exact j29_
 ·have o:=hid hm
  have k:=hid (mayI_iff.1 hm);rw [Jv2 hm];have z:Hid (∀ (v d:Value) (W:World),MatV W W.heap.size v m→Row W W.heap.size d s→Calls Tryz.prog 40 #[v,d] W (Says W (indB 4 m s))):=hid fun v d W D E=>Yr3 4 m v d s W D q.out k.out.1 (chk_ok.1 k.out.1).1 E k.out.2;generalize indB 4 m s=R at *
  clear j hs h hm
  go_enter Tryz.func21,Tryz.ntmps21
  go_wp2_with fail
  refine (Zl4 m _ _ s _ r.out q.out p.out).mono ?_;rintro e G ⟨rfl,hb1⟩;rw [o.out];have Hb1:=hid (Z0_ Hb0.out (le_refl _) hb1);have B:=hid (p.out.up hb1);have C:=hid (r.out.up hb1);have g:=hid (c.out.below hb1 c.out.lt);clear hb1 g0 g1 g2 g3 g4 g5;have g0:=g.out.cell 0;have g1:=g.out.cell 1;have g2:=g.out.cell 2;have g3:=g.out.cell 3;have g4:=g.out.cell 4;have g5:=g.out.cell 5
  go_wp2_with fail
  refine (z.out _ _ _ C.out B.out).mono ?_;exact j33_
open Go Go.RowKit
theorem P2_ (a b:Mat) (G H:Value) (w:World) (ha:MatV w w.heap.size G a) (hb:MatV w w.heap.size H b) (D:Sml a) (E:Sml b) (F:Value) (s:List Int) (z:Row w w.heap.size F s):Calls Tryz.prog 9 #[G,H,F] w (Says w (indT a s && indT b s)):=by
 obtain ⟨x,B⟩:∃ x,indT a s=x:=⟨_,rfl⟩;obtain ⟨y,C⟩:∃ y,indT b s=y:=⟨_,rfl⟩;rw [B,C];have J:=hid B;have K:=hid C;clear B C;have L:=hid D;have M:=hid E;obtain ⟨la,ia,S,P,N⟩:=ha.open;obtain ⟨lb,ib,T,Q,O⟩:=hb.open;obtain ⟨o,cl,rfl,_⟩:=P;obtain ⟨m,r,rfl,_⟩:=N;obtain ⟨q,v,rfl,_⟩:=Q;obtain ⟨p,u,rfl,_⟩:=O;obtain ⟨Aw,cw,R,_⟩:=id z;subst S T R;obtain ⟨h,hW2⟩:∃ h,h=(w.alloc (.cells #[.int .i64 a.t,.int .i64 a.n,.int .i64 a.a,.int .i64 a.b,.slice o a.l.length cl,.slice m a.i.length r] 25)).alloc (.cells #[.int .i64 b.t,.int .i64 b.n,.int .i64 b.a,.int .i64 b.b,.slice q b.l.length v,.slice p b.i.length u] 25):=⟨_,rfl⟩;have I:=hid hW2;have j:Below w.heap.size w h:=by rw [hW2];exact ((Below.refl _ w).alloc (le_refl _) _).alloc j37_ _
 have Hka:Hid (Blk h w.heap.size 25 #[.int .i64 a.t,.int .i64 a.n,.int .i64 a.a,.int .i64 a.b,.slice o a.l.length cl,.slice m a.i.length r]):=hid j40_;have Hkb:Hid (Blk h (w.heap.size+1) 25 #[.int .i64 b.t,.int .i64 b.n,.int .i64 b.a,.int .i64 b.b,.slice q b.l.length v,.slice p b.i.length u]):=hid (by
  rw [hW2];have:=Blk.new (w.alloc (.cells #[.int .i64 a.t,.int .i64 a.n,.int .i64 a.a,.int .i64 a.b,.slice o a.l.length cl,.slice m a.i.length r] 25)) 25 #[.int .i64 b.t,.int .i64 b.n,.int .i64 b.a,.int .i64 b.b,.slice q b.l.length v,.slice p b.i.length u];simpa using this)
 have Hb0:=hid j;have d:=hid (ha.up j);have g:=hid (hb.up j);have k:=hid (z.up j);clear hW2 j ha hb D E z
 go_enter Tryz.func9,Tryz.ntmps9
 go_wp2_with fail
 rw [← I.out];refine (Zm1 a _ _ s _ d.out L.out k.out).mono ?_;rintro e w3 ⟨rfl,c⟩;rw [J.out];replace d:=hid (d.out.up c);replace g:=hid (g.out.up c);replace k:=hid (k.out.up c);replace Hka:=hid (Hka.out.below c Hka.out.lt);replace Hkb:=hid (Hkb.out.below c Hkb.out.lt);replace Hb0:=hid (Z0_ Hb0.out (le_refl _) c);clear c;cases x
 ·exact x2_
 ·have U:=Hkb.out.cell 0
  have V:=Hkb.out.cell 1;have W:=Hkb.out.cell 2;have X:=Hkb.out.cell 3;have Y:=Hkb.out.cell 4;have Z:=Hkb.out.cell 5
  go_wp2_with fail
  refine (Zm1 b _ _ s _ g.out M.out k.out).mono ?_;rintro e w4 ⟨rfl,hb4⟩;rw [K.out];clear U V W X Y Z;replace d:=hid (d.out.up hb4);replace g:=hid (g.out.up hb4);exact k31_
end Go.Proofs.YtnaebbjodfnooaaGreatDoor.Wp
