/- The document's plain of layer 10, walked, kind by kind (written by gen_vplain.py). -/
import Derived.Test.YtgadbnbhgpehjaaGreatDoorVInd
import Derived.Test.YtgadbnbhgpehjaaGreatDoorVI10C
import Derived.Test.YtgadbnbhgpehjaaGreatDoorZX
import Derived.Test.YtgadbnbhgpehjaaGreatDoorVLR
import Derived.Test.YtgadbnbhgpehjaaGreatDoorIJRef
import Derived.Deep.AppendLies
import Derived.Deep.RegionLaw
import Derived.Deep.RegionHeld3
set_option maxHeartbeats 8000000
set_option maxRecDepth 100000
open Go.Lib (hid)
open Nat (le_refl)
namespace Go.Proofs.YtgadbnbhgpehjaaGreatDoor
open Go Go.RowKit
namespace Wp
theorem flat2 (w:World) (a b:Value):∀ (j:Nat) (v:Value),[a,b][j]?=some v→(w.alloc (.cells #[a,b] 73)).cell? ((⟨w.heap.size,0,none⟩:Addr).add j)=some v:=by
 intro j v hj
 have hb:=Blk.new w 73 #[a,b]
 have hc:=hb.cell j
 have he:((⟨w.heap.size,0,none⟩:Addr).add j)=⟨w.heap.size,j,none⟩:=by
  unfold Addr.add
  split<;>simp_all
 rw [he,hc]
 simpa using hj
theorem Yi1 {w:World} {base:Nat} {v:Value} {us:List Value} {pp:List (List Int)} (h:w.ownsRow base 26 1 v us.length us) (hl:us.length=pp.length) (ho:∀ j u,us[j]?=some u→Row w w.heap.size u (pp.getD j [])):Rows2 w w.heap.size v pp:=by
 rcases h.2 with ⟨rfl,h0⟩ | ⟨g,cap,cur,rfl,hb,hg,hcl,hcm,_⟩
 ·have hp0:pp.length=0:=by omega
  have:pp=[]:=List.eq_nil_of_length_eq_zero hp0
  subst this
  exact ⟨none,0,rfl,⟨le_refl _,by decide,fun _=>rfl⟩,fun k hk=>absurd hk (by simp)⟩
 ·refine ⟨some ⟨g,0,none⟩,cap,by rw [hl],⟨by rw [← hl];exact hcl,hcm,fun e=>by cases e⟩,fun k hk=>?_⟩
  have hkv:k<us.length:=by omega
  exact ⟨⟨g,0,none⟩,us[k],rfl,(h.lt g rfl).2,h.cells (g:=g) rfl k _ (List.getElem?_eq_getElem hkv),ho k _ (List.getElem?_eq_getElem hkv)⟩
theorem Xu7 (k:Nat) (m:Mat) (v sv:Value) (s:List Int) (w:World) (hv:MatV w w.heap.size v m) (hc:chk m=0) (hr:Row w w.heap.size sv s) (hS:InN (nN m) s) (ht:m.t=0):Calls Tryz.prog 64 #[v,sv] w (Says w (indB (k+1) m s)):=by
 rw [ind_0 hc hS ht]
 have hsl:=Y3_ hS
 have hn64:=(Z8_ hc).2
 have hsI:(s.length:Int)≤64:=by omega
 obtain ⟨lv,iv,rfl,hl2,hi2⟩:=hv.open
 obtain ⟨Al,cl,rfl,_⟩:=id hl2
 obtain ⟨Ai,ci,rfl,_⟩:=id hi2
 obtain ⟨As,cs,rfl,_⟩:=id hr
 have Hblk:=Z3_ w m (.slice Al m.l.length cl) (.slice Ai m.i.length ci)
 have Hb0:=Z1_ w m (.slice Al m.l.length cl) (.slice Ai m.i.length ci)
 unfold boxed at *
 obtain ⟨W0,hW0⟩:∃ W0,W0=w.alloc (.cells #[.int .i64 m.t,.int .i64 m.n,.int .i64 m.a,.int .i64 m.b,.slice Al m.l.length cl,.slice Ai m.i.length ci] 25):=⟨_,rfl⟩
 rw [← hW0] at Hblk Hb0
 have hs0:W0.heap.size=w.heap.size+1:=by rw [hW0];simp
 obtain ⟨W2,hW2⟩:∃ W2,W2=(W0.alloc (.cells #[] 73)).alloc (.cells #[] 26):=⟨_,rfl⟩
 have HW2:Hid (W2=((w.alloc (.cells #[.int .i64 m.t,.int .i64 m.n,.int .i64 m.a,.int .i64 m.b,.slice Al m.l.length cl,.slice Ai m.i.length ci] 25)).alloc (.cells #[] 73)).alloc (.cells #[] 26)):=hid (by rw [hW2,hW0])
 have h02:Below W0.heap.size W0 W2:=by rw [hW2];exact ((Below.refl _ W0).alloc (le_refl _) _).alloc (by simp) _
 have H02:=hid h02
 have hb2:Below w.heap.size w W2:=Z0_ Hb0 (le_refl _) h02
 have HK:=hid (Hblk.below h02 (by omega))
 have Hb2:=hid hb2
 have d1:(m.t==1)=false:=by simp;omega
 have d2:(m.t==2)=false:=by simp;omega
 have d3:(m.t==3)=false:=by simp;omega
 have d4:(m.t==4)=false:=by simp;omega
 have g0:=HK.out.cell 0
 have g2:=HK.out.cell 2
 clear ht hW0 hW2 Hblk Hb0 h02 hb2 hl2 hi2 hr hS hv
 go_enter Tryz.func64,Tryz.ntmps64
 go_wp2
 rw [← HW2.out]
 go_loopw [5,6,7] (fun _ _ vi wr=>vi=.int .i64 0∧wr=W2) (fun _ _ _ _=>1)
 case atStart=>exact ⟨rfl,rfl⟩
 case round =>
  obtain ⟨rfl,hwr⟩:=hrel
  rw [hwr]
  clear hwr
  by_cases h0:0<s.length
  ·have h0I:(0:Int)<(s.length:Int):=by omega
   go_wp2
   go_ret
   exact ⟨rfl,Hb2.out⟩
  ·have h0I:¬ (0:Int)<(s.length:Int):=by omega
   go_wp2
   go_ret
   exact ⟨rfl,Hb2.out⟩
theorem Xu8 (k:Nat) (m:Mat) (v sv:Value) (s:List Int) (w:World) (hv:MatV w w.heap.size v m) (hc:chk m=0) (hr:Row w w.heap.size sv s) (hS:InN (nN m) s) (ht:m.t=3):Calls Tryz.prog 64 #[v,sv] w (Says w (indB (k+1) m s)):=by
 rw [ind_3 hc hS ht]
 obtain ⟨p1,p2⟩:=Zx7 hc ht
 have hnc:=Z8_ hc
 have hrow:∀ i,IsSet (m.l.getD i [])∧(m.l.getD i []).length≤64:=fun i=>by
  rcases Nat.lt_or_ge i m.l.length with hi | hi
  ·unfold mayM at p2
   rw [Bool.and_eq_true,List.all_eq_true] at p2
   have h1:=Zf2 (p2.2 _ (C0_ [] hi))
   have ha:=chk_a hc
   have h2:InN m.a.toNat (m.l.getD i []):=⟨h1.1,fun r hr=>by have:=h1.2 r hr;omega⟩
   exact ⟨h1.1,by have:=Y3_ h2;omega⟩
  ·rw [List.getD_eq_getElem?_getD,List.getElem?_eq_none hi]
   exact ⟨V4_,by simp⟩
 have hrows:=hv
 have hsl:=Y3_ hS
 have hn64:=(Z8_ hc).2
 have hsI:(s.length:Int)≤64:=by omega
 obtain ⟨lv,iv,rfl,hl2,hi2⟩:=hv.open
 obtain ⟨Al,cl,rfl,_⟩:=id hl2
 obtain ⟨Ai,ci,rfl,_⟩:=id hi2
 obtain ⟨As,cs,rfl,_⟩:=id hr
 have Hblk:=Z3_ w m (.slice Al m.l.length cl) (.slice Ai m.i.length ci)
 have Hb0:=Z1_ w m (.slice Al m.l.length cl) (.slice Ai m.i.length ci)
 unfold boxed at *
 obtain ⟨W0,hW0⟩:∃ W0,W0=w.alloc (.cells #[.int .i64 m.t,.int .i64 m.n,.int .i64 m.a,.int .i64 m.b,.slice Al m.l.length cl,.slice Ai m.i.length ci] 25):=⟨_,rfl⟩
 rw [← hW0] at Hblk Hb0
 have hs0:W0.heap.size=w.heap.size+1:=by rw [hW0];simp
 obtain ⟨W2,hW2⟩:∃ W2,W2=(W0.alloc (.cells #[] 73)).alloc (.cells #[] 26):=⟨_,rfl⟩
 have HW2:Hid (W2=((w.alloc (.cells #[.int .i64 m.t,.int .i64 m.n,.int .i64 m.a,.int .i64 m.b,.slice Al m.l.length cl,.slice Ai m.i.length ci] 25)).alloc (.cells #[] 73)).alloc (.cells #[] 26)):=hid (by rw [hW2,hW0])
 have h02:Below W0.heap.size W0 W2:=by rw [hW2];exact ((Below.refl _ W0).alloc (le_refl _) _).alloc (by simp) _
 have H02:=hid h02
 have hb2:Below w.heap.size w W2:=Z0_ Hb0 (le_refl _) h02
 have HK:=hid (Hblk.below h02 (by omega))
 have Hb2:=hid hb2
 have d1:(m.t==1)=false:=by simp;omega
 have d2:(m.t==2)=false:=by simp;omega
 have d3:(m.t==3)=true:=by simp;exact ht
 have d4:(m.t==4)=false:=by simp;omega
 have HC:Hid (∀ (lv sv:Value) (W:World),Rows2 W W.heap.size lv m.l→Row W W.heap.size sv s→Calls Tryz.prog 77 #[lv,sv,.slice none 0 0] W (Says W (D7_ m.l s []))):=hid fun lv sv W h1 h2=>Zj8 m.l (fun i=>(hrow i).1) (fun i=>(hrow i).2) (by omega) s [] lv sv _ W (fun x hx=>by have:=hS.2 x hx;omega) V4_ (by simp;omega) h1 h2 (Row.nil_ _ _)
 have HL:=hid (hl2.up hb2)
 have HR:=hid (hr.up hb2)
 generalize D7_ m.l s []=R at *
 have g0:=HK.out.cell 0
 have g4:=HK.out.cell 4
 clear ht hW0 hW2 Hblk Hb0 h02 hb2 hl2 hi2 hr hS hv hrows hrow p1 p2 hnc hc
 go_enter Tryz.func64,Tryz.ntmps64
 go_wp2
 rw [← HW2.out]
 go_loopw [5,6,7] (fun _ _ vi wr=>vi=.int .i64 0∧wr=W2) (fun _ _ _ _=>1)
 case atStart=>exact ⟨rfl,rfl⟩
 case round =>
  obtain ⟨rfl,hwr⟩:=hrel
  rw [hwr]
  clear hwr
  by_cases h0:0<s.length
  ·have h0I:(0:Int)<(s.length:Int):=by omega
   go_wp2_with fail
   refine (HC.out _ _ _ HL.out HR.out).mono ?_
   rintro e w3 ⟨rfl,hb3⟩
   have Hb3:=hid (Z0_ Hb2.out (le_refl _) hb3)
   clear hb3
   go_wp2
   go_ret
   exact ⟨rfl,Hb3.out⟩
  ·have h0I:¬ (0:Int)<(s.length:Int):=by omega
   go_wp2_with fail
   refine (HC.out _ _ _ HL.out HR.out).mono ?_
   rintro e w3 ⟨rfl,hb3⟩
   have Hb3:=hid (Z0_ Hb2.out (le_refl _) hb3)
   clear hb3
   go_wp2
   go_ret
   exact ⟨rfl,Hb3.out⟩
theorem Zq0 {A:Nat} {p:Nat→Bool} {c:Nat} (_hc:c<A) (h:(List.range c).all p=true) (hp:p c=true):(List.range (c+1)).all p=true:=by
 rw [List.range_succ,List.all_append,h];simp [hp]
theorem Zq1 {A:Nat} {p:Nat→Bool} {c:Nat} (hc:c<A) (hp:p c=false):(List.range A).all p=false:=by
 rw [Bool.eq_false_iff]
 intro h
 rw [List.all_eq_true] at h
 rw [h c (List.mem_range.2 hc)] at hp
 cases hp
theorem Xu9 (k:Nat) (m:Mat) (v sv:Value) (s:List Int) (w:World) (hv:MatV w w.heap.size v m) (hc:chk m=0) (hr:Row w w.heap.size sv s) (hS:InN (nN m) s) (ht:m.t=2):Calls Tryz.prog 64 #[v,sv] w (Says w (indB (k+1) m s)):=by
 rw [ind_2 hc hS ht]
 obtain ⟨p0,p1,p2,p3,p4⟩:=W3_ hc ht
 have hnc:=Z8_ hc
 have ha:=chk_a hc
 have hsl:=Y3_ hS
 have hn64:=(Z8_ hc).2
 have hsI:(s.length:Int)≤64:=by omega
 obtain ⟨lv,iv,rfl,hl2,hi2⟩:=hv.open
 obtain ⟨Al,cl,rfl,_⟩:=id hl2
 obtain ⟨Ai,ci,rfl,_⟩:=id hi2
 obtain ⟨As,cs,rfl,_⟩:=id hr
 have Hblk:=Z3_ w m (.slice Al m.l.length cl) (.slice Ai m.i.length ci)
 have Hb0:=Z1_ w m (.slice Al m.l.length cl) (.slice Ai m.i.length ci)
 unfold boxed at *
 obtain ⟨W0,hW0⟩:∃ W0,W0=w.alloc (.cells #[.int .i64 m.t,.int .i64 m.n,.int .i64 m.a,.int .i64 m.b,.slice Al m.l.length cl,.slice Ai m.i.length ci] 25):=⟨_,rfl⟩
 rw [← hW0] at Hblk Hb0
 have hs0:W0.heap.size=w.heap.size+1:=by rw [hW0];simp
 obtain ⟨W2,hW2⟩:∃ W2,W2=(W0.alloc (.cells #[] 73)).alloc (.cells #[] 26):=⟨_,rfl⟩
 have HW2:Hid (W2=((w.alloc (.cells #[.int .i64 m.t,.int .i64 m.n,.int .i64 m.a,.int .i64 m.b,.slice Al m.l.length cl,.slice Ai m.i.length ci] 25)).alloc (.cells #[] 73)).alloc (.cells #[] 26)):=hid (by rw [hW2,hW0])
 have h02:Below W0.heap.size W0 W2:=by rw [hW2];exact ((Below.refl _ W0).alloc (le_refl _) _).alloc (by simp) _
 have H02:=hid h02
 have hb2:Below w.heap.size w W2:=Z0_ Hb0 (le_refl _) h02
 have HK:=hid (Hblk.below h02 (by omega))
 have Hb2:=hid hb2
 have d1:(m.t==1)=false:=by simp;omega
 have d2:(m.t==2)=true:=by simp;exact ht
 have d3:(m.t==3)=false:=by simp;omega
 have d4:(m.t==4)=false:=by simp;omega
 obtain ⟨A',c',he,_,hk⟩:=id hl2
 injection he with e1 e2 e3
 subst e1 e3
 obtain ⟨al,u0,hA0,hB,gl0,hr0⟩:=hk 0 (by omega)
 subst hA0
 obtain ⟨al',u1,hA1,_,gl1,hr1⟩:=hk 1 (by omega)
 obtain rfl:=Option.some.inj hA1
 rw [add_zero] at gl0
 change Row w w.heap.size u0 (row m 0) at hr0
 change Row w w.heap.size u1 (row m 1) at hr1
 obtain ⟨A,hA⟩:∃ A:Nat,m.a=(A:Int):=⟨m.a.toNat,by omega⟩
 have hin:∀ k,k<s.length→0≤s.getD k 0∧s.getD k 0<((row m 0).length:Int):=fun k hk=>by have:=F9_ hS hk;omega
 have Hml:Hid ((row m 1).length=A):=hid (by omega)
 have HC:Hid (∀ (c:Nat) (vc vs:Value) (W:World),Row W W.heap.size vc (row m 0)→Row W W.heap.size vs s→Calls Tryz.prog 76 #[vc,vs,.int .i64 (c:Int)] W (Tells W (cntC (row m 0) s c:Nat))):=hid fun c vc vs W h1 h2=>Yu6 vc vs (row m 0) s c W h1 h2 hin (by omega)
 rw [show m.a.toNat=A by omega]
 generalize row m 0=cls at *
 generalize row m 1=mo at *
 obtain ⟨R,hR⟩:∃ R,(List.range A).all (fun c=>decide ((cntC cls s (c:Int):Int)≤mo.getD c 0))=R:=⟨_,rfl⟩
 rw [hR]
 have HAR:=hid hR
 clear hR
 have HCR:=hid hr0
 obtain ⟨Ac,cc,rfl,_⟩:=id hr0
 obtain ⟨Am,cm,rfl,_,hkm⟩:=hr1
 have HM:=hid hkm
 have HR:=hid hr
 have HG0:=hid gl0
 have HG1:=hid gl1
 rw [show al.add 1=(⟨al.block,al.off+1,none⟩:Addr) by simp [Addr.add]] at HG1
 have HAB:=hid hB
 have hl2I:(m.l.length:Int)=2:=by omega
 have h2a:(0:Int)<(m.l.length:Int):=by omega
 have h2b:(1:Int)<(m.l.length:Int):=by omega
 have h2c:0<m.l.length:=by omega
 have h2d:1<m.l.length:=by omega
 clear hl2I
 have g0:=HK.out.cell 0
 have hA64:A≤64:=by omega
 have HA:=hid hA
 clear hA ht hW0 hW2 Hblk Hb0 h02 hb2 hl2 hi2 hr hS hv hin hkm gl0 gl1 hB hr0 hk p0 p1 p2 p3 p4 hnc ha hc
 go_enter Tryz.func64,Tryz.ntmps64
 go_wp2
 rw [← HW2.out]
 go_loopw [5,6,7] (fun _ _ vi wr=>vi=.int .i64 0∧wr=W2) (fun _ _ _ _=>1)
 case atStart=>exact ⟨rfl,rfl⟩
 case round =>
  obtain ⟨rfl,hwr⟩:=hrel
  rw [hwr]
  clear hwr
  by_cases h0:0<s.length
  ·have h0I:(0:Int)<(s.length:Int):=by omega
   go_wp2
   go_loopw [4,8] (fun _ vc wr=>∃ c:Nat,vc=.int .i64 (c:Int)∧c≤A∧Hid ((List.range c).all (fun c=>decide ((cntC cls s (c:Int):Int)≤mo.getD c 0))=true∧Below W2.heap.size W2 wr)) (fun _ vc _=>A - (intOf vc).toNat)
   case atStart=>exact ⟨0,rfl,Nat.zero_le _,by simp,Below.refl _ _⟩
   case round =>
    obtain ⟨c,rfl,hcA,HT⟩:=hrel
    have HBq:=hid (Z0_ Hb2.out (le_refl _) HT.out.2)
    have q2:=(HT.out.2.cell (p:=⟨w.heap.size,2,none⟩) HK.out.lt).trans (HK.out.cell 2)
    by_cases hlt:c<A
    ·have hltI:(c:Int)<m.a:=by have:=HA.out;omega
     obtain ⟨am,hAm,hbm,hcm⟩:=HM.out c (by have:=Hml.out;omega)
     subst hAm
     have hmI:(c:Int)<(mo.length:Int):=by have:=Hml.out;omega
     have hmN:c<mo.length:=by have:=Hml.out;omega
     have hw1:IntKind.i64.wrap ((c:Int)+1)=(c:Int)+1:=by rw [IntKind.wrap_i64];omega
     obtain ⟨N,hN⟩:∃ N:Nat,cntC cls s (c:Int)=N:=⟨_,rfl⟩
     obtain ⟨y,hy⟩:∃ y:Int,mo.getD c 0=y:=⟨_,rfl⟩
     rw [hy] at hcm
     have HCM:=hid hcm
     have HBM:=hid hbm
     have HCq:Hid (∀ (vc vs:Value) (W:World),Row W W.heap.size vc cls→Row W W.heap.size vs s→Calls Tryz.prog 76 #[vc,vs,.int .i64 (c:Int)] W (Tells W (N:Int))):=hid fun vc vs W h1 h2=>by rw [← hN];exact HC.out c vc vs W h1 h2
     have K1:Hid (∀ W,Below wr.drew.heap.size wr.drew W→W.cell? ⟨w.heap.size,4,none⟩=some (.slice (some al) m.l.length cl)∧W.cell? al=some (.slice Ac cls.length cc)∧W.cell? ⟨al.block,al.off+1,none⟩=some (.slice (some am) mo.length cm)∧W.cell? (am.add c)=some (.int .i64 y)):=hid fun W hW=>by
      have hWW:=Z0_ HBq.out.drew (le_refl _) hW
      exact ⟨((Z0_ HT.out.2.drew (le_refl _) hW).cell (p:=⟨w.heap.size,4,none⟩) HK.out.lt).trans (HK.out.cell 4),(hWW.cell (p:=al) HAB.out).trans HG0.out,(hWW.cell (p:=⟨al.block,al.off+1,none⟩) HAB.out).trans HG1.out,(hWW.cell (p:=am.add c) (by rw [Z2_];exact HBM.out)).trans HCM.out⟩
     have HB:Hid (Below wr.drew.heap.size wr.drew wr.drew):=hid (Below.refl _ _)
     have HBd:=hid HBq.out.drew
     have HRs:=hid (HR.out.up HBd.out)
     have HCs:=hid (HCR.out.up HBd.out)
     clear hcm hbm
     by_cases hgt:y<(N:Int)
     ·have HF:Hid (R=false):=hid (HAR.out.symm.trans (Zq1 hlt (by rw [hN,hy];exact decide_eq_false (by omega))))
      clear hN hy
      go_wp2
      go_region_held3 (fun W=>W.cell? ⟨w.heap.size,4,none⟩=some (.slice (some al) m.l.length cl)∧W.cell? al=some (.slice Ac cls.length cc)∧W.cell? ⟨al.block,al.off+1,none⟩=some (.slice (some am) mo.length cm)∧W.cell? (am.add c)=some (.int .i64 y))
       (exact K1.out _ HB.out)
       (first
       | (go_at_call 76;refine (HCq.out _ _ _ HCs.out HRs.out).mono ?_;rintro e w11 ⟨rfl,hb11⟩;replace HB:=hid (Z0_ HB.out (le_refl _) hb11);clear hb11))
      all_goals
       go_simp
       have HB9:=hid (Z0_ HBd.out (le_refl _) HB.out)
       go_wp2
       go_ret
       exact ⟨by rw [HF.out];rfl,HB9.out⟩
     ·have HF:Hid ((List.range (c+1)).all (fun c=>decide ((cntC cls s (c:Int):Int)≤mo.getD c 0))=true):=hid (Zq0 hlt HT.out.1 (by rw [hN,hy];exact decide_eq_true (by omega)))
      have hle:(N:Int)≤y:=by omega
      clear hN hy
      go_wp2
      go_region_held3 (fun W=>W.cell? ⟨w.heap.size,4,none⟩=some (.slice (some al) m.l.length cl)∧W.cell? al=some (.slice Ac cls.length cc)∧W.cell? ⟨al.block,al.off+1,none⟩=some (.slice (some am) mo.length cm)∧W.cell? (am.add c)=some (.int .i64 y))
       (exact K1.out _ HB.out)
       (first
       | (go_at_call 76;refine (HCq.out _ _ _ HCs.out HRs.out).mono ?_;rintro e w11 ⟨rfl,hb11⟩;replace HB:=hid (Z0_ HB.out (le_refl _) hb11);clear hb11))
      all_goals
       go_simp
       have HB9:=hid (Z0_ HT.out.2.drew (le_refl _) HB.out)
       go_wp2
       go_roundw
       case rel=>exact ⟨c+1,by go_num,by omega,HF.out,HB9.out⟩
       case measure=>simp [intOf];omega
    ·have hce:c=A:=by omega
     have hltI:¬ (c:Int)<m.a:=by have:=HA.out;omega
     have HF:Hid (R=true):=hid (by rw [← HAR.out,← hce];exact HT.out.1)
     go_wp2
     go_ret
     exact ⟨by rw [HF.out];rfl,HBq.out⟩
  ·have h0I:¬ (0:Int)<(s.length:Int):=by omega
   go_wp2
   go_loopw [4,8] (fun _ vc wr=>∃ c:Nat,vc=.int .i64 (c:Int)∧c≤A∧Hid ((List.range c).all (fun c=>decide ((cntC cls s (c:Int):Int)≤mo.getD c 0))=true∧Below W2.heap.size W2 wr)) (fun _ vc _=>A - (intOf vc).toNat)
   case atStart=>exact ⟨0,rfl,Nat.zero_le _,by simp,Below.refl _ _⟩
   case round =>
    obtain ⟨c,rfl,hcA,HT⟩:=hrel
    have HBq:=hid (Z0_ Hb2.out (le_refl _) HT.out.2)
    have q2:=(HT.out.2.cell (p:=⟨w.heap.size,2,none⟩) HK.out.lt).trans (HK.out.cell 2)
    by_cases hlt:c<A
    ·have hltI:(c:Int)<m.a:=by have:=HA.out;omega
     obtain ⟨am,hAm,hbm,hcm⟩:=HM.out c (by have:=Hml.out;omega)
     subst hAm
     have hmI:(c:Int)<(mo.length:Int):=by have:=Hml.out;omega
     have hmN:c<mo.length:=by have:=Hml.out;omega
     have hw1:IntKind.i64.wrap ((c:Int)+1)=(c:Int)+1:=by rw [IntKind.wrap_i64];omega
     obtain ⟨N,hN⟩:∃ N:Nat,cntC cls s (c:Int)=N:=⟨_,rfl⟩
     obtain ⟨y,hy⟩:∃ y:Int,mo.getD c 0=y:=⟨_,rfl⟩
     rw [hy] at hcm
     have HCM:=hid hcm
     have HBM:=hid hbm
     have HCq:Hid (∀ (vc vs:Value) (W:World),Row W W.heap.size vc cls→Row W W.heap.size vs s→Calls Tryz.prog 76 #[vc,vs,.int .i64 (c:Int)] W (Tells W (N:Int))):=hid fun vc vs W h1 h2=>by rw [← hN];exact HC.out c vc vs W h1 h2
     have K1:Hid (∀ W,Below wr.drew.heap.size wr.drew W→W.cell? ⟨w.heap.size,4,none⟩=some (.slice (some al) m.l.length cl)∧W.cell? al=some (.slice Ac cls.length cc)∧W.cell? ⟨al.block,al.off+1,none⟩=some (.slice (some am) mo.length cm)∧W.cell? (am.add c)=some (.int .i64 y)):=hid fun W hW=>by
      have hWW:=Z0_ HBq.out.drew (le_refl _) hW
      exact ⟨((Z0_ HT.out.2.drew (le_refl _) hW).cell (p:=⟨w.heap.size,4,none⟩) HK.out.lt).trans (HK.out.cell 4),(hWW.cell (p:=al) HAB.out).trans HG0.out,(hWW.cell (p:=⟨al.block,al.off+1,none⟩) HAB.out).trans HG1.out,(hWW.cell (p:=am.add c) (by rw [Z2_];exact HBM.out)).trans HCM.out⟩
     have HB:Hid (Below wr.drew.heap.size wr.drew wr.drew):=hid (Below.refl _ _)
     have HBd:=hid HBq.out.drew
     have HRs:=hid (HR.out.up HBd.out)
     have HCs:=hid (HCR.out.up HBd.out)
     clear hcm hbm
     by_cases hgt:y<(N:Int)
     ·have HF:Hid (R=false):=hid (HAR.out.symm.trans (Zq1 hlt (by rw [hN,hy];exact decide_eq_false (by omega))))
      clear hN hy
      go_wp2
      go_region_held3 (fun W=>W.cell? ⟨w.heap.size,4,none⟩=some (.slice (some al) m.l.length cl)∧W.cell? al=some (.slice Ac cls.length cc)∧W.cell? ⟨al.block,al.off+1,none⟩=some (.slice (some am) mo.length cm)∧W.cell? (am.add c)=some (.int .i64 y))
       (exact K1.out _ HB.out)
       (first
       | (go_at_call 76;refine (HCq.out _ _ _ HCs.out HRs.out).mono ?_;rintro e w11 ⟨rfl,hb11⟩;replace HB:=hid (Z0_ HB.out (le_refl _) hb11);clear hb11))
      all_goals
       go_simp
       have HB9:=hid (Z0_ HBd.out (le_refl _) HB.out)
       go_wp2
       go_ret
       exact ⟨by rw [HF.out];rfl,HB9.out⟩
     ·have HF:Hid ((List.range (c+1)).all (fun c=>decide ((cntC cls s (c:Int):Int)≤mo.getD c 0))=true):=hid (Zq0 hlt HT.out.1 (by rw [hN,hy];exact decide_eq_true (by omega)))
      have hle:(N:Int)≤y:=by omega
      clear hN hy
      go_wp2
      go_region_held3 (fun W=>W.cell? ⟨w.heap.size,4,none⟩=some (.slice (some al) m.l.length cl)∧W.cell? al=some (.slice Ac cls.length cc)∧W.cell? ⟨al.block,al.off+1,none⟩=some (.slice (some am) mo.length cm)∧W.cell? (am.add c)=some (.int .i64 y))
       (exact K1.out _ HB.out)
       (first
       | (go_at_call 76;refine (HCq.out _ _ _ HCs.out HRs.out).mono ?_;rintro e w11 ⟨rfl,hb11⟩;replace HB:=hid (Z0_ HB.out (le_refl _) hb11);clear hb11))
      all_goals
       go_simp
       have HB9:=hid (Z0_ HT.out.2.drew (le_refl _) HB.out)
       go_wp2
       go_roundw
       case rel=>exact ⟨c+1,by go_num,by omega,HF.out,HB9.out⟩
       case measure=>simp [intOf];omega
    ·have hce:c=A:=by omega
     have hltI:¬ (c:Int)<m.a:=by have:=HA.out;omega
     have HF:Hid (R=true):=hid (by rw [← HAR.out,← hce];exact HT.out.1)
     go_wp2
     go_ret
     exact ⟨by rw [HF.out];rfl,HBq.out⟩
theorem Xw0 (k:Nat) (m:Mat) (v sv:Value) (s:List Int) (w:World) (hv:MatV w w.heap.size v m) (hc:chk m=0) (hr:Row w w.heap.size sv s) (hS:InN (nN m) s) (ht:m.t=1):Calls Tryz.prog 64 #[v,sv] w (Says w (indB (k+1) m s)):=by
 have hg:=K4_ hc ht
 have ha:=chk_a hc
 have hec:=Zb7 hc ht hS
 have hli:=Zm9 (s:=s) hc ht
 have hnc:=Z8_ hc
 obtain ⟨A,hA⟩:∃ A:Nat,m.a=(A:Int):=⟨m.a.toNat,by omega⟩
 rw [hA,Int.toNat_natCast] at hli
 have hA1:1≤A:=by omega
 have hA64:A≤64:=by omega
 obtain ⟨ns,hns⟩:∃ ns,edgP (nN m) (edgOf m) (memP s)=ns:=⟨_,rfl⟩
 rw [hns] at hec hli
 have hnl:ns.length=s.length:=by
  have:=congrArg List.length hec
  rw [X1_] at this
  unfold M1_ at this
  rw [List.length_map] at this
  omega
 have hres:(rankN A ns==(ns.length:Int))=indB (k+1) m s:=by
  have e1:((K2_ A (nN m) (edgOf m) (memP s):Nat):Int)=rankN A ns:=by rw [← hns];unfold K2_ rankN;have:=Zy1 A (edgP (nN m) (edgOf m) (memP s));omega
  rw [Bool.eq_iff_iff,beq_iff_eq,X5_,rkP_1 ht,hA,Int.toNat_natCast,← e1,hnl]
  omega
 rw [← hres]
 obtain ⟨b,hb⟩:∃ b,(rankN A ns==(ns.length:Int))=b:=⟨_,rfl⟩
 rw [hb]
 have hsl:=Y3_ hS
 have hn64:=(Z8_ hc).2
 have hsI:(s.length:Int)≤64:=by omega
 obtain ⟨lv,iv,rfl,hl2,hi2⟩:=hv.open
 obtain ⟨Al,cl,rfl,_⟩:=id hl2
 obtain ⟨Ai,ci,rfl,_⟩:=id hi2
 obtain ⟨As,cs,rfl,_⟩:=id hr
 have Hblk:=Z3_ w m (.slice Al m.l.length cl) (.slice Ai m.i.length ci)
 have Hb0:=Z1_ w m (.slice Al m.l.length cl) (.slice Ai m.i.length ci)
 unfold boxed at *
 obtain ⟨W0,hW0⟩:∃ W0,W0=w.alloc (.cells #[.int .i64 m.t,.int .i64 m.n,.int .i64 m.a,.int .i64 m.b,.slice Al m.l.length cl,.slice Ai m.i.length ci] 25):=⟨_,rfl⟩
 rw [← hW0] at Hblk Hb0
 have hs0:W0.heap.size=w.heap.size+1:=by rw [hW0];simp
 obtain ⟨W2,hW2⟩:∃ W2,W2=(W0.alloc (.cells #[] 73)).alloc (.cells #[] 26):=⟨_,rfl⟩
 have HW2:Hid (W2=((w.alloc (.cells #[.int .i64 m.t,.int .i64 m.n,.int .i64 m.a,.int .i64 m.b,.slice Al m.l.length cl,.slice Ai m.i.length ci] 25)).alloc (.cells #[] 73)).alloc (.cells #[] 26)):=hid (by rw [hW2,hW0])
 have h02:Below W0.heap.size W0 W2:=by rw [hW2];exact ((Below.refl _ W0).alloc (le_refl _) _).alloc (by simp) _
 have H02:=hid h02
 have hb2:Below w.heap.size w W2:=Z0_ Hb0 (le_refl _) h02
 have HK:=hid (Hblk.below h02 (by omega))
 have Hb2:=hid hb2
 have d1:(m.t==1)=true:=by simp;exact ht
 have d2:(m.t==2)=false:=by simp;omega
 have d3:(m.t==3)=false:=by simp;omega
 have d4:(m.t==4)=false:=by simp;omega
 obtain ⟨A',c',he,_,hk⟩:=id hl2
 injection he with e1 e2 e3
 subst e1 e3
 have HFo:Hid (∀ (v:Value) (W:World),Edges W W.heap.size v (castE ns)→Calls Tryz.prog 75 #[.int .i64 m.a,v] W (Says W b)):=hid fun v W h=>by rw [hA];exact Za0 A v ns W h hA1 hA64 (by omega) hli b hb
 have Hat:Hid (∀ i,i<s.length→∃ (X:Nat) (p q:Int) (as_ al az:Addr) (cz:Nat),As=some as_∧Al=some al∧X<m.l.length∧as_.block<w.heap.size∧al.block<w.heap.size∧az.block<w.heap.size∧w.cell? (as_.add i)=some (.int .i64 (X:Int))∧w.cell? (al.add X)=some (.slice (some az) 2 cz)∧w.cell? az=some (.int .i64 p)∧w.cell? ⟨az.block,az.off+1,none⟩=some (.int .i64 q)∧((ns.getD i (0,0)).1:Int)=p∧((ns.getD i (0,0)).2:Int)=q):=hid fun i hi=>by
  have hx:=F9_ hS hi
  obtain ⟨X,hX⟩:∃ X:Nat,s.getD i 0=(X:Int):=⟨(s.getD i 0).toNat,by omega⟩
  obtain ⟨A0,c0,he0,_,hks⟩:=id hr
  injection he0 with q1 q2 q3
  subst q1 q3
  obtain ⟨as_,hA0,hasb,hcs⟩:=hks i hi
  rw [hX] at hx hcs
  have hXl:X<m.l.length:=by omega
  obtain ⟨al,u,hA2,halb,hcl,hru⟩:=hk X hXl
  have h2X:(m.l.getD X []).length=2:=by have:=(hg.2.2 X hXl).1;omega
  have hE:=congrArg (fun l=>List.getD l i (0,0)) hec
  change (M1_ m.l s).getD i (0,0)=(castE ns).getD i (0,0) at hE
  rw [G2_] at hE
  have hE2:(M1_ m.l s).getD i (0,0)=((m.l.getD X []).getD 0 0,(m.l.getD X []).getD 1 0):=by
   have:(s.getD i 0)=s[i]:=by simp [List.getD,hi]
   rw [this] at hX
   simp [M1_,List.getD,hi,hX]
  rw [hE2] at hE
  generalize m.l.getD X []=z at *
  obtain ⟨p,q,rfl⟩:∃ p q,z=[p,q]:=by
   match z,h2X with
   | [p,q],_=>exact ⟨p,q,rfl⟩
  obtain ⟨Az,cz,rfl,_,hcz⟩:=hru
  obtain ⟨az,hA3,hazb,hc0⟩:=hcz 0 (by simp)
  subst hA3
  obtain ⟨az',hA4,_,hc1⟩:=hcz 1 (by simp)
  obtain rfl:=Option.some.inj hA4
  rw [add_zero] at hc0
  rw [show az.add 1=(⟨az.block,az.off+1,none⟩:Addr) by simp [Addr.add]] at hc1
  injection hE with h1 h2
  exact ⟨X,p,q,as_,al,az,cz,hA0,hA2,hXl,hasb,halb,hazb,hcs,hcl,hc0,hc1,h1.symm,h2.symm⟩
 have Hnl:=hid hnl
 have hown2:OwnE W2 (w.heap.size+1) (.slice (some ⟨w.heap.size+1,0,none⟩) 0 0) []:=by
  unfold OwnE
  rw [hW2,← hs0]
  exact (World.ownsRow_lit W0 #[] 0 (le_refl _) (by unfold maxLen;omega) rfl).alloc _
 have HO2:=hid hown2
 obtain ⟨i0,hi0,hz0,hz1,hz2⟩:=info_parts Vq0
 have Hs0:=hid hs0
 have HBlk0:=hid Hblk
 have HB00:=hid Hb0
 have g0:=HK.out.cell 0
 clear ht hW0 hW2 Hblk Hb0 h02 hb2 hl2 hi2 hr hS hv hk hg ha hec hli hnc hA hres hb hns hc hown2 hnl hs0
 go_enter Tryz.func64,Tryz.ntmps64
 go_wp2
 rw [← HW2.out]
 go_loopw [5,6,7] (fun ve _ vi wr=>∃ i:Nat,vi=.int .i64 (i:Int)∧i≤s.length∧Hid (OwnE wr (w.heap.size+1) ve (ns.take i)∧Below W0.heap.size W0 wr)) (fun _ _ vi _=>s.length - (intOf vi).toNat)
 case atStart=>exact ⟨0,rfl,Nat.zero_le _,by rw [List.take_zero];exact HO2.out,H02.out⟩
 case round =>
  obtain ⟨i,rfl,hi,HT⟩:=hrel
  clear g0
  have hlt0:w.heap.size<W0.heap.size:=by rw [Hs0.out];omega
  have HBr:=hid (HT.out.2)
  have HBw:=hid (Z0_ HB00.out (le_refl _) HT.out.2)
  have r0:=(HBr.out.cell (p:=⟨w.heap.size,0,none⟩) hlt0).trans (HBlk0.out.cell 0)
  by_cases hlt:i<s.length
  ·have hltI:(i:Int)<(s.length:Int):=by omega
   obtain ⟨X,p,q,as_,al,az,cz,hA0,hA2,hXl,b1,b2,b3,k1,k2,k3,k4,h1,h2⟩:=Hat.out i hlt
   subst hA0 hA2
   have hXI:(X:Int)<(m.l.length:Int):=by omega
   have g1:=(HBw.out.cell (p:=as_.add i) (by rw [Z2_];exact b1)).trans k1
   have g2:=(HBw.out.cell (p:=al.add X) (by rw [Z2_];exact b2)).trans k2
   have g3:=(HBw.out.cell (p:=az) b3).trans k3
   have g4:=(HBw.out.cell (p:=⟨az.block,az.off+1,none⟩) b3).trans k4
   have g5:=(HBr.out.cell (p:=⟨w.heap.size,4,none⟩) hlt0).trans (HBlk0.out.cell 4)
   have hw1:IntKind.i64.wrap ((i:Int)+1)=(i:Int)+1:=by rw [IntKind.wrap_i64];omega
   have Hn:Hid (ns.take (i+1)=ns.take i ++ [ns.getD i (0,0)]):=hid (by
    have:i<ns.length:=by rw [Hnl.out];exact hlt
    rw [List.take_succ_eq_append_getElem this]
    simp [List.getD,this])
   have Hpq:Hid (flatE [ns.getD i (0,0)]=[.int .i64 p,.int .i64 q]):=hid (by simp [flatE,← h1,← h2])
   have hbl:(ns.take i).length≤64:=by rw [List.length_take];omega
   have hsz1:w.heap.size+1≤wr.heap.size:=by rw [← Hs0.out];exact HBr.out.size
   have Hown:=hid HT.out.1
   generalize ns.take i=bk at *
   obtain ⟨Ae,ce,rfl⟩:=Hown.out.slice
   have Hsz:Hid ((as_.add i).block<w.heap.size∧(al.add X).block<w.heap.size∧az.block<w.heap.size∧w.cell? (as_.add i)=some (.int .i64 (X:Int))∧w.cell? (al.add X)=some (.slice (some az) 2 cz)∧w.cell? az=some (.int .i64 p)∧w.cell? ⟨az.block,az.off+1,none⟩=some (.int .i64 q)):=hid ⟨by rw [Z2_];exact b1,by rw [Z2_];exact b2,b3,k1,k2,k3,k4⟩
   clear k1 k2 k3 k4 h1 h2 b1 b2 b3 HT
   have K1:Hid (∀ W,Below W0.heap.size W0 W→W.cell? ⟨w.heap.size,4,none⟩=some (.slice (some al) m.l.length cl)∧W.cell? (as_.add i)=some (.int .i64 (X:Int))∧W.cell? (al.add X)=some (.slice (some az) 2 cz)∧W.cell? az=some (.int .i64 p)∧W.cell? ⟨az.block,az.off+1,none⟩=some (.int .i64 q)):=hid fun W hW=>by
    have hWW:=Z0_ HB00.out (le_refl _) hW
    have e:=Hsz.out
    exact ⟨(hW.cell (p:=⟨w.heap.size,4,none⟩) hlt0).trans (HBlk0.out.cell 4),(hWW.cell (p:=as_.add i) e.1).trans e.2.2.2.1,(hWW.cell (p:=al.add X) e.2.1).trans e.2.2.2.2.1,(hWW.cell (p:=az) e.2.2.1).trans e.2.2.2.2.2.1,(hWW.cell (p:=⟨az.block,az.off+1,none⟩) e.2.2.1).trans e.2.2.2.2.2.2⟩
   have HB:=hid HBr.out.drew
   have HBs:=hid HBr.out.drew.size
   clear g1 g2 g3 g4 g5
   go_wp2
   go_region_held3 (fun W=>W.cell? ⟨w.heap.size,4,none⟩=some (.slice (some al) m.l.length cl)∧W.cell? (as_.add i)=some (.int .i64 (X:Int))∧W.cell? (al.add X)=some (.slice (some az) 2 cz)∧W.cell? az=some (.int .i64 p)∧W.cell? ⟨az.block,az.off+1,none⟩=some (.int .i64 q))
    (first | exact K1.out _ HB.out | exact K1.out _ (Below.alloc HB.out HBs.out _))
    (first | (refine step_append_lies _ rfl _ _ 72 rfl (w.heap.size+1) 73 i0 (.agg #[.int .i64 0,.int .i64 0]) 2 16 (by kernel_rfl) hi0 hz0 hz1 hz2 rfl (by decide) _ bk.length (flatE bk) rfl (World.ownsRow.drew Hown.out |>.alloc _) _ 1 1 [.int .i64 p,.int .i64 q] rfl rfl (fun a b h=>by exact flat2 _ _ _ a b h) (by intro u hu;simp at hu;rcases hu with rfl | rfl<;>rfl) (by decide) (by unfold maxLen;omega) (by omega) (by simp;omega) _ rfl ?_;intro gg cap w4 hown' hgrow _ _;replace HB:Hid (Below W0.heap.size W0 w4):=hid ((Below.alloc HB.out HBs.out _).grown hgrow (Nat.le_trans HBs.out (by simp)) (fun i hi=>by have:=(World.ownsRow.lt Hown.out i hi).1;rw [Hs0.out];exact this))))
   all_goals
    have Hb5:=hid HB.out
    have Hown5:Hid (OwnE w4 (w.heap.size+1) (.slice (some ⟨gg,0,none⟩) (bk.length+1) cap) (ns.take (i+1))):=hid (by
     rw [Hn.out]
     unfold OwnE
     rw [U4_,List.length_append,Hpq.out]
     exact hown')
    clear hgrow hown' HB
    go_simp
    go_wp2
    go_roundw
    case rel=>exact ⟨i+1,by go_num,by omega,Hown5.out,Hb5.out⟩
    case measure=>simp [intOf];omega
  ·have hie:i=s.length:=by omega
   have hiN:¬ (i:Int)<(s.length:Int):=by omega
   have hoe:=HT.out.1
   rw [List.take_of_length_le (by rw [Hnl.out];omega)] at hoe
   obtain ⟨Ae,ce,rfl⟩:=hoe.slice
   have HOE:=hid hoe
   clear hoe
   have r2:=(HBr.out.cell (p:=⟨w.heap.size,2,none⟩) hlt0).trans (HBlk0.out.cell 2)
   go_wp2_with fail
   refine (HFo.out _ _ HOE.out.edges).mono ?_
   rintro e w3 ⟨rfl,hb3⟩
   have Hb3:=hid (Z0_ HBw.out (le_refl _) hb3)
   clear hb3 r2 r0
   go_wp2
   go_ret
   exact ⟨rfl,Hb3.out⟩
theorem Xw1 (k:Nat) (m:Mat) (v sv:Value) (s:List Int) (w:World) (hv:MatV w w.heap.size v m) (hc:chk m=0) (hr:Row w w.heap.size sv s) (hS:InN (nN m) s) (ht:m.t=4):Calls Tryz.prog 64 #[v,sv] w (Says w (indB (k+1) m s)):=by
 obtain ⟨p1,p2⟩:=Zt7 hc ht
 have hnc:=Z8_ hc
 obtain ⟨adj,hadj⟩:∃ adj,adj=(pickN (nN m) (memP s)).map fun i=>m.l.getD i []:=⟨_,rfl⟩
 have hpk:D3_ m.l s=adj:=by rw [hadj];exact N2_ hS
 have hres:(L.rankI m.b m.a adj==(s.length:Int))=indB (k+1) m s:=by
  have e1:L.rankI m.b m.a adj=(linR m.b m.a.toNat (nN m) (colOf m) (memP s):Nat):=Xk2 hadj (by rw [elimK,hadj];exact Zj0 p2 (by omega))
  rw [Bool.eq_iff_iff,beq_iff_eq,X5_,rkP_4 ht,e1]
  omega
 rw [← hres]
 have hal:adj.length=s.length:=by rw [← hpk];unfold D3_;rw [List.length_map]
 have hsl:=Y3_ hS
 have hn64:=(Z8_ hc).2
 have hsI:(s.length:Int)≤64:=by omega
 obtain ⟨lv,iv,rfl,hl2,hi2⟩:=hv.open
 obtain ⟨Al,cl,rfl,_⟩:=id hl2
 obtain ⟨Ai,ci,rfl,_⟩:=id hi2
 obtain ⟨As,cs,rfl,_⟩:=id hr
 have Hblk:=Z3_ w m (.slice Al m.l.length cl) (.slice Ai m.i.length ci)
 have Hb0:=Z1_ w m (.slice Al m.l.length cl) (.slice Ai m.i.length ci)
 unfold boxed at *
 obtain ⟨W0,hW0⟩:∃ W0,W0=w.alloc (.cells #[.int .i64 m.t,.int .i64 m.n,.int .i64 m.a,.int .i64 m.b,.slice Al m.l.length cl,.slice Ai m.i.length ci] 25):=⟨_,rfl⟩
 rw [← hW0] at Hblk Hb0
 have hs0:W0.heap.size=w.heap.size+1:=by rw [hW0];simp
 obtain ⟨W2,hW2⟩:∃ W2,W2=(W0.alloc (.cells #[] 73)).alloc (.cells #[] 26):=⟨_,rfl⟩
 have HW2:Hid (W2=((w.alloc (.cells #[.int .i64 m.t,.int .i64 m.n,.int .i64 m.a,.int .i64 m.b,.slice Al m.l.length cl,.slice Ai m.i.length ci] 25)).alloc (.cells #[] 73)).alloc (.cells #[] 26)):=hid (by rw [hW2,hW0])
 have h02:Below W0.heap.size W0 W2:=by rw [hW2];exact ((Below.refl _ W0).alloc (le_refl _) _).alloc (by simp) _
 have H02:=hid h02
 have hb2:Below w.heap.size w W2:=Z0_ Hb0 (le_refl _) h02
 have HK:=hid (Hblk.below h02 (by omega))
 have Hb2:=hid hb2
 have d1:(m.t==1)=false:=by simp;omega
 have d2:(m.t==2)=false:=by simp;omega
 have d3:(m.t==3)=false:=by simp;omega
 have d4:(m.t==4)=true:=by simp;exact ht
 obtain ⟨A',c',he,_,hk⟩:=id hl2
 injection he with e1 e2 e3
 subst e1 e3
 have HRk:Hid (∀ (v:Value) (W:World),Rows2 W W.heap.size v adj→Calls Tryz.prog 78 #[.int .i64 m.b,.int .i64 m.a,v] W (Gets W (.int .i64 (L.rankI m.b m.a adj)))):=hid fun v W h=>L.refrankI_any m.b m.a v adj W h
 have Hat:Hid (∀ i,i<s.length→∃ (X:Nat) (u:Value) (as_ al:Addr),As=some as_∧Al=some al∧X<m.l.length∧as_.block<w.heap.size∧al.block<w.heap.size∧w.cell? (as_.add i)=some (.int .i64 (X:Int))∧w.cell? (al.add X)=some u∧Row w w.heap.size u (adj.getD i [])):=hid fun i hi=>by
  have hx:=F9_ hS hi
  obtain ⟨X,hX⟩:∃ X:Nat,s.getD i 0=(X:Int):=⟨(s.getD i 0).toNat,by omega⟩
  obtain ⟨A0,c0,he0,_,hks⟩:=id hr
  injection he0 with q1 q2 q3
  subst q1 q3
  obtain ⟨as_,hA0,hasb,hcs⟩:=hks i hi
  rw [hX] at hx hcs
  have hXl:X<m.l.length:=by omega
  obtain ⟨al,u,hA2,halb,hcl,hru⟩:=hk X hXl
  have hE2:adj.getD i []=m.l.getD X []:=by
   have:(s.getD i 0)=s[i]:=by simp [List.getD,hi]
   rw [this] at hX
   rw [← hpk]
   simp [D3_,List.getD,hi,hX]
  exact ⟨X,u,as_,al,hA0,hA2,hXl,hasb,halb,hcs,hcl,by rw [hE2];exact hru⟩
 have Hal:=hid hal
 generalize L.rankI m.b m.a adj=R at *
 have hown2:W2.ownsRow (w.heap.size+1) 26 1 (.slice (some ⟨w.heap.size+2,0,none⟩) 0 0) ([]:List Value).length []:=by
  rw [hW2,show w.heap.size+2=(W0.alloc (.cells #[] 73)).heap.size by simp [hs0],← hs0]
  exact World.ownsRow_lit (W0.alloc (.cells #[] 73)) #[] 0 (by simp) (by unfold maxLen;omega) rfl
 have HO2:=hid hown2
 obtain ⟨i0,hi0,hz0,hz1,hz2⟩:=info_parts Yj1
 have Hs0:=hid hs0
 have HBlk0:=hid Hblk
 have HB00:=hid Hb0
 have g0:=HK.out.cell 0
 clear ht hW0 hW2 Hblk Hb0 h02 hb2 hl2 hi2 hr hS hv hk hnc hres hadj hpk hc hown2 hal hs0 p1 p2
 go_enter Tryz.func64,Tryz.ntmps64
 go_wp2
 rw [← HW2.out]
 go_loopw [5,6,7] (fun _ vc vi wr=>∃ (i:Nat) (us:List Value),vi=.int .i64 (i:Int)∧i≤s.length∧Hid (us.length=i∧wr.ownsRow (w.heap.size+1) 26 1 vc us.length us∧(∀ j u,us[j]?=some u→Row w w.heap.size u (adj.getD j []))∧Below W0.heap.size W0 wr)) (fun _ _ vi _=>s.length - (intOf vi).toNat)
 case atStart=>exact ⟨0,[],rfl,Nat.zero_le _,rfl,HO2.out,fun j u h=>by simp at h,H02.out⟩
 case round =>
  obtain ⟨i,us,rfl,hi,HT⟩:=hrel
  clear g0
  have hlt0:w.heap.size<W0.heap.size:=by rw [Hs0.out];omega
  have HBr:=hid (HT.out.2.2.2)
  have HBw:=hid (Z0_ HB00.out (le_refl _) HT.out.2.2.2)
  have r0:=(HBr.out.cell (p:=⟨w.heap.size,0,none⟩) hlt0).trans (HBlk0.out.cell 0)
  have HU1:=hid HT.out.1
  have HU2:=hid HT.out.2.2.1
  have Hown:=hid HT.out.2.1
  have hul:us.length≤64:=by rw [HT.out.1];omega
  clear HT
  by_cases hlt:i<s.length
  ·have hltI:(i:Int)<(s.length:Int):=by omega
   obtain ⟨X,u,as_,al,hA0,hA2,hXl,b1,b2,k1,k2,hru⟩:=Hat.out i hlt
   subst hA0 hA2
   have HRU:=hid hru
   obtain ⟨Au,cu,rfl,_⟩:=hru
   obtain ⟨nu,hnu⟩:∃ nu,(adj.getD i []).length=nu:=⟨_,rfl⟩
   rw [hnu] at HRU k2
   have hXI:(X:Int)<(m.l.length:Int):=by omega
   have g1:=(HBw.out.cell (p:=as_.add i) (by rw [Z2_];exact b1)).trans k1
   have g2:=(HBw.out.cell (p:=al.add X) (by rw [Z2_];exact b2)).trans k2
   have g5:=(HBr.out.cell (p:=⟨w.heap.size,4,none⟩) hlt0).trans (HBlk0.out.cell 4)
   have hw1:IntKind.i64.wrap ((i:Int)+1)=(i:Int)+1:=by rw [IntKind.wrap_i64];omega
   have hsz1:w.heap.size+1≤wr.heap.size:=by rw [← Hs0.out];exact HBr.out.size
   obtain ⟨Ac,cc,rfl⟩:=J1_ Hown.out
   clear k1 k2 b1 b2 hnu
   go_wp2
   go_region_law (refine step_append_lies _ rfl _ _ 22 rfl (w.heap.size+1) 26 i0 (.slice none 0 0) 1 24 (by kernel_rfl) hi0 hz0 hz1 hz2 rfl (by decide) _ us.length us rfl (World.ownsRow.alloc Hown.out _).drew _ 1 1 [.slice Au nu cu] rfl rfl (fun a b h=>by exact Yy5 _ _ _ a b h) (by intro u hu;simp at hu;subst hu;rfl) (by decide) (by unfold maxLen;omega) (by omega) (by simp;omega) _ rfl ?_;intro gg cap w4 hown' hgrow _ _)
   all_goals
    have hz4:W0.heap.size≤(wr.alloc (.cells #[.slice Au nu cu] 26)).drew.heap.size:=by rw [Hs0.out];simp;omega
    have Hb5:Hid (Below W0.heap.size W0 w4):=hid (((HBr.out.alloc HBr.out.size (.cells #[.slice Au nu cu] 26)).drew).grown hgrow hz4 (fun i hi=>by have:=(World.ownsRow.lt Hown.out i hi).1;rw [Hs0.out];exact this))
    have Hown5:Hid (w4.ownsRow (w.heap.size+1) 26 1 (.slice (some ⟨gg,0,none⟩) (us.length+1) cap) (us ++ [Value.slice Au nu cu]).length (us ++ [Value.slice Au nu cu])):=hid (by
     rw [List.length_append]
     exact hown')
    have HU5:Hid (∀ j u,(us ++ [Value.slice Au nu cu])[j]?=some u→Row w w.heap.size u (adj.getD j [])):=hid (by
     intro j u hj
     by_cases hjl:j<us.length
     ·rw [List.getElem?_append_left hjl] at hj
      exact HU2.out j u hj
     ·have:j=us.length:=by
       have:=(List.getElem?_eq_some_iff.1 hj).1
       simp at this
       omega
      subst this
      rw [List.getElem?_append_right (le_refl _)] at hj
      simp at hj
      subst hj
      rw [HU1.out]
      exact HRU.out)
    have HL5:Hid ((us ++ [Value.slice Au nu cu]).length=i+1):=hid (by rw [List.length_append,HU1.out];rfl)
    clear hz4 hgrow hown'
    go_wp2
    go_roundw
    case rel=>exact ⟨i+1,us ++ [.slice Au nu cu],by go_num,by omega,HL5.out,Hown5.out,HU5.out,Hb5.out⟩
    case measure=>simp [intOf];omega
  ·have hie:i=s.length:=by omega
   have hiN:¬ (i:Int)<(s.length:Int):=by omega
   have HRW:=hid (Yi1 (pp:=adj) Hown.out (by rw [HU1.out,Hal.out];exact hie) fun j u hj=>(HU2.out j u hj).up HBw.out)
   obtain ⟨Ac,cc,rfl⟩:=J1_ Hown.out
   have r2:=(HBr.out.cell (p:=⟨w.heap.size,2,none⟩) hlt0).trans (HBlk0.out.cell 2)
   have r3:=(HBr.out.cell (p:=⟨w.heap.size,3,none⟩) hlt0).trans (HBlk0.out.cell 3)
   go_wp2_with fail
   refine (HRk.out _ _ HRW.out).mono ?_
   rintro e w3 ⟨rfl,hb3⟩
   have Hb3:=hid (Z0_ HBw.out (le_refl _) hb3)
   clear hb3 r2 r3 r0
   go_wp2
   go_ret
   exact ⟨rfl,Hb3.out⟩
theorem Xz5 (k:Nat) (m:Mat) (v sv:Value) (s:List Int) (w:World) (hv:MatV w w.heap.size v m) (hc:chk m=0) (hr:Row w w.heap.size sv s) (hS:InN (nN m) s) (ht:m.t<5):Calls Tryz.prog 64 #[v,sv] w (Says w (indB (k+1) m s)):=by
 have htag:=Zf5 hc
 rcases (by omega:m.t=0∨m.t=1∨m.t=2∨m.t=3∨m.t=4) with ht | ht | ht | ht | ht
 ·exact Xu7 k m v sv s w hv hc hr hS ht
 ·exact Xw0 k m v sv s w hv hc hr hS ht
 ·exact Xu9 k m v sv s w hv hc hr hS ht
 ·exact Xu8 k m v sv s w hv hc hr hS ht
 ·exact Xw1 k m v sv s w hv hc hr hS ht
end Wp
end Go.Proofs.YtgadbnbhgpehjaaGreatDoor
