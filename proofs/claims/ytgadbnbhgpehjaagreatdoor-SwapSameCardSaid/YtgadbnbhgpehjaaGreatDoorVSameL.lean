/- SwapSame, walked: it answers true (written by gen_vsame.py). -/
import Derived.Test.YtgadbnbhgpehjaaGreatDoorVFix
import Derived.Test.YtgadbnbhgpehjaaGreatDoorZH
import Derived.Test.YtgadbnbhgpehjaaGreatDoorZS
import Derived.Test.YtgadbnbhgpehjaaGreatDoorZO
import Derived.Deep.RegionHeld3
set_option maxHeartbeats 16000000
set_option maxRecDepth 100000
open Go.Lib (hid)
open Nat (le_refl)
namespace Go.Proofs.YtgadbnbhgpehjaaGreatDoor
open Go Go.RowKit
namespace Wp
theorem Xy2 {a b:Mat} {s:List Int} (i:Nat):∃ p:Int,(adjG a b s).getD i []=arcsG a b s p∨(adjG a b s).getD i []=[]:=by
 rcases Nat.lt_or_ge i (nN a) with h | h
 ·exact ⟨(i:Int),.inl (by simp [adjG,upTo,List.getD,h])⟩
 ·exact ⟨0,.inr (by simp [adjG,upTo,List.getD,h])⟩
theorem Xy3 {a b:Mat} {s:List Int} (hn:nN a≤64) (i:Nat):IsSet ((adjG a b s).getD i []):=by
 obtain ⟨p,h | h⟩:=Xy2 (a:=a) (b:=b) (s:=s) i
 ·rw [h];exact (W8_ hn).filter _
 ·rw [h];exact V4_
theorem Yz6 {a b:Mat} {s:List Int} (hn:nN a≤64) (i:Nat):((adjG a b s).getD i []).length≤64:=by
 obtain ⟨p,h | h⟩:=Xy2 (a:=a) (b:=b) (s:=s) i
 ·rw [h]
  refine Nat.le_trans (List.length_filter_le _ _) ?_
  simp [upTo];omega
 ·rw [h];simp
theorem ws_1 (E:Nat→Addr) (m:Mat) (v sw:Value) (s:List Int) (w:World) (hv:MatV w w.heap.size v m) (hl:Lim m) (hrw:Row w w.heap.size sw s) (hE:Env E w) (hf:fewB 9 m 8=false):Calls Tryz.prog 8 #[v,sw] w (Truly w):=by
 have Hf:=hid hf
 clear hf
 have Hl:=hid hl
 obtain ⟨lv,iv,hve,hl2,hi2⟩:=hv.open
 have Hb0:=hid (Z1_ w m lv iv)
 have HV:=hid (hv.up Hb0.out)
 have HE:=hid (hE.up Hb0.out)
 have HW:=hid (hrw.up Hb0.out)
 have Hblk:=hid (Z3_ w m lv iv)
 obtain ⟨Al,cl,rfl,_⟩:=hl2
 obtain ⟨Ai,ci,rfl,_⟩:=hi2
 obtain ⟨Aw,cw,hsw,hcapw,_⟩:=id hrw
 subst hve hsw
 unfold boxed at *
 clear hv hl hE hrw hcapw
 go_enter Tryz.func8,Tryz.ntmps8
 go_wp2_with fail
 refine (E8_ E _ HE.out).mono ?_
 rintro e w1 ⟨rfl,hb1⟩
 replace HE:=hid (HE.out.up hb1)
 replace HV:=hid (HV.out.up hb1)
 replace HW:=hid (HW.out.up hb1)
 replace Hblk:=hid (Hblk.out.below hb1 Hblk.out.lt)
 replace Hb0:=hid (Z0_ Hb0.out (le_refl _) hb1)
 clear hb1
 have k0:=Hblk.out.cell 0
 have k1:=Hblk.out.cell 1
 have k2:=Hblk.out.cell 2
 have k3:=Hblk.out.cell 3
 have k4:=Hblk.out.cell 4
 have k5:=Hblk.out.cell 5
 go_wp2_with fail
 refine (Yz5 m _ 8 _ HV.out Hl.out).mono ?_
 rintro e w2 ⟨rfl,hb2⟩
 rw [Hf.out]
 clear k0 k1 k2 k3 k4 k5
 replace HE:=hid (HE.out.up hb2)
 replace HV:=hid (HV.out.up hb2)
 replace HW:=hid (HW.out.up hb2)
 replace Hblk:=hid (Hblk.out.below hb2 Hblk.out.lt)
 replace Hb0:=hid (Z0_ Hb0.out (le_refl _) hb2)
 clear hb2
 go_wp2_with fail
 refine (E8_ E _ HE.out).mono ?_
 rintro e w3 ⟨rfl,hb3⟩
 replace HE:=hid (HE.out.up hb3)
 replace HV:=hid (HV.out.up hb3)
 replace HW:=hid (HW.out.up hb3)
 replace Hblk:=hid (Hblk.out.below hb3 Hblk.out.lt)
 replace Hb0:=hid (Z0_ Hb0.out (le_refl _) hb3)
 clear hb3
 go_wp2
 go_ret
 exact ⟨rfl,Hb0.out⟩
theorem ws_2 (E:Nat→Addr) (m:Mat) (v sw:Value) (s:List Int) (w:World) (hv:MatV w w.heap.size v m) (hl:Lim m) (hrw:Row w w.heap.size sw s) (hE:Env E w) (hf:fewB 9 m 8=true) (hi:indT m s=false):Calls Tryz.prog 8 #[v,sw] w (Truly w):=by
 have Hf:=hid hf
 have Hi:=hid hi
 clear hf hi
 have Hl:=hid hl
 obtain ⟨lv,iv,hve,hl2,hi2⟩:=hv.open
 have Hb0:=hid (Z1_ w m lv iv)
 have HV:=hid (hv.up Hb0.out)
 have HE:=hid (hE.up Hb0.out)
 have HW:=hid (hrw.up Hb0.out)
 have Hblk:=hid (Z3_ w m lv iv)
 obtain ⟨Al,cl,rfl,_⟩:=hl2
 obtain ⟨Ai,ci,rfl,_⟩:=hi2
 obtain ⟨Aw,cw,hsw,hcapw,_⟩:=id hrw
 subst hve hsw
 unfold boxed at *
 clear hv hl hE hrw hcapw
 go_enter Tryz.func8,Tryz.ntmps8
 go_wp2_with fail
 refine (E8_ E _ HE.out).mono ?_
 rintro e w1 ⟨rfl,hb1⟩
 replace HE:=hid (HE.out.up hb1)
 replace HV:=hid (HV.out.up hb1)
 replace HW:=hid (HW.out.up hb1)
 replace Hblk:=hid (Hblk.out.below hb1 Hblk.out.lt)
 replace Hb0:=hid (Z0_ Hb0.out (le_refl _) hb1)
 clear hb1
 have k0:=Hblk.out.cell 0
 have k1:=Hblk.out.cell 1
 have k2:=Hblk.out.cell 2
 have k3:=Hblk.out.cell 3
 have k4:=Hblk.out.cell 4
 have k5:=Hblk.out.cell 5
 go_wp2_with fail
 refine (Yz5 m _ 8 _ HV.out Hl.out).mono ?_
 rintro e w2 ⟨rfl,hb2⟩
 rw [Hf.out]
 clear k0 k1 k2 k3 k4 k5
 replace HE:=hid (HE.out.up hb2)
 replace HV:=hid (HV.out.up hb2)
 replace HW:=hid (HW.out.up hb2)
 replace Hblk:=hid (Hblk.out.below hb2 Hblk.out.lt)
 replace Hb0:=hid (Z0_ Hb0.out (le_refl _) hb2)
 clear hb2
 have k0:=Hblk.out.cell 0
 have k1:=Hblk.out.cell 1
 have k2:=Hblk.out.cell 2
 have k3:=Hblk.out.cell 3
 have k4:=Hblk.out.cell 4
 have k5:=Hblk.out.cell 5
 go_wp2_with fail
 refine (Zc8 m _ _ s _ HV.out (Yz4 Hf.out) HW.out).mono ?_
 rintro e w3 ⟨rfl,hb3⟩
 rw [Hi.out]
 clear k0 k1 k2 k3 k4 k5
 replace HE:=hid (HE.out.up hb3)
 replace HV:=hid (HV.out.up hb3)
 replace HW:=hid (HW.out.up hb3)
 replace Hblk:=hid (Hblk.out.below hb3 Hblk.out.lt)
 replace Hb0:=hid (Z0_ Hb0.out (le_refl _) hb3)
 clear hb3
 go_wp2_with fail
 refine (E8_ E _ HE.out).mono ?_
 rintro e w4 ⟨rfl,hb4⟩
 replace HE:=hid (HE.out.up hb4)
 replace HV:=hid (HV.out.up hb4)
 replace HW:=hid (HW.out.up hb4)
 replace Hblk:=hid (Hblk.out.below hb4 Hblk.out.lt)
 replace Hb0:=hid (Z0_ Hb0.out (le_refl _) hb4)
 clear hb4
 go_wp2
 go_ret
 exact ⟨rfl,Hb0.out⟩
theorem Xw6 (E:Nat→Addr) (m:Mat) (v sw:Value) (s:List Int) (w:World) (hv:MatV w w.heap.size v m) (hl:Lim m) (hrw:Row w w.heap.size sw s) (hE:Env E w) (hf:fewB 9 m 8=true) (hi:indT m s=true):Calls Tryz.prog 8 #[v,sw] w (Truly w):=by
 have Hf:=hid hf
 have Hi:=hid hi
 have Hs:=hid (Yz4 hf)
 have hC:Common m m s:=⟨rfl,hi,hi⟩
 have hca:=(mayI_iff.1 (D4_ hi)).1
 have hn64:=hC.n64
 have hnn:(nN m:Int)=m.n:=(Z8_ hca).1
 have hsl:=Y3_ hC.set
 obtain ⟨L,hL⟩:∃ L,adjG m m s=L:=⟨_,rfl⟩
 obtain ⟨F,hF⟩:∃ F,addG m s=F:=⟨_,rfl⟩
 obtain ⟨R,hR⟩:∃ R,rankT m (allL m.n)=R:=⟨_,rfl⟩
 have hLl:L.length=nN m:=by rw [← hL];exact Xt4
 have hFl:F.length≤64:=by rw [← hF];exact Nat.le_trans (Y3_ (S4_ hn64)) hn64
 have hsa:=Xf5 hi
 rw [hF,hR] at hsa
 have hLne:((L.length:Int) != m.n)=false:=by rw [hLl,hnn];simp
 have HX:Hid (∀ i k,i<L.length→k<L.length→hasB (L.getD i []) (k:Int)=hasB (L.getD k []) (i:Int)):=hid fun i k hi hk=>by
  rw [hLl] at hi hk
  rw [Bool.eq_iff_iff,← hL,F7_ (Xy3 hn64 i),F7_ (Xy3 hn64 k)]
  exact Yw1 rfl hi hk
 have HrowL:Hid (∀ i,(L.getD i []).length≤64):=hid fun i=>by
  rw [← hL]
  exact Nat.le_trans (Yz6 hn64 i) (le_refl _)
 have hLI:(L.length:Int)≤64:=by omega
 have hG:Hid (∀ (v sv:Value) (W:World),MatV W W.heap.size v m→Row W W.heap.size sv s→Env E W→Calls Tryz.prog 11 #[v,v,sv] W (G6_ W L F F 0)):=hid fun v sv W h1 h2 h3=>by
  rw [← hL,← hF]
  exact S6_ E m m v v sv s W h1 h1 Hs.out Hs.out h2 h3 hC
 have HR:=hid hR
 clear hf hi hC hca hL hF hR hsl hLl
 have Hl:=hid hl
 obtain ⟨lv,iv,hve,hl2,hi2⟩:=hv.open
 have Hb0:=hid (Z1_ w m lv iv)
 have HV:=hid (hv.up Hb0.out)
 have HE:=hid (hE.up Hb0.out)
 have HW:=hid (hrw.up Hb0.out)
 have Hblk:=hid (Z3_ w m lv iv)
 obtain ⟨Al,cl,rfl,_⟩:=hl2
 obtain ⟨Ai,ci,rfl,_⟩:=hi2
 obtain ⟨Aw,cw,hsw,hcapw,_⟩:=id hrw
 subst hve hsw
 unfold boxed at *
 clear hv hl hE hrw hcapw
 go_enter Tryz.func8,Tryz.ntmps8
 go_wp2_with fail
 refine (E8_ E _ HE.out).mono ?_
 rintro e w1 ⟨rfl,hb1⟩
 replace HE:=hid (HE.out.up hb1)
 replace HV:=hid (HV.out.up hb1)
 replace HW:=hid (HW.out.up hb1)
 replace Hblk:=hid (Hblk.out.below hb1 Hblk.out.lt)
 replace Hb0:=hid (Z0_ Hb0.out (le_refl _) hb1)
 clear hb1
 have k0:=Hblk.out.cell 0
 have k1:=Hblk.out.cell 1
 have k2:=Hblk.out.cell 2
 have k3:=Hblk.out.cell 3
 have k4:=Hblk.out.cell 4
 have k5:=Hblk.out.cell 5
 go_wp2_with fail
 refine (Yz5 m _ 8 _ HV.out Hl.out).mono ?_
 rintro e w2 ⟨rfl,hb2⟩
 rw [Hf.out]
 clear k0 k1 k2 k3 k4 k5
 replace HE:=hid (HE.out.up hb2)
 replace HV:=hid (HV.out.up hb2)
 replace HW:=hid (HW.out.up hb2)
 replace Hblk:=hid (Hblk.out.below hb2 Hblk.out.lt)
 replace Hb0:=hid (Z0_ Hb0.out (le_refl _) hb2)
 clear hb2
 have k0:=Hblk.out.cell 0
 have k1:=Hblk.out.cell 1
 have k2:=Hblk.out.cell 2
 have k3:=Hblk.out.cell 3
 have k4:=Hblk.out.cell 4
 have k5:=Hblk.out.cell 5
 go_wp2_with fail
 refine (Zc8 m _ _ s _ HV.out (Yz4 Hf.out) HW.out).mono ?_
 rintro e w3 ⟨rfl,hb3⟩
 rw [Hi.out]
 clear k0 k1 k2 k3 k4 k5
 replace HE:=hid (HE.out.up hb3)
 replace HV:=hid (HV.out.up hb3)
 replace HW:=hid (HW.out.up hb3)
 replace Hblk:=hid (Hblk.out.below hb3 Hblk.out.lt)
 replace Hb0:=hid (Z0_ Hb0.out (le_refl _) hb3)
 clear hb3
 have k0:=Hblk.out.cell 0
 have k1:=Hblk.out.cell 1
 have k2:=Hblk.out.cell 2
 have k3:=Hblk.out.cell 3
 have k4:=Hblk.out.cell 4
 have k5:=Hblk.out.cell 5
 go_wp2_with fail
 refine (hG.out _ _ _ HV.out HW.out HE.out).mono ?_
 rintro e w5 ⟨va,vf,vt,rfl,hadj,hf,ht,hb5⟩
 clear k0 k1 k2 k3 k4 k5 hG
 replace HE:=hid (HE.out.up hb5)
 replace HV:=hid (HV.out.up hb5)
 replace HW:=hid (HW.out.up hb5)
 replace Hblk:=hid (Hblk.out.below hb5 Hblk.out.lt)
 replace Hb0:=hid (Z0_ Hb0.out (le_refl _) hb5)
 clear hb5
 have HA5:=hid hadj
 have HF5:=hid hf
 have HT5:=hid ht
 obtain ⟨Aj,cj,rfl,_,_⟩:=hadj
 obtain ⟨Af,cf,rfl,_⟩:=hf
 clear ht
 have k0:=Hblk.out.cell 0
 have k1:=Hblk.out.cell 1
 have k2:=Hblk.out.cell 2
 have k3:=Hblk.out.cell 3
 have k4:=Hblk.out.cell 4
 have k5:=Hblk.out.cell 5
 go_wp2_with fail
 refine (cS _ _ F _ HF5.out HT5.out (by omega)).mono ?_
 rintro e w6 ⟨rfl,hb6⟩
 have HA6:=hid (HA5.out.up hb6)
 clear k0 k1 k2 k3 k4 k5 HT5 HA5 HF5
 replace HE:=hid (HE.out.up hb6)
 replace HV:=hid (HV.out.up hb6)
 replace HW:=hid (HW.out.up hb6)
 replace Hblk:=hid (Hblk.out.below hb6 Hblk.out.lt)
 replace Hb0:=hid (Z0_ Hb0.out (le_refl _) hb6)
 clear hb6
 have k0:=Hblk.out.cell 0
 have k1:=Hblk.out.cell 1
 have k2:=Hblk.out.cell 2
 have k3:=Hblk.out.cell 3
 have k4:=Hblk.out.cell 4
 have k5:=Hblk.out.cell 5
 go_wp2
 clear k0 k1 k2 k3 k4 k5
 go_loopw [9,10] (fun vi _ wr=>∃ i:Nat,vi=.int .i64 (i:Int)∧i≤L.length∧Hid (Below w6.heap.size w6 wr)) (fun vi _ _=>L.length - (intOf vi).toNat)
 case atStart=>exact ⟨0,rfl,Nat.zero_le _,hid (Below.refl _ _)⟩
 case round =>
  obtain ⟨i,rfl,hil,HB1⟩:=hrel
  by_cases hlt:i<L.length
  ·have hltI:(i:Int)<(L.length:Int):=by omega
   have hw1:IntKind.i64.wrap ((i:Int)+1)=(i:Int)+1:=by rw [IntKind.wrap_i64];omega
   go_wp2
   go_loopw [10] (fun vk wr=>∃ k:Nat,vk=.int .i64 (k:Int)∧k≤L.length∧Hid (Below w6.heap.size w6 wr)) (fun vk _=>L.length - (intOf vk).toNat)
   case atStart=>exact ⟨0,rfl,Nat.zero_le _,HB1⟩
   case round =>
    obtain ⟨k,rfl,hkl,HBk⟩:=hrel
    clear HB1
    by_cases hkt:k<L.length
    ·have hktI:(k:Int)<(L.length:Int):=by omega
     have hw2:IntKind.i64.wrap ((k:Int)+1)=(k:Int)+1:=by rw [IntKind.wrap_i64];omega
     obtain ⟨_,_,he,_,hk6⟩:=id HA6.out
     obtain ⟨al,u1,hA,halb,hc1,hr1⟩:=hk6 i hlt
     obtain ⟨al2,u2,hA2,_,hc2,hr2⟩:=hk6 k hkt
     have he1:=(Value.slice.inj he).1
     subst he1
     clear he
     rw [hA] at hA2
     obtain rfl:=Option.some.inj hA2
     subst hA
     have hx1:=HX.out i k hlt hkt
     obtain ⟨X,hX⟩:∃ X:Bool,hasB (L.getD i []) (k:Int)=X:=⟨_,rfl⟩
     rw [hX] at hx1
     have hXX:(X != X)=false:=by simp
     have HC1:Hid (∀ W,Below w6.heap.size w6 W→Calls Tryz.prog 28 #[u1,.int .i64 (k:Int)] W (Says W X)):=hid fun W hW=>by
      rw [← hX]
      exact Zc1 _ _ _ W (hr1.up hW) (by have:=HrowL.out i;omega)
     have HC2:Hid (∀ W,Below w6.heap.size w6 W→Calls Tryz.prog 28 #[u2,.int .i64 (i:Int)] W (Says W X)):=hid fun W hW=>by
      rw [hx1]
      exact Zc1 _ _ _ W (hr2.up hW) (by have:=HrowL.out k;omega)
     have HCg:Hid (∀ (u:Value) (z:Int) (W:World),(u=u1∧z=(k:Int))∨(u=u2∧z=(i:Int))→Below w6.heap.size w6 W→Calls Tryz.prog 28 #[u,.int .i64 z] W (Says W X)):=hid fun u z W h hW=>by
      rcases h with ⟨rfl,rfl⟩ | ⟨rfl,rfl⟩
      ·exact HC1.out W hW
      ·exact HC2.out W hW
     have HK:Hid (∀ W,Below wr.drew.heap.size wr.drew W→Below w6.heap.size w6 W):=hid fun W hW=>Z0_ HBk.out.drew (le_refl _) hW
     have HKc:Hid (∀ W,Below wr.drew.heap.size wr.drew W→W.cell? (al.add i)=some u1∧W.cell? (al.add k)=some u2):=hid fun W hW=>⟨((HK.out W hW).cell (p:=al.add i) (by rw [Z2_];exact halb)).trans hc1,((HK.out W hW).cell (p:=al.add k) (by rw [Z2_];exact halb)).trans hc2⟩
     have HB:Hid (Below wr.drew.heap.size wr.drew wr.drew):=hid (Below.refl _ _)
     clear hc1 hc2 hr1 hr2 hk6 hX hx1 HC1 HC2
     go_wp2
     go_region_held3 (fun W=>W.cell? (al.add i)=some u1∧W.cell? (al.add k)=some u2)
      (exact HKc.out _ HB.out)
      ((go_at_call 28;refine (HCg.out _ _ _ (by first | exact .inl ⟨rfl,rfl⟩ | exact .inr ⟨rfl,rfl⟩) (HK.out _ HB.out)).mono ?_;rintro e w11 ⟨rfl,hb11⟩;replace HB:=hid (Z0_ HB.out (le_refl _) hb11);clear hb11))
     all_goals
      go_simp
      have HB9:=hid (HK.out _ HB.out)
      go_wp2
      go_roundw
      case rel=>exact ⟨k+1,by go_num,by omega,HB9⟩
      case measure=>simp [intOf];omega
    ·have hktI:¬ (k:Int)<(L.length:Int):=by omega
     go_wp2
     go_roundw
     case rel=>exact ⟨i+1,by go_num,by omega,HBk⟩
     case measure=>simp [intOf];omega
  ·have hltI:¬ (i:Int)<(L.length:Int):=by omega
   have HK:Hid (∀ W,Below wr.drew.heap.size wr.drew W→Below w6.heap.size w6 W):=hid fun W hW=>Z0_ HB1.out.drew (le_refl _) hW
   have HKc:Hid (∀ W,Below wr.drew.heap.size wr.drew W→W.cell? ⟨w.heap.size,0,none⟩=some (.int .i64 m.t)∧W.cell? ⟨w.heap.size,1,none⟩=some (.int .i64 m.n)∧W.cell? ⟨w.heap.size,2,none⟩=some (.int .i64 m.a)∧W.cell? ⟨w.heap.size,3,none⟩=some (.int .i64 m.b)∧W.cell? ⟨w.heap.size,4,none⟩=some (.slice Al m.l.length cl)∧W.cell? ⟨w.heap.size,5,none⟩=some (.slice Ai m.i.length ci)):=hid fun W hW=>by
    have hb:=Hblk.out.below (HK.out W hW) Hblk.out.lt
    exact ⟨hb.cell 0,hb.cell 1,hb.cell 2,hb.cell 3,hb.cell 4,hb.cell 5⟩
   have HB:Hid (Below wr.drew.heap.size wr.drew wr.drew):=hid (Below.refl _ _)
   have HAll:Hid (∀ W,Calls Tryz.prog 25 #[.int .i64 m.n] W (Gives W (allL m.n))):=hid fun W=>L4_ m.n W
   by_cases hp:0<F.length
   ·have hp1:(0:Int)<(F.length:Int):=by omega
    have hp2:(s.length:Int)<R:=hsa.1 hp
    have hp3:F≠[]:=by intro e;rw [e] at hp;exact absurd hp (by decide)
    have hp4:(F.length:Int) > 0:=hp1
    clear hsa
    go_wp2
    go_region_held3 (fun W=>W.cell? ⟨w.heap.size,0,none⟩=some (.int .i64 m.t)∧W.cell? ⟨w.heap.size,1,none⟩=some (.int .i64 m.n)∧W.cell? ⟨w.heap.size,2,none⟩=some (.int .i64 m.a)∧W.cell? ⟨w.heap.size,3,none⟩=some (.int .i64 m.b)∧W.cell? ⟨w.heap.size,4,none⟩=some (.slice Al m.l.length cl)∧W.cell? ⟨w.heap.size,5,none⟩=some (.slice Ai m.i.length ci))
     (exact HKc.out _ HB.out)
     (first
     | (go_at_call 25;refine (HAll.out _).mono ?_;rintro e w11 ⟨vr,rfl,hr11,hb11⟩;have HRA:=hid hr11;replace HB:=hid (Z0_ HB.out (le_refl _) hb11);clear hb11 hr11)
     | (go_at_call 26;refine (Zo3 m _ _ (allL m.n) _ (HV.out.up (HK.out _ HB.out)) Hs.out HRA.out).mono ?_;rintro e w12 ⟨rfl,hb12⟩;rw [HR.out];replace HB:=hid (Z0_ HB.out (le_refl _) hb12);clear hb12))
    all_goals
     go_simp
     have HB9:=hid (Z0_ Hb0.out (le_refl _) (HK.out _ HB.out))
     go_wp2
     go_ret
     first
     | exact ⟨rfl,HB9.out⟩
     | (refine ⟨?_,HB9.out⟩;show Ending.returned (.bool (!decide ((s.length:Int)<R)))=_;rw [decide_eq_false (by omega)];rfl)
   ·have hp0:F=[]:=by
     cases F with
     | nil=>rfl
     | cons a l=>exact absurd (by simp) hp
    have hp2:¬ (s.length:Int)<R:=fun h=>hp (hsa.2 h)
    subst hp0
    clear hsa
    go_wp2
    go_region_held3 (fun W=>W.cell? ⟨w.heap.size,0,none⟩=some (.int .i64 m.t)∧W.cell? ⟨w.heap.size,1,none⟩=some (.int .i64 m.n)∧W.cell? ⟨w.heap.size,2,none⟩=some (.int .i64 m.a)∧W.cell? ⟨w.heap.size,3,none⟩=some (.int .i64 m.b)∧W.cell? ⟨w.heap.size,4,none⟩=some (.slice Al m.l.length cl)∧W.cell? ⟨w.heap.size,5,none⟩=some (.slice Ai m.i.length ci))
     (exact HKc.out _ HB.out)
     (first
     | (go_at_call 25;refine (HAll.out _).mono ?_;rintro e w11 ⟨vr,rfl,hr11,hb11⟩;have HRA:=hid hr11;replace HB:=hid (Z0_ HB.out (le_refl _) hb11);clear hb11 hr11)
     | (go_at_call 26;refine (Zo3 m _ _ (allL m.n) _ (HV.out.up (HK.out _ HB.out)) Hs.out HRA.out).mono ?_;rintro e w12 ⟨rfl,hb12⟩;rw [HR.out];replace HB:=hid (Z0_ HB.out (le_refl _) hb12);clear hb12))
    all_goals
     go_simp
     have HB9:=hid (Z0_ Hb0.out (le_refl _) (HK.out _ HB.out))
     go_wp2
     go_ret
     first
     | exact ⟨rfl,HB9.out⟩
     | (refine ⟨?_,HB9.out⟩;show Ending.returned (.bool (!decide ((s.length:Int)<R)))=_;rw [decide_eq_false (by omega)];rfl)
theorem SwapSame_any (E:Nat→Addr) (m:Mat) (v sw:Value) (s:List Int) (w:World) (hv:MatV w w.heap.size v m) (hl:Lim m) (hrw:Row w w.heap.size sw s) (hE:Env E w):Calls Tryz.prog 8 #[v,sw] w (Truly w):=by
 cases hf:fewB 9 m 8 with
 | false=>exact ws_1 E m v sw s w hv hl hrw hE hf
 | true =>
  cases hi:indT m s with
  | false=>exact ws_2 E m v sw s w hv hl hrw hE hf hi
  | true=>exact Xw6 E m v sw s w hv hl hrw hE hf hi
end Wp
end Go.Proofs.YtgadbnbhgpehjaaGreatDoor
