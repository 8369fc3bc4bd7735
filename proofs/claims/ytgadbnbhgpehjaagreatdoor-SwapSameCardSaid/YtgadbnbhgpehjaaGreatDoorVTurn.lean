/- The program's Turn of layer 13; the document's May and Lists; walked (written by gen_vturn.py). -/
import Derived.Test.YtgadbnbhgpehjaaGreatDoorVGraph
import Derived.Test.YtgadbnbhgpehjaaGreatDoorVR13A
import Derived.Test.YtgadbnbhgpehjaaGreatDoorVIndep
import Derived.Test.YtgadbnbhgpehjaaGreatDoorIUnion
set_option maxHeartbeats 8000000
set_option maxRecDepth 100000
open Go.Lib (hid)
namespace Go.Proofs.YtgadbnbhgpehjaaGreatDoor
open Go Go.RowKit
namespace Wp
theorem Zq2 (v:Value) (l:List Int) (b:Bool) (h:mayB l=b) (w:World) (hr:Row w w.heap.size v l):Calls Tryz.prog 39 #[v] w (Says w b):=by
 obtain ⟨_,_,_,⟨h1,h2,_⟩,_⟩:=id hr
 have:=may_any v l w hr (by unfold maxLen at h2;omega)
 rwa [h] at this
theorem Xz6 (vs vp:Value) (s l:List Int) (w:World) (hm:mayB s=true) (hle:(sortL l).length=l.length) (hs:Row w w.heap.size vs s) (hp:Row w w.heap.size vp l) (hsl:s.length≤1000) (hpl:l.length≤1000) :
  Calls Tryz.prog 17 #[vs,vp] w (Gives w (Y2_ (Z7_ s (sortL l)) (Z7_ (sortL l) s))):=by
 have HS:=hid hs
 have HP:=hid hp
 have HM:=hid hm
 obtain ⟨As,cs,rfl,_⟩:=hs
 obtain ⟨Ap,cp,rfl,_⟩:=hp
 clear hm
 go_enter Tryz.func17,Tryz.ntmps17
 go_wp2_with fail
 refine (W5_ _ l _ HP.out (by omega)).mono ?_
 rintro e w1 ⟨v1,rfl,hr1,hb1⟩
 have HR1:=hid hr1
 have HB1:=hid hb1
 obtain ⟨P,hP⟩:∃ P,sortL l=P:=⟨_,rfl⟩
 have HPP:=hid hP
 rw [hP] at HR1 hle
 have hPl:P.length≤1048576:=by omega
 have hsl2:s.length≤1048576:=by omega
 obtain ⟨Aq,cq,rfl,_⟩:=id HR1.out
 have hleI:¬ (P.length:Int)<(l.length:Int):=by omega
 have hleL:P.length≤1048576:=by omega
 clear hr1 hb1 hP hle
 go_wp2_with fail
 refine (Zq2 _ s true HM.out _ (HS.out.up HB1.out)).mono ?_
 rintro e w2 ⟨rfl,hb2⟩
 have HB2:=hid (Z0_ HB1.out (Nat.le_refl _) hb2)
 have HQ2:=hid (HR1.out.up hb2)
 have HS2:=hid (HS.out.up HB2.out)
 clear hb2
 go_wp2_with fail
 refine (E4_ _ _ s P _ HS2.out HQ2.out hsl2 hPl).mono ?_
 rintro e w3 ⟨v3,rfl,hr3,hb3⟩
 have HR3:=hid hr3
 have HB3:=hid (Z0_ HB2.out (Nat.le_refl _) hb3)
 have HQ3:=hid (HQ2.out.up hb3)
 have HS3:=hid (HS2.out.up hb3)
 clear hb3 hr3
 go_wp2_with fail
 refine (E4_ _ _ P s _ HQ3.out HS3.out hPl hsl2).mono ?_
 rintro e w4 ⟨v4,rfl,hr4,hb4⟩
 have HR4:=hid hr4
 have HB4:=hid (Z0_ HB3.out (Nat.le_refl _) hb4)
 have HR34:=hid (HR3.out.up hb4)
 clear hb4 hr4
 have l1:(Z7_ s P).length≤1048576:=Nat.le_trans (Zj7 s P) hsl2
 have l2:(Z7_ P s).length≤1048576:=Nat.le_trans (Zj7 P s) hPl
 go_wp2_with fail
 refine (Zv6 _ _ (Z7_ s P) (Z7_ P s) _ HR34.out HR4.out l1 l2).mono ?_
 rintro e w5 ⟨v5,rfl,hr5,hb5⟩
 have HR5:=hid hr5
 have HB5:=hid (Z0_ HB4.out (Nat.le_refl _) hb5)
 clear hb5 hr5
 go_wp2
 go_ret
 exact ⟨v5,rfl,by rw [HPP.out];exact HR5.out,HB5.out⟩
theorem Yi4 (vs vp:Value) (s l:List Int) (w:World) (hm:mayB s=false∨(mayB s=true∧(sortL l).length≠l.length)) (hs:Row w w.heap.size vs s) (hp:Row w w.heap.size vp l) (_hsl:s.length≤1000) (hpl:l.length≤1000) :
  Calls Tryz.prog 17 #[vs,vp] w (Gives w []):=by
 have HS:=hid hs
 have HP:=hid hp
 obtain ⟨As,cs,rfl,_⟩:=hs
 obtain ⟨Ap,cp,rfl,_⟩:=hp
 obtain ⟨P,hP⟩:∃ P,sortL l=P:=⟨_,rfl⟩
 have HPP:=hid hP
 rw [hP] at hm
 clear hP
 rcases hm with hm | ⟨hm,hne⟩
 ·have HM:=hid hm
  clear hm
  go_enter Tryz.func17,Tryz.ntmps17
  go_wp2_with fail
  refine (W5_ _ l _ HP.out (by omega)).mono ?_
  rintro e w1 ⟨v1,rfl,hr1,hb1⟩
  rw [HPP.out] at hr1
  have HB1:=hid hb1
  obtain ⟨Aq,cq,rfl,_⟩:=hr1
  clear hb1
  go_wp2_with fail
  refine (Zq2 _ s false HM.out _ (HS.out.up HB1.out)).mono ?_
  rintro e w2 ⟨rfl,hb2⟩
  have HB2:=hid (Z0_ HB1.out (Nat.le_refl _) hb2)
  clear hb2
  go_wp2
  go_ret
  exact ⟨_,rfl,Row.nil_ _ _,HB2.out⟩
 ·have HM:=hid hm
  have hneI:(P.length:Int)<(l.length:Int):=by have h:=C4_ l;rw [HPP.out] at h;omega
  clear hm
  go_enter Tryz.func17,Tryz.ntmps17
  go_wp2_with fail
  refine (W5_ _ l _ HP.out (by omega)).mono ?_
  rintro e w1 ⟨v1,rfl,hr1,hb1⟩
  rw [HPP.out] at hr1
  have HB1:=hid hb1
  obtain ⟨Aq,cq,rfl,_⟩:=hr1
  clear hb1
  go_wp2_with fail
  refine (Zq2 _ s true HM.out _ (HS.out.up HB1.out)).mono ?_
  rintro e w2 ⟨rfl,hb2⟩
  have HB2:=hid (Z0_ HB1.out (Nat.le_refl _) hb2)
  clear hb2
  go_wp2
  go_ret
  exact ⟨_,rfl,Row.nil_ _ _,HB2.out⟩
theorem Zc9 (vs vp:Value) (s l:List Int) (w:World) (hs:Row w w.heap.size vs s) (hp:Row w w.heap.size vp l) (hsl:s.length≤1000) (hpl:l.length≤1000) :
  Calls Tryz.prog 17 #[vs,vp] w (Gives w (turnL s l)):=by
 unfold turnL
 by_cases h:mayB s=true∧(sortL l).length=l.length
 ·rw [if_pos h];exact Xz6 vs vp s l w h.1 h.2 hs hp hsl hpl
 ·rw [if_neg h]
  refine Yi4 vs vp s l w ?_ hs hp hsl hpl
  cases hb:mayB s
  ·exact .inl rfl
  ·exact .inr ⟨rfl,fun e=>h ⟨hb,e⟩⟩
theorem Yi5 (va vb:Value) (pp:List (List Int)) (w:World) (ha:Rows2 w w.heap.size va pp) (hb:Rows2 w w.heap.size vb pp) (hl:pp.length≤1000) (hl2:∀ i,i<pp.length→(pp.getD i []).length≤1000) :
  Calls Tryz.prog 15 #[va,vb] w (Says w true):=by
 obtain ⟨Aa,ca,rfl,_,hka⟩:=ha
 obtain ⟨Ab,cb,rfl,_,hkb⟩:=hb
 have Hka:=hid hka
 have Hkb:=hid hkb
 have Hl2:=hid hl2
 have hlI:(pp.length:Int)≤1000:=by omega
 have hne:((pp.length:Int) != (pp.length:Int))=false:=by simp
 clear hka hkb hl2
 go_enter Tryz.func15,Tryz.ntmps15
 go_wp2
 go_loopw [5,6] (fun vi _ wr=>∃ i:Nat,vi=.int .i64 (i:Int)∧i≤pp.length∧Hid (Below w.heap.size w wr)) (fun vi _ _=>pp.length - (intOf vi).toNat)
 case atStart=>exact ⟨0,rfl,Nat.zero_le _,hid (Below.refl _ _)⟩
 case round =>
  obtain ⟨i,rfl,hil,HB⟩:=hrel
  by_cases hlt:i<pp.length
  ·have hltI:(i:Int)<(pp.length:Int):=by omega
   obtain ⟨al,u,hA,halb,hcl,hrl⟩:=Hka.out i hlt
   subst hA
   obtain ⟨bl,u2,hA,hblb,hcl2,hrl2⟩:=Hkb.out i hlt
   subst hA
   have hq:=Hl2.out i hlt
   generalize pp.getD i []=q at *
   have HR1:=hid hrl
   have HR2:=hid hrl2
   obtain ⟨Ar,cr,rfl,_⟩:=hrl
   obtain ⟨Ar2,cr2,rfl,_⟩:=hrl2
   have HK:Hid (∀ W,Below w.heap.size w W→W.cell? (al.add i)=some (.slice Ar q.length cr)∧W.cell? (bl.add i)=some (.slice Ar2 q.length cr2)):=hid fun W hW=>⟨(hW.cell (p:=al.add i) (by rw [Z2_];exact halb)).trans hcl,(hW.cell (p:=bl.add i) (by rw [Z2_];exact hblb)).trans hcl2⟩
   have hneq:((q.length:Int) != (q.length:Int))=false:=by simp
   have hqI:(q.length:Int)≤1000:=by omega
   have hw1:IntKind.i64.wrap ((i:Int)+1)=(i:Int)+1:=by rw [IntKind.wrap_i64];omega
   obtain ⟨g1,g2⟩:=HK.out wr HB.out
   obtain ⟨g3,g4⟩:=HK.out wr.drew HB.out.drew
   clear hcl hcl2
   go_wp2
   go_region
   all_goals
    have HB9:=hid HB.out.drew
    clear g1 g2 g3 g4
    go_wp2
    go_loopw [6] (fun vk wr=>∃ k:Nat,vk=.int .i64 (k:Int)∧k≤q.length∧Hid (Below w.heap.size w wr)) (fun vk _=>q.length - (intOf vk).toNat)
    case atStart=>exact ⟨0,rfl,Nat.zero_le _,HB9⟩
    case round =>
     obtain ⟨k,rfl,hkl,HBk⟩:=hrel
     obtain ⟨g1,g2⟩:=HK.out wr HBk.out
     obtain ⟨g3,g4⟩:=HK.out wr.drew HBk.out.drew
     by_cases hkt:k<q.length
     ·have hktI:(k:Int)<(q.length:Int):=by omega
      obtain ⟨ar,hA,hc1⟩:=Row.nthV HR1.out hkt
      subst hA
      obtain ⟨br,hA,hc2⟩:=Row.nthV HR2.out hkt
      subst hA
      have e1:=hc1 wr HBk.out
      have e2:=hc1 wr.drew HBk.out.drew
      have e3:=hc2 wr HBk.out
      have e4:=hc2 wr.drew HBk.out.drew
      generalize q.getD k 0=z at *
      have hz:(z != z)=false:=by simp
      have hw2:IntKind.i64.wrap ((k:Int)+1)=(k:Int)+1:=by rw [IntKind.wrap_i64];omega
      clear hc1 hc2
      go_wp2
      go_region
      all_goals
       have HBf:=hid HBk.out.drew
       go_wp2
       go_roundw
       case rel=>exact ⟨k+1,by go_num,by omega,HBf⟩
       case measure=>simp [intOf];omega
     ·have hktI:¬ (k:Int)<(q.length:Int):=by omega
      go_wp2
      go_roundw
      case rel=>exact ⟨i+1,by go_num,by omega,HBk⟩
      case measure=>simp [intOf];omega
  ·have hltI:¬ (i:Int)<(pp.length:Int):=by omega
   go_wp2
   go_ret
   exact ⟨rfl,HB.out⟩
end Wp
end Go.Proofs.YtgadbnbhgpehjaaGreatDoor
