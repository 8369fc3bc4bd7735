/- Closing steps that stand often, by their scripts (in walks). -/
import Derived.BigQuiet
import Derived.Laws.AppendOwnNone
import Derived.Lib.Hide
import Derived.Lib.OwnBridge
import Derived.Maps.AppendAt
import Derived.WalkKit
import Derived.Test.YtigobiacbficaaaGreatDoorProg
namespace Go.Proofs.YtigobiacbficaaaGreatDoor.Wp
variable {P:Prop}
theorem q0_ (h:P:=by
 rw [e]
 try clear ha
 try clear hb
 try clear hf
 try clear hl
 clear e
 go_enter Tryz.func151,Tryz.ntmps151
 go_wp2
 all_goals (go_ret;exact ⟨rfl,Hb.out⟩)):P:=h
theorem x0_ (h:P:=by
 have Hf:=hid hf
 have Hs:=hid (Xt9 hf)
 clear hf
 have Hl:=hid hl
 obtain ⟨lv,iv,hve,hl2,hi2⟩:=hv.open
 have Hb0:=hid (Z1_ w m lv iv)
 have HV:=hid (hv.up Hb0.out)
 have HE:=hid (hE.up Hb0.out)
 have Hblk:=hid (Z4_ w m lv iv)
 obtain ⟨Al,cl,rfl,-⟩:=hl2
 obtain ⟨Ai,ci,rfl,-⟩:=hi2
 subst hve
 obtain ⟨X,hX⟩:∃ X,boxed w m (.slice Al m.l.length cl) (.slice Ai m.i.length ci)=X:=⟨_,rfl⟩
 rw [hX] at Hb0 HV HE Hblk
 have HX:=hid hX
 unfold boxed at HX
 clear hv hE hX hl
 have c0:=Hblk.out.cell 0
 have c1:=Hblk.out.cell 1
 have c2:=Hblk.out.cell 2
 have c3:=Hblk.out.cell 3
 have c4:=Hblk.out.cell 4
 have c5:=Hblk.out.cell 5
 go_enter Tryz.func3,Tryz.ntmps3
 go_wp2_with fail
 rw [HX.out]
 refine (Zw9 m _ 6 _ HV.out Hl.out).mono ?_
 rintro e w1 ⟨rfl,hb1⟩
 rw [Hf.out]
 clear HX
 clear c0 c1 c2 c3 c4 c5
 replace HE:=hid (HE.out.up hb1)
 replace HV:=hid (HV.out.up hb1)
 replace Hblk:=hid (Hblk.out.below hb1 Hblk.out.lt)
 replace Hb0:=hid (Z0_ Hb0.out (le_refl _) hb1)
 clear hb1
 have c0:=Hblk.out.cell 0
 have c1:=Hblk.out.cell 1
 have c2:=Hblk.out.cell 2
 have c3:=Hblk.out.cell 3
 have c4:=Hblk.out.cell 4
 have c5:=Hblk.out.cell 5
 go_wp2_with fail
 refine (Vk1 E m _ k _ HV.out Hs.out HE.out).mono ?_
 rintro e w2 ⟨vl2,vu2,P2,Q2,x2,rfl,hl2,hu2,hb2,ht2⟩
 have HL2:=hid hl2
 have HU2:=hid hu2
 have HT2:=hid ht2
 clear c0 c1 c2 c3 c4 c5
 replace HE:=hid (HE.out.up hb2)
 replace HV:=hid (HV.out.up hb2)
 replace Hblk:=hid (Hblk.out.below hb2 Hblk.out.lt)
 replace Hb0:=hid (Z0_ Hb0.out (le_refl _) hb2)
 clear hb2 hl2 hu2 ht2
 have c0:=Hblk.out.cell 0
 have c1:=Hblk.out.cell 1
 have c2:=Hblk.out.cell 2
 have c3:=Hblk.out.cell 3
 have c4:=Hblk.out.cell 4
 have c5:=Hblk.out.cell 5
 go_wp2_with fail
 refine (Vk2 E m _ k _ HV.out Hs.out HE.out).mono ?_
 rintro e w3 ⟨vl3,vu3,P3,Q3,x3,rfl,hl3,hu3,hb3,ht3⟩
 have HL3:=hid hl3
 have HU3:=hid hu3
 have HT3:=hid ht3
 clear c0 c1 c2 c3 c4 c5
 replace HE:=hid (HE.out.up hb3)
 replace HV:=hid (HV.out.up hb3)
 replace Hblk:=hid (Hblk.out.below hb3 Hblk.out.lt)
 replace Hb0:=hid (Z0_ Hb0.out (le_refl _) hb3)
 replace HL2:=hid (HL2.out.up hb3)
 replace HU2:=hid (HU2.out.up hb3)
 obtain ⟨rfl,rfl,rfl⟩:=I1_ HT2.out ht3
 clear hb3 hl3 hu3 ht3 HT3
 have c0:=Hblk.out.cell 0
 have c1:=Hblk.out.cell 1
 have c2:=Hblk.out.cell 2
 have c3:=Hblk.out.cell 3
 have c4:=Hblk.out.cell 4
 have c5:=Hblk.out.cell 5
 go_wp2_with fail
 refine (Xu1 E m _ k _ HV.out Hs.out HE.out).mono ?_
 rintro e w4 ⟨vl4,vu4,P4,Q4,x4,rfl,hl4,hu4,hb4,ht4⟩
 have HL4:=hid hl4
 have HU4:=hid hu4
 have HT4:=hid ht4
 clear c0 c1 c2 c3 c4 c5
 replace HE:=hid (HE.out.up hb4)
 replace HV:=hid (HV.out.up hb4)
 replace Hblk:=hid (Hblk.out.below hb4 Hblk.out.lt)
 replace Hb0:=hid (Z0_ Hb0.out (le_refl _) hb4)
 replace HL2:=hid (HL2.out.up hb4)
 replace HU2:=hid (HU2.out.up hb4)
 replace HL3:=hid (HL3.out.up hb4)
 replace HU3:=hid (HU3.out.up hb4)
 clear hb4 hl4 hu4 ht4
 have c0:=Hblk.out.cell 0
 have c1:=Hblk.out.cell 1
 have c2:=Hblk.out.cell 2
 have c3:=Hblk.out.cell 3
 have c4:=Hblk.out.cell 4
 have c5:=Hblk.out.cell 5
 go_wp2_with fail
 refine (Xu2 E m _ k _ HV.out Hs.out HE.out).mono ?_
 rintro e w5 ⟨vl5,vu5,P5,Q5,x5,rfl,hl5,hu5,hb5,ht5⟩
 have HL5:=hid hl5
 have HU5:=hid hu5
 have HT5:=hid ht5
 clear c0 c1 c2 c3 c4 c5
 replace HE:=hid (HE.out.up hb5)
 replace HV:=hid (HV.out.up hb5)
 replace Hblk:=hid (Hblk.out.below hb5 Hblk.out.lt)
 replace Hb0:=hid (Z0_ Hb0.out (le_refl _) hb5)
 replace HL2:=hid (HL2.out.up hb5)
 replace HU2:=hid (HU2.out.up hb5)
 replace HL3:=hid (HL3.out.up hb5)
 replace HU3:=hid (HU3.out.up hb5)
 replace HL4:=hid (HL4.out.up hb5)
 replace HU4:=hid (HU4.out.up hb5)
 obtain ⟨rfl,rfl,rfl⟩:=I1_ HT4.out ht5
 clear hb5 hl5 hu5 ht5 HT5
 have HS2:=hid (N0_ HT2.out)
 have HS4:=hid (N0_ HT4.out)
 clear HT2 HT4
 go_wp2_with fail
 refine (M3_ E _ HE.out).mono ?_
 rintro e w6 ⟨rfl,hb6⟩
 replace HL2:=hid (HL2.out.up hb6)
 replace HU2:=hid (HU2.out.up hb6)
 replace HL3:=hid (HL3.out.up hb6)
 replace HU3:=hid (HU3.out.up hb6)
 replace HL4:=hid (HL4.out.up hb6)
 replace HU4:=hid (HU4.out.up hb6)
 replace HL5:=hid (HL5.out.up hb6)
 replace HU5:=hid (HU5.out.up hb6)
 replace Hb0:=hid (Z0_ Hb0.out (le_refl _) hb6)
 clear hb6 HV HE Hblk
 go_wp2_with fail
 refine (M9_ _ _ _ _ HL2.out HL3.out HS2.out.1 HS2.out.2.1).mono ?_
 rintro e w7 ⟨rfl,hb7⟩
 replace HL2:=hid (HL2.out.up hb7)
 replace HU2:=hid (HU2.out.up hb7)
 replace HL3:=hid (HL3.out.up hb7)
 replace HU3:=hid (HU3.out.up hb7)
 replace HL4:=hid (HL4.out.up hb7)
 replace HU4:=hid (HU4.out.up hb7)
 replace HL5:=hid (HL5.out.up hb7)
 replace HU5:=hid (HU5.out.up hb7)
 replace Hb0:=hid (Z0_ Hb0.out (le_refl _) hb7)
 clear hb7
 go_wp2_with fail
 refine (Yz0 _ _ _ _ HU2.out HU3.out HS2.out.2.2).mono ?_
 rintro e w8 ⟨rfl,hb8⟩
 replace HL4:=hid (HL4.out.up hb8)
 replace HU4:=hid (HU4.out.up hb8)
 replace HL5:=hid (HL5.out.up hb8)
 replace HU5:=hid (HU5.out.up hb8)
 replace Hb0:=hid (Z0_ Hb0.out (le_refl _) hb8)
 clear hb8
 go_wp2_with fail
 refine (M9_ _ _ _ _ HL4.out HL5.out HS4.out.1 HS4.out.2.1).mono ?_
 rintro e w9 ⟨rfl,hb9⟩
 replace HL4:=hid (HL4.out.up hb9)
 replace HU4:=hid (HU4.out.up hb9)
 replace HL5:=hid (HL5.out.up hb9)
 replace HU5:=hid (HU5.out.up hb9)
 replace Hb0:=hid (Z0_ Hb0.out (le_refl _) hb9)
 clear hb9
 go_wp2_with fail
 refine (Yz0 _ _ _ _ HU4.out HU5.out HS4.out.2.2).mono ?_
 rintro e w10 ⟨rfl,hb10⟩
 replace Hb0:=hid (Z0_ Hb0.out (le_refl _) hb10)
 clear hb10
 go_wp2
 go_ret
 exact ⟨rfl,Hb0.out⟩):P:=h
theorem y0_ (h:P:=by
 go_wp2
 go_loopw [5,7] (fun vn vi wr=>∃ (N i:Nat),vn=.int .i64 N∧vi=.int .i64 i∧i≤m.i.length∧N=addF (sz k) (rs m) (m.i.take i)∧Blk wr w.heap.size 25 #[.int .i64 m.t,.int .i64 m.n,.int .i64 m.a,.int .i64 m.b,.slice Al m.l.length cl,.slice Ai m.i.length ci]∧Below w.heap.size w wr) (fun _ vi _=>m.i.length - (intOf vi).toNat)
 case atStart=>exact ⟨rs m,0,by rw [HN.out],rfl,Nat.zero_le _,rfl,Hblk.out,Hb0.out⟩
 case round =>
  obtain ⟨N2,i,rfl,rfl,hi,hN2,hblk,hbr⟩:=hrel
  have Hblk2:=hid hblk
  have Hbr:=hid hbr
  have HN2:=hid hN2
  have c5:=hblk.cell 5
  clear hblk hbr hN2
  by_cases hlt:i<m.i.length
  ·have hltI:(i:Int)<(m.i.length:Int):=by omega
   by_cases hN:N2<10000
   ·have hNI:(N2:Int)<10000:=by omega
    obtain ⟨ad,u,hA,hab,hsix,hmv⟩:=Hik.out i hlt
    subst hA
    have hsix1:=hsix.below Hbr.out (by rw [Z2_];exact hab)
    have hmv1:=(hmv.bel Hbr.out).mono Hbr.out.size
    have hx:=lim_x Hs.out _ (Y4_ m.i i default hlt)
    have hD:=sz_le k _ hx
    have Hcall:=hid (Ih.out (m.i.getD i default) u wr hmv1 hx)
    have Hnext:Hid (N2+sz k (m.i.getD i default)=addF (sz k) (rs m) (m.i.take (i+1))):=by
     show _=_
     rw [F0_ default hlt,← HN2.out]
     exact (if_pos hN).symm
    obtain ⟨x0,x1,x2,x3,x4,x5,rfl,s0,s1,s2,s3,s4,s5⟩:=hsix1
    obtain ⟨D,hDD⟩:∃ D,sz k (m.i.getD i default)=D:=⟨_,rfl⟩
    rw [hDD] at Hcall Hnext hD
    have hDI:(D:Int)≤140737489000000:=by omega
    clear hsix hmv hmv1 hx hDD hD
    go_wp2_with fail
    refine (Hcall.out).mono ?_
    rintro e w1 ⟨rfl,hb1⟩
    have Hb1:=hid (Z0_ Hbr.out (le_refl _) hb1)
    have Hblk3:=hid (Hblk2.out.below hb1 (by have:=Hblk2.out.lt;exact this))
    clear hb1
    go_wp2
    go_roundw
    case rel=>exact ⟨N2+D,i+1,by go_num,by go_num,by omega,Hnext.out,Hblk3.out,Hb1.out⟩
    case measure=>simp [intOf];omega
   ·have hNI:(10000:Int)≤(N2:Int):=by omega
    have Hend:Hid (N2=sz (k+1) m):=by
     show _=_
     rw [HN2.out]
     exact F1_ (by rw [← HN2.out];omega)
    go_wp2
    go_ret
    exact ⟨by rw [← Hend.out];rfl,Hbr.out⟩
  ·have hie:i=m.i.length:=by omega
   subst hie
   have Hend:Hid (N2=sz (k+1) m):=by
    show _=_
    rw [HN2.out,I0_]
    rfl
   go_wp2
   go_ret
   exact ⟨by rw [← Hend.out];rfl,Hbr.out⟩):P:=h
theorem j0_ (h:P:=by
 go_enter Tryz.func50,Tryz.ntmps50
 go_wp2_with fail
 refine (X2_ m.t _).mono ?_
 rintro e w1 ⟨rfl,hb1⟩
 rw [decide_eq_true Hn.out]
 have Hb1:=hid (Z0_ Hb0.out (le_refl _) hb1)
 have Hv1:=hid (Hv.out.up hb1)
 have Hl1:=hid (Hl.out.up hb1)
 have Hblk1:=hid (Hblk.out.below hb1 Hblk.out.lt)
 have k1:=Hblk1.out.cell
 have d0:=k1 0
 have d1:=k1 1
 have d2:=k1 2
 have d3:=k1 3
 have d4:=k1 4
 have d5:=k1 5
 clear k1 hb1 g0 g1 g2 g3 g4 g5 a3 a4 a5 a6 Hb0 Hv Hl Hblk
 go_wp2
 go_ret
 exact ⟨rfl,Hb1.out⟩):P:=h
theorem k0_ (h:P:=by
 go_wp2
 go_loopw [5,7] (fun vn vi wr=>∃ (N i:Nat),vn=.int .i64 N∧vi=.int .i64 i∧i≤m.i.length∧N=addF (fun _:Mat=>10000) (rs m) (m.i.take i)∧Blk wr w.heap.size 25 #[.int .i64 m.t,.int .i64 m.n,.int .i64 m.a,.int .i64 m.b,.slice Al m.l.length cl,.slice Ai m.i.length ci]∧Below w.heap.size w wr) (fun _ vi _=>m.i.length - (intOf vi).toNat)
 case atStart=>exact ⟨rs m,0,by rw [HN.out],rfl,Nat.zero_le _,rfl,Hblk.out,Hb0.out⟩
 case round =>
  obtain ⟨N2,i,rfl,rfl,hi,hN2,hblk,hbr⟩:=hrel
  have Hblk2:=hid hblk
  have Hbr:=hid hbr
  have HN2:=hid hN2
  have c5:=hblk.cell 5
  clear hblk hbr hN2
  by_cases hlt:i<m.i.length
  ·have hltI:(i:Int)<(m.i.length:Int):=by omega
   by_cases hN:N2<10000
   ·have hNI:(N2:Int)<10000:=by omega
    have Hnext:Hid (N2+10000=addF (fun _:Mat=>10000) (rs m) (m.i.take (i+1))):=by
     show _=_
     rw [F0_ default hlt,← HN2.out]
     exact (if_pos hN).symm
    go_wp2
    go_roundw
    case rel=>exact ⟨N2+10000,i+1,by go_num,by go_num,by omega,Hnext.out,Hblk2.out,Hbr.out⟩
    case measure=>simp [intOf];omega
   ·have hNI:(10000:Int)≤(N2:Int):=by omega
    have Hend:Hid (N2=sz 0 m):=by
     show _=_
     rw [HN2.out]
     exact F1_ (by rw [← HN2.out];omega)
    go_wp2
    go_ret
    exact ⟨by rw [← Hend.out];rfl,Hbr.out⟩
  ·have hie:i=m.i.length:=by omega
   subst hie
   have Hend:Hid (N2=sz 0 m):=by
    show _=_
    rw [HN2.out,I0_]
    rfl
   go_wp2
   go_ret
   exact ⟨by rw [← Hend.out];rfl,Hbr.out⟩):P:=h
theorem q1_ (h:P:=by
 go_enter Tryz.func50,Tryz.ntmps50
 go_wp2_with fail
 refine (X2_ m.t _).mono ?_
 rintro e w1 ⟨rfl,hb1⟩
 rw [decide_eq_true Hn.out]
 have Hb1:=hid (Z0_ Hb0.out (le_refl _) hb1)
 have Hv1:=hid (Hv.out.up hb1)
 have Hl1:=hid (Hl.out.up hb1)
 have Hblk1:=hid (Hblk.out.below hb1 Hblk.out.lt)
 have k1:=Hblk1.out.cell
 have d0:=k1 0
 have d1:=k1 1
 have d2:=k1 2
 have d3:=k1 3
 have d4:=k1 4
 have d5:=k1 5
 clear k1 hb1 g0 g1 g2 g3 g4 g5 a3 a4 a5 a6 Hb0 Hv Hl Hblk
 go_wp2_with fail
 refine (Hsum.out _ _ Hv1.out).mono ?_
 rintro e w2 ⟨rfl,hb2⟩
 have Hb2:=hid (Z0_ Hb1.out (le_refl _) hb2)
 have Hl2:=hid (Hl1.out.up hb2)
 have Hblk2:=hid (Hblk1.out.below hb2 Hblk1.out.lt)
 clear hb2 d0 d1 d2 d3 d4 d5 e1 e2 e4 e5 e6
 have k2:=Hblk2.out.cell
 have d0:=k2 0
 have d1:=k2 1
 have d4:=k2 4
 clear k2
 go_wp2
 go_ret
 exact ⟨rfl,Hb2.out⟩):P:=h
theorem x1_ (h:P:=by
 obtain ⟨k,rfl,hk,hown,hbr⟩:=hrel
 clear hown0
 by_cases hlt:k<s.length
 ·have hltI:(k:Int)<(s.length:Int):=by omega
  have hx:=Hs.out k hlt
  obtain ⟨as_,hA,hasb,hcs⟩:=Hsk.out k hlt
  subst hA
  have gs:=(hbr.cell (p:=as_.add k) (by rw [Z2_];exact hasb)).trans hcs
  have hmo:=Yq2 (f:=f) (n:=n) hlt
  have hbl:=Zf1 (s.take k) f n
  rw [List.length_take] at hbl
  generalize s.getD k 0=x at *
  have Hmo:=hid hmo
  clear hcs hmo
  by_cases h1:f≤x
  ·by_cases h2:x<f+n
   ·have hw:IntKind.i64.wrap (x - f)=x - f:=by rw [IntKind.wrap_i64];omega
    have Hm:Hid (betL (s.take (k+1)) f n=betL (s.take k) f n ++ [x - f]):=hid (by rw [Hmo.out,if_pos (by unfold betB;rw [decide_eq_true h1,decide_eq_true h2];rfl)])
    go_wp2_with (at_builtin;refine Z5_ rfl _ _ rfl w.heap.size _ _ _ (betL (s.take k) f n) [x - f] rfl rfl (hown.alloc _) (Row.lit1 _ (x - f)) (by omega) (by simp) (by have:=hbr.size;simp;omega) ?_)
    intro v' w6 hown' hgrow
    have hb6:Below w.heap.size wr w6:=((Below.refl _ wr).alloc hbr.size _).grown hgrow (by have:=hbr.size;simp;omega) (fun i hi=>(hown.lt i hi).1)
    have Hown6:Hid (w6.ownsRow w.heap.size 3 1 v' (betL (s.take (k+1)) f n).length (ints (betL (s.take (k+1)) f n))):=hid (by rw [Hm.out,List.length_append];exact hown')
    have Hb6:=hid (hbr.trans hb6)
    clear hown' hb6 hown hbr
    go_wp2
    go_roundw
    case rel=>exact ⟨k+1,by go_num,by omega,Hown6.out,Hb6.out⟩
    case measure=>simp [intOf];omega
   ·have Hm:Hid (betL (s.take (k+1)) f n=betL (s.take k) f n):=hid (by rw [Hmo.out,if_neg (by unfold betB;rw [decide_eq_false h2,Bool.and_false];decide),List.append_nil])
    have Hown6:=hid hown
    have Hb6:=hid hbr
    clear hown hbr
    go_wp2
    go_roundw
    case rel=>exact ⟨k+1,by go_num,by omega,by rw [Hm.out];exact Hown6.out,Hb6.out⟩
    case measure=>simp [intOf];omega
  ·have Hm:Hid (betL (s.take (k+1)) f n=betL (s.take k) f n):=hid (by rw [Hmo.out,if_neg (by unfold betB;rw [decide_eq_false h1,Bool.false_and];decide),List.append_nil])
   have Hown6:=hid hown
   have Hb6:=hid hbr
   clear hown hbr
   go_wp2
   go_roundw
   case rel=>exact ⟨k+1,by go_num,by omega,by rw [Hm.out];exact Hown6.out,Hb6.out⟩
   case measure=>simp [intOf];omega
 ·have hke:k=s.length:=by omega
  subst hke
  rw [List.take_length] at hown
  go_wp2
  go_ret
  exact ⟨_,rfl,Row.of_own hown rfl,hbr⟩):P:=h
theorem y1_ (h:P:=by
 have hltI:(j:Int)<(c.length:Int):=by omega
 obtain ⟨ad,hA,hc⟩:=Row.nth HR.out hlt
 subst hA
 have g1:=hc wr hb
 have Hn:=hid (Zx5 c q j)
 have Hfl:Hid ((clsTo c q j).length≤1048576):=hid (Nat.le_trans (Zh0 c q j) (by omega))
 generalize clsTo c q j=Z at *
 generalize c.getD j 0=z at *
 clear hc hb
 by_cases hz:z=q
 ·subst hz
  rw [if_pos (by simp)] at Hn
  go_wp2_with (at_builtin;refine Z5_ rfl _ _ rfl w.heap.size _ _ _ Z [(j:Int)] rfl rfl (Hown.out.alloc _) (Row.lit1 _ (j:Int)) (by have:=Hfl.out;omega) (by simp) (by have:=Hb.out.size;simp;omega) ?_)
  intro v' w'' h1 h2
  have HB:=hid ((Hb.out.alloc Hb.out.size _).grown h2 (by have:=Hb.out.size;simp;omega) (fun i hi=>(Hown.out.lt i hi).1))
  have Ho:=hid h1
  clear h1 h2 g1
  go_wp2
  go_roundw
  case rel=>exact ⟨j+1,by go_num,by omega,by rw [Hn.out,List.length_append];exact Ho.out,HB.out⟩
  case measure=>simp [intOf];omega
 ·rw [if_neg (by simpa using hz),List.append_nil] at Hn
  go_wp2
  go_roundw
  case rel=>exact ⟨j+1,by go_num,by omega,by rw [Hn.out];exact Hown.out,Hb.out⟩
  case measure=>simp [intOf];omega):P:=h
theorem z1_ (h:P:=by
 go_enter Tryz.func50,Tryz.ntmps50
 go_wp2_with fail
 refine (X2_ m.t _).mono ?_
 rintro e w1 ⟨rfl,hb1⟩
 rw [decide_eq_true Hn.out]
 have Hb1:=hid (Z0_ Hb0.out (le_refl _) hb1)
 have Hv1:=hid (Hv.out.up hb1)
 have Hl1:=hid (Hl.out.up hb1)
 have Hblk1:=hid (Hblk.out.below hb1 Hblk.out.lt)
 have k1:=Hblk1.out.cell
 have d0:=k1 0
 have d1:=k1 1
 have d2:=k1 2
 have d3:=k1 3
 have d4:=k1 4
 have d5:=k1 5
 clear k1 hb1 g0 g1 g2 g3 g4 g5 a3 a4 a5 a6 Hb0 Hv Hl Hblk
 go_wp2_with fail
 refine (Hsum.out _ _ Hv1.out).mono ?_
 rintro e w2 ⟨rfl,hb2⟩
 have Hb2:=hid (Z0_ Hb1.out (le_refl _) hb2)
 have Hl2:=hid (Hl1.out.up hb2)
 have Hblk2:=hid (Hblk1.out.below hb2 Hblk1.out.lt)
 clear hb2 d0 d1 d2 d3 d4 d5 e1 e2 e4 e5 e6
 have k2:=Hblk2.out.cell
 have d0:=k2 0
 have d1:=k2 1
 have d4:=k2 4
 clear k2
 cases L0
 ·go_wp2
  go_ret
  exact ⟨rfl,Hb2.out⟩
 ·go_wp2
  go_ret
  exact ⟨by rw [Bool.true_and,← f1];rfl,Hb2.out⟩):P:=h
theorem k1_ (h:P:=by
 go_wp2
 go_ret
 exact ⟨rfl,Hb1.out⟩):P:=h
theorem x2_ (h:P:=by
 have Hf:=hid hf
 clear hf
 have Hl:=hid hl
 obtain ⟨lv,iv,hve,hl2,hi2⟩:=hv.open
 have Hb0:=hid (Z1_ w m lv iv)
 have HV:=hid (hv.up Hb0.out)
 have HE:=hid (hE.up Hb0.out)
 have Hblk:=hid (Z4_ w m lv iv)
 obtain ⟨Al,cl,rfl,-⟩:=hl2
 obtain ⟨Ai,ci,rfl,-⟩:=hi2
 subst hve
 obtain ⟨X,hX⟩:∃ X,boxed w m (.slice Al m.l.length cl) (.slice Ai m.i.length ci)=X:=⟨_,rfl⟩
 rw [hX] at Hb0 HV HE Hblk
 have HX:=hid hX
 unfold boxed at HX
 clear hv hE hX hl
 have c0:=Hblk.out.cell 0
 have c1:=Hblk.out.cell 1
 have c2:=Hblk.out.cell 2
 have c3:=Hblk.out.cell 3
 have c4:=Hblk.out.cell 4
 have c5:=Hblk.out.cell 5
 go_enter Tryz.func3,Tryz.ntmps3
 go_wp2_with fail
 rw [HX.out]
 refine (Zw9 m _ 6 _ HV.out Hl.out).mono ?_
 rintro e w1 ⟨rfl,hb1⟩
 rw [Hf.out]
 clear HX
 clear c0 c1 c2 c3 c4 c5
 replace HE:=hid (HE.out.up hb1)
 replace HV:=hid (HV.out.up hb1)
 replace Hblk:=hid (Hblk.out.below hb1 Hblk.out.lt)
 replace Hb0:=hid (Z0_ Hb0.out (le_refl _) hb1)
 clear hb1
 go_wp2_with fail
 refine (M3_ E _ HE.out).mono ?_
 rintro e w2 ⟨rfl,hb2⟩
 have Hb2:=hid (Z0_ Hb0.out (le_refl _) hb2)
 clear hb2
 go_wp2
 go_ret
 exact ⟨rfl,Hb2.out⟩):P:=h
theorem y2_ (h:P:=by
 have Hc:=hid hc
 clear hc
 go_wp2_with fail
 refine (Y6_ _ a wr (Ha.out.below hbr |>.mono hbr.size) (by omega) Hma.out).mono ?_
 rintro e w2 ⟨rfl,hb2⟩
 have hB2:=hbr.trans (hb2.mono hbr.size)
 have hown2:=hown.kept (row:=none) (Z7_ hb2 _) (by cases hv:Value.ownBlock _<;>simp)
 clear hb2
 go_wp2_with fail
 refine (Y6_ _ b w2 (Hb.out.below hB2 |>.mono hB2.size) (by omega) Hmb.out).mono ?_
 rintro e w3 ⟨rfl,hb3⟩
 have hB3:=hB2.trans (hb3.mono hB2.size)
 have hown3:=hown2.kept (row:=none) (Z7_ hb3 _) (by cases hv:Value.ownBlock _<;>simp)
 clear hb3 hB2 hown2 hown hbr
 have g1:w3.cell? (ad.add k)=some (.int .i64 x):=(hB3.cell (by rw [Z2_];exact hab)).trans Hg.out
 go_wp2_with fail
 refine (L1_ _ b x _ w3 (Hb.out.below hB3) (by omega) Hc.out).mono ?_
 rintro e w5 ⟨rfl,rfl⟩
 have Hx:=hid (Hno.out (by rw [Hc.out];decide))
 clear Hyes Hno
 go_wp2
 go_roundw
 case rel=>exact ⟨k+1,by go_num,by omega,by rw [Hx.out];exact hown3,hB3⟩
 case measure=>simp [intOf];omega):P:=h
theorem j2_ (h:P:=by
 go_wp2
 go_ret
 exact ⟨rfl,Hb2.out⟩):P:=h
theorem k2_ (h:P:=by
 refine wpQuiet_nil ?_
 intro w5 hB5
 go_wp2
 go_ret
 exact ⟨rfl,Hb0.out.trans (hB5.mono Hb0.out.size)⟩):P:=h
theorem q3_ (h:P:=by
 go_wp2
 go_ret
 exact ⟨rfl,Hb0.out⟩):P:=h
theorem y3_ (h:P:=by
 clear hx hc Hk Ht
 rcases hq:P x with _ | _
 ·rw [hq] at Hcall
  have Hq:=hid hq
  clear hq
  go_wp2_with fail
  refine (Hcall.out).mono ?_
  rintro e w' ⟨rfl,hb'⟩
  go_wp2
  go_roundw
  case rel =>
   refine ⟨k+1,by go_num,by omega,Hb.out.trans (hb'.mono Hb.out.size),fun j hj=>?_⟩
   by_cases e:j=k
   ·rw [e,← Hx.out]
    exact Hq.out
   ·exact Hz.out j (by omega)
  case measure=>simp [intOf];omega
 ·rw [hq] at Hcall
  have Hq:=hid hq
  clear hq
  go_wp2_with fail
  refine (Hcall.out).mono ?_
  rintro e w' ⟨rfl,hb'⟩
  go_wp2
  go_ret
  exact ⟨_,rfl,.inr ⟨k,hlt,rfl,by rw [← Hx.out];exact Hq.out,Hz.out⟩,Hb.out.trans (hb'.mono Hb.out.size)⟩):P:=h
theorem x4_ (h:P:=by
 have Hc:=hid (O2_ 134 #[.pointer (some ⟨bp,0,none⟩)] (wrongB p) v zs w (enters_of Tryz.func134 (by kernel_rfl) rfl) hr (by omega) (wrongtest p bp w hbp hp))
 obtain ⟨A,c,rfl,_⟩:=hr
 rw [decide_eq_false (by omega),Bool.false_or]
 generalize zs.any (wrongB p)=b at *
 have hne:((zs.length:Int) != rows)=false:=by simp [hl]
 clear hl hp
 go_enter Tryz.func136,Tryz.ntmps136
 go_wp2_with fail
 refine (Hc.out).mono ?_
 rintro e w1 ⟨rfl,hb1⟩
 go_wp2
 go_ret
 refine ⟨?_,hb1⟩
 rfl):P:=h
theorem y4_ (h:P:=by
 go_wp2
 go_ret
 exact ⟨rfl,Below.refl _ _⟩):P:=h
theorem j4_ (h:P:=by
 go_wp2
 go_ret
 exact ⟨rfl,rfl⟩):P:=h
theorem k4_ (h:P:=by
 have hc:wr.cell? ⟨g,k,none⟩=some (.int .i64 0):=by
  have:=Hlab.out.cell hlt
  simpa using this
 have hfz:wr.frozen? ⟨g,k,none⟩=false:=Hlab.out.frozen k
 go_wp2
 go_roundw
 case rel =>
  refine ⟨k+1,by go_num,by omega,(Hlab.out.set k k).congr fun i hi=>?_,Hbr.out.setCell Hgs.out _⟩
  by_cases hik:i=k
  ·simp [hik]
  ·by_cases hlt':i<k
   ·simp [hik,hlt',show i<k+1 by omega]
   ·simp [hik,hlt',show ¬ i<k+1 by omega]
 case measure=>simp [intOf];omega):P:=h
theorem x5_ (h:P:=by
 rintro e w3 ⟨rfl,hb3⟩
 have Hb3:=hid (Z0_ Hb2.out (le_refl _) hb3)
 clear hb3
 go_wp2
 go_ret
 exact ⟨rfl,Hb3.out⟩):P:=h
theorem y5_ (h:P:=by
 go_wp2
 refine wp_loop_rounds 1 ?_
 rw [rounds_succ]
 go_wp2_with fail
 refine (Y6_ _ a _ ((Ha.out.below hB0).mono hB0.size) (by omega) Hma.out).mono ?_
 rintro e w1 ⟨rfl,hb1⟩
 have hB1:=hB0.trans (hb1.mono hB0.size)
 clear hb1
 go_wp2_with fail
 refine (Y6_ _ b _ ((Hb.out.below hB1).mono hB1.size) (by omega) Hmb.out).mono ?_
 rintro e w2 ⟨rfl,hb2⟩
 have hB2:=hB1.trans (hb2.mono hB1.size)
 go_wp2
 go_ret
 exact Hout.out _ hB2):P:=h
theorem z5_ (h:P:=by
 intro v' w4 hown' hgrow
 have hb4:Below w.heap.size wr w4:=((Below.refl _ wr).alloc hbr.size _).grown hgrow (by have:=hbr.size;simp;omega) (fun i hi=>(hown.lt i hi).1)
 go_wp2
 go_roundw
 case rel=>exact ⟨k+1,y :: r,by go_num,by omega,Hrr.out.below hb4,C9_ Hsv.out,by rw [Hx.out,List.length_append];exact hown',hbr.trans hb4⟩
 case measure=>simp [intOf];omega):P:=h
theorem j5_ (h:P:=by
 go_enter Tryz.func112,Tryz.ntmps112
 go_wp2_with fail
 refine (H1_ p true HP.out _).mono ?_
 rintro e w1 ⟨rfl,hb1⟩
 go_wp2
 go_ret
 exact ⟨rfl,hb1⟩):P:=h
theorem k5_ (h:P:=by
 have h1':0≤x:=by omega
 rw [show decide (x<0∨p≤x)=decide (p≤x) from decide_eq_decide.2 ⟨fun h=>h.resolve_left h1,.inr⟩]
 clear h1
 go_enter Tryz.func134,Tryz.ntmps134
 go_wp2
 go_ret
 refine ⟨?_,Below.refl _ _⟩
 show Ending.returned (.bool (decide (x<0) || decide (p≤x)))=_
 rw [decide_eq_false (show ¬ x<0 by omega),Bool.false_or]):P:=h
theorem q6_ (h:P:=by
 go_wp2
 go_roundw
 case rel=>exact ⟨i+1,by go_num,by omega,Hb1.out,Hnext.out Hok1.out⟩
 case measure=>simp [intOf];omega):P:=h
theorem y6_ (h:P:=by
 rintro e w1 ⟨rfl,hb1⟩
 have Hb1:=hid hb1
 have g1:=(hb1.cell (p:=al.add (L - 1)) (by rw [Z2_];exact halb)).trans Hcx.out
 clear hb1
 go_wp2
 go_ret
 exact ⟨congrArg (fun b=>Ending.returned (.bool b)) (show ((L:Int)==0 || decide (x<(n:Int)))=false by rw [decide_eq_false (by omega),Bool.or_false];exact beq_false_of_ne hL0),Hb1.out⟩):P:=h
theorem z6_ (h:P:=by
 have hset:=Yv8 (n:=s.length) Hfn.out hlt
 rw [hfa] at hset
 have Hset:=hid hset
 generalize ST.getD X 0=y at *
 clear hblk hbr hcs hct hX hx0 hx1 hfa hset hsz
 go_wp2
 go_roundw
 case rel=>exact ⟨k+1,by go_num,by omega,by rw [← Hset.out];exact Hblk.out.set_ k _,Hbr.out.setCell (by exact le_refl _) _⟩
 case measure=>simp [intOf];omega):P:=h
theorem j6_ (h:P:=by
 have hie:i=adj.length:=by omega
 subst hie
 have Hyes:=hid (Hall.out Hok.out)
 go_wp2
 go_ret
 exact ⟨congrArg (fun b=>Ending.returned (.bool b)) Hyes.out.symm,Hbr.out⟩):P:=h
theorem q7_ (h:P:=by
 intro v' w4 hown' hgrow
 have hb4:Below w.heap.size w5 w4:=((Below.refl _ w5).alloc hB3.size _).grown hgrow (by have:=hB3.size;simp;omega) (fun i hi=>(hown3.lt i hi).1)
 go_wp2
 go_roundw
 case rel=>exact ⟨k+1,by go_num,by omega,by rw [Hx.out,List.length_append];exact hown',hB3.trans hb4⟩
 case measure=>simp [intOf];omega):P:=h
theorem x7_ (h:P:=by
 subst h0
 go_wp2_with fail
 refine (mayset_is _ l true Hm.out _ Hru.out).mono ?_
 rintro e w1 ⟨rfl,hb1⟩
 have Hb1:=hid (Z0_ Hbr.out (le_refl _) hb1)
 clear hb1
 go_wp2
 go_roundw
 case rel=>exact ⟨i+1,by go_num,by omega,Hb1.out,Hnext.out hok1.out⟩
 case measure=>simp [intOf];omega):P:=h
theorem y7_ (h:P:=by
 go_wp2
 go_quiet (fail)
 go_wp2
 go_ret
 exact X7_ Hf.out rfl (Y2_ Hq.out _)):P:=h
theorem z7_ (h:P:=by
 go_wp2
 go_ret
 exact ⟨congrArg (fun b=>Ending.returned (.bool b)) Hyes.out.symm,Hbr.out⟩):P:=h
theorem j7_ (h:P:=by
 have k0:(w.alloc (.cells #[.slice A ms.length d] 23)).cell? ⟨w.heap.size,0,none⟩=some (.slice A ms.length d):=(Blk.new w _ _).cell 0
 go_enter Tryz.func43,Tryz.ntmps43
 go_wp2
 go_ret
 refine ⟨rfl,?_⟩
 first | exact Hb0.out | (rw [← HW0.out];exact Hb0.out)):P:=h
theorem q8_ (h:P:=by
 go_wp2
 go_ret
 exact ⟨rfl,Hb3.out⟩):P:=h
theorem x8_ (h:P:=by
 have Hblk1:=hid (Hblk2.out.below hb1 Hblk2.out.lt)
 clear hb1
 go_wp2
 go_roundw
 case rel =>
  refine ⟨max d D,i+1,?_,by go_num,by omega,?_,Hblk1.out,Hb1.out⟩
  ·exact congrArg (Value.int .i64) (by omega)
  ·rw [Hms.out,Hdm.out]
 case measure=>simp [intOf];omega):P:=h
theorem z8_ (h:P:=by
 rw [rounds_succ]
 go_wp2
 go_ret
 exact X7_ (Hno.out Hx.out) rfl ((Hwr.out).alloc (Hwr.out).size _)):P:=h
theorem k8_ (h:P:=by
 have Hx:=hid (Hno.out (by rw [Hc.out];decide))
 clear Hyes Hno
 go_wp2
 go_roundw
 case rel=>exact ⟨k+1,y :: r,by go_num,by omega,Hrr.out,C9_ Hsv.out,by rw [Hx.out];exact hown,hbr⟩
 case measure=>simp [intOf];omega):P:=h
theorem x9_ (h:P:=by
 go_wp2
 go_ret
 exact ⟨congrArg (fun b=>Ending.returned (.bool b)) Hno.out.symm,Hb1.out⟩):P:=h
theorem y9_ (h:P:=by
 go_wp2
 go_ret
 exact ⟨congrArg (fun b=>Ending.returned (.bool b)) Hno.out.symm,Hbr.out⟩):P:=h
theorem z9_ (h:P:=by
 go_wp2
 refine wp_loop_rounds 1 ?_
 rw [rounds_succ]
 go_wp2_with fail
 refine (Y6_ _ a _ ((Ha.out.below hB0).mono hB0.size) (by omega) Hma.out).mono ?_
 rintro e w1 ⟨rfl,hb1⟩
 have hB1:=hB0.trans (hb1.mono hB0.size)
 go_wp2
 go_ret
 exact Hout.out _ hB1):P:=h
theorem k9_ (h:P:=by
 rintro e w1 ⟨rfl,hb1⟩
 go_wp2
 go_ret
 exact ⟨rfl,hb1⟩):P:=h
theorem q10_ (h:P:=by
 go_wp2
 go_roundw
 case rel=>exact ⟨k+1,by go_num,by omega,by rw [Hx.out];exact hro,hbr⟩
 case measure=>simp [intOf];omega):P:=h
theorem x10_ (h:P:=by
 go_enter Tryz.func156,Tryz.ntmps156
 go_wp2
 go_ret
 exact X7_ Hno.out rfl (Below.refl _ _)):P:=h
theorem z10_ (h:P:=by
 have hd:Hid (dp (k+1) m=1):=by
  show dp (k+1) m=1
  rw [dp,if_neg (by unfold nest;omega)]
 go_enter Tryz.func118,Tryz.ntmps118
 go_wp2
 go_ret
 exact ⟨by rw [hd.out];rfl,Hb0.out⟩):P:=h
theorem k10_ (h:P:=by
 go_wp2
 refine wp_loop_rounds 1 ?_
 rw [rounds_succ]
 go_wp2
 go_ret
 exact Hout.out _ hB0):P:=h
theorem k11_ (h:P:=by
 rintro e w1 ⟨rfl,hb1⟩
 have Hb1:=hid (Z0_ Hbr.out (le_refl _) hb1)
 clear hb1
 go_wp2
 go_roundw
 case rel=>exact ⟨i+1,by go_num,by omega,Hb1.out,Hnext.out Hm.out⟩
 case measure=>simp [intOf];omega):P:=h
theorem q12_ (h:P:=by
 go_enter Tryz.func188,Tryz.ntmps188
 go_wp2
 go_ret
 exact N7_ _ _):P:=h
theorem x12_ (h:P:=by
 go_enter Tryz.func26,Tryz.ntmps26
 go_wp2
 refine wp_loop_rounds 1 ?_
 rw [rounds_succ]
 go_wp2
 go_ret
 exact ⟨by rw [hd.out];rfl,Hb0.out⟩):P:=h
theorem y12_ (h:P:=by
 have hie:i=m.i.length:=by omega
 subst hie
 go_wp2
 go_ret
 refine ⟨?_,Hbr.out⟩
 have e:dp (k+1) m=d+1:=by rw [hd.out,← Zs1];have:=Hdm.out;omega
 rw [e]
 rfl):P:=h
theorem x13_ (h:P:=by
 have hfx:=Zz9 x false (by simp [hx])
 go_wp2_with (go_at_call 126;refine (hfx _).mono ?_;rintro e w' ⟨rfl,rfl⟩)
 go_ret
 exact X7_ (Hfail.out (.inl hx)) rfl Hq.out):P:=h
theorem y13_ (h:P:=by
 go_wp2
 go_roundw
 case rel=>exact ⟨i+1,by go_num,by omega,Hl3.out,((Y2_ Hbw.out _).setCell Hgs.out _).setCell Hgs.out _⟩
 case measure=>simp [intOf];omega):P:=h
theorem z13_ (h:P:=by
 go_wp2
 go_roundw
 case rel=>exact ⟨k+1,by go_num,by omega,by rw [Hn.out,if_neg (by rw [hrf.out];decide),List.append_nil];exact Ho5.out,Hb5.out⟩
 case measure=>simp [intOf];omega):P:=h
theorem j13_ (h:P:=by
 go_wp2
 go_roundw
 case rel=>exact ⟨j+1,by go_num,by omega,by rw [Hn.out,if_neg (by rw [hrf.out];decide),List.append_nil];exact Ho5.out,Hb5.out⟩
 case measure=>simp [intOf];omega):P:=h
theorem k13_ (h:P:=by
 have hke:k=l.length:=by omega
 have Hfin:=hid (Xe0 l k hke Hset.out)
 subst hke
 go_wp2
 go_ret
 refine X7_ Hfin.out rfl ?_
 rw [Hwr.out];exact Y2_ (Below.refl _ _) q):P:=h
theorem x14_ (h:P:=by
 clear hD hxy
 go_enter Tryz.func51,Tryz.ntmps51
 go_wp2
 go_ret
 exact ⟨by rw [HR0.out];first | rfl | simp,Below.refl _ _⟩):P:=h
theorem z14_ (h:P:=by
 go_wp2
 go_ret
 exact X7_ (Hsz.out.trans Hb.out) rfl Hwr.out):P:=h
theorem j14_ (h:P:=by
 have hje:j=c.length:=by omega
 subst hje
 rw [Zh1] at Hown
 go_wp2
 go_ret
 exact ⟨_,rfl,Row.of_own Hown.out rfl,Hb.out,fun g hg=>(Hown.out.lt g hg).1⟩):P:=h
theorem k14_ (h:P:=by
 have Hb9:=hid (Z0_ Hb0.out (le_refl _) Hb.out)
 go_wp2
 go_ret
 exact ⟨_,rfl,Row.of_own Hown.out rfl,Hb9.out,fun g hg=>Nat.le_trans Hb0.out.size (Hown.out.lt g hg).1⟩):P:=h
theorem y15_ (h:P:=by
 go_wp2
 go_ret
 exact ⟨rfl,Hbr.out⟩):P:=h
theorem j15_ (h:P:=by
 rintro e w2 ⟨rfl,hb2⟩
 rw [hmb]
 go_wp2
 go_ret
 exact ⟨_,rfl,by rw [Hr.out];exact Row.nil_ _ _,hb1.trans (hb2.mono hb1.size),fun g hg=>by cases hg⟩):P:=h
theorem k15_ (h:P:=by
 go_wp2_with fail
 go_roundw
 case rel=>exact ⟨k+1,_,by go_num,by omega,HS8.out,HR8.out⟩
 case measure=>simp [intOf];omega):P:=h
theorem y16_ (h:P:=by
 go_wp2
 go_roundw
 case rel=>exact ⟨k+1,by go_num,by omega,by rw [Htk.out,Hlen.out];exact hown',hbr.trans hb6⟩
 case measure=>simp [intOf];omega):P:=h
theorem y17_ (h:P:=by
 refine wpQuiet_nil ?_
 intro V hV
 have Hb9:=hid (Z0_ Hb0.out (le_refl _) hV)
 clear hV
 go_wp2
 go_ret
 exact ⟨by first | rfl | simp,Hb9.out⟩):P:=h
theorem z17_ (h:P:=by
 subst hke
 go_wp2
 go_ret
 exact ⟨_,rfl,.inl ⟨rfl,Hz.out⟩,Hb.out⟩):P:=h
theorem j17_ (h:P:=by
 clear hsv
 go_wp2
 go_ret
 exact ⟨by rw [Hr.out];rfl,HBr.out⟩):P:=h
theorem y18_ (h:P:=by
 have hke:k=a.length:=by omega
 subst hke
 rw [Hall.out] at hown
 go_wp2
 go_ret
 exact ⟨_,rfl,Row.of_own hown rfl,hbr⟩):P:=h
theorem z19_ (h:P:=by
 rintro e w1 ⟨rfl,hb1⟩
 rw [hma]
 go_wp2
 go_ret
 exact ⟨_,rfl,by rw [Hr.out];exact Row.nil_ _ _,hb1,fun g hg=>by cases hg⟩):P:=h
theorem j19_ (h:P:=by
 go_enter Tryz.func49,Tryz.ntmps49
 go_wp2
 rw [← HW0.out]
 go_ret
 exact ⟨rfl,Hb0.out⟩):P:=h
theorem z20_ (h:P:=by
 go_wp2
 refine wp_loop_rounds 1 ?_
 rw [rounds_succ]
 go_wp2
 go_ret
 exact W5_ Hno.out Hq.out Hend.out Hb1.out):P:=h
theorem x21_ (h:P:=by
 refine wpQuiet_nil ?_
 intro w5 hB5
 have Hb5:=hid (Z0_ Hb3.out (le_refl _) hB5)
 clear hB5
 go_wp2
 go_ret
 exact ⟨rfl,Hb5.out⟩):P:=h
theorem y22_ (h:P:=by
 go_enter Tryz.func32,Tryz.ntmps32
 go_wp2
 go_ret
 exact T7_ w (Below.refl _ _) Hf.out):P:=h
theorem z22_ (h:P:=by
 have h0':r<0:=by omega
 go_wp2
 go_ret
 refine ⟨?_,hb⟩
 rw [← Hf.out,decide_eq_false (by omega)]
 rfl):P:=h
theorem y25_ (h:P:=by
 clear Hr
 go_wp2
 go_ret
 exact ⟨by rw [He.out];first | rfl | simp [h8],Hb3.out⟩):P:=h
theorem x26_ (h:P:=by
 clear hl
 go_wp2
 go_ret
 refine ⟨?_,Below.refl _ _⟩
 simp [Hl.out]):P:=h
theorem j26_ (h:P:=by
 clear hlt hk
 subst hke
 go_wp2
 go_ret
 exact ⟨_,rfl,HS.out.1,HS.out.2⟩):P:=h
theorem q27_ (h:P:=by
 obtain rfl:=Hr.out
 go_wp2
 go_ret
 exact ⟨by simp,Below.refl _ _⟩):P:=h
theorem x27_ (h:P:=by
 go_wp2
 go_ret
 refine ⟨?_,hb⟩
 rw [← Hf.out,decide_eq_true h0]
 rfl):P:=h
theorem z28_ (h:P:=by
 go_wp2
 go_ret
 exact W5_ Hno.out ⟨hq1,hq4⟩ Hend.out Hbr.out):P:=h
theorem x30_ (h:P:=by
 go_wp2
 go_ret
 exact ⟨by rw [← Hb.out,Hc.out];rfl,rfl⟩):P:=h
theorem z31_ (h:P:=by
 have Hb1:=hid (Z0_ Hb0.out (le_refl _) hb1)
 clear hb1 g0 g1 g2 g3 g4 g5
 exact k1_):P:=h
theorem j31_ (h:P:=by
 go_enter Tryz.func26,Tryz.ntmps26
 go_wp2
 refine wp_loop_rounds 1 ?_
 rw [rounds_succ]
 exact q3_):P:=h
theorem k31_ (h:P:=by
 go_enter Tryz.func81,Tryz.ntmps81
 exact q3_):P:=h
theorem q32_ (h:P:=by
 have Hb1:=hid (Z0_ Hb0.out (le_refl _) hb1)
 clear hb1
 exact k1_):P:=h
theorem x32_ (h:P:=by
 clear hb1
 exact k1_):P:=h
theorem y32_ (h:P:=by
 go_enter Tryz.func103,Tryz.ntmps103
 exact y4_):P:=h
theorem z32_ (h:P:=by
 go_enter Tryz.func121,Tryz.ntmps121
 exact q3_):P:=h
theorem j32_ (h:P:=by
 go_wp2
 refine wp_loop_rounds 1 ?_
 rw [rounds_succ]
 exact q3_):P:=h
theorem k32_ (h:P:=by
 clear hv hn hci hki gb h2
 have e1:(m.b != 0)=false:=by simpa using q1
 clear q1
 have e2:(m.a != 0)=false:=by simpa using q2
 have e4:¬ (m.i.length:Int)<1:=by omega
 have e5:¬ (8:Int)<(m.i.length:Int):=by omega
 have e6:¬ (1:Int)<(m.i.length:Int):=by omega
 clear q2 q4
 exact q1_):P:=h
theorem q33_ (h:P:=by
 go_enter Tryz.func50,Tryz.ntmps50
 exact q3_):P:=h
theorem y33_ (h:P:=by
 rw [decide_eq_true hl,Bool.true_or]
 obtain ⟨A,c,rfl,_⟩:=hr
 have hne:((zs.length:Int) != rows)=true:=by simpa using hl
 clear hl hp
 go_enter Tryz.func136,Tryz.ntmps136
 exact y4_):P:=h
theorem z33_ (h:P:=by
 have e4:¬ (m.i.length:Int)<1:=by omega
 have e5:¬ (8:Int)<(m.i.length:Int):=by omega
 have e6:(1:Int)<(m.i.length:Int):=by omega
 have e7:(m.t != 9)=true:=by simpa using q6
 clear q4 q5 q6
 exact j0_):P:=h
theorem j33_ (h:P:=by
 rw [hf]
 clear hf
 go_enter Tryz.func126,Tryz.ntmps126
 exact j4_):P:=h
theorem k33_ (h:P:=by
 have Hf:=hid (Hfail.out (.inl fun h=>hx1 h.2))
 have d0:decide (x<0)=false:=by simp;omega
 have d1:1099511627776<x:=by omega
 clear hx1
 exact y7_):P:=h
theorem q34_ (h:P:=by
 go_enter Tryz.func169,Tryz.ntmps169
 exact j4_):P:=h
theorem y34_ (h:P:=by
 go_enter Tryz.func159,Tryz.ntmps159
 exact j4_):P:=h
theorem z34_ (h:P:=by
 go_enter Tryz.func163,Tryz.ntmps163
 go_wp2_with fail
 refine (L2_ p _ h).mono ?_
 rintro e w' ⟨rfl,rfl⟩
 exact j4_):P:=h
theorem j34_ (h:P:=by
 obtain ⟨j,rfl,hj,hown,hb⟩:=hrel
 have Hown:=hid hown
 have Hb:=hid hb
 clear hown
 by_cases hlt:j<c.length
 ·exact y1_
 ·exact j14_):P:=h
theorem k34_ (h:P:=by
 have Hb2:=hid (Z0_ Hb1.out (le_refl _) hb2)
 clear hb2 g0 g1 g2 g3 g4 g5
 exact j2_):P:=h
theorem x35_ (h:P:=by
 have hxr2:right≤x:=by omega
 have Hno:=hid (Hmiss.out (Hlast.out.trans (decide_eq_false hxr)))
 exact x9_):P:=h
theorem y35_ (h:P:=by
 rw [hf]
 clear hf
 go_enter Tryz.func142,Tryz.ntmps142
 exact j4_):P:=h
theorem z35_ (h:P:=by
 have Hf:=hid (Hfail.out (.inl fun h=>hx0 h.1))
 have d0:x<0:=by omega
 clear hx0
 exact y7_):P:=h
theorem j35_ (h:P:=by
 rw [decide_eq_true (Or.inl h1)]
 go_enter Tryz.func134,Tryz.ntmps134
 exact y4_):P:=h
theorem k35_ (h:P:=by
 clear h h1
 go_enter Tryz.func24,Tryz.ntmps24
 exact k10_):P:=h
theorem q36_ (h:P:=by
 have e4:¬ (m.i.length:Int)<1:=by omega
 have e5:(8:Int)<(m.i.length:Int):=by omega
 clear q4
 exact j0_):P:=h
theorem z36_ (h:P:=by
 rw [decide_eq_false (show ¬ (0≤rows∧rows≤64) by omega)]
 simp only [Bool.false_and]
 exact j5_):P:=h
theorem j36_ (h:P:=by
 go_wp2
 refine wp_loop_rounds 3 ?_
 rw [rounds_succ]
 go_wp2
 exact z8_):P:=h
theorem k36_ (h:P:=by
 go_enter Tryz.func42,Tryz.ntmps42
 exact y4_):P:=h
theorem q37_ (h:P:=by
 go_enter Tryz.func118,Tryz.ntmps118
 exact q3_):P:=h
theorem x37_ (h:P:=by
 go_enter Tryz.func164,Tryz.ntmps164
 exact j4_):P:=h
theorem y37_ (h:P:=by
 go_enter Tryz.func152,Tryz.ntmps152
 exact q3_):P:=h
theorem z37_ (h:P:=by
 obtain rfl:=Hr.out
 exact k1_):P:=h
theorem j37_ (h:P:=by
 go_wp2_with fail
 refine (HC.out _ _ _ HL.out HR.out).mono ?_
 exact x5_):P:=h
theorem q38_ (h:P:=by
 rintro e w1 ⟨rfl,hb1⟩
 have Hb1:=hid (Z0_ Hbr.out (le_refl _) hb1)
 exact x32_):P:=h
theorem x38_ (h:P:=by
 rintro e w1 ⟨rfl,hb1⟩
 have Hb1:=hid hb1
 exact x32_):P:=h
theorem y38_ (h:P:=by
 rintro e w1 ⟨rfl,hb1⟩
 have Hb1:=hid (Z0_ Hb0.out (Nat.le_refl _) hb1)
 exact x32_):P:=h
theorem z38_ (h:P:=by
 rintro e w1 ⟨rfl,hb1⟩
 have Hb1:=hid hb1
 have g1:=(hb1.cell (p:=al.add (L - 1)) (by rw [Z2_];exact halb)).trans Hcx.out
 exact x32_):P:=h
theorem j38_ (h:P:=by
 rintro e w1 ⟨rfl,hb1⟩
 rw [Hcc.out]
 exact q32_):P:=h
theorem k38_ (h:P:=by
 go_wp2_with fail
 refine (R1_ m _ _ s _ Hv0.out Hs.out Hr0.out).mono ?_
 rintro e w1 ⟨rfl,hb1⟩
 rw [Hm.out]
 exact z31_):P:=h
theorem q39_ (h:P:=by
 rintro e w1 ⟨rfl,hb1⟩
 exact q32_):P:=h
theorem x39_ (h:P:=by
 rw [decide_eq_false h1,Bool.false_and]
 have h1':((l.length:Int)==n)=false:=by simpa using h1
 exact k31_):P:=h
theorem j39_ (h:P:=by
 go_enter Tryz.func118,Tryz.ntmps118
 exact j32_):P:=h
theorem k39_ (h:P:=by
 rintro e w1 ⟨rfl,hb1⟩
 rw [HD.out]
 exact z31_):P:=h
theorem q40_ (h:P:=by
 go_enter Tryz.func60,Tryz.ntmps60
 go_wp2_with fail
 refine (Y6_ _ l w Hr.out hlm Hm.out).mono ?_
 exact x38_):P:=h
theorem x40_ (h:P:=by
 go_wp2_with fail
 refine (mayset_is _ l false Hm.out _ Hru.out).mono ?_
 exact q38_):P:=h
theorem z40_ (h:P:=by kernel_rfl):P:=h
theorem j41_ (h:P:=by go_num):P:=h
end Go.Proofs.YtigobiacbficaaaGreatDoor.Wp
