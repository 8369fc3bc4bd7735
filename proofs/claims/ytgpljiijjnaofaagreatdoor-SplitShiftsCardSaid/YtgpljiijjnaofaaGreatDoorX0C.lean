/- Closing steps that stand often, by their scripts (in walks of regions). -/
import Derived.BigQuiet
import Derived.Laws.AppendOwnNone
import Derived.Lib.Hide
import Derived.Lib.OwnBridge
import Derived.Maps.AppendAt
import Derived.WalkKit
import Derived.Test.YtgpljiijjnaofaaGreatDoorProg
namespace Go.Proofs.YtgpljiijjnaofaaGreatDoor.Wp
theorem q0_ {P:Prop} (h:P:=by
 rw [e]
 try clear ha
 try clear hb
 try clear hf
 try clear hl
 clear e
 go_enter Tryz.func110,Tryz.ntmps110
 go_wp2
 all_goals (go_ret;exact ⟨rfl,Hb.out⟩)):P:=h
theorem x0_ {P:Prop} (h:P:=by
 have Hfa:=hid hfa
 have Hfb:=hid hfb
 have Hm:=hid hm
 clear hfa hfb hm
 have Hla:=hid hla
 have Hlb:=hid hlb
 obtain ⟨l1,i1,hve,hl1,hi1⟩:=hva.open
 obtain ⟨l2,i2,hve2,hl2,hi2⟩:=hvb.open
 obtain ⟨Al,cl,rfl,_⟩:=hl1
 obtain ⟨Ai,ci,rfl,_⟩:=hi1
 obtain ⟨Bl,dl,rfl,_⟩:=hl2
 obtain ⟨Bi,di,rfl,_⟩:=hi2
 obtain ⟨Aw,cw,hsw,hcapw,_⟩:=id hrw
 subst hve hve2 hsw
 obtain ⟨W2,hW2⟩:∃ W2,W2=((w.alloc (.cells #[.int .i64 a.t,.int .i64 a.n,.int .i64 a.a,.int .i64 a.b,.slice Al a.l.length cl,.slice Ai a.i.length ci] 25)).alloc (.cells #[.int .i64 b.t,.int .i64 b.n,.int .i64 b.a,.int .i64 b.b,.slice Bl b.l.length dl,.slice Bi b.i.length di] 25)).alloc (.cells #[.slice Aw s.length cw,.int .i64 q] 40):=⟨_,rfl⟩
 have HW2:=hid hW2
 have hb2:Below w.heap.size w W2:=by rw [hW2];exact (((Below.refl _ w).alloc (le_refl _) _).alloc (by simp) _).alloc (by simp;omega) _
 have Hka:Hid (Blk W2 w.heap.size 25 #[.int .i64 a.t,.int .i64 a.n,.int .i64 a.a,.int .i64 a.b,.slice Al a.l.length cl,.slice Ai a.i.length ci]):=hid (by rw [hW2];exact ((Blk.new w _ _).alloc _).alloc _)
 have Hkb:Hid (Blk W2 (w.heap.size+1) 25 #[.int .i64 b.t,.int .i64 b.n,.int .i64 b.a,.int .i64 b.b,.slice Bl b.l.length dl,.slice Bi b.i.length di]):=hid (by
  rw [hW2]
  have:=(Blk.new (w.alloc (.cells #[.int .i64 a.t,.int .i64 a.n,.int .i64 a.a,.int .i64 a.b,.slice Al a.l.length cl,.slice Ai a.i.length ci] 25)) 25 #[.int .i64 b.t,.int .i64 b.n,.int .i64 b.a,.int .i64 b.b,.slice Bl b.l.length dl,.slice Bi b.i.length di]).alloc (.cells #[.slice Aw s.length cw,.int .i64 q] 40)
  simpa using this)
 have HxB:Hid (Blk W2 (w.heap.size+2) 40 #[.slice Aw s.length cw,.int .i64 q]):=hid (by
  rw [hW2]
  have:=Blk.new ((w.alloc (.cells #[.int .i64 a.t,.int .i64 a.n,.int .i64 a.a,.int .i64 a.b,.slice Al a.l.length cl,.slice Ai a.i.length ci] 25)).alloc (.cells #[.int .i64 b.t,.int .i64 b.n,.int .i64 b.a,.int .i64 b.b,.slice Bl b.l.length dl,.slice Bi b.i.length di] 25)) 40 #[.slice Aw s.length cw,.int .i64 q]
  simpa using this)
 have Hb0:=hid hb2
 have HVa:=hid (hva.up hb2)
 have HVb:=hid (hvb.up hb2)
 have HW:=hid (hrw.up hb2)
 have HE:=hid (hE.up hb2)
 clear hva hvb hla hlb hE hrw hcapw hW2 hb2
 go_enter Tryz.func4,Tryz.ntmps4
 go_wp2_with fail
 rw [← HW2.out]
 refine (V6_ E _ HE.out).mono ?_
 rintro e w1 ⟨rfl,hb1⟩
 clear HW2
 replace HE:=hid (HE.out.up hb1)
 replace HVa:=hid (HVa.out.up hb1)
 replace HVb:=hid (HVb.out.up hb1)
 replace HW:=hid (HW.out.up hb1)
 replace Hka:=hid (Hka.out.below hb1 Hka.out.lt)
 replace Hkb:=hid (Hkb.out.below hb1 Hkb.out.lt)
 replace HxB:=hid (HxB.out.below hb1 HxB.out.lt)
 replace Hb0:=hid (Z0_ Hb0.out (le_refl _) hb1)
 clear hb1
 have k0:=Hka.out.cell 0
 have k1:=Hka.out.cell 1
 have k2:=Hka.out.cell 2
 have k3:=Hka.out.cell 3
 have k4:=Hka.out.cell 4
 have k5:=Hka.out.cell 5
 go_wp2_with fail
 refine (E9_ a _ 7 _ HVa.out Hla.out).mono ?_
 rintro e w2 ⟨rfl,hb2⟩
 rw [Hfa.out]
 clear k0 k1 k2 k3 k4 k5
 replace HE:=hid (HE.out.up hb2)
 replace HVa:=hid (HVa.out.up hb2)
 replace HVb:=hid (HVb.out.up hb2)
 replace HW:=hid (HW.out.up hb2)
 replace Hka:=hid (Hka.out.below hb2 Hka.out.lt)
 replace Hkb:=hid (Hkb.out.below hb2 Hkb.out.lt)
 replace HxB:=hid (HxB.out.below hb2 HxB.out.lt)
 replace Hb0:=hid (Z0_ Hb0.out (le_refl _) hb2)
 clear hb2
 have n0:=Hkb.out.cell 0
 have n1:=Hkb.out.cell 1
 have n2:=Hkb.out.cell 2
 have n3:=Hkb.out.cell 3
 have n4:=Hkb.out.cell 4
 have n5:=Hkb.out.cell 5
 go_wp2_with fail
 refine (E9_ b _ 7 _ HVb.out Hlb.out).mono ?_
 rintro e w3 ⟨rfl,hb3⟩
 rw [Hfb.out]
 clear n0 n1 n2 n3 n4 n5
 replace HE:=hid (HE.out.up hb3)
 replace HVa:=hid (HVa.out.up hb3)
 replace HVb:=hid (HVb.out.up hb3)
 replace HW:=hid (HW.out.up hb3)
 replace Hka:=hid (Hka.out.below hb3 Hka.out.lt)
 replace Hkb:=hid (Hkb.out.below hb3 Hkb.out.lt)
 replace HxB:=hid (HxB.out.below hb3 HxB.out.lt)
 replace Hb0:=hid (Z0_ Hb0.out (le_refl _) hb3)
 clear hb3
 have k0:=Hka.out.cell 0
 have k1:=Hka.out.cell 1
 have k2:=Hka.out.cell 2
 have k3:=Hka.out.cell 3
 have k4:=Hka.out.cell 4
 have k5:=Hka.out.cell 5
 have n0:=Hkb.out.cell 0
 have n1:=Hkb.out.cell 1
 have n2:=Hkb.out.cell 2
 have n3:=Hkb.out.cell 3
 have n4:=Hkb.out.cell 4
 have n5:=Hkb.out.cell 5
 have x0:=HxB.out.cell 0
 have x1:=HxB.out.cell 1
 go_wp2_with fail
 refine (M6_ a b _ _ _ s _ HVa.out HVb.out (G7_ Hfa.out) (G7_ Hfb.out) HW.out).mono ?_
 rintro e w4 ⟨rfl,hb4⟩
 rw [Hm.out]
 clear k0 k1 k2 k3 k4 k5 n0 n1 n2 n3 n4 n5 x0 x1
 replace HE:=hid (HE.out.up hb4)
 replace HVa:=hid (HVa.out.up hb4)
 replace HVb:=hid (HVb.out.up hb4)
 replace HW:=hid (HW.out.up hb4)
 replace Hka:=hid (Hka.out.below hb4 Hka.out.lt)
 replace Hkb:=hid (Hkb.out.below hb4 Hkb.out.lt)
 replace HxB:=hid (HxB.out.below hb4 HxB.out.lt)
 replace Hb0:=hid (Z0_ Hb0.out (le_refl _) hb4)
 clear hb4
 have x0:=HxB.out.cell 0
 have x1:=HxB.out.cell 1
 go_wp2_with fail
 clear x0 x1
 refine (V6_ E _ HE.out).mono ?_
 rintro e w5 ⟨rfl,hb5⟩
 replace HE:=hid (HE.out.up hb5)
 replace HVa:=hid (HVa.out.up hb5)
 replace HVb:=hid (HVb.out.up hb5)
 replace HW:=hid (HW.out.up hb5)
 replace Hka:=hid (Hka.out.below hb5 Hka.out.lt)
 replace Hkb:=hid (Hkb.out.below hb5 Hkb.out.lt)
 replace HxB:=hid (HxB.out.below hb5 HxB.out.lt)
 replace Hb0:=hid (Z0_ Hb0.out (le_refl _) hb5)
 clear hb5
 go_wp2
 go_ret
 exact ⟨rfl,Hb0.out⟩):P:=h
theorem y0_ {P:Prop} (h:P:=by
 go_wp2
 go_loopw [5,7] (fun vn vi wr=>∃ (N i:Nat),vn=.int .i64 N∧vi=.int .i64 i∧i≤m.i.length∧N=addF (sz k) (rs m) (m.i.take i)∧Blk wr w.heap.size 25 #[.int .i64 m.t,.int .i64 m.n,.int .i64 m.a,.int .i64 m.b,.slice Al m.l.length cl,.slice Ai m.i.length ci]∧Below w.heap.size w wr) (fun _ vi _=>m.i.length - (intOf vi).toNat)
 case atStart=>exact ⟨rs m,0,by rw [HN.out],rfl,Nat.zero_le _,rfl,Hblk.out,Hb0.out⟩
 case round =>
  obtain ⟨N2,i,rfl,rfl,hi,hN2,hblk,hbr⟩:=hrel
  have Hblk2:=hid hblk
  have Hbr:=hid hbr
  have HN2:=hid hN2
  have c5:=hblk.cell 5
  clear hblk hbr hN2
  by_cases hlt:i<m.i.length
  ·have hltI:(i:Int)<(m.i.length:Int):=by omega
   by_cases hN:N2<10000
   ·have hNI:(N2:Int)<10000:=by omega
    obtain ⟨ad,u,hA,hab,hsix,hmv⟩:=Hik.out i hlt
    subst hA
    have hsix1:=hsix.below Hbr.out (by rw [Z2_];exact hab)
    have hmv1:=(hmv.bel Hbr.out).mono Hbr.out.size
    have hx:=lim_x Hs.out _ (X0_ m.i i default hlt)
    have hD:=sz_le k _ hx
    have Hcall:=hid (Ih.out (m.i.getD i default) u wr hmv1 hx)
    have Hnext:Hid (N2+sz k (m.i.getD i default)=addF (sz k) (rs m) (m.i.take (i+1))):=by
     show _=_
     rw [C0_ default hlt,← HN2.out]
     exact (if_pos hN).symm
    obtain ⟨x0,x1,x2,x3,x4,x5,rfl,s0,s1,s2,s3,s4,s5⟩:=hsix1
    obtain ⟨D,hDD⟩:∃ D,sz k (m.i.getD i default)=D:=⟨_,rfl⟩
    rw [hDD] at Hcall Hnext hD
    have hDI:(D:Int)≤140737489000000:=by omega
    clear hsix hmv hmv1 hx hDD hD
    go_wp2_with fail
    refine (Hcall.out).mono ?_
    rintro e w1 ⟨rfl,hb1⟩
    have Hb1:=hid (Z0_ Hbr.out (le_refl _) hb1)
    have Hblk3:=hid (Hblk2.out.below hb1 (by have:=Hblk2.out.lt;exact this))
    clear hb1
    go_wp2
    go_roundw
    case rel=>exact ⟨N2+D,i+1,by go_num,by go_num,by omega,Hnext.out,Hblk3.out,Hb1.out⟩
    case measure=>simp [intOf];omega
   ·have hNI:(10000:Int)≤(N2:Int):=by omega
    have Hend:Hid (N2=sz (k+1) m):=by
     show _=_
     rw [HN2.out]
     exact C1_ (by rw [← HN2.out];omega)
    go_wp2
    go_ret
    exact ⟨by rw [← Hend.out];rfl,Hbr.out⟩
  ·have hie:i=m.i.length:=by omega
   subst hie
   have Hend:Hid (N2=sz (k+1) m):=by
    show _=_
    rw [HN2.out,F8_]
    rfl
   go_wp2
   go_ret
   exact ⟨by rw [← Hend.out];rfl,Hbr.out⟩):P:=h
theorem z0_ {P:Prop} (h:P:=by
 go_enter Tryz.func45,Tryz.ntmps45
 go_wp2_with fail
 refine (Y1_ m.t _).mono ?_
 rintro e w1 ⟨rfl,hb1⟩
 rw [decide_eq_true Hn.out]
 have Hb1:=hid (Z0_ Hb0.out (le_refl _) hb1)
 have Hv1:=hid (Hv.out.up hb1)
 have Hl1:=hid (Hl.out.up hb1)
 have Hblk1:=hid (Hblk.out.below hb1 Hblk.out.lt)
 have k1:=Hblk1.out.cell
 have d0:=k1 0
 have d1:=k1 1
 have d2:=k1 2
 have d3:=k1 3
 have d4:=k1 4
 have d5:=k1 5
 clear k1 hb1 g0 g1 g2 g3 g4 g5 a3 a4 a5 a6 Hb0 Hv Hl Hblk
 go_wp2
 go_ret
 exact ⟨rfl,Hb1.out⟩):P:=h
theorem j0_ {P:Prop} (h:P:=by
 go_wp2
 go_loopw [5,7] (fun vn vi wr=>∃ (N i:Nat),vn=.int .i64 N∧vi=.int .i64 i∧i≤m.i.length∧N=addF (fun _:Mat=>10000) (rs m) (m.i.take i)∧Blk wr w.heap.size 25 #[.int .i64 m.t,.int .i64 m.n,.int .i64 m.a,.int .i64 m.b,.slice Al m.l.length cl,.slice Ai m.i.length ci]∧Below w.heap.size w wr) (fun _ vi _=>m.i.length - (intOf vi).toNat)
 case atStart=>exact ⟨rs m,0,by rw [HN.out],rfl,Nat.zero_le _,rfl,Hblk.out,Hb0.out⟩
 case round =>
  obtain ⟨N2,i,rfl,rfl,hi,hN2,hblk,hbr⟩:=hrel
  have Hblk2:=hid hblk
  have Hbr:=hid hbr
  have HN2:=hid hN2
  have c5:=hblk.cell 5
  clear hblk hbr hN2
  by_cases hlt:i<m.i.length
  ·have hltI:(i:Int)<(m.i.length:Int):=by omega
   by_cases hN:N2<10000
   ·have hNI:(N2:Int)<10000:=by omega
    have Hnext:Hid (N2+10000=addF (fun _:Mat=>10000) (rs m) (m.i.take (i+1))):=by
     show _=_
     rw [C0_ default hlt,← HN2.out]
     exact (if_pos hN).symm
    go_wp2
    go_roundw
    case rel=>exact ⟨N2+10000,i+1,by go_num,by go_num,by omega,Hnext.out,Hblk2.out,Hbr.out⟩
    case measure=>simp [intOf];omega
   ·have hNI:(10000:Int)≤(N2:Int):=by omega
    have Hend:Hid (N2=sz 0 m):=by
     show _=_
     rw [HN2.out]
     exact C1_ (by rw [← HN2.out];omega)
    go_wp2
    go_ret
    exact ⟨by rw [← Hend.out];rfl,Hbr.out⟩
  ·have hie:i=m.i.length:=by omega
   subst hie
   have Hend:Hid (N2=sz 0 m):=by
    show _=_
    rw [HN2.out,F8_]
    rfl
   go_wp2
   go_ret
   exact ⟨by rw [← Hend.out];rfl,Hbr.out⟩):P:=h
theorem k0_ {P:Prop} (h:P:=by
 go_enter Tryz.func45,Tryz.ntmps45
 go_wp2_with fail
 refine (Y1_ m.t _).mono ?_
 rintro e w1 ⟨rfl,hb1⟩
 rw [decide_eq_true Hn.out]
 have Hb1:=hid (Z0_ Hb0.out (le_refl _) hb1)
 have Hv1:=hid (Hv.out.up hb1)
 have Hl1:=hid (Hl.out.up hb1)
 have Hblk1:=hid (Hblk.out.below hb1 Hblk.out.lt)
 have k1:=Hblk1.out.cell
 have d0:=k1 0
 have d1:=k1 1
 have d2:=k1 2
 have d3:=k1 3
 have d4:=k1 4
 have d5:=k1 5
 clear k1 hb1 g0 g1 g2 g3 g4 g5 a3 a4 a5 a6 Hb0 Hv Hl Hblk
 go_wp2_with fail
 refine (Hsum.out _ _ Hv1.out).mono ?_
 rintro e w2 ⟨rfl,hb2⟩
 have Hb2:=hid (Z0_ Hb1.out (le_refl _) hb2)
 have Hl2:=hid (Hl1.out.up hb2)
 have Hblk2:=hid (Hblk1.out.below hb2 Hblk1.out.lt)
 clear hb2 d0 d1 d2 d3 d4 d5 e1 e2 e4 e5 e6
 have k2:=Hblk2.out.cell
 have d0:=k2 0
 have d1:=k2 1
 have d4:=k2 4
 clear k2
 go_wp2
 go_ret
 exact ⟨rfl,Hb2.out⟩):P:=h
theorem x1_ {P:Prop} (h:P:=by
 rcases ht:T (X:Int) (Y:Int) with _ | _
 ·have HMf:=hid HM10.out
  rw [Xj3 ht] at HMf
  go_wp2
  go_roundw
  case rel=>exact ⟨j+1,_,by go_num,by omega,by rw [HL2.out];exact HMf.out,HB10.out⟩
  case measure=>simp [intOf];omega
 ·have hAx:=HM10.out.at_ (i:=X) (by rw [Yc2];exact hXn)
  rw [Zc3 hXn hne] at hAx
  obtain ⟨A12,c12,hv12,gc,gf,ho12⟩:=hAx
  have hql:(V7_ F T L (X:Int)).length≤8320:=by have:=W9_ F T (X:Int) L;omega
  generalize hq:V7_ F T L (X:Int)=q2 at *
  have hsz12:=HB10.out.size
  have Hfy:Hid ((J3_ F T L (Y:Int) (X:Int) n).set X (q2 ++ [(Y:Int)])=V5_ F T (L ++ [((Y:Int),(X:Int))]) n):=hid (by rw [← hq];exact Yc3 hXn hne ht)
  clear hq
  go_wp2_with (at_builtin;refine wpList_append_lies _ rfl _ _ 26 rfl (w5.heap.size+1) 3 k0 (.int .i64 0) 1 8 (by kernel_rfl) ki kz0 kz1 kz2 rfl (by decide) _ q2.length (ints q2) rfl (ho12.alloc _) _ 1 1 [.int .i64 (Y:Int)] rfl rfl (Yx3 _ _ _) (by intro u hu;simp at hu;subst hu;rfl) (by decide) (by unfold maxLen;omega) (by omega) (by simp;exact hsz12) _ rfl ?_)
  intro g12 cap12 v12 hown12 hg12 hat12 _
  have HM12:=hid (AdjM.more HM10.out hv12 hown12 hg12 hat12)
  have HD12:=hid (AdjM.mid HM10.out hv12 _ hg12)
  have gc12:v12.cell? ⟨w5.heap.size,X,none⟩=some (.slice A12 q2.length c12):=by rw [HD12.out.1.cell];simpa using hv12
  have gf12:=HD12.out.1.frozen X
  clear hown12 hg12 hat12
  have HMf:=hid (HM12.out.1)
  rw [Hfy.out] at HMf
  have HBf:=hid (HB10.out.trans (HM12.out.2))
  clear HM12 HD12 Hfy
  go_wp2
  go_roundw
  case rel=>exact ⟨j+1,_,by go_num,by omega,by rw [HL2.out];exact HMf.out,HBf.out⟩
  case measure=>simp [intOf];omega):P:=h
theorem y1_ {P:Prop} (h:P:=by
 go_enter Tryz.func45,Tryz.ntmps45
 go_wp2_with fail
 refine (Y1_ m.t _).mono ?_
 rintro e w1 ⟨rfl,hb1⟩
 rw [decide_eq_true Hn.out]
 have Hb1:=hid (Z0_ Hb0.out (le_refl _) hb1)
 have Hv1:=hid (Hv.out.up hb1)
 have Hl1:=hid (Hl.out.up hb1)
 have Hblk1:=hid (Hblk.out.below hb1 Hblk.out.lt)
 have k1:=Hblk1.out.cell
 have d0:=k1 0
 have d1:=k1 1
 have d2:=k1 2
 have d3:=k1 3
 have d4:=k1 4
 have d5:=k1 5
 clear k1 hb1 g0 g1 g2 g3 g4 g5 a3 a4 a5 a6 Hb0 Hv Hl Hblk
 go_wp2_with fail
 refine (Hsum.out _ _ Hv1.out).mono ?_
 rintro e w2 ⟨rfl,hb2⟩
 have Hb2:=hid (Z0_ Hb1.out (le_refl _) hb2)
 have Hl2:=hid (Hl1.out.up hb2)
 have Hblk2:=hid (Hblk1.out.below hb2 Hblk1.out.lt)
 clear hb2 d0 d1 d2 d3 d4 d5 e1 e2 e4 e5 e6
 have k2:=Hblk2.out.cell
 have d0:=k2 0
 have d1:=k2 1
 have d4:=k2 4
 clear k2
 cases L0
 ·go_wp2
  go_ret
  exact ⟨rfl,Hb2.out⟩
 ·go_wp2
  go_ret
  exact ⟨by rw [Bool.true_and,← f1];rfl,Hb2.out⟩):P:=h
theorem j1_ {P:Prop} (h:P:=by
 go_wp2
 go_ret
 exact ⟨rfl,Hb1.out⟩):P:=h
theorem q2_ {P:Prop} (h:P:=by
 go_wp2
 go_ret
 exact ⟨rfl,Hb0.out⟩):P:=h
theorem x2_ {P:Prop} (h:P:=by
 refine wpQuiet_nil ?_
 intro w5 hB5
 go_wp2
 go_ret
 exact ⟨rfl,Hb0.out.trans (hB5.mono Hb0.out.size)⟩):P:=h
theorem z2_ {P:Prop} (h:P:=by
 clear hx hc Hk Ht
 rcases hq:P x with _ | _
 ·rw [hq] at Hcall
  have Hq:=hid hq
  clear hq
  go_wp2_with fail
  refine (Hcall.out).mono ?_
  rintro e w' ⟨rfl,hb'⟩
  go_wp2
  go_roundw
  case rel =>
   refine ⟨k+1,by go_num,by omega,Hb.out.trans (hb'.mono Hb.out.size),fun j hj=>?_⟩
   by_cases e:j=k
   ·rw [e,← Hx.out]
    exact Hq.out
   ·exact Hz.out j (by omega)
  case measure=>simp [intOf];omega
 ·rw [hq] at Hcall
  have Hq:=hid hq
  clear hq
  go_wp2_with fail
  refine (Hcall.out).mono ?_
  rintro e w' ⟨rfl,hb'⟩
  go_wp2
  go_ret
  exact ⟨_,rfl,.inr ⟨k,hlt,rfl,by rw [← Hx.out];exact Hq.out,Hz.out⟩,Hb.out.trans (hb'.mono Hb.out.size)⟩):P:=h
theorem j2_ {P:Prop} (h:P:=by
 go_wp2
 go_ret
 exact ⟨rfl,Hb2.out⟩):P:=h
theorem q3_ {P:Prop} (h:P:=by
 go_wp2
 go_ret
 exact ⟨rfl,Below.refl _ _⟩):P:=h
theorem x3_ {P:Prop} (h:P:=by
 have Hc:=hid (F3_ 151 #[.pointer (some ⟨bp,0,none⟩)] (wrongB p) v zs w (enters_of Tryz.func151 (by kernel_rfl) rfl) hr (by omega) (wrongtest p bp w hbp hp))
 obtain ⟨A,c,rfl,_⟩:=hr
 rw [decide_eq_false (by omega),Bool.false_or]
 generalize zs.any (wrongB p)=b at *
 have hne:((zs.length:Int) != rows)=false:=by simp [hl]
 clear hl hp
 go_enter Tryz.func152,Tryz.ntmps152
 go_wp2_with fail
 refine (Hc.out).mono ?_
 rintro e w1 ⟨rfl,hb1⟩
 go_wp2
 go_ret
 refine ⟨?_,hb1⟩
 rfl):P:=h
theorem z3_ {P:Prop} (h:P:=by
 go_wp2
 go_ret
 exact ⟨rfl,rfl⟩):P:=h
theorem k3_ {P:Prop} (h:P:=by
 intro v' w4 hown' hgrow
 have hb4:Below w.heap.size wr w4:=((Below.refl _ wr).alloc hbr.size _).grown hgrow (by have:=hbr.size;simp;omega) (fun i hi=>(hown.lt i hi).1)
 go_wp2
 go_roundw
 case rel=>exact ⟨k+1,y :: r,by go_num,by omega,Hrr.out.below hb4,B0_ Hsv.out,by rw [Hx.out,List.length_append];exact hown',hbr.trans hb4⟩
 case measure=>simp [intOf];omega):P:=h
theorem q4_ {P:Prop} (h:P:=by
 go_enter Tryz.func103,Tryz.ntmps103
 go_wp2_with fail
 refine (E1_ p true HP.out _).mono ?_
 rintro e w1 ⟨rfl,hb1⟩
 go_wp2
 go_ret
 exact ⟨rfl,hb1⟩):P:=h
theorem x4_ {P:Prop} (h:P:=by
 have h1':0≤x:=by omega
 rw [show decide (x<0∨p≤x)=decide (p≤x) from decide_eq_decide.2 ⟨fun h=>h.resolve_left h1,.inr⟩]
 clear h1
 go_enter Tryz.func151,Tryz.ntmps151
 go_wp2
 go_ret
 refine ⟨?_,Below.refl _ _⟩
 show Ending.returned (.bool (decide (x<0) || decide (p≤x)))=_
 rw [decide_eq_false (show ¬ x<0 by omega),Bool.false_or]):P:=h
theorem y4_ {P:Prop} (h:P:=by
 go_wp2
 go_roundw
 case rel=>exact ⟨i+1,by go_num,by omega,Hb1.out,Hnext.out Hok1.out⟩
 case measure=>simp [intOf];omega):P:=h
theorem k4_ {P:Prop} (h:P:=by
 have hset:=Zm4 (n:=s.length) Hfn.out hlt
 rw [hfa] at hset
 have Hset:=hid hset
 generalize ST.getD X 0=y at *
 clear hblk hbr hcs hct hX hx0 hx1 hfa hset hsz
 go_wp2
 go_roundw
 case rel=>exact ⟨k+1,by go_num,by omega,by rw [← Hset.out];exact Hblk.out.set_ k _,Hbr.out.setCell (by exact le_refl _) _⟩
 case measure=>simp [intOf];omega):P:=h
theorem q5_ {P:Prop} (h:P:=by
 have hie:i=adj.length:=by omega
 subst hie
 have Hyes:=hid (Hall.out Hok.out)
 go_wp2
 go_ret
 exact ⟨congrArg (fun b=>Ending.returned (.bool b)) Hyes.out.symm,Hbr.out⟩):P:=h
theorem x5_ {P:Prop} (h:P:=by
 subst h0
 go_wp2_with fail
 refine (mayset_is _ l true Hm.out _ Hru.out).mono ?_
 rintro e w1 ⟨rfl,hb1⟩
 have Hb1:=hid (Z0_ Hbr.out (le_refl _) hb1)
 clear hb1
 go_wp2
 go_roundw
 case rel=>exact ⟨i+1,by go_num,by omega,Hb1.out,Hnext.out hok1.out⟩
 case measure=>simp [intOf];omega):P:=h
theorem y5_ {P:Prop} (h:P:=by
 go_wp2
 go_quiet (fail)
 go_wp2
 go_ret
 exact V3_ Hf.out rfl (Y8_ Hq.out _)):P:=h
theorem j5_ {P:Prop} (h:P:=by
 have Hblk1:=hid (Hblk2.out.below hb1 Hblk2.out.lt)
 clear hb1
 go_wp2
 go_roundw
 case rel =>
  refine ⟨max d D,i+1,?_,by go_num,by omega,?_,Hblk1.out,Hb1.out⟩
  ·exact congrArg (Value.int .i64) (by omega)
  ·rw [Hms.out,Hdm.out]
 case measure=>simp [intOf];omega):P:=h
theorem k5_ {P:Prop} (h:P:=by
 rw [rounds_succ]
 go_wp2
 go_ret
 exact V3_ (Hno.out Hx.out) rfl ((Hwr.out).alloc (Hwr.out).size _)):P:=h
theorem q6_ {P:Prop} (h:P:=by
 have Hx:=hid (Hno.out (by rw [Hc.out];decide))
 clear Hyes Hno
 go_wp2
 go_roundw
 case rel=>exact ⟨k+1,y :: r,by go_num,by omega,Hrr.out,B0_ Hsv.out,by rw [Hx.out];exact hown,hbr⟩
 case measure=>simp [intOf];omega):P:=h
theorem y6_ {P:Prop} (h:P:=by
 go_wp2
 go_ret
 exact ⟨congrArg (fun b=>Ending.returned (.bool b)) Hno.out.symm,Hb1.out⟩):P:=h
theorem j6_ {P:Prop} (h:P:=by
 go_enter Tryz.func190,Tryz.ntmps190
 go_wp2
 go_ret
 exact V3_ Hno.out rfl (Below.refl _ _)):P:=h
theorem k6_ {P:Prop} (h:P:=by
 have hd:Hid (dp (k+1) m=1):=by
  show dp (k+1) m=1
  rw [dp,if_neg (by unfold nest;omega)]
 go_enter Tryz.func79,Tryz.ntmps79
 go_wp2
 go_ret
 exact ⟨by rw [hd.out];rfl,Hb0.out⟩):P:=h
theorem x7_ {P:Prop} (h:P:=by
 rintro e w3 ⟨rfl,hb3⟩
 have Hb3:=hid (Z0_ Hb2.out (le_refl _) hb3)
 clear hb3
 go_wp2
 go_ret
 exact ⟨rfl,Hb3.out⟩):P:=h
theorem q8_ {P:Prop} (h:P:=by
 have Hown6:=hid hown
 have Hb6:=hid hbr
 clear hown hbr
 go_wp2
 go_roundw
 case rel=>exact ⟨k+1,by go_num,by omega,by rw [Hm.out];exact Hown6.out,Hb6.out⟩
 case measure=>simp [intOf];omega):P:=h
theorem x8_ {P:Prop} (h:P:=by
 go_enter Tryz.func30,Tryz.ntmps30
 go_wp2
 refine wp_loop_rounds 1 ?_
 rw [rounds_succ]
 go_wp2
 go_ret
 exact ⟨by rw [hd.out];rfl,Hb0.out⟩):P:=h
theorem y8_ {P:Prop} (h:P:=by
 have hie:i=m.i.length:=by omega
 subst hie
 go_wp2
 go_ret
 refine ⟨?_,Hbr.out⟩
 have e:dp (k+1) m=d+1:=by rw [hd.out,← Zf8];have:=Hdm.out;omega
 rw [e]
 rfl):P:=h
theorem j9_ {P:Prop} (h:P:=by
 have hfx:=S5_ x false (by simp [hx])
 go_wp2_with (go_at_call 69;refine (hfx _).mono ?_;rintro e w' ⟨rfl,rfl⟩)
 go_ret
 exact V3_ (Hfail.out (.inl hx)) rfl Hq.out):P:=h
theorem k9_ {P:Prop} (h:P:=by
 go_wp2
 go_ret
 exact ⟨rfl,Hb3.out⟩):P:=h
theorem q10_ {P:Prop} (h:P:=by
 go_wp2
 go_ret
 exact ⟨congrArg (fun b=>Ending.returned (.bool b)) Hno.out.symm,Hbr.out⟩):P:=h
theorem x10_ {P:Prop} (h:P:=by
 have hke:k=l.length:=by omega
 have Hfin:=hid (Xx3 l k hke Hset.out)
 subst hke
 go_wp2
 go_ret
 refine V3_ Hfin.out rfl ?_
 rw [Hwr.out];exact Y8_ (Below.refl _ _) q):P:=h
theorem x11_ {P:Prop} (h:P:=by
 go_wp2
 go_ret
 exact ⟨rfl,Hbr.out⟩):P:=h
theorem y11_ {P:Prop} (h:P:=by
 rintro e w2 ⟨rfl,hb2⟩
 rw [hmb]
 go_wp2
 go_ret
 exact ⟨_,rfl,by rw [Hr.out];exact Row.nil_ _ _,hb1.trans (hb2.mono hb1.size),fun g hg=>by cases hg⟩):P:=h
theorem z11_ {P:Prop} (h:P:=by
 rintro e w2 ⟨rfl,hb2⟩
 have HB2:=hid (Z0_ HB1.out (le_refl _) hb2)
 clear hb2
 go_wp2
 go_ret
 exact ⟨_,rfl,Row.nil_ _ _,HB2.out,fun g hg=>by cases hg⟩):P:=h
theorem j11_ {P:Prop} (h:P:=by
 go_wp2
 go_ret
 exact ⟨rfl,hb1⟩):P:=h
theorem z13_ {P:Prop} (h:P:=by
 rintro e w1 ⟨rfl,hb1⟩
 rw [hma]
 go_wp2
 go_ret
 exact ⟨_,rfl,by rw [Hr.out];exact Row.nil_ _ _,hb1,fun g hg=>by cases hg⟩):P:=h
theorem j13_ {P:Prop} (h:P:=by
 go_enter Tryz.func132,Tryz.ntmps132
 go_wp2
 rw [← HW0.out]
 go_ret
 exact ⟨rfl,Hb0.out⟩):P:=h
theorem z14_ {P:Prop} (h:P:=by
 go_wp2
 refine wp_loop_rounds 1 ?_
 rw [rounds_succ]
 go_wp2
 go_ret
 exact P3_ Hno.out Hq.out Hend.out Hb1.out):P:=h
theorem q15_ {P:Prop} (h:P:=by
 refine wpQuiet_nil ?_
 intro w5 hB5
 have Hb5:=hid (Z0_ Hb3.out (le_refl _) hB5)
 clear hB5
 go_wp2
 go_ret
 exact ⟨rfl,Hb5.out⟩):P:=h
theorem j15_ {P:Prop} (h:P:=by
 go_enter Tryz.func85,Tryz.ntmps85
 go_wp2
 go_ret
 exact Zo8 w (Below.refl _ _) Hf.out):P:=h
theorem k15_ {P:Prop} (h:P:=by
 have h0':r<0:=by omega
 go_wp2
 go_ret
 refine ⟨?_,hb⟩
 rw [← Hf.out,decide_eq_false (by omega)]
 rfl):P:=h
theorem z18_ {P:Prop} (h:P:=by
 clear hl
 go_wp2
 go_ret
 refine ⟨?_,Below.refl _ _⟩
 simp [Hl.out]):P:=h
theorem j18_ {P:Prop} (h:P:=by
 have HB1:=hid hb1
 clear hb1
 go_wp2
 go_ret
 exact ⟨rfl,HB1.out⟩):P:=h
theorem x19_ {P:Prop} (h:P:=by
 obtain rfl:=Hr.out
 go_wp2
 go_ret
 exact ⟨by simp,Below.refl _ _⟩):P:=h
theorem y19_ {P:Prop} (h:P:=by
 subst hke
 go_wp2
 go_ret
 exact ⟨_,rfl,.inl ⟨rfl,Hz.out⟩,Hb.out⟩):P:=h
theorem z19_ {P:Prop} (h:P:=by
 go_wp2
 go_ret
 refine ⟨?_,hb⟩
 rw [← Hf.out,decide_eq_true h0]
 rfl):P:=h
theorem k20_ {P:Prop} (h:P:=by
 go_wp2
 go_ret
 exact P3_ Hno.out ⟨hq1,hq4⟩ Hend.out Hbr.out):P:=h
theorem x22_ {P:Prop} (h:P:=by
 go_wp2
 go_ret
 exact ⟨rfl,Hb.out⟩):P:=h
theorem y23_ {P:Prop} (h:P:=by exact (show Tryz.prog.wantsStandIn 25 = false by kernel_rfl)):P:=h
theorem y24_ {P:Prop} (h:P:=by
 go_enter Tryz.func30,Tryz.ntmps30
 go_wp2
 refine wp_loop_rounds 1 ?_
 rw [rounds_succ]
 exact q2_):P:=h
theorem z24_ {P:Prop} (h:P:=by
 go_enter Tryz.func77,Tryz.ntmps77
 exact q2_):P:=h
theorem j24_ {P:Prop} (h:P:=by
 have Hb1:=hid (Z0_ Hb0.out (le_refl _) hb1)
 clear hb1
 exact j1_):P:=h
theorem k24_ {P:Prop} (h:P:=by
 go_enter Tryz.func127,Tryz.ntmps127
 exact q3_):P:=h
theorem q25_ {P:Prop} (h:P:=by
 go_enter Tryz.func82,Tryz.ntmps82
 exact q2_):P:=h
theorem x25_ {P:Prop} (h:P:=by
 go_wp2
 refine wp_loop_rounds 1 ?_
 rw [rounds_succ]
 exact q2_):P:=h
theorem y25_ {P:Prop} (h:P:=by
 clear hb1
 exact j1_):P:=h
theorem z25_ {P:Prop} (h:P:=by
 clear hv hn hci hki gb h2
 have e1:(m.b != 0)=false:=by simpa using q1
 clear q1
 have e2:(m.a != 0)=false:=by simpa using q2
 have e4:¬ (m.i.length:Int)<1:=by omega
 have e5:¬ (8:Int)<(m.i.length:Int):=by omega
 have e6:¬ (1:Int)<(m.i.length:Int):=by omega
 clear q2 q4
 exact k0_):P:=h
theorem j25_ {P:Prop} (h:P:=by
 go_enter Tryz.func45,Tryz.ntmps45
 exact q2_):P:=h
theorem k25_ {P:Prop} (h:P:=by
 rw [decide_eq_true hl,Bool.true_or]
 obtain ⟨A,c,rfl,_⟩:=hr
 have hne:((zs.length:Int) != rows)=true:=by simpa using hl
 clear hl hp
 go_enter Tryz.func152,Tryz.ntmps152
 exact q3_):P:=h
theorem q26_ {P:Prop} (h:P:=by
 have e4:¬ (m.i.length:Int)<1:=by omega
 have e5:¬ (8:Int)<(m.i.length:Int):=by omega
 have e6:(1:Int)<(m.i.length:Int):=by omega
 have e7:(m.t != 9)=true:=by simpa using q6
 clear q4 q5 q6
 exact z0_):P:=h
theorem x26_ {P:Prop} (h:P:=by
 have Hb1:=hid (Z0_ Hb0.out (le_refl _) hb1)
 clear hb1 g0 g1 g2 g3 g4 g5
 exact j1_):P:=h
theorem y26_ {P:Prop} (h:P:=by
 rw [hf]
 clear hf
 go_enter Tryz.func69,Tryz.ntmps69
 exact z3_):P:=h
theorem z26_ {P:Prop} (h:P:=by
 have Hf:=hid (Hfail.out (.inl fun h=>hx1 h.2))
 have d0:decide (x<0)=false:=by simp;omega
 have d1:1099511627776<x:=by omega
 clear hx1
 exact y5_):P:=h
theorem j26_ {P:Prop} (h:P:=by
 go_enter Tryz.func169,Tryz.ntmps169
 exact z3_):P:=h
theorem k26_ {P:Prop} (h:P:=by
 go_enter Tryz.func189,Tryz.ntmps189
 go_wp2_with fail
 refine (H8_ p _ h).mono ?_
 rintro e w' ⟨rfl,rfl⟩
 exact z3_):P:=h
theorem q27_ {P:Prop} (h:P:=by
 have hxr2:right≤x:=by omega
 have Hno:=hid (Hmiss.out (Hlast.out.trans (decide_eq_false hxr)))
 exact y6_):P:=h
theorem x27_ {P:Prop} (h:P:=by
 rw [hf]
 clear hf
 go_enter Tryz.func121,Tryz.ntmps121
 exact z3_):P:=h
theorem y27_ {P:Prop} (h:P:=by
 have Hf:=hid (Hfail.out (.inl fun h=>hx0 h.1))
 have d0:x<0:=by omega
 clear hx0
 exact y5_):P:=h
theorem z27_ {P:Prop} (h:P:=by
 rw [decide_eq_true (Or.inl h1)]
 go_enter Tryz.func151,Tryz.ntmps151
 exact q3_):P:=h
theorem j27_ {P:Prop} (h:P:=by
 go_enter Tryz.func17,Tryz.ntmps17
 go_wp2_with fail
 rw [HW2.out]
 exact q2_):P:=h
theorem k27_ {P:Prop} (h:P:=by
 have e4:¬ (m.i.length:Int)<1:=by omega
 have e5:(8:Int)<(m.i.length:Int):=by omega
 clear q4
 exact z0_):P:=h
theorem q28_ {P:Prop} (h:P:=by
 rw [decide_eq_false (show ¬ (0≤rows∧rows≤64) by omega)]
 simp only [Bool.false_and]
 exact q4_):P:=h
theorem x28_ {P:Prop} (h:P:=by
 go_wp2
 refine wp_loop_rounds 3 ?_
 rw [rounds_succ]
 go_wp2
 exact k5_):P:=h
theorem y28_ {P:Prop} (h:P:=by
 go_enter Tryz.func50,Tryz.ntmps50
 exact q3_):P:=h
theorem z28_ {P:Prop} (h:P:=by
 go_enter Tryz.func79,Tryz.ntmps79
 exact q2_):P:=h
theorem j28_ {P:Prop} (h:P:=by
 go_enter Tryz.func193,Tryz.ntmps193
 exact z3_):P:=h
theorem k28_ {P:Prop} (h:P:=by
 go_enter Tryz.func111,Tryz.ntmps111
 exact q2_):P:=h
theorem q29_ {P:Prop} (h:P:=by
 obtain rfl:=Hr.out
 exact j1_):P:=h
theorem x29_ {P:Prop} (h:P:=by
 rintro e w1 ⟨rfl,hb1⟩
 have Hb1:=hid (Z0_ Hbr.out (le_refl _) hb1)
 exact y25_):P:=h
theorem y29_ {P:Prop} (h:P:=by
 go_enter Tryz.func25,Tryz.ntmps25
 go_wp2_with fail
 refine (P6_ _ l w Hr.out hlm Hm.out).mono ?_
 rintro e w1 ⟨rfl,hb1⟩
 have Hb1:=hid hb1
 exact y25_):P:=h
theorem z29_ {P:Prop} (h:P:=by
 rintro e w1 ⟨rfl,hb1⟩
 have Hb1:=hid (Z0_ Hb0.out (Nat.le_refl _) hb1)
 exact y25_):P:=h
theorem j29_ {P:Prop} (h:P:=by
 rintro e w1 ⟨rfl,hb1⟩
 rw [Hcc.out]
 exact j24_):P:=h
theorem k29_ {P:Prop} (h:P:=by
 rw [decide_eq_false h1,Bool.false_and]
 have h1':((l.length:Int)==n)=false:=by simpa using h1
 exact z24_):P:=h
theorem y30_ {P:Prop} (h:P:=by
 go_enter Tryz.func79,Tryz.ntmps79
 exact x25_):P:=h
theorem z30_ {P:Prop} (h:P:=by
 rintro e w1 ⟨rfl,hb1⟩
 exact j24_):P:=h
theorem j30_ {P:Prop} (h:P:=by
 go_wp2_with fail
 refine (mayset_is _ l false Hm.out _ Hru.out).mono ?_
 exact x29_):P:=h
theorem q31_ {P:Prop} (h:P:=by kernel_rfl):P:=h
theorem z32_ {P:Prop} (h:P:=by go_num):P:=h
end Go.Proofs.YtgpljiijjnaofaaGreatDoor.Wp
