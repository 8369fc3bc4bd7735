/- Closing steps that stand often, by their scripts (in walks of regions). -/
import Derived.BigQuiet
import Derived.Laws.AppendOwnNone
import Derived.Lib.Hide
import Derived.Lib.OwnBridge
import Derived.Maps.AppendAt
import Derived.WalkKit
import Derived.Test.YtnaebbjodfnooaaGreatDoorProg
namespace Go.Proofs.YtnaebbjodfnooaaGreatDoor.Wp
variable {P:Prop}
theorem q0_ (h:P:=by
 rw [e]
 try clear ha
 try clear hb
 try clear hf
 try clear hl
 clear e
 go_enter Tryz.func104,Tryz.ntmps104
 go_wp2
 all_goals (go_ret;exact ⟨rfl,Hb.out⟩)):P:=h
theorem x0_ (h:P:=by
 go_wp2
 go_loopw [5,7] (fun vn vi wr=>∃ (N i:Nat),vn=.int .i64 N∧vi=.int .i64 i∧i≤m.i.length∧N=addF (sz k) (rs m) (m.i.take i)∧Blk wr w.heap.size 25 #[.int .i64 m.t,.int .i64 m.n,.int .i64 m.a,.int .i64 m.b,.slice Al m.l.length cl,.slice Ai m.i.length ci]∧Below w.heap.size w wr) (fun _ vi _=>m.i.length - (intOf vi).toNat)
 case atStart=>exact ⟨rs m,0,by rw [HN.out],rfl,Nat.zero_le _,rfl,Hblk.out,Hb0.out⟩
 case round =>
  obtain ⟨N2,i,rfl,rfl,hi,hN2,hblk,hbr⟩:=hrel
  have Hblk2:=hid hblk
  have Hbr:=hid hbr
  have HN2:=hid hN2
  have c5:=hblk.cell 5
  clear hblk hbr hN2
  by_cases hlt:i<m.i.length
  ·have hltI:(i:Int)<(m.i.length:Int):=by omega
   by_cases hN:N2<10000
   ·have hNI:(N2:Int)<10000:=by omega
    obtain ⟨ad,u,hA,hab,hsix,hmv⟩:=Hik.out i hlt
    subst hA
    have hsix1:=hsix.below Hbr.out (by rw [Z2_];exact hab)
    have hmv1:=(hmv.bel Hbr.out).mono Hbr.out.size
    have hx:=lim_x Hs.out _ (Y6_ m.i i default hlt)
    have hD:=sz_le k _ hx
    have Hcall:=hid (Ih.out (m.i.getD i default) u wr hmv1 hx)
    have Hnext:Hid (N2+sz k (m.i.getD i default)=addF (sz k) (rs m) (m.i.take (i+1))):=by
     show _=_
     rw [F0_ default hlt,← HN2.out]
     exact (if_pos hN).symm
    obtain ⟨x0,x1,x2,x3,x4,x5,rfl,s0,s1,s2,s3,s4,s5⟩:=hsix1
    obtain ⟨D,hDD⟩:∃ D,sz k (m.i.getD i default)=D:=⟨_,rfl⟩
    rw [hDD] at Hcall Hnext hD
    have hDI:(D:Int)≤140737489000000:=by omega
    clear hsix hmv hmv1 hx hDD hD
    go_wp2_with fail
    refine (Hcall.out).mono ?_
    rintro e w1 ⟨rfl,hb1⟩
    have Hb1:=hid (Z0_ Hbr.out (le_refl _) hb1)
    have Hblk3:=hid (Hblk2.out.below hb1 (by have:=Hblk2.out.lt;exact this))
    clear hb1
    go_wp2
    go_roundw
    case rel=>exact ⟨N2+D,i+1,by go_num,by go_num,by omega,Hnext.out,Hblk3.out,Hb1.out⟩
    case measure=>simp [intOf];omega
   ·have hNI:(10000:Int)≤(N2:Int):=by omega
    have Hend:Hid (N2=sz (k+1) m):=by
     show _=_
     rw [HN2.out]
     exact F1_ (by rw [← HN2.out];omega)
    go_wp2
    go_ret
    exact ⟨by rw [← Hend.out];rfl,Hbr.out⟩
  ·have hie:i=m.i.length:=by omega
   subst hie
   have Hend:Hid (N2=sz (k+1) m):=by
    show _=_
    rw [HN2.out,I3_]
    rfl
   go_wp2
   go_ret
   exact ⟨by rw [← Hend.out];rfl,Hbr.out⟩):P:=h
theorem z0_ (h:P:=by
 go_enter Tryz.func47,Tryz.ntmps47
 go_wp2_with fail
 refine (X1_ m.t _).mono ?_
 rintro e w1 ⟨rfl,hb1⟩
 rw [decide_eq_true Hn.out]
 have Hb1:=hid (Z0_ Hb0.out (le_refl _) hb1)
 have Hv1:=hid (Hv.out.up hb1)
 have Hl1:=hid (Hl.out.up hb1)
 have Hblk1:=hid (Hblk.out.below hb1 Hblk.out.lt)
 have k1:=Hblk1.out.cell
 have d0:=k1 0
 have d1:=k1 1
 have d2:=k1 2
 have d3:=k1 3
 have d4:=k1 4
 have d5:=k1 5
 clear k1 hb1 g0 g1 g2 g3 g4 g5 a3 a4 a5 a6 Hb0 Hv Hl Hblk
 go_wp2
 go_ret
 exact ⟨rfl,Hb1.out⟩):P:=h
theorem j0_ (h:P:=by
 go_wp2
 go_loopw [5,7] (fun vn vi wr=>∃ (N i:Nat),vn=.int .i64 N∧vi=.int .i64 i∧i≤m.i.length∧N=addF (fun _:Mat=>10000) (rs m) (m.i.take i)∧Blk wr w.heap.size 25 #[.int .i64 m.t,.int .i64 m.n,.int .i64 m.a,.int .i64 m.b,.slice Al m.l.length cl,.slice Ai m.i.length ci]∧Below w.heap.size w wr) (fun _ vi _=>m.i.length - (intOf vi).toNat)
 case atStart=>exact ⟨rs m,0,by rw [HN.out],rfl,Nat.zero_le _,rfl,Hblk.out,Hb0.out⟩
 case round =>
  obtain ⟨N2,i,rfl,rfl,hi,hN2,hblk,hbr⟩:=hrel
  have Hblk2:=hid hblk
  have Hbr:=hid hbr
  have HN2:=hid hN2
  have c5:=hblk.cell 5
  clear hblk hbr hN2
  by_cases hlt:i<m.i.length
  ·have hltI:(i:Int)<(m.i.length:Int):=by omega
   by_cases hN:N2<10000
   ·have hNI:(N2:Int)<10000:=by omega
    have Hnext:Hid (N2+10000=addF (fun _:Mat=>10000) (rs m) (m.i.take (i+1))):=by
     show _=_
     rw [F0_ default hlt,← HN2.out]
     exact (if_pos hN).symm
    go_wp2
    go_roundw
    case rel=>exact ⟨N2+10000,i+1,by go_num,by go_num,by omega,Hnext.out,Hblk2.out,Hbr.out⟩
    case measure=>simp [intOf];omega
   ·have hNI:(10000:Int)≤(N2:Int):=by omega
    have Hend:Hid (N2=sz 0 m):=by
     show _=_
     rw [HN2.out]
     exact F1_ (by rw [← HN2.out];omega)
    go_wp2
    go_ret
    exact ⟨by rw [← Hend.out];rfl,Hbr.out⟩
  ·have hie:i=m.i.length:=by omega
   subst hie
   have Hend:Hid (N2=sz 0 m):=by
    show _=_
    rw [HN2.out,I3_]
    rfl
   go_wp2
   go_ret
   exact ⟨by rw [← Hend.out];rfl,Hbr.out⟩):P:=h
theorem k0_ (h:P:=by
 go_enter Tryz.func47,Tryz.ntmps47
 go_wp2_with fail
 refine (X1_ m.t _).mono ?_
 rintro e w1 ⟨rfl,hb1⟩
 rw [decide_eq_true Hn.out]
 have Hb1:=hid (Z0_ Hb0.out (le_refl _) hb1)
 have Hv1:=hid (Hv.out.up hb1)
 have Hl1:=hid (Hl.out.up hb1)
 have Hblk1:=hid (Hblk.out.below hb1 Hblk.out.lt)
 have k1:=Hblk1.out.cell
 have d0:=k1 0
 have d1:=k1 1
 have d2:=k1 2
 have d3:=k1 3
 have d4:=k1 4
 have d5:=k1 5
 clear k1 hb1 g0 g1 g2 g3 g4 g5 a3 a4 a5 a6 Hb0 Hv Hl Hblk
 go_wp2_with fail
 refine (Hsum.out _ _ Hv1.out).mono ?_
 rintro e w2 ⟨rfl,hb2⟩
 have Hb2:=hid (Z0_ Hb1.out (le_refl _) hb2)
 have Hl2:=hid (Hl1.out.up hb2)
 have Hblk2:=hid (Hblk1.out.below hb2 Hblk1.out.lt)
 clear hb2 d0 d1 d2 d3 d4 d5 e1 e2 e4 e5 e6
 have k2:=Hblk2.out.cell
 have d0:=k2 0
 have d1:=k2 1
 have d4:=k2 4
 clear k2
 go_wp2
 go_ret
 exact ⟨rfl,Hb2.out⟩):P:=h
theorem q1_ (h:P:=by
 obtain ⟨k,rfl,hk,hown,hbr⟩:=hrel
 clear hown0
 by_cases hlt:k<s.length
 ·have hltI:(k:Int)<(s.length:Int):=by omega
  have hx:=Hs.out k hlt
  obtain ⟨as_,hA,hasb,hcs⟩:=Hsk.out k hlt
  subst hA
  have gs:=(hbr.cell (p:=as_.add k) (by rw [Z2_];exact hasb)).trans hcs
  have hmo:=Yz9 (f:=f) (n:=n) hlt
  have hbl:=Zc6 (s.take k) f n
  rw [List.length_take] at hbl
  generalize s.getD k 0=x at *
  have Hmo:=hid hmo
  clear hcs hmo
  by_cases h1:f≤x
  ·by_cases h2:x<f+n
   ·have hw:IntKind.i64.wrap (x - f)=x - f:=by rw [IntKind.wrap_i64];omega
    have Hm:Hid (betL (s.take (k+1)) f n=betL (s.take k) f n ++ [x - f]):=hid (by rw [Hmo.out,if_pos (by unfold betB;rw [decide_eq_true h1,decide_eq_true h2];rfl)])
    go_wp2_with (at_builtin;refine Z4_ rfl _ _ rfl w.heap.size _ _ _ (betL (s.take k) f n) [x - f] rfl rfl (hown.alloc _) (Row.lit1 _ (x - f)) (by omega) (by simp) (by have:=hbr.size;simp;omega) ?_)
    intro v' w6 hown' hgrow
    have hb6:Below w.heap.size wr w6:=((Below.refl _ wr).alloc hbr.size _).grown hgrow (by have:=hbr.size;simp;omega) (fun i hi=>(hown.lt i hi).1)
    have Hown6:Hid (w6.ownsRow w.heap.size 3 1 v' (betL (s.take (k+1)) f n).length (ints (betL (s.take (k+1)) f n))):=hid (by rw [Hm.out,List.length_append];exact hown')
    have Hb6:=hid (hbr.trans hb6)
    clear hown' hb6 hown hbr
    go_wp2
    go_roundw
    case rel=>exact ⟨k+1,by go_num,by omega,Hown6.out,Hb6.out⟩
    case measure=>simp [intOf];omega
   ·have Hm:Hid (betL (s.take (k+1)) f n=betL (s.take k) f n):=hid (by rw [Hmo.out,if_neg (by unfold betB;rw [decide_eq_false h2,Bool.and_false];decide),List.append_nil])
    have Hown6:=hid hown
    have Hb6:=hid hbr
    clear hown hbr
    go_wp2
    go_roundw
    case rel=>exact ⟨k+1,by go_num,by omega,by rw [Hm.out];exact Hown6.out,Hb6.out⟩
    case measure=>simp [intOf];omega
  ·have Hm:Hid (betL (s.take (k+1)) f n=betL (s.take k) f n):=hid (by rw [Hmo.out,if_neg (by unfold betB;rw [decide_eq_false h1,Bool.false_and];decide),List.append_nil])
   have Hown6:=hid hown
   have Hb6:=hid hbr
   clear hown hbr
   go_wp2
   go_roundw
   case rel=>exact ⟨k+1,by go_num,by omega,by rw [Hm.out];exact Hown6.out,Hb6.out⟩
   case measure=>simp [intOf];omega
 ·have hke:k=s.length:=by omega
  subst hke
  rw [List.take_length] at hown
  go_wp2
  go_ret
  exact ⟨_,rfl,Row.of_own hown rfl,hbr⟩):P:=h
theorem x1_ (h:P:=by
 rcases ht:T (X:Int) (Y:Int) with _ | _
 ·have HMf:=hid HM10.out
  rw [Xi7 ht] at HMf
  go_wp2
  go_roundw
  case rel=>exact ⟨j+1,_,by go_num,by omega,by rw [HL2.out];exact HMf.out,HB10.out⟩
  case measure=>simp [intOf];omega
 ·have hAx:=HM10.out.at_ (i:=X) (by rw [Yo6];exact hXn)
  rw [Zk8 hXn hne] at hAx
  obtain ⟨A12,c12,hv12,gc,gf,ho12⟩:=hAx
  have hql:(J5_ F T L (X:Int)).length≤8320:=by have:=Zq4 F T (X:Int) L;omega
  generalize hq:J5_ F T L (X:Int)=q2 at *
  have hsz12:=HB10.out.size
  have Hfy:Hid ((A0_ F T L (Y:Int) (X:Int) n).set X (q2 ++ [(Y:Int)])=J2_ F T (L ++ [((Y:Int),(X:Int))]) n):=hid (by rw [← hq];exact Yo7 hXn hne ht)
  clear hq
  go_wp2_with (at_builtin;refine wpList_append_lies _ rfl _ _ 26 rfl (w5.heap.size+1) 3 k0 (.int .i64 0) 1 8 (by kernel_rfl) ki kz0 kz1 kz2 rfl (by decide) _ q2.length (ints q2) rfl (ho12.alloc _) _ 1 1 [.int .i64 (Y:Int)] rfl rfl (Yg3 _ _ _) (by intro u hu;simp at hu;subst hu;rfl) (by decide) (by unfold maxLen;omega) (by omega) (by simp;exact hsz12) _ rfl ?_)
  intro g12 cap12 v12 hown12 hg12 hat12 _
  have HM12:=hid (AdjM.more HM10.out hv12 hown12 hg12 hat12)
  have HD12:=hid (AdjM.mid HM10.out hv12 _ hg12)
  have gc12:v12.cell? ⟨w5.heap.size,X,none⟩=some (.slice A12 q2.length c12):=by rw [HD12.out.1.cell];simpa using hv12
  have gf12:=HD12.out.1.frozen X
  clear hown12 hg12 hat12
  have HMf:=hid (HM12.out.1)
  rw [Hfy.out] at HMf
  have HBf:=hid (HB10.out.trans (HM12.out.2))
  clear HM12 HD12 Hfy
  go_wp2
  go_roundw
  case rel=>exact ⟨j+1,_,by go_num,by omega,by rw [HL2.out];exact HMf.out,HBf.out⟩
  case measure=>simp [intOf];omega):P:=h
theorem y1_ (h:P:=by
 go_enter Tryz.func47,Tryz.ntmps47
 go_wp2_with fail
 refine (X1_ m.t _).mono ?_
 rintro e w1 ⟨rfl,hb1⟩
 rw [decide_eq_true Hn.out]
 have Hb1:=hid (Z0_ Hb0.out (le_refl _) hb1)
 have Hv1:=hid (Hv.out.up hb1)
 have Hl1:=hid (Hl.out.up hb1)
 have Hblk1:=hid (Hblk.out.below hb1 Hblk.out.lt)
 have k1:=Hblk1.out.cell
 have d0:=k1 0
 have d1:=k1 1
 have d2:=k1 2
 have d3:=k1 3
 have d4:=k1 4
 have d5:=k1 5
 clear k1 hb1 g0 g1 g2 g3 g4 g5 a3 a4 a5 a6 Hb0 Hv Hl Hblk
 go_wp2_with fail
 refine (Hsum.out _ _ Hv1.out).mono ?_
 rintro e w2 ⟨rfl,hb2⟩
 have Hb2:=hid (Z0_ Hb1.out (le_refl _) hb2)
 have Hl2:=hid (Hl1.out.up hb2)
 have Hblk2:=hid (Hblk1.out.below hb2 Hblk1.out.lt)
 clear hb2 d0 d1 d2 d3 d4 d5 e1 e2 e4 e5 e6
 have k2:=Hblk2.out.cell
 have d0:=k2 0
 have d1:=k2 1
 have d4:=k2 4
 clear k2
 cases L0
 ·go_wp2
  go_ret
  exact ⟨rfl,Hb2.out⟩
 ·go_wp2
  go_ret
  exact ⟨by rw [Bool.true_and,← f1];rfl,Hb2.out⟩):P:=h
theorem j1_ (h:P:=by
 go_wp2
 go_ret
 exact ⟨rfl,Hb1.out⟩):P:=h
theorem q2_ (h:P:=by
 have k0:=Hka2.out.cell 0
 have k1:=Hka2.out.cell 1
 have k2:=Hka2.out.cell 2
 have k3:=Hka2.out.cell 3
 have k4:=Hka2.out.cell 4
 have k5:=Hka2.out.cell 5
 have n0:=Hkb2.out.cell 0
 have n1:=Hkb2.out.cell 1
 have n2:=Hkb2.out.cell 2
 have n3:=Hkb2.out.cell 3
 have n4:=Hkb2.out.cell 4
 have n5:=Hkb2.out.cell 5
 go_wp2_with fail
 refine (P2_ a b _ _ _ HVa2.out HVb2.out Hsa.out Hsb.out _ t HT2.out).mono ?_
 rintro e w13 ⟨rfl,hb13⟩
 rw [HNt.out]
 have HBn2:=hid (Z0_ HBn.out (le_refl _) hb13)
 clear hb13 k0 k1 k2 k3 k4 k5 n0 n1 n2 n3 n4 n5
 go_wp2
 go_roundw
 case rel=>exact ⟨rfl,Q+1,by go_num,by omega,HBn2⟩
 case measure=>simp [intOf];omega):P:=h
theorem x2_ (h:P:=by
 go_wp2
 go_ret
 exact ⟨rfl,Hb0.out⟩):P:=h
theorem y2_ (h:P:=by
 go_wp2
 go_ret
 exact ⟨rfl,Hb2.out⟩):P:=h
theorem z2_ (h:P:=by
 refine wpQuiet_nil ?_
 intro w5 hB5
 go_wp2
 go_ret
 exact ⟨rfl,Hb0.out.trans (hB5.mono Hb0.out.size)⟩):P:=h
theorem k2_ (h:P:=by
 clear hx hc Hk Ht
 rcases hq:P x with _ | _
 ·rw [hq] at Hcall
  have Hq:=hid hq
  clear hq
  go_wp2_with fail
  refine (Hcall.out).mono ?_
  rintro e w' ⟨rfl,hb'⟩
  go_wp2
  go_roundw
  case rel =>
   refine ⟨k+1,by go_num,by omega,Hb.out.trans (hb'.mono Hb.out.size),fun j hj=>?_⟩
   by_cases e:j=k
   ·rw [e,← Hx.out]
    exact Hq.out
   ·exact Hz.out j (by omega)
  case measure=>simp [intOf];omega
 ·rw [hq] at Hcall
  have Hq:=hid hq
  clear hq
  go_wp2_with fail
  refine (Hcall.out).mono ?_
  rintro e w' ⟨rfl,hb'⟩
  go_wp2
  go_ret
  exact ⟨_,rfl,.inr ⟨k,hlt,rfl,by rw [← Hx.out];exact Hq.out,Hz.out⟩,Hb.out.trans (hb'.mono Hb.out.size)⟩):P:=h
theorem y3_ (h:P:=by
 go_wp2
 go_ret
 exact ⟨rfl,Below.refl _ _⟩):P:=h
theorem z3_ (h:P:=by
 have Hc:=hid (I1_ 148 #[.pointer (some ⟨bp,0,none⟩)] (wrongB p) v zs w (enters_of Tryz.func148 (by kernel_rfl) rfl) hr (by omega) (wrongtest p bp w hbp hp))
 obtain ⟨A,c,rfl,_⟩:=hr
 rw [decide_eq_false (by omega),Bool.false_or]
 generalize zs.any (wrongB p)=b at *
 have hne:((zs.length:Int) != rows)=false:=by simp [hl]
 clear hl hp
 go_enter Tryz.func149,Tryz.ntmps149
 go_wp2_with fail
 refine (Hc.out).mono ?_
 rintro e w1 ⟨rfl,hb1⟩
 go_wp2
 go_ret
 refine ⟨?_,hb1⟩
 rfl):P:=h
theorem k3_ (h:P:=by
 go_wp2
 go_ret
 exact ⟨rfl,rfl⟩):P:=h
theorem x4_ (h:P:=by
 have hc:wr.cell? ⟨g,k,none⟩=some (.int .i64 0):=by
  have:=Hlab.out.cell hlt
  simpa using this
 have hfz:wr.frozen? ⟨g,k,none⟩=false:=Hlab.out.frozen k
 go_wp2
 go_roundw
 case rel =>
  refine ⟨k+1,by go_num,by omega,(Hlab.out.set k k).congr fun i hi=>?_,Hbr.out.setCell Hgs.out _⟩
  by_cases hik:i=k
  ·simp [hik]
  ·by_cases hlt':i<k
   ·simp [hik,hlt',show i<k+1 by omega]
   ·simp [hik,hlt',show ¬ i<k+1 by omega]
 case measure=>simp [intOf];omega):P:=h
theorem z4_ (h:P:=by
 rintro e w3 ⟨rfl,hb3⟩
 have Hb3:=hid (Z0_ Hb2.out (le_refl _) hb3)
 clear hb3
 go_wp2
 go_ret
 exact ⟨rfl,Hb3.out⟩):P:=h
theorem k4_ (h:P:=by
 intro v' w4 hown' hgrow
 have hb4:Below w.heap.size wr w4:=((Below.refl _ wr).alloc hbr.size _).grown hgrow (by have:=hbr.size;simp;omega) (fun i hi=>(hown.lt i hi).1)
 go_wp2
 go_roundw
 case rel=>exact ⟨k+1,y :: r,by go_num,by omega,Hrr.out.below hb4,D9_ Hsv.out,by rw [Hx.out,List.length_append];exact hown',hbr.trans hb4⟩
 case measure=>simp [intOf];omega):P:=h
theorem q5_ (h:P:=by
 go_enter Tryz.func108,Tryz.ntmps108
 go_wp2_with fail
 refine (H4_ p true HP.out _).mono ?_
 rintro e w1 ⟨rfl,hb1⟩
 go_wp2
 go_ret
 exact ⟨rfl,hb1⟩):P:=h
theorem x5_ (h:P:=by
 have h1':0≤x:=by omega
 rw [show decide (x<0∨p≤x)=decide (p≤x) from decide_eq_decide.2 ⟨fun h=>h.resolve_left h1,.inr⟩]
 clear h1
 go_enter Tryz.func148,Tryz.ntmps148
 go_wp2
 go_ret
 refine ⟨?_,Below.refl _ _⟩
 show Ending.returned (.bool (decide (x<0) || decide (p≤x)))=_
 rw [decide_eq_false (show ¬ x<0 by omega),Bool.false_or]):P:=h
theorem y5_ (h:P:=by
 go_wp2
 go_roundw
 case rel=>exact ⟨i+1,by go_num,by omega,Hb1.out,Hnext.out Hok1.out⟩
 case measure=>simp [intOf];omega):P:=h
theorem j5_ (h:P:=by
 have hset:=Yz0 (n:=s.length) Hfn.out hlt
 rw [hfa] at hset
 have Hset:=hid hset
 generalize ST.getD X 0=y at *
 clear hblk hbr hcs hct hX hx0 hx1 hfa hset hsz
 go_wp2
 go_roundw
 case rel=>exact ⟨k+1,by go_num,by omega,by rw [← Hset.out];exact Hblk.out.set_ k _,Hbr.out.setCell (by exact le_refl _) _⟩
 case measure=>simp [intOf];omega):P:=h
theorem k5_ (h:P:=by
 have hie:i=adj.length:=by omega
 subst hie
 have Hyes:=hid (Hall.out Hok.out)
 go_wp2
 go_ret
 exact ⟨congrArg (fun b=>Ending.returned (.bool b)) Hyes.out.symm,Hbr.out⟩):P:=h
theorem q6_ (h:P:=by
 go_wp2
 go_ret
 exact ⟨rfl,Hb3.out⟩):P:=h
theorem y6_ (h:P:=by
 subst h0
 go_wp2_with fail
 refine (mayset_is _ l true Hm.out _ Hru.out).mono ?_
 rintro e w1 ⟨rfl,hb1⟩
 have Hb1:=hid (Z0_ Hbr.out (le_refl _) hb1)
 clear hb1
 go_wp2
 go_roundw
 case rel=>exact ⟨i+1,by go_num,by omega,Hb1.out,Hnext.out hok1.out⟩
 case measure=>simp [intOf];omega):P:=h
theorem z6_ (h:P:=by
 go_wp2
 go_quiet (fail)
 go_wp2
 go_ret
 exact X8_ Hf.out rfl (Y2_ Hq.out _)):P:=h
theorem q7_ (h:P:=by
 have Hblk1:=hid (Hblk2.out.below hb1 Hblk2.out.lt)
 clear hb1
 go_wp2
 go_roundw
 case rel =>
  refine ⟨max d D,i+1,?_,by go_num,by omega,?_,Hblk1.out,Hb1.out⟩
  ·exact congrArg (Value.int .i64) (by omega)
  ·rw [Hms.out,Hdm.out]
 case measure=>simp [intOf];omega):P:=h
theorem y7_ (h:P:=by
 rw [rounds_succ]
 go_wp2
 go_ret
 exact X8_ (Hno.out Hx.out) rfl ((Hwr.out).alloc (Hwr.out).size _)):P:=h
theorem z7_ (h:P:=by
 have Hx:=hid (Hno.out (by rw [Hc.out];decide))
 clear Hyes Hno
 go_wp2
 go_roundw
 case rel=>exact ⟨k+1,y :: r,by go_num,by omega,Hrr.out,D9_ Hsv.out,by rw [Hx.out];exact hown,hbr⟩
 case measure=>simp [intOf];omega):P:=h
theorem k7_ (h:P:=by
 go_wp2
 go_ret
 exact ⟨congrArg (fun b=>Ending.returned (.bool b)) Hno.out.symm,Hb1.out⟩):P:=h
theorem x8_ (h:P:=by
 rintro e w1 ⟨rfl,hb1⟩
 go_wp2
 go_ret
 exact ⟨rfl,hb1⟩):P:=h
theorem z8_ (h:P:=by
 go_wp2
 go_roundw
 case rel=>exact ⟨k+1,by go_num,by omega,by rw [Hx.out];exact hro,hbr⟩
 case measure=>simp [intOf];omega):P:=h
theorem j8_ (h:P:=by
 go_enter Tryz.func187,Tryz.ntmps187
 go_wp2
 go_ret
 exact X8_ Hno.out rfl (Below.refl _ _)):P:=h
theorem k8_ (h:P:=by
 have hd:Hid (dp (k+1) m=1):=by
  show dp (k+1) m=1
  rw [dp,if_neg (by unfold nest;omega)]
 go_enter Tryz.func74,Tryz.ntmps74
 go_wp2
 go_ret
 exact ⟨by rw [hd.out];rfl,Hb0.out⟩):P:=h
theorem j9_ (h:P:=by
 go_enter Tryz.func165,Tryz.ntmps165
 go_wp2
 go_ret
 exact N8_ _ _):P:=h
theorem k9_ (h:P:=by
 go_enter Tryz.func26,Tryz.ntmps26
 go_wp2
 refine wp_loop_rounds 1 ?_
 rw [rounds_succ]
 go_wp2
 go_ret
 exact ⟨by rw [hd.out];rfl,Hb0.out⟩):P:=h
theorem q10_ (h:P:=by
 have hie:i=m.i.length:=by omega
 subst hie
 go_wp2
 go_ret
 refine ⟨?_,Hbr.out⟩
 have e:dp (k+1) m=d+1:=by rw [hd.out,← Zn8];have:=Hdm.out;omega
 rw [e]
 rfl):P:=h
theorem q11_ (h:P:=by
 clear h h1
 go_enter Tryz.func72,Tryz.ntmps72
 go_wp2
 refine wp_loop_rounds 1 ?_
 rw [rounds_succ]
 go_wp2
 go_ret
 exact Hout.out _ hB0):P:=h
theorem z11_ (h:P:=by
 have hfx:=Zz9 x false (by simp [hx])
 go_wp2_with (go_at_call 66;refine (hfx _).mono ?_;rintro e w' ⟨rfl,rfl⟩)
 go_ret
 exact X8_ (Hfail.out (.inl hx)) rfl Hq.out):P:=h
theorem j11_ (h:P:=by
 go_wp2
 go_roundw
 case rel=>exact ⟨i+1,by go_num,by omega,Hl3.out,((Y2_ Hbw.out _).setCell Hgs.out _).setCell Hgs.out _⟩
 case measure=>simp [intOf];omega):P:=h
theorem k11_ (h:P:=by
 go_wp2
 go_ret
 exact ⟨rfl,Hbr.out⟩):P:=h
theorem q12_ (h:P:=by
 go_wp2
 go_ret
 exact ⟨congrArg (fun b=>Ending.returned (.bool b)) Hno.out.symm,Hbr.out⟩):P:=h
theorem x12_ (h:P:=by
 have hke:k=l.length:=by omega
 have Hfin:=hid (Xf9 l k hke Hset.out)
 subst hke
 go_wp2
 go_ret
 refine X8_ Hfin.out rfl ?_
 rw [Hwr.out];exact Y2_ (Below.refl _ _) q):P:=h
theorem j12_ (h:P:=by
 go_wp2
 go_ret
 exact X8_ (Hsz.out.trans Hb.out) rfl Hwr.out):P:=h
theorem y13_ (h:P:=by
 rintro e w2 ⟨rfl,hb2⟩
 rw [hmb]
 go_wp2
 go_ret
 exact ⟨_,rfl,by rw [Hr.out];exact Row.nil_ _ _,hb1.trans (hb2.mono hb1.size),fun g hg=>by cases hg⟩):P:=h
theorem z13_ (h:P:=by
 rintro e w2 ⟨rfl,hb2⟩
 have HB2:=hid (Z0_ HB1.out (le_refl _) hb2)
 clear hb2
 go_wp2
 go_ret
 exact ⟨_,rfl,Row.nil_ _ _,HB2.out,fun g hg=>by cases hg⟩):P:=h
theorem k13_ (h:P:=by
 go_wp2
 go_roundw
 case rel=>exact ⟨k+1,by go_num,by omega,by rw [Htk.out,Hlen.out];exact hown',hbr.trans hb6⟩
 case measure=>simp [intOf];omega):P:=h
theorem x16_ (h:P:=by
 rintro e w1 ⟨rfl,hb1⟩
 rw [hma]
 go_wp2
 go_ret
 exact ⟨_,rfl,by rw [Hr.out];exact Row.nil_ _ _,hb1,fun g hg=>by cases hg⟩):P:=h
theorem y16_ (h:P:=by
 go_enter Tryz.func129,Tryz.ntmps129
 go_wp2
 rw [← HW0.out]
 go_ret
 exact ⟨rfl,Hb0.out⟩):P:=h
theorem x17_ (h:P:=by
 go_wp2
 refine wp_loop_rounds 1 ?_
 rw [rounds_succ]
 go_wp2
 go_ret
 exact U4_ Hno.out Hq.out Hend.out Hb1.out):P:=h
theorem k17_ (h:P:=by
 refine wpQuiet_nil ?_
 intro w5 hB5
 have Hb5:=hid (Z0_ Hb3.out (le_refl _) hB5)
 clear hB5
 go_wp2
 go_ret
 exact ⟨rfl,Hb5.out⟩):P:=h
theorem j18_ (h:P:=by
 go_enter Tryz.func82,Tryz.ntmps82
 go_wp2
 go_ret
 exact U5_ w (Below.refl _ _) Hf.out):P:=h
theorem k18_ (h:P:=by
 have h0':r<0:=by omega
 go_wp2
 go_ret
 refine ⟨?_,hb⟩
 rw [← Hf.out,decide_eq_false (by omega)]
 rfl):P:=h
theorem x22_ (h:P:=by
 clear hl
 go_wp2
 go_ret
 refine ⟨?_,Below.refl _ _⟩
 simp [Hl.out]):P:=h
theorem y22_ (h:P:=by
 have HB1:=hid hb1
 clear hb1
 go_wp2
 go_ret
 exact ⟨rfl,HB1.out⟩):P:=h
theorem q23_ (h:P:=by
 obtain rfl:=Hr.out
 go_wp2
 go_ret
 exact ⟨by simp,Below.refl _ _⟩):P:=h
theorem x23_ (h:P:=by
 subst hke
 go_wp2
 go_ret
 exact ⟨_,rfl,.inl ⟨rfl,Hz.out⟩,Hb.out⟩):P:=h
theorem y23_ (h:P:=by
 go_wp2
 go_ret
 refine ⟨?_,hb⟩
 rw [← Hf.out,decide_eq_true h0]
 rfl):P:=h
theorem y25_ (h:P:=by
 go_wp2
 go_ret
 exact U4_ Hno.out ⟨hq1,hq4⟩ Hend.out Hbr.out):P:=h
theorem q27_ (h:P:=by
 go_wp2
 go_ret
 exact ⟨rfl,Hb.out⟩):P:=h
theorem k27_ (h:P:=by
 go_wp2
 go_ret
 exact ⟨by rw [← Hb.out,Hc.out];rfl,rfl⟩):P:=h
theorem y28_ (h:P:=by exact (show Tryz.prog.wantsStandIn 25 = false by kernel_rfl)):P:=h
theorem y29_ (h:P:=by
 go_enter Tryz.func26,Tryz.ntmps26
 go_wp2
 refine wp_loop_rounds 1 ?_
 rw [rounds_succ]
 exact x2_):P:=h
theorem z29_ (h:P:=by
 go_enter Tryz.func78,Tryz.ntmps78
 exact x2_):P:=h
theorem j29_ (h:P:=by
 have Hb1:=hid (Z0_ Hb0.out (le_refl _) hb1)
 clear hb1 g0 g1 g2 g3 g4 g5
 exact j1_):P:=h
theorem k29_ (h:P:=by
 have Hb1:=hid (Z0_ Hb0.out (le_refl _) hb1)
 clear hb1
 exact j1_):P:=h
theorem q30_ (h:P:=by
 go_enter Tryz.func123,Tryz.ntmps123
 exact y3_):P:=h
theorem x30_ (h:P:=by
 go_enter Tryz.func77,Tryz.ntmps77
 exact x2_):P:=h
theorem y30_ (h:P:=by
 go_wp2
 refine wp_loop_rounds 1 ?_
 rw [rounds_succ]
 exact x2_):P:=h
theorem z30_ (h:P:=by
 clear hb1
 exact j1_):P:=h
theorem j30_ (h:P:=by
 clear hv hn hci hki gb h2
 have e1:(m.b != 0)=false:=by simpa using q1
 clear q1
 have e2:(m.a != 0)=false:=by simpa using q2
 have e4:¬ (m.i.length:Int)<1:=by omega
 have e5:¬ (8:Int)<(m.i.length:Int):=by omega
 have e6:¬ (1:Int)<(m.i.length:Int):=by omega
 clear q2 q4
 exact k0_):P:=h
theorem k30_ (h:P:=by
 go_enter Tryz.func47,Tryz.ntmps47
 exact x2_):P:=h
theorem q31_ (h:P:=by
 rw [decide_eq_true hl,Bool.true_or]
 obtain ⟨A,c,rfl,_⟩:=hr
 have hne:((zs.length:Int) != rows)=true:=by simpa using hl
 clear hl hp
 go_enter Tryz.func149,Tryz.ntmps149
 exact y3_):P:=h
theorem x31_ (h:P:=by
 have e4:¬ (m.i.length:Int)<1:=by omega
 have e5:¬ (8:Int)<(m.i.length:Int):=by omega
 have e6:(1:Int)<(m.i.length:Int):=by omega
 have e7:(m.t != 9)=true:=by simpa using q6
 clear q4 q5 q6
 exact z0_):P:=h
theorem y31_ (h:P:=by
 rw [hf]
 clear hf
 go_enter Tryz.func66,Tryz.ntmps66
 exact k3_):P:=h
theorem z31_ (h:P:=by
 have Hf:=hid (Hfail.out (.inl fun h=>hx1 h.2))
 have d0:decide (x<0)=false:=by simp;omega
 have d1:1099511627776<x:=by omega
 clear hx1
 exact z6_):P:=h
theorem j31_ (h:P:=by
 go_enter Tryz.func144,Tryz.ntmps144
 exact k3_):P:=h
theorem k31_ (h:P:=by
 replace Hka:=hid (Hka.out.below hb4 Hka.out.lt)
 replace Hkb:=hid (Hkb.out.below hb4 Hkb.out.lt)
 replace Hb0:=hid (Z0_ Hb0.out (le_refl _) hb4)
 clear hb4
 exact x2_):P:=h
theorem x32_ (h:P:=by
 go_enter Tryz.func166,Tryz.ntmps166
 exact k3_):P:=h
theorem y32_ (h:P:=by
 go_enter Tryz.func186,Tryz.ntmps186
 go_wp2_with fail
 refine (L8_ p _ h).mono ?_
 rintro e w' ⟨rfl,rfl⟩
 exact k3_):P:=h
theorem z32_ (h:P:=by
 have hxr2:right≤x:=by omega
 have Hno:=hid (Hmiss.out (Hlast.out.trans (decide_eq_false hxr)))
 exact k7_):P:=h
theorem j32_ (h:P:=by
 rw [hf]
 clear hf
 go_enter Tryz.func127,Tryz.ntmps127
 exact k3_):P:=h
theorem k32_ (h:P:=by
 have Hf:=hid (Hfail.out (.inl fun h=>hx0 h.1))
 have d0:x<0:=by omega
 clear hx0
 exact z6_):P:=h
theorem q33_ (h:P:=by
 rw [decide_eq_true (Or.inl h1)]
 go_enter Tryz.func148,Tryz.ntmps148
 exact y3_):P:=h
theorem x33_ (h:P:=by
 go_enter Tryz.func13,Tryz.ntmps13
 go_wp2_with fail
 rw [HW2.out]
 exact x2_):P:=h
theorem y33_ (h:P:=by
 have e4:¬ (m.i.length:Int)<1:=by omega
 have e5:(8:Int)<(m.i.length:Int):=by omega
 clear q4
 exact z0_):P:=h
theorem j33_ (h:P:=by
 rintro e w2 ⟨rfl,hb2⟩
 have Hb2:=hid (Z0_ Hb1.out (le_refl _) hb2)
 clear hb2 g0 g1 g2 g3 g4 g5
 exact y2_):P:=h
theorem k33_ (h:P:=by
 rw [decide_eq_false (show ¬ (0≤rows∧rows≤64) by omega)]
 simp only [Bool.false_and]
 exact q5_):P:=h
theorem q34_ (h:P:=by
 go_wp2
 refine wp_loop_rounds 3 ?_
 rw [rounds_succ]
 go_wp2
 exact y7_):P:=h
theorem x34_ (h:P:=by
 go_enter Tryz.func46,Tryz.ntmps46
 exact y3_):P:=h
theorem y34_ (h:P:=by
 go_enter Tryz.func74,Tryz.ntmps74
 exact x2_):P:=h
theorem z34_ (h:P:=by
 go_enter Tryz.func190,Tryz.ntmps190
 exact k3_):P:=h
theorem j34_ (h:P:=by
 go_enter Tryz.func105,Tryz.ntmps105
 exact x2_):P:=h
theorem k34_ (h:P:=by
 obtain rfl:=Hr.out
 exact j1_):P:=h
theorem q35_ (h:P:=by
 go_wp2_with fail
 refine (HC.out _ _ _ HL.out HR.out).mono ?_
 exact z4_):P:=h
theorem y35_ (h:P:=by
 rintro e w1 ⟨rfl,hb1⟩
 have Hb1:=hid (Z0_ Hbr.out (le_refl _) hb1)
 exact z30_):P:=h
theorem z35_ (h:P:=by
 go_enter Tryz.func22,Tryz.ntmps22
 go_wp2_with fail
 refine (V7_ _ l w Hr.out hlm Hm.out).mono ?_
 rintro e w1 ⟨rfl,hb1⟩
 have Hb1:=hid hb1
 exact z30_):P:=h
theorem j35_ (h:P:=by
 rintro e w1 ⟨rfl,hb1⟩
 have Hb1:=hid (Z0_ Hb0.out (Nat.le_refl _) hb1)
 exact z30_):P:=h
theorem k35_ (h:P:=by
 rintro e w1 ⟨rfl,hb1⟩
 rw [Hcc.out]
 exact k29_):P:=h
theorem q36_ (h:P:=by
 rw [decide_eq_false h1,Bool.false_and]
 have h1':((l.length:Int)==n)=false:=by simpa using h1
 exact z29_):P:=h
theorem z36_ (h:P:=by
 go_enter Tryz.func74,Tryz.ntmps74
 exact y30_):P:=h
theorem j36_ (h:P:=by
 rintro e w1 ⟨rfl,hb1⟩
 rw [HD.out]
 exact j29_):P:=h
theorem k36_ (h:P:=by
 rintro e w1 ⟨rfl,hb1⟩
 exact k29_):P:=h
theorem q37_ (h:P:=by
 go_wp2_with fail
 refine (mayset_is _ l false Hm.out _ Hru.out).mono ?_
 exact y35_):P:=h
theorem y37_ (h:P:=by kernel_rfl):P:=h
theorem y38_ (h:P:=by go_num):P:=h
end Go.Proofs.YtnaebbjodfnooaaGreatDoor.Wp
