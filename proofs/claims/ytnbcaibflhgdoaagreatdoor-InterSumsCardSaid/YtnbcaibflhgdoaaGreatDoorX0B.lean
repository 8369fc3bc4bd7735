/- Closing steps that stand often, by their scripts (in walks). -/
import Derived.BigQuiet
import Derived.Laws.AppendOwnNone
import Derived.Lib.Hide
import Derived.Lib.OwnBridge
import Derived.Maps.AppendAt
import Derived.WalkKit
import Derived.Test.YtnbcaibflhgdoaaGreatDoorProg
namespace Go.Proofs.YtnbcaibflhgdoaaGreatDoor.Wp
theorem q0_ {P:Prop} (h:P:=by
 rw [e]
 try clear ha
 try clear hb
 try clear hf
 try clear hl
 clear e
 go_enter Tryz.func129,Tryz.ntmps129
 go_wp2
 all_goals (go_ret;exact ⟨rfl,Hb.out⟩)):P:=h
theorem x0_ {P:Prop} (h:P:=by
 go_wp2
 go_loopw [5,7] (fun vn vi wr=>∃ (N i:Nat),vn=.int .i64 N∧vi=.int .i64 i∧i≤m.i.length∧N=addF (sz k) (rs m) (m.i.take i)∧Blk wr w.heap.size 25 #[.int .i64 m.t,.int .i64 m.n,.int .i64 m.a,.int .i64 m.b,.slice Al m.l.length cl,.slice Ai m.i.length ci]∧Below w.heap.size w wr) (fun _ vi _=>m.i.length - (intOf vi).toNat)
 case atStart=>exact ⟨rs m,0,by rw [HN.out],rfl,Nat.zero_le _,rfl,Hblk.out,Hb0.out⟩
 case round =>
  obtain ⟨N2,i,rfl,rfl,hi,hN2,hblk,hbr⟩:=hrel
  have Hblk2:=hid hblk
  have Hbr:=hid hbr
  have HN2:=hid hN2
  have c5:=hblk.cell 5
  clear hblk hbr hN2
  by_cases hlt:i<m.i.length
  ·have hltI:(i:Int)<(m.i.length:Int):=by omega
   by_cases hN:N2<10000
   ·have hNI:(N2:Int)<10000:=by omega
    obtain ⟨ad,u,hA,hab,hsix,hmv⟩:=Hik.out i hlt
    subst hA
    have hsix1:=hsix.below Hbr.out (by rw [Z2_];exact hab)
    have hmv1:=(hmv.bel Hbr.out).mono Hbr.out.size
    have hx:=lim_x Hs.out _ (Y2_ m.i i default hlt)
    have hD:=sz_le k _ hx
    have Hcall:=hid (Ih.out (m.i.getD i default) u wr hmv1 hx)
    have Hnext:Hid (N2+sz k (m.i.getD i default)=addF (sz k) (rs m) (m.i.take (i+1))):=by
     show _=_
     rw [B9_ default hlt,← HN2.out]
     exact (if_pos hN).symm
    obtain ⟨x0,x1,x2,x3,x4,x5,rfl,s0,s1,s2,s3,s4,s5⟩:=hsix1
    obtain ⟨D,hDD⟩:∃ D,sz k (m.i.getD i default)=D:=⟨_,rfl⟩
    rw [hDD] at Hcall Hnext hD
    have hDI:(D:Int)≤140737489000000:=by omega
    clear hsix hmv hmv1 hx hDD hD
    go_wp2_with fail
    refine (Hcall.out).mono ?_
    rintro e w1 ⟨rfl,hb1⟩
    have Hb1:=hid (Z0_ Hbr.out (le_refl _) hb1)
    have Hblk3:=hid (Hblk2.out.below hb1 (by have:=Hblk2.out.lt;exact this))
    clear hb1
    go_wp2
    go_roundw
    case rel=>exact ⟨N2+D,i+1,by go_num,by go_num,by omega,Hnext.out,Hblk3.out,Hb1.out⟩
    case measure=>simp [intOf];omega
   ·have hNI:(10000:Int)≤(N2:Int):=by omega
    have Hend:Hid (N2=sz (k+1) m):=by
     show _=_
     rw [HN2.out]
     exact C0_ (by rw [← HN2.out];omega)
    go_wp2
    go_ret
    exact ⟨by rw [← Hend.out];rfl,Hbr.out⟩
  ·have hie:i=m.i.length:=by omega
   subst hie
   have Hend:Hid (N2=sz (k+1) m):=by
    show _=_
    rw [HN2.out,E8_]
    rfl
   go_wp2
   go_ret
   exact ⟨by rw [← Hend.out];rfl,Hbr.out⟩):P:=h
theorem y0_ {P:Prop} (h:P:=by
 go_enter Tryz.func37,Tryz.ntmps37
 go_wp2_with fail
 refine (Y0_ m.t _).mono ?_
 rintro e w1 ⟨rfl,hb1⟩
 rw [decide_eq_true Hn.out]
 have Hb1:=hid (Z0_ Hb0.out (le_refl _) hb1)
 have Hv1:=hid (Hv.out.up hb1)
 have Hl1:=hid (Hl.out.up hb1)
 have Hblk1:=hid (Hblk.out.below hb1 Hblk.out.lt)
 have k1:=Hblk1.out.cell
 have d0:=k1 0
 have d1:=k1 1
 have d2:=k1 2
 have d3:=k1 3
 have d4:=k1 4
 have d5:=k1 5
 clear k1 hb1 g0 g1 g2 g3 g4 g5 a3 a4 a5 a6 Hb0 Hv Hl Hblk
 go_wp2
 go_ret
 exact ⟨rfl,Hb1.out⟩):P:=h
theorem z0_ {P:Prop} (h:P:=by
 go_wp2
 go_loopw [5,7] (fun vn vi wr=>∃ (N i:Nat),vn=.int .i64 N∧vi=.int .i64 i∧i≤m.i.length∧N=addF (fun _:Mat=>10000) (rs m) (m.i.take i)∧Blk wr w.heap.size 25 #[.int .i64 m.t,.int .i64 m.n,.int .i64 m.a,.int .i64 m.b,.slice Al m.l.length cl,.slice Ai m.i.length ci]∧Below w.heap.size w wr) (fun _ vi _=>m.i.length - (intOf vi).toNat)
 case atStart=>exact ⟨rs m,0,by rw [HN.out],rfl,Nat.zero_le _,rfl,Hblk.out,Hb0.out⟩
 case round =>
  obtain ⟨N2,i,rfl,rfl,hi,hN2,hblk,hbr⟩:=hrel
  have Hblk2:=hid hblk
  have Hbr:=hid hbr
  have HN2:=hid hN2
  have c5:=hblk.cell 5
  clear hblk hbr hN2
  by_cases hlt:i<m.i.length
  ·have hltI:(i:Int)<(m.i.length:Int):=by omega
   by_cases hN:N2<10000
   ·have hNI:(N2:Int)<10000:=by omega
    have Hnext:Hid (N2+10000=addF (fun _:Mat=>10000) (rs m) (m.i.take (i+1))):=by
     show _=_
     rw [B9_ default hlt,← HN2.out]
     exact (if_pos hN).symm
    go_wp2
    go_roundw
    case rel=>exact ⟨N2+10000,i+1,by go_num,by go_num,by omega,Hnext.out,Hblk2.out,Hbr.out⟩
    case measure=>simp [intOf];omega
   ·have hNI:(10000:Int)≤(N2:Int):=by omega
    have Hend:Hid (N2=sz 0 m):=by
     show _=_
     rw [HN2.out]
     exact C0_ (by rw [← HN2.out];omega)
    go_wp2
    go_ret
    exact ⟨by rw [← Hend.out];rfl,Hbr.out⟩
  ·have hie:i=m.i.length:=by omega
   subst hie
   have Hend:Hid (N2=sz 0 m):=by
    show _=_
    rw [HN2.out,E8_]
    rfl
   go_wp2
   go_ret
   exact ⟨by rw [← Hend.out];rfl,Hbr.out⟩):P:=h
theorem j0_ {P:Prop} (h:P:=by
 go_enter Tryz.func37,Tryz.ntmps37
 go_wp2_with fail
 refine (Y0_ m.t _).mono ?_
 rintro e w1 ⟨rfl,hb1⟩
 rw [decide_eq_true Hn.out]
 have Hb1:=hid (Z0_ Hb0.out (le_refl _) hb1)
 have Hv1:=hid (Hv.out.up hb1)
 have Hl1:=hid (Hl.out.up hb1)
 have Hblk1:=hid (Hblk.out.below hb1 Hblk.out.lt)
 have k1:=Hblk1.out.cell
 have d0:=k1 0
 have d1:=k1 1
 have d2:=k1 2
 have d3:=k1 3
 have d4:=k1 4
 have d5:=k1 5
 clear k1 hb1 g0 g1 g2 g3 g4 g5 a3 a4 a5 a6 Hb0 Hv Hl Hblk
 go_wp2_with fail
 refine (Hsum.out _ _ Hv1.out).mono ?_
 rintro e w2 ⟨rfl,hb2⟩
 have Hb2:=hid (Z0_ Hb1.out (le_refl _) hb2)
 have Hl2:=hid (Hl1.out.up hb2)
 have Hblk2:=hid (Hblk1.out.below hb2 Hblk1.out.lt)
 clear hb2 d0 d1 d2 d3 d4 d5 e1 e2 e4 e5 e6
 have k2:=Hblk2.out.cell
 have d0:=k2 0
 have d1:=k2 1
 have d4:=k2 4
 clear k2
 go_wp2
 go_ret
 exact ⟨rfl,Hb2.out⟩):P:=h
theorem q1_ {P:Prop} (h:P:=by
 rcases ht:T (X:Int) (Y:Int) with _ | _
 ·have HMf:=hid HM10.out
  rw [Ys5 ht] at HMf
  go_wp2
  go_roundw
  case rel=>exact ⟨j+1,_,by go_num,by omega,by rw [HL2.out];exact HMf.out,HB10.out⟩
  case measure=>simp [intOf];omega
 ·have hAx:=HM10.out.at_ (i:=X) (by rw [Yx1];exact hXn)
  rw [Zq4 hXn hne] at hAx
  obtain ⟨A12,c12,hv12,gc,gf,ho12⟩:=hAx
  have hql:(V5_ F T L (X:Int)).length≤8320:=by have:=T8_ F T (X:Int) L;omega
  generalize hq:V5_ F T L (X:Int)=q2 at *
  have hsz12:=HB10.out.size
  have Hfy:Hid ((J4_ F T L (Y:Int) (X:Int) n).set X (q2 ++ [(Y:Int)])=V2_ F T (L ++ [((Y:Int),(X:Int))]) n):=hid (by rw [← hq];exact Yx2 hXn hne ht)
  clear hq
  go_wp2_with (at_builtin;refine wpList_append_lies _ rfl _ _ 26 rfl (w5.heap.size+1) 3 k0 (.int .i64 0) 1 8 (by kernel_rfl) ki kz0 kz1 kz2 rfl (by decide) _ q2.length (ints q2) rfl (ho12.alloc _) _ 1 1 [.int .i64 (Y:Int)] rfl rfl (Zs1 _ _ _) (by intro u hu;simp at hu;subst hu;rfl) (by decide) (by unfold maxLen;omega) (by omega) (by simp;exact hsz12) _ rfl ?_)
  intro g12 cap12 v12 hown12 hg12 hat12 _
  have HM12:=hid (AdjM.more HM10.out hv12 hown12 hg12 hat12)
  have HD12:=hid (AdjM.mid HM10.out hv12 _ hg12)
  have gc12:v12.cell? ⟨w5.heap.size,X,none⟩=some (.slice A12 q2.length c12):=by rw [HD12.out.1.cell];simpa using hv12
  have gf12:=HD12.out.1.frozen X
  clear hown12 hg12 hat12
  have HMf:=hid (HM12.out.1)
  rw [Hfy.out] at HMf
  have HBf:=hid (HB10.out.trans (HM12.out.2))
  clear HM12 HD12 Hfy
  go_wp2
  go_roundw
  case rel=>exact ⟨j+1,_,by go_num,by omega,by rw [HL2.out];exact HMf.out,HBf.out⟩
  case measure=>simp [intOf];omega):P:=h
theorem x1_ {P:Prop} (h:P:=by
 go_enter Tryz.func37,Tryz.ntmps37
 go_wp2_with fail
 refine (Y0_ m.t _).mono ?_
 rintro e w1 ⟨rfl,hb1⟩
 rw [decide_eq_true Hn.out]
 have Hb1:=hid (Z0_ Hb0.out (le_refl _) hb1)
 have Hv1:=hid (Hv.out.up hb1)
 have Hl1:=hid (Hl.out.up hb1)
 have Hblk1:=hid (Hblk.out.below hb1 Hblk.out.lt)
 have k1:=Hblk1.out.cell
 have d0:=k1 0
 have d1:=k1 1
 have d2:=k1 2
 have d3:=k1 3
 have d4:=k1 4
 have d5:=k1 5
 clear k1 hb1 g0 g1 g2 g3 g4 g5 a3 a4 a5 a6 Hb0 Hv Hl Hblk
 go_wp2_with fail
 refine (Hsum.out _ _ Hv1.out).mono ?_
 rintro e w2 ⟨rfl,hb2⟩
 have Hb2:=hid (Z0_ Hb1.out (le_refl _) hb2)
 have Hl2:=hid (Hl1.out.up hb2)
 have Hblk2:=hid (Hblk1.out.below hb2 Hblk1.out.lt)
 clear hb2 d0 d1 d2 d3 d4 d5 e1 e2 e4 e5 e6
 have k2:=Hblk2.out.cell
 have d0:=k2 0
 have d1:=k2 1
 have d4:=k2 4
 clear k2
 cases L0
 ·go_wp2
  go_ret
  exact ⟨rfl,Hb2.out⟩
 ·go_wp2
  go_ret
  exact ⟨by rw [Bool.true_and,← f1];rfl,Hb2.out⟩):P:=h
theorem z1_ {P:Prop} (h:P:=by
 go_wp2
 go_ret
 exact ⟨rfl,Hb1.out⟩):P:=h
theorem k1_ {P:Prop} (h:P:=by
 go_wp2
 go_ret
 exact ⟨rfl,Hb0.out⟩):P:=h
theorem q2_ {P:Prop} (h:P:=by
 refine wpQuiet_nil ?_
 intro w5 hB5
 go_wp2
 go_ret
 exact ⟨rfl,Hb0.out.trans (hB5.mono Hb0.out.size)⟩):P:=h
theorem y2_ {P:Prop} (h:P:=by
 clear hx hc Hk Ht
 rcases hq:P x with _ | _
 ·rw [hq] at Hcall
  have Hq:=hid hq
  clear hq
  go_wp2_with fail
  refine (Hcall.out).mono ?_
  rintro e w' ⟨rfl,hb'⟩
  go_wp2
  go_roundw
  case rel =>
   refine ⟨k+1,by go_num,by omega,Hb.out.trans (hb'.mono Hb.out.size),fun j hj=>?_⟩
   by_cases e:j=k
   ·rw [e,← Hx.out]
    exact Hq.out
   ·exact Hz.out j (by omega)
  case measure=>simp [intOf];omega
 ·rw [hq] at Hcall
  have Hq:=hid hq
  clear hq
  go_wp2_with fail
  refine (Hcall.out).mono ?_
  rintro e w' ⟨rfl,hb'⟩
  go_wp2
  go_ret
  exact ⟨_,rfl,.inr ⟨k,hlt,rfl,by rw [← Hx.out];exact Hq.out,Hz.out⟩,Hb.out.trans (hb'.mono Hb.out.size)⟩):P:=h
theorem z2_ {P:Prop} (h:P:=by
 go_wp2
 go_ret
 exact ⟨rfl,Hb2.out⟩):P:=h
theorem x3_ {P:Prop} (h:P:=by
 have Hc:=hid (H7_ 149 #[.pointer (some ⟨bp,0,none⟩)] (wrongB p) v zs w (enters_of Tryz.func149 (by kernel_rfl) rfl) hr (by omega) (wrongtest p bp w hbp hp))
 obtain ⟨A,c,rfl,_⟩:=hr
 rw [decide_eq_false (by omega),Bool.false_or]
 generalize zs.any (wrongB p)=b at *
 have hne:((zs.length:Int) != rows)=false:=by simp [hl]
 clear hl hp
 go_enter Tryz.func151,Tryz.ntmps151
 go_wp2_with fail
 refine (Hc.out).mono ?_
 rintro e w1 ⟨rfl,hb1⟩
 go_wp2
 go_ret
 refine ⟨?_,hb1⟩
 rfl):P:=h
theorem z3_ {P:Prop} (h:P:=by
 go_enter Tryz.func113,Tryz.ntmps113
 go_wp2
 go_ret
 exact ⟨rfl,Below.refl _ _⟩):P:=h
theorem j3_ {P:Prop} (h:P:=by
 go_wp2
 go_ret
 exact ⟨rfl,Below.refl _ _⟩):P:=h
theorem q4_ {P:Prop} (h:P:=by
 go_wp2
 go_ret
 exact ⟨rfl,rfl⟩):P:=h
theorem x4_ {P:Prop} (h:P:=by
 intro v' w4 hown' hgrow
 have hb4:Below w.heap.size wr w4:=((Below.refl _ wr).alloc hbr.size _).grown hgrow (by have:=hbr.size;simp;omega) (fun i hi=>(hown.lt i hi).1)
 go_wp2
 go_roundw
 case rel=>exact ⟨k+1,y :: r,by go_num,by omega,Hrr.out.below hb4,A8_ Hsv.out,by rw [Hx.out,List.length_append];exact hown',hbr.trans hb4⟩
 case measure=>simp [intOf];omega):P:=h
theorem y4_ {P:Prop} (h:P:=by
 go_enter Tryz.func100,Tryz.ntmps100
 go_wp2_with fail
 refine (D8_ p true HP.out _).mono ?_
 rintro e w1 ⟨rfl,hb1⟩
 go_wp2
 go_ret
 exact ⟨rfl,hb1⟩):P:=h
theorem z4_ {P:Prop} (h:P:=by
 have h1':0≤x:=by omega
 rw [show decide (x<0∨p≤x)=decide (p≤x) from decide_eq_decide.2 ⟨fun h=>h.resolve_left h1,.inr⟩]
 clear h1
 go_enter Tryz.func149,Tryz.ntmps149
 go_wp2
 go_ret
 refine ⟨?_,Below.refl _ _⟩
 show Ending.returned (.bool (decide (x<0) || decide (p≤x)))=_
 rw [decide_eq_false (show ¬ x<0 by omega),Bool.false_or]):P:=h
theorem j4_ {P:Prop} (h:P:=by
 go_wp2
 go_roundw
 case rel=>exact ⟨i+1,by go_num,by omega,Hb1.out,Hnext.out Hok1.out⟩
 case measure=>simp [intOf];omega):P:=h
theorem k4_ {P:Prop} (h:P:=by
 have hset:=Zg9 (n:=s.length) Hfn.out hlt
 rw [hfa] at hset
 have Hset:=hid hset
 generalize ST.getD X 0=y at *
 clear hblk hbr hcs hct hX hx0 hx1 hfa hset hsz
 go_wp2
 go_roundw
 case rel=>exact ⟨k+1,by go_num,by omega,by rw [← Hset.out];exact Hblk.out.set_ k _,Hbr.out.setCell (by exact le_refl _) _⟩
 case measure=>simp [intOf];omega):P:=h
theorem q5_ {P:Prop} (h:P:=by
 have hie:i=adj.length:=by omega
 subst hie
 have Hyes:=hid (Hall.out Hok.out)
 go_wp2
 go_ret
 exact ⟨congrArg (fun b=>Ending.returned (.bool b)) Hyes.out.symm,Hbr.out⟩):P:=h
theorem y5_ {P:Prop} (h:P:=by
 subst h0
 go_wp2_with fail
 refine (mayset_is _ l true Hm.out _ Hru.out).mono ?_
 rintro e w1 ⟨rfl,hb1⟩
 have Hb1:=hid (Z0_ Hbr.out (le_refl _) hb1)
 clear hb1
 go_wp2
 go_roundw
 case rel=>exact ⟨i+1,by go_num,by omega,Hb1.out,Hnext.out hok1.out⟩
 case measure=>simp [intOf];omega):P:=h
theorem z5_ {P:Prop} (h:P:=by
 go_wp2
 go_quiet (fail)
 go_wp2
 go_ret
 exact X6_ Hf.out rfl (Y4_ Hq.out _)):P:=h
theorem k5_ {P:Prop} (h:P:=by
 have Hblk1:=hid (Hblk2.out.below hb1 Hblk2.out.lt)
 clear hb1
 go_wp2
 go_roundw
 case rel =>
  refine ⟨max d D,i+1,?_,by go_num,by omega,?_,Hblk1.out,Hb1.out⟩
  ·exact congrArg (Value.int .i64) (by omega)
  ·rw [Hms.out,Hdm.out]
 case measure=>simp [intOf];omega):P:=h
theorem q6_ {P:Prop} (h:P:=by
 rw [rounds_succ]
 go_wp2
 go_ret
 exact X6_ (Hno.out Hx.out) rfl ((Hwr.out).alloc (Hwr.out).size _)):P:=h
theorem y6_ {P:Prop} (h:P:=by
 have Hx:=hid (Hno.out (by rw [Hc.out];decide))
 clear Hyes Hno
 go_wp2
 go_roundw
 case rel=>exact ⟨k+1,y :: r,by go_num,by omega,Hrr.out,A8_ Hsv.out,by rw [Hx.out];exact hown,hbr⟩
 case measure=>simp [intOf];omega):P:=h
theorem z6_ {P:Prop} (h:P:=by
 go_wp2
 go_ret
 exact ⟨congrArg (fun b=>Ending.returned (.bool b)) Hno.out.symm,Hb1.out⟩):P:=h
theorem k6_ {P:Prop} (h:P:=by
 go_enter Tryz.func171,Tryz.ntmps171
 go_wp2
 go_ret
 exact X6_ Hno.out rfl (Below.refl _ _)):P:=h
theorem q7_ {P:Prop} (h:P:=by
 have hd:Hid (dp (k+1) m=1):=by
  show dp (k+1) m=1
  rw [dp,if_neg (by unfold nest;omega)]
 go_enter Tryz.func101,Tryz.ntmps101
 go_wp2
 go_ret
 exact ⟨by rw [hd.out];rfl,Hb0.out⟩):P:=h
theorem x7_ {P:Prop} (h:P:=by
 rintro e w3 ⟨rfl,hb3⟩
 have Hb3:=hid (Z0_ Hb2.out (le_refl _) hb3)
 clear hb3
 go_wp2
 go_ret
 exact ⟨rfl,Hb3.out⟩):P:=h
theorem q8_ {P:Prop} (h:P:=by
 have Hown6:=hid hown
 have Hb6:=hid hbr
 clear hown hbr
 go_wp2
 go_roundw
 case rel=>exact ⟨k+1,by go_num,by omega,by rw [Hm.out];exact Hown6.out,Hb6.out⟩
 case measure=>simp [intOf];omega):P:=h
theorem x8_ {P:Prop} (h:P:=by
 go_enter Tryz.func38,Tryz.ntmps38
 go_wp2
 refine wp_loop_rounds 1 ?_
 rw [rounds_succ]
 go_wp2
 go_ret
 exact ⟨by rw [hd.out];rfl,Hb0.out⟩):P:=h
theorem y8_ {P:Prop} (h:P:=by
 have hie:i=m.i.length:=by omega
 subst hie
 go_wp2
 go_ret
 refine ⟨?_,Hbr.out⟩
 have e:dp (k+1) m=d+1:=by rw [hd.out,← Zc8];have:=Hdm.out;omega
 rw [e]
 rfl):P:=h
theorem q9_ {P:Prop} (h:P:=by
 have hfx:=P0_ x false (by simp [hx])
 go_wp2_with (go_at_call 83;refine (hfx _).mono ?_;rintro e w' ⟨rfl,rfl⟩)
 go_ret
 exact X6_ (Hfail.out (.inl hx)) rfl Hq.out):P:=h
theorem x9_ {P:Prop} (h:P:=by
 go_wp2
 go_ret
 exact ⟨rfl,Hb3.out⟩):P:=h
theorem y9_ {P:Prop} (h:P:=by
 go_wp2
 go_ret
 exact ⟨congrArg (fun b=>Ending.returned (.bool b)) Hno.out.symm,Hbr.out⟩):P:=h
theorem z9_ {P:Prop} (h:P:=by
 have hke:k=l.length:=by omega
 have Hfin:=hid (Yg8 l k hke Hset.out)
 subst hke
 go_wp2
 go_ret
 refine X6_ Hfin.out rfl ?_
 rw [Hwr.out];exact Y4_ (Below.refl _ _) q):P:=h
theorem y11_ {P:Prop} (h:P:=by
 rintro e w2 ⟨rfl,hb2⟩
 have HB2:=hid (Z0_ HB1.out (Nat.le_refl _) hb2)
 clear hb2
 go_wp2
 go_ret
 exact ⟨_,rfl,Row.nil_ _ _,HB2.out⟩):P:=h
theorem z12_ {P:Prop} (h:P:=by
 go_wp2
 go_ret
 exact ⟨rfl,Hbr.out⟩):P:=h
theorem k12_ {P:Prop} (h:P:=by
 go_enter Tryz.func65,Tryz.ntmps65
 go_wp2
 rw [← HW0.out]
 go_ret
 exact ⟨rfl,Hb0.out⟩):P:=h
theorem j13_ {P:Prop} (h:P:=by
 go_wp2
 refine wp_loop_rounds 1 ?_
 rw [rounds_succ]
 go_wp2
 go_ret
 exact O2_ Hno.out Hq.out Hend.out Hb1.out):P:=h
theorem x14_ {P:Prop} (h:P:=by
 refine wpQuiet_nil ?_
 intro w5 hB5
 have Hb5:=hid (Z0_ Hb3.out (le_refl _) hB5)
 clear hB5
 go_wp2
 go_ret
 exact ⟨rfl,Hb5.out⟩):P:=h
theorem j14_ {P:Prop} (h:P:=by
 go_enter Tryz.func51,Tryz.ntmps51
 go_wp2
 go_ret
 exact F2_ w (Below.refl _ _) Hf.out):P:=h
theorem k14_ {P:Prop} (h:P:=by
 have h0':r<0:=by omega
 go_wp2
 go_ret
 refine ⟨?_,hb⟩
 rw [← Hf.out,decide_eq_false (by omega)]
 rfl):P:=h
theorem z15_ {P:Prop} (h:P:=by
 rintro e w2 ⟨rfl,hb2⟩
 rw [hmb]
 go_wp2
 go_ret
 exact F2_ w (hb1.trans (hb2.mono hb1.size)) Hr.out):P:=h
theorem y17_ {P:Prop} (h:P:=by
 clear hl
 go_wp2
 go_ret
 refine ⟨?_,Below.refl _ _⟩
 simp [Hl.out]):P:=h
theorem j17_ {P:Prop} (h:P:=by
 obtain rfl:=Hr.out
 go_wp2
 go_ret
 exact ⟨by simp,Below.refl _ _⟩):P:=h
theorem k17_ {P:Prop} (h:P:=by
 subst hke
 go_wp2
 go_ret
 exact ⟨_,rfl,.inl ⟨rfl,Hz.out⟩,Hb.out⟩):P:=h
theorem q18_ {P:Prop} (h:P:=by
 go_wp2
 go_ret
 refine ⟨?_,hb⟩
 rw [← Hf.out,decide_eq_true h0]
 rfl):P:=h
theorem y19_ {P:Prop} (h:P:=by
 rintro e w1 ⟨rfl,hb1⟩
 rw [hma]
 go_wp2
 go_ret
 exact F2_ w hb1 Hr.out):P:=h
theorem z19_ {P:Prop} (h:P:=by
 go_wp2
 go_ret
 exact O2_ Hno.out ⟨hq1,hq4⟩ Hend.out Hbr.out):P:=h
theorem z22_ {P:Prop} (h:P:=by
 go_enter Tryz.func38,Tryz.ntmps38
 go_wp2
 refine wp_loop_rounds 1 ?_
 rw [rounds_succ]
 exact k1_):P:=h
theorem j22_ {P:Prop} (h:P:=by
 go_enter Tryz.func69,Tryz.ntmps69
 exact k1_):P:=h
theorem k22_ {P:Prop} (h:P:=by
 have Hb1:=hid (Z0_ Hb0.out (le_refl _) hb1)
 clear hb1
 exact z1_):P:=h
theorem q23_ {P:Prop} (h:P:=by
 go_enter Tryz.func104,Tryz.ntmps104
 exact k1_):P:=h
theorem x23_ {P:Prop} (h:P:=by
 go_wp2
 refine wp_loop_rounds 1 ?_
 rw [rounds_succ]
 exact k1_):P:=h
theorem y23_ {P:Prop} (h:P:=by
 clear hb1
 exact z1_):P:=h
theorem z23_ {P:Prop} (h:P:=by
 clear hv hn hci hki gb h2
 have e1:(m.b != 0)=false:=by simpa using q1
 clear q1
 have e2:(m.a != 0)=false:=by simpa using q2
 have e4:¬ (m.i.length:Int)<1:=by omega
 have e5:¬ (8:Int)<(m.i.length:Int):=by omega
 have e6:¬ (1:Int)<(m.i.length:Int):=by omega
 clear q2 q4
 exact j0_):P:=h
theorem j23_ {P:Prop} (h:P:=by
 go_enter Tryz.func37,Tryz.ntmps37
 exact k1_):P:=h
theorem k23_ {P:Prop} (h:P:=by
 rw [decide_eq_true hl,Bool.true_or]
 obtain ⟨A,c,rfl,_⟩:=hr
 have hne:((zs.length:Int) != rows)=true:=by simpa using hl
 clear hl hp
 go_enter Tryz.func151,Tryz.ntmps151
 exact j3_):P:=h
theorem q24_ {P:Prop} (h:P:=by
 have Hb1:=hid (Z0_ Hb0.out (le_refl _) hb1)
 clear hb1 g0 g1 g2 g3 g4 g5
 exact z1_):P:=h
theorem x24_ {P:Prop} (h:P:=by
 have e4:¬ (m.i.length:Int)<1:=by omega
 have e5:¬ (8:Int)<(m.i.length:Int):=by omega
 have e6:(1:Int)<(m.i.length:Int):=by omega
 have e7:(m.t != 9)=true:=by simpa using q6
 clear q4 q5 q6
 exact y0_):P:=h
theorem z24_ {P:Prop} (h:P:=by
 rw [hf]
 clear hf
 go_enter Tryz.func83,Tryz.ntmps83
 exact q4_):P:=h
theorem j24_ {P:Prop} (h:P:=by
 have Hf:=hid (Hfail.out (.inl fun h=>hx1 h.2))
 have d0:decide (x<0)=false:=by simp;omega
 have d1:1099511627776<x:=by omega
 clear hx1
 exact z5_):P:=h
theorem q25_ {P:Prop} (h:P:=by
 go_enter Tryz.func174,Tryz.ntmps174
 exact q4_):P:=h
theorem x25_ {P:Prop} (h:P:=by
 go_enter Tryz.func178,Tryz.ntmps178
 go_wp2_with fail
 refine (G4_ p _ h).mono ?_
 rintro e w' ⟨rfl,rfl⟩
 exact q4_):P:=h
theorem z25_ {P:Prop} (h:P:=by
 refine wpQuiet_nil ?_
 intro w8 hB8
 replace Hb0:=hid (Z0_ Hb0.out (le_refl _) hB8)
 clear hB8
 exact k1_):P:=h
theorem j25_ {P:Prop} (h:P:=by
 have hxr2:right≤x:=by omega
 have Hno:=hid (Hmiss.out (Hlast.out.trans (decide_eq_false hxr)))
 exact z6_):P:=h
theorem k25_ {P:Prop} (h:P:=by
 rw [hf]
 clear hf
 go_enter Tryz.func122,Tryz.ntmps122
 exact q4_):P:=h
theorem q26_ {P:Prop} (h:P:=by
 have Hf:=hid (Hfail.out (.inl fun h=>hx0 h.1))
 have d0:x<0:=by omega
 clear hx0
 exact z5_):P:=h
theorem x26_ {P:Prop} (h:P:=by
 rw [decide_eq_true (Or.inl h1)]
 go_enter Tryz.func149,Tryz.ntmps149
 exact j3_):P:=h
theorem y26_ {P:Prop} (h:P:=by
 have e4:¬ (m.i.length:Int)<1:=by omega
 have e5:(8:Int)<(m.i.length:Int):=by omega
 clear q4
 exact y0_):P:=h
theorem j26_ {P:Prop} (h:P:=by
 rw [decide_eq_false (show ¬ (0≤rows∧rows≤64) by omega)]
 simp only [Bool.false_and]
 exact y4_):P:=h
theorem k26_ {P:Prop} (h:P:=by
 go_wp2
 refine wp_loop_rounds 3 ?_
 rw [rounds_succ]
 go_wp2
 exact q6_):P:=h
theorem q27_ {P:Prop} (h:P:=by
 go_enter Tryz.func68,Tryz.ntmps68
 exact j3_):P:=h
theorem x27_ {P:Prop} (h:P:=by
 go_enter Tryz.func101,Tryz.ntmps101
 exact k1_):P:=h
theorem y27_ {P:Prop} (h:P:=by
 go_enter Tryz.func179,Tryz.ntmps179
 exact q4_):P:=h
theorem z27_ {P:Prop} (h:P:=by
 go_enter Tryz.func130,Tryz.ntmps130
 exact k1_):P:=h
theorem k27_ {P:Prop} (h:P:=by
 obtain rfl:=Hr.out
 exact z1_):P:=h
theorem q28_ {P:Prop} (h:P:=by
 rintro e w1 ⟨rfl,hb1⟩
 have Hb1:=hid (Z0_ Hbr.out (le_refl _) hb1)
 exact y23_):P:=h
theorem x28_ {P:Prop} (h:P:=by
 go_enter Tryz.func33,Tryz.ntmps33
 go_wp2_with fail
 refine (M9_ _ l w Hr.out hlm Hm.out).mono ?_
 rintro e w1 ⟨rfl,hb1⟩
 have Hb1:=hid hb1
 exact y23_):P:=h
theorem y28_ {P:Prop} (h:P:=by
 rintro e w1 ⟨rfl,hb1⟩
 have Hb1:=hid (Z0_ Hb0.out (Nat.le_refl _) hb1)
 exact y23_):P:=h
theorem z28_ {P:Prop} (h:P:=by
 rintro e w1 ⟨rfl,hb1⟩
 rw [Hcc.out]
 exact k22_):P:=h
theorem j28_ {P:Prop} (h:P:=by
 rw [decide_eq_false h1,Bool.false_and]
 have h1':((l.length:Int)==n)=false:=by simpa using h1
 exact j22_):P:=h
theorem x29_ {P:Prop} (h:P:=by
 go_enter Tryz.func101,Tryz.ntmps101
 exact x23_):P:=h
theorem y29_ {P:Prop} (h:P:=by
 rintro e w1 ⟨rfl,hb1⟩
 exact k22_):P:=h
theorem z29_ {P:Prop} (h:P:=by
 go_wp2_with fail
 refine (mayset_is _ l false Hm.out _ Hru.out).mono ?_
 exact q28_):P:=h
theorem k29_ {P:Prop} (h:P:=by kernel_rfl):P:=h
theorem y31_ {P:Prop} (h:P:=by go_num):P:=h
theorem q36_ {P:Prop} (h:P:=by rw [show ymO.size=9 by kernel_rfl];decide):P:=h
end Go.Proofs.YtnbcaibflhgdoaaGreatDoor.Wp
