/- Closing steps that stand often, by their scripts (in walks). -/
import Derived.BigQuiet
import Derived.Laws.AppendOwnNone
import Derived.Lib.Hide
import Derived.Lib.OwnBridge
import Derived.Maps.AppendAt
import Derived.WalkKit
import Derived.Test.YtheeajnkiniopaaGreatDoorProg
namespace Go.Proofs.YtheeajnkiniopaaGreatDoor.Wp
variable {P:Prop}
theorem q0_ (h:P:=by
 rw [e]
 try clear ha
 try clear hb
 try clear hf
 try clear hl
 clear e
 go_enter Tryz.func148,Tryz.ntmps148
 go_wp2
 all_goals (go_ret;exact ⟨rfl,Hb.out⟩)):P:=h
theorem x0_ (h:P:=by
 go_wp2
 go_loopw [5,7] (fun vn vi wr=>∃ (N i:Nat),vn=.int .i64 N∧vi=.int .i64 i∧i≤m.i.length∧N=addF (sz k) (rs m) (m.i.take i)∧Blk wr w.heap.size 37 #[.int .i64 m.t,.int .i64 m.n,.int .i64 m.a,.int .i64 m.b,.slice Al m.l.length cl,.slice Ai m.i.length ci]∧Below w.heap.size w wr) (fun _ vi _=>m.i.length - (intOf vi).toNat)
 case atStart=>exact ⟨rs m,0,by rw [HN.out],rfl,Nat.zero_le _,rfl,Hblk.out,Hb0.out⟩
 case round =>
  obtain ⟨N2,i,rfl,rfl,hi,hN2,hblk,hbr⟩:=hrel
  have Hblk2:=hid hblk
  have Hbr:=hid hbr
  have HN2:=hid hN2
  have c5:=hblk.cell 5
  clear hblk hbr hN2
  by_cases hlt:i<m.i.length
  ·have hltI:(i:Int)<(m.i.length:Int):=by omega
   by_cases hN:N2<10000
   ·have hNI:(N2:Int)<10000:=by omega
    obtain ⟨ad,u,hA,hab,hsix,hmv⟩:=Hik.out i hlt
    subst hA
    have hsix1:=hsix.below Hbr.out (by rw [Z2_];exact hab)
    have hmv1:=(hmv.bel Hbr.out).mono Hbr.out.size
    have hx:=lim_x Hs.out _ (Y4_ m.i i default hlt)
    have hD:=sz_le k _ hx
    have Hcall:=hid (Ih.out (m.i.getD i default) u wr hmv1 hx)
    have Hnext:Hid (N2+sz k (m.i.getD i default)=addF (sz k) (rs m) (m.i.take (i+1))):=by
     show _=_
     rw [E4_ default hlt,← HN2.out]
     exact (if_pos hN).symm
    obtain ⟨x0,x1,x2,x3,x4,x5,rfl,s0,s1,s2,s3,s4,s5⟩:=hsix1
    obtain ⟨D,hDD⟩:∃ D,sz k (m.i.getD i default)=D:=⟨_,rfl⟩
    rw [hDD] at Hcall Hnext hD
    have hDI:(D:Int)≤140737489000000:=by omega
    clear hsix hmv hmv1 hx hDD hD
    go_wp2_with fail
    refine (Hcall.out).mono ?_
    rintro e w1 ⟨rfl,hb1⟩
    have Hb1:=hid (Z0_ Hbr.out (le_refl _) hb1)
    have Hblk3:=hid (Hblk2.out.below hb1 (by have:=Hblk2.out.lt;exact this))
    clear hb1
    go_wp2
    go_roundw
    case rel=>exact ⟨N2+D,i+1,by go_num,by go_num,by omega,Hnext.out,Hblk3.out,Hb1.out⟩
    case measure=>simp [intOf];omega
   ·have hNI:(10000:Int)≤(N2:Int):=by omega
    have Hend:Hid (N2=sz (k+1) m):=by
     show _=_
     rw [HN2.out]
     exact E5_ (by rw [← HN2.out];omega)
    go_wp2
    go_ret
    exact ⟨by rw [← Hend.out];rfl,Hbr.out⟩
  ·have hie:i=m.i.length:=by omega
   subst hie
   have Hend:Hid (N2=sz (k+1) m):=by
    show _=_
    rw [HN2.out,H5_]
    rfl
   go_wp2
   go_ret
   exact ⟨by rw [← Hend.out];rfl,Hbr.out⟩):P:=h
theorem z0_ (h:P:=by
 go_enter Tryz.func78,Tryz.ntmps78
 go_wp2_with fail
 refine (X1_ m.t _).mono ?_
 rintro e w1 ⟨rfl,hb1⟩
 rw [decide_eq_true Hn.out]
 have Hb1:=hid (Z0_ Hb0.out (le_refl _) hb1)
 have Hv1:=hid (Hv.out.up hb1)
 have Hl1:=hid (Hl.out.up hb1)
 have Hblk1:=hid (Hblk.out.below hb1 Hblk.out.lt)
 have k1:=Hblk1.out.cell
 have d0:=k1 0
 have d1:=k1 1
 have d2:=k1 2
 have d3:=k1 3
 have d4:=k1 4
 have d5:=k1 5
 clear k1 hb1 g0 g1 g2 g3 g4 g5 a3 a4 a5 a6 Hb0 Hv Hl Hblk
 go_wp2
 go_ret
 exact ⟨rfl,Hb1.out⟩):P:=h
theorem j0_ (h:P:=by
 go_wp2
 go_loopw [5,7] (fun vn vi wr=>∃ (N i:Nat),vn=.int .i64 N∧vi=.int .i64 i∧i≤m.i.length∧N=addF (fun _:Mat=>10000) (rs m) (m.i.take i)∧Blk wr w.heap.size 37 #[.int .i64 m.t,.int .i64 m.n,.int .i64 m.a,.int .i64 m.b,.slice Al m.l.length cl,.slice Ai m.i.length ci]∧Below w.heap.size w wr) (fun _ vi _=>m.i.length - (intOf vi).toNat)
 case atStart=>exact ⟨rs m,0,by rw [HN.out],rfl,Nat.zero_le _,rfl,Hblk.out,Hb0.out⟩
 case round =>
  obtain ⟨N2,i,rfl,rfl,hi,hN2,hblk,hbr⟩:=hrel
  have Hblk2:=hid hblk
  have Hbr:=hid hbr
  have HN2:=hid hN2
  have c5:=hblk.cell 5
  clear hblk hbr hN2
  by_cases hlt:i<m.i.length
  ·have hltI:(i:Int)<(m.i.length:Int):=by omega
   by_cases hN:N2<10000
   ·have hNI:(N2:Int)<10000:=by omega
    have Hnext:Hid (N2+10000=addF (fun _:Mat=>10000) (rs m) (m.i.take (i+1))):=by
     show _=_
     rw [E4_ default hlt,← HN2.out]
     exact (if_pos hN).symm
    go_wp2
    go_roundw
    case rel=>exact ⟨N2+10000,i+1,by go_num,by go_num,by omega,Hnext.out,Hblk2.out,Hbr.out⟩
    case measure=>simp [intOf];omega
   ·have hNI:(10000:Int)≤(N2:Int):=by omega
    have Hend:Hid (N2=sz 0 m):=by
     show _=_
     rw [HN2.out]
     exact E5_ (by rw [← HN2.out];omega)
    go_wp2
    go_ret
    exact ⟨by rw [← Hend.out];rfl,Hbr.out⟩
  ·have hie:i=m.i.length:=by omega
   subst hie
   have Hend:Hid (N2=sz 0 m):=by
    show _=_
    rw [HN2.out,H5_]
    rfl
   go_wp2
   go_ret
   exact ⟨by rw [← Hend.out];rfl,Hbr.out⟩):P:=h
theorem k0_ (h:P:=by
 go_enter Tryz.func78,Tryz.ntmps78
 go_wp2_with fail
 refine (X1_ m.t _).mono ?_
 rintro e w1 ⟨rfl,hb1⟩
 rw [decide_eq_true Hn.out]
 have Hb1:=hid (Z0_ Hb0.out (le_refl _) hb1)
 have Hv1:=hid (Hv.out.up hb1)
 have Hl1:=hid (Hl.out.up hb1)
 have Hblk1:=hid (Hblk.out.below hb1 Hblk.out.lt)
 have k1:=Hblk1.out.cell
 have d0:=k1 0
 have d1:=k1 1
 have d2:=k1 2
 have d3:=k1 3
 have d4:=k1 4
 have d5:=k1 5
 clear k1 hb1 g0 g1 g2 g3 g4 g5 a3 a4 a5 a6 Hb0 Hv Hl Hblk
 go_wp2_with fail
 refine (Hsum.out _ _ Hv1.out).mono ?_
 rintro e w2 ⟨rfl,hb2⟩
 have Hb2:=hid (Z0_ Hb1.out (le_refl _) hb2)
 have Hl2:=hid (Hl1.out.up hb2)
 have Hblk2:=hid (Hblk1.out.below hb2 Hblk1.out.lt)
 clear hb2 d0 d1 d2 d3 d4 d5 e1 e2 e4 e5 e6
 have k2:=Hblk2.out.cell
 have d0:=k2 0
 have d1:=k2 1
 have d4:=k2 4
 clear k2
 go_wp2
 go_ret
 exact ⟨rfl,Hb2.out⟩):P:=h
theorem q1_ (h:P:=by
 go_wp2_with fail
 refine (M5_ E _ HE.out).mono ?_
 rintro e w6 ⟨rfl,hb6⟩
 replace HE:=hid (HE.out.up hb6)
 replace HL:=hid (HL.out.up hb6)
 replace HR:=hid (HR.out.up hb6)
 replace HC1:=hid (HC1.out.up hb6)
 replace HC2:=hid (HC2.out.up hb6)
 replace HU1:=hid (HU1.out.up hb6)
 replace HU2:=hid (HU2.out.up hb6)
 replace Hb0:=hid (Z0_ Hb0.out (le_refl _) hb6)
 clear hb6
 go_wp2_with fail
 refine (sameT _ _ c _ HC1.out HC2.out Hcl.out).mono ?_
 rintro e w7 ⟨rfl,hb7⟩
 clear HC1 HC2
 replace HE:=hid (HE.out.up hb7)
 replace HL:=hid (HL.out.up hb7)
 replace HR:=hid (HR.out.up hb7)
 replace HU1:=hid (HU1.out.up hb7)
 replace HU2:=hid (HU2.out.up hb7)
 replace Hb0:=hid (Z0_ Hb0.out (le_refl _) hb7)
 clear hb7
 go_wp2_with fail
 refine (sameT _ _ u1 _ HU1.out HU2.out Hul.out).mono ?_
 rintro e w8 ⟨rfl,hb8⟩
 clear HU1 HU2
 replace HE:=hid (HE.out.up hb8)
 replace HL:=hid (HL.out.up hb8)
 replace HR:=hid (HR.out.up hb8)
 replace Hb0:=hid (Z0_ Hb0.out (le_refl _) hb8)
 clear hb8
 go_wp2_with fail
 refine (G0_ E ms _ _ u _ HL.out Hs.out HR.out (by omega) HE.out (fun j _=>Yq5 _ _)).mono ?_
 rintro e w9 ⟨rfl,hb9⟩
 replace HE:=hid (HE.out.up hb9)
 replace HL:=hid (HL.out.up hb9)
 replace HR:=hid (HR.out.up hb9)
 replace Hb0:=hid (Z0_ Hb0.out (le_refl _) hb9)
 clear hb9
 go_wp2_with fail
 refine (Zv9 E ms _ _ u _ HL.out Hs.out HR.out hK).mono ?_
 rintro e w10 ⟨rfl,hb10⟩
 replace HE:=hid (HE.out.up hb10)
 replace HL:=hid (HL.out.up hb10)
 replace HR:=hid (HR.out.up hb10)
 replace Hb0:=hid (Z0_ Hb0.out (le_refl _) hb10)
 clear hb10
 go_wp2_with fail
 refine (B7_ _ u k _ HR.out (by omega)).mono ?_
 rintro e w11 ⟨x11,rfl,hx11,hb11,_⟩
 have HX:=hid hx11
 obtain ⟨A11,c11,rfl,-⟩:=hx11
 replace HE:=hid (HE.out.up hb11)
 replace HL:=hid (HL.out.up hb11)
 replace HR:=hid (HR.out.up hb11)
 replace Hb0:=hid (Z0_ Hb0.out (le_refl _) hb11)
 clear hb11
 go_wp2_with fail
 refine (F8_ _ u k _ HR.out (by omega)).mono ?_
 rintro e w12 ⟨x12,rfl,hx12,hb12⟩
 have HY:=hid hx12
 obtain ⟨A12,c12,rfl,-⟩:=hx12
 replace HE:=hid (HE.out.up hb12)
 replace HL:=hid (HL.out.up hb12)
 replace HR:=hid (HR.out.up hb12)
 replace HX:=hid (HX.out.up hb12)
 replace Hb0:=hid (Z0_ Hb0.out (le_refl _) hb12)
 clear hb12
 go_wp2_with fail
 refine (sameT _ _ (Z3_ u k) _ HX.out HY.out (by have:=K3_ u k;omega)).mono ?_
 rintro e w13 ⟨rfl,hb13⟩
 replace HE:=hid (HE.out.up hb13)
 replace HL:=hid (HL.out.up hb13)
 replace HR:=hid (HR.out.up hb13)
 replace Hb0:=hid (Z0_ Hb0.out (le_refl _) hb13)
 clear hb13
 go_wp2
 go_ret
 exact ⟨rfl,Hb0.out⟩):P:=h
theorem x1_ (h:P:=by
 obtain ⟨k,rfl,hk,hown,hbr⟩:=hrel
 clear hown0
 by_cases hlt:k<s.length
 ·have hltI:(k:Int)<(s.length:Int):=by omega
  have hx:=Hs.out k hlt
  obtain ⟨as_,hA,hasb,hcs⟩:=Hsk.out k hlt
  subst hA
  have gs:=(hbr.cell (p:=as_.add k) (by rw [Z2_];exact hasb)).trans hcs
  have hmo:=Yy5 (f:=f) (n:=n) hlt
  have hbl:=Zd6 (s.take k) f n
  rw [List.length_take] at hbl
  generalize s.getD k 0=x at *
  have Hmo:=hid hmo
  clear hcs hmo
  by_cases h1:f≤x
  ·by_cases h2:x<f+n
   ·have hw:IntKind.i64.wrap (x - f)=x - f:=by rw [IntKind.wrap_i64];omega
    have Hm:Hid (betL (s.take (k+1)) f n=betL (s.take k) f n ++ [x - f]):=hid (by rw [Hmo.out,if_pos (by unfold betB;rw [decide_eq_true h1,decide_eq_true h2];rfl)])
    go_wp2_with (at_builtin;refine Z4_ rfl _ _ rfl w.heap.size _ _ _ (betL (s.take k) f n) [x - f] rfl rfl (hown.alloc _) (Row.lit1 _ (x - f)) (by omega) (by simp) (by have:=hbr.size;simp;omega) ?_)
    intro v' w6 hown' hgrow
    have hb6:Below w.heap.size wr w6:=((Below.refl _ wr).alloc hbr.size _).grown hgrow (by have:=hbr.size;simp;omega) (fun i hi=>(hown.lt i hi).1)
    have Hown6:Hid (w6.ownsRow w.heap.size 3 1 v' (betL (s.take (k+1)) f n).length (ints (betL (s.take (k+1)) f n))):=hid (by rw [Hm.out,List.length_append];exact hown')
    have Hb6:=hid (hbr.trans hb6)
    clear hown' hb6 hown hbr
    go_wp2
    go_roundw
    case rel=>exact ⟨k+1,by go_num,by omega,Hown6.out,Hb6.out⟩
    case measure=>simp [intOf];omega
   ·have Hm:Hid (betL (s.take (k+1)) f n=betL (s.take k) f n):=hid (by rw [Hmo.out,if_neg (by unfold betB;rw [decide_eq_false h2,Bool.and_false];decide),List.append_nil])
    have Hown6:=hid hown
    have Hb6:=hid hbr
    clear hown hbr
    go_wp2
    go_roundw
    case rel=>exact ⟨k+1,by go_num,by omega,by rw [Hm.out];exact Hown6.out,Hb6.out⟩
    case measure=>simp [intOf];omega
  ·have Hm:Hid (betL (s.take (k+1)) f n=betL (s.take k) f n):=hid (by rw [Hmo.out,if_neg (by unfold betB;rw [decide_eq_false h1,Bool.false_and];decide),List.append_nil])
   have Hown6:=hid hown
   have Hb6:=hid hbr
   clear hown hbr
   go_wp2
   go_roundw
   case rel=>exact ⟨k+1,by go_num,by omega,by rw [Hm.out];exact Hown6.out,Hb6.out⟩
   case measure=>simp [intOf];omega
 ·have hke:k=s.length:=by omega
  subst hke
  rw [List.take_length] at hown
  go_wp2
  go_ret
  exact ⟨_,rfl,Row.of_own hown rfl,hbr⟩):P:=h
theorem y1_ (h:P:=by
 go_enter Tryz.func78,Tryz.ntmps78
 go_wp2_with fail
 refine (X1_ m.t _).mono ?_
 rintro e w1 ⟨rfl,hb1⟩
 rw [decide_eq_true Hn.out]
 have Hb1:=hid (Z0_ Hb0.out (le_refl _) hb1)
 have Hv1:=hid (Hv.out.up hb1)
 have Hl1:=hid (Hl.out.up hb1)
 have Hblk1:=hid (Hblk.out.below hb1 Hblk.out.lt)
 have k1:=Hblk1.out.cell
 have d0:=k1 0
 have d1:=k1 1
 have d2:=k1 2
 have d3:=k1 3
 have d4:=k1 4
 have d5:=k1 5
 clear k1 hb1 g0 g1 g2 g3 g4 g5 a3 a4 a5 a6 Hb0 Hv Hl Hblk
 go_wp2_with fail
 refine (Hsum.out _ _ Hv1.out).mono ?_
 rintro e w2 ⟨rfl,hb2⟩
 have Hb2:=hid (Z0_ Hb1.out (le_refl _) hb2)
 have Hl2:=hid (Hl1.out.up hb2)
 have Hblk2:=hid (Hblk1.out.below hb2 Hblk1.out.lt)
 clear hb2 d0 d1 d2 d3 d4 d5 e1 e2 e4 e5 e6
 have k2:=Hblk2.out.cell
 have d0:=k2 0
 have d1:=k2 1
 have d4:=k2 4
 clear k2
 cases L0
 ·go_wp2
  go_ret
  exact ⟨rfl,Hb2.out⟩
 ·go_wp2
  go_ret
  exact ⟨by rw [Bool.true_and,← f1];rfl,Hb2.out⟩):P:=h
theorem j1_ (h:P:=by
 go_wp2
 go_ret
 exact ⟨rfl,Hb1.out⟩):P:=h
theorem q2_ (h:P:=by
 have hltI:(j:Int)<(c.length:Int):=by omega
 obtain ⟨ad,hA,hc⟩:=Row.nth HR.out hlt
 subst hA
 have g1:=hc wr hb
 have Hn:=hid (Zk2 c q j)
 have Hfl:Hid ((clsTo c q j).length≤1048576):=hid (Nat.le_trans (Yv0 c q j) (by omega))
 generalize clsTo c q j=Z at *
 generalize c.getD j 0=z at *
 clear hc hb
 by_cases hz:z=q
 ·subst hz
  rw [if_pos (by simp)] at Hn
  go_wp2_with (at_builtin;refine Z4_ rfl _ _ rfl w.heap.size _ _ _ Z [(j:Int)] rfl rfl (Hown.out.alloc _) (Row.lit1 _ (j:Int)) (by have:=Hfl.out;omega) (by simp) (by have:=Hb.out.size;simp;omega) ?_)
  intro v' w'' h1 h2
  have HB:=hid ((Hb.out.alloc Hb.out.size _).grown h2 (by have:=Hb.out.size;simp;omega) (fun i hi=>(Hown.out.lt i hi).1))
  have Ho:=hid h1
  clear h1 h2 g1
  go_wp2
  go_roundw
  case rel=>exact ⟨j+1,by go_num,by omega,by rw [Hn.out,List.length_append];exact Ho.out,HB.out⟩
  case measure=>simp [intOf];omega
 ·rw [if_neg (by simpa using hz),List.append_nil] at Hn
  go_wp2
  go_roundw
  case rel=>exact ⟨j+1,by go_num,by omega,by rw [Hn.out];exact Hown.out,Hb.out⟩
  case measure=>simp [intOf];omega):P:=h
theorem x2_ (h:P:=by
 have Hc:=hid hc
 clear hc
 go_wp2_with fail
 refine (Y8_ _ a wr (Ha.out.below hbr |>.mono hbr.size) (by omega) Hma.out).mono ?_
 rintro e w2 ⟨rfl,hb2⟩
 have hB2:=hbr.trans (hb2.mono hbr.size)
 have hown2:=hown.kept (row:=none) (Z7_ hb2 _) (by cases hv:Value.ownBlock _<;>simp)
 clear hb2
 go_wp2_with fail
 refine (Y8_ _ b w2 (Hb.out.below hB2 |>.mono hB2.size) (by omega) Hmb.out).mono ?_
 rintro e w3 ⟨rfl,hb3⟩
 have hB3:=hB2.trans (hb3.mono hB2.size)
 have hown3:=hown2.kept (row:=none) (Z7_ hb3 _) (by cases hv:Value.ownBlock _<;>simp)
 clear hb3 hB2 hown2 hown hbr
 have g1:w3.cell? (ad.add k)=some (.int .i64 x):=(hB3.cell (by rw [Z2_];exact hab)).trans Hg.out
 go_wp2_with fail
 refine (K8_ _ b x _ w3 (Hb.out.below hB3) (by omega) Hc.out).mono ?_
 rintro e w5 ⟨rfl,rfl⟩
 have Hx:=hid (Hno.out (by rw [Hc.out];decide))
 clear Hyes Hno
 go_wp2
 go_roundw
 case rel=>exact ⟨k+1,by go_num,by omega,by rw [Hx.out];exact hown3,hB3⟩
 case measure=>simp [intOf];omega):P:=h
theorem z2_ (h:P:=by
 go_wp2
 go_ret
 exact ⟨rfl,Hb2.out⟩):P:=h
theorem j2_ (h:P:=by
 refine wpQuiet_nil ?_
 intro w5 hB5
 go_wp2
 go_ret
 exact ⟨rfl,Hb0.out.trans (hB5.mono Hb0.out.size)⟩):P:=h
theorem k2_ (h:P:=by
 go_wp2
 go_ret
 exact ⟨rfl,Hb0.out⟩):P:=h
theorem x3_ (h:P:=by
 clear hx hc Hk Ht
 rcases hq:P x with _ | _
 ·rw [hq] at Hcall
  have Hq:=hid hq
  clear hq
  go_wp2_with fail
  refine (Hcall.out).mono ?_
  rintro e w' ⟨rfl,hb'⟩
  go_wp2
  go_roundw
  case rel =>
   refine ⟨k+1,by go_num,by omega,Hb.out.trans (hb'.mono Hb.out.size),fun j hj=>?_⟩
   by_cases e:j=k
   ·rw [e,← Hx.out]
    exact Hq.out
   ·exact Hz.out j (by omega)
  case measure=>simp [intOf];omega
 ·rw [hq] at Hcall
  have Hq:=hid hq
  clear hq
  go_wp2_with fail
  refine (Hcall.out).mono ?_
  rintro e w' ⟨rfl,hb'⟩
  go_wp2
  go_ret
  exact ⟨_,rfl,.inr ⟨k,hlt,rfl,by rw [← Hx.out];exact Hq.out,Hz.out⟩,Hb.out.trans (hb'.mono Hb.out.size)⟩):P:=h
theorem x4_ (h:P:=by
 have Hc:=hid (O0_ 159 #[.pointer (some ⟨bp,0,none⟩)] (wrongB p) v zs w (enters_of Tryz.func159 (by kernel_rfl) rfl) hr (by omega) (wrongtest p bp w hbp hp))
 obtain ⟨A,c,rfl,_⟩:=hr
 rw [decide_eq_false (by omega),Bool.false_or]
 generalize zs.any (wrongB p)=b at *
 have hne:((zs.length:Int) != rows)=false:=by simp [hl]
 clear hl hp
 go_enter Tryz.func161,Tryz.ntmps161
 go_wp2_with fail
 refine (Hc.out).mono ?_
 rintro e w1 ⟨rfl,hb1⟩
 go_wp2
 go_ret
 refine ⟨?_,hb1⟩
 rfl):P:=h
theorem y4_ (h:P:=by
 go_wp2
 go_ret
 exact ⟨rfl,Below.refl _ _⟩):P:=h
theorem j4_ (h:P:=by
 go_wp2
 go_ret
 exact ⟨rfl,rfl⟩):P:=h
theorem k4_ (h:P:=by
 have hc:wr.cell? ⟨g,k,none⟩=some (.int .i64 0):=by
  have:=Hlab.out.cell hlt
  simpa using this
 have hfz:wr.frozen? ⟨g,k,none⟩=false:=Hlab.out.frozen k
 go_wp2
 go_roundw
 case rel =>
  refine ⟨k+1,by go_num,by omega,(Hlab.out.set k k).congr fun i hi=>?_,Hbr.out.setCell Hgs.out _⟩
  by_cases hik:i=k
  ·simp [hik]
  ·by_cases hlt':i<k
   ·simp [hik,hlt',show i<k+1 by omega]
   ·simp [hik,hlt',show ¬ i<k+1 by omega]
 case measure=>simp [intOf];omega):P:=h
theorem x5_ (h:P:=by
 rintro e w3 ⟨rfl,hb3⟩
 have Hb3:=hid (Z0_ Hb2.out (le_refl _) hb3)
 clear hb3
 go_wp2
 go_ret
 exact ⟨rfl,Hb3.out⟩):P:=h
theorem y5_ (h:P:=by
 go_wp2
 refine wp_loop_rounds 1 ?_
 rw [rounds_succ]
 go_wp2_with fail
 refine (Y8_ _ a _ ((Ha.out.below hB0).mono hB0.size) (by omega) Hma.out).mono ?_
 rintro e w1 ⟨rfl,hb1⟩
 have hB1:=hB0.trans (hb1.mono hB0.size)
 clear hb1
 go_wp2_with fail
 refine (Y8_ _ b _ ((Hb.out.below hB1).mono hB1.size) (by omega) Hmb.out).mono ?_
 rintro e w2 ⟨rfl,hb2⟩
 have hB2:=hB1.trans (hb2.mono hB1.size)
 go_wp2
 go_ret
 exact Hout.out _ hB2):P:=h
theorem z5_ (h:P:=by
 intro v' w4 hown' hgrow
 have hb4:Below w.heap.size wr w4:=((Below.refl _ wr).alloc hbr.size _).grown hgrow (by have:=hbr.size;simp;omega) (fun i hi=>(hown.lt i hi).1)
 go_wp2
 go_roundw
 case rel=>exact ⟨k+1,y :: r,by go_num,by omega,Hrr.out.below hb4,D0_ Hsv.out,by rw [Hx.out,List.length_append];exact hown',hbr.trans hb4⟩
 case measure=>simp [intOf];omega):P:=h
theorem j5_ (h:P:=by
 go_enter Tryz.func137,Tryz.ntmps137
 go_wp2_with fail
 refine (G8_ p true HP.out _).mono ?_
 rintro e w1 ⟨rfl,hb1⟩
 go_wp2
 go_ret
 exact ⟨rfl,hb1⟩):P:=h
theorem k5_ (h:P:=by
 have h1':0≤x:=by omega
 rw [show decide (x<0∨p≤x)=decide (p≤x) from decide_eq_decide.2 ⟨fun h=>h.resolve_left h1,.inr⟩]
 clear h1
 go_enter Tryz.func159,Tryz.ntmps159
 go_wp2
 go_ret
 refine ⟨?_,Below.refl _ _⟩
 show Ending.returned (.bool (decide (x<0) || decide (p≤x)))=_
 rw [decide_eq_false (show ¬ x<0 by omega),Bool.false_or]):P:=h
theorem q6_ (h:P:=by
 go_wp2
 go_roundw
 case rel=>exact ⟨i+1,by go_num,by omega,Hb1.out,Hnext.out Hok1.out⟩
 case measure=>simp [intOf];omega):P:=h
theorem y6_ (h:P:=by
 rintro e w1 ⟨rfl,hb1⟩
 have Hb1:=hid hb1
 have g1:=(hb1.cell (p:=al.add (L - 1)) (by rw [Z2_];exact halb)).trans Hcx.out
 clear hb1
 go_wp2
 go_ret
 exact ⟨congrArg (fun b=>Ending.returned (.bool b)) (show ((L:Int)==0 || decide (x<(n:Int)))=false by rw [decide_eq_false (by omega),Bool.or_false];exact beq_false_of_ne hL0),Hb1.out⟩):P:=h
theorem z6_ (h:P:=by
 have hset:=Yz1 (n:=s.length) Hfn.out hlt
 rw [hfa] at hset
 have Hset:=hid hset
 generalize ST.getD X 0=y at *
 clear hblk hbr hcs hct hX hx0 hx1 hfa hset hsz
 go_wp2
 go_roundw
 case rel=>exact ⟨k+1,by go_num,by omega,by rw [← Hset.out];exact Hblk.out.set_ k _,Hbr.out.setCell (by exact le_refl _) _⟩
 case measure=>simp [intOf];omega):P:=h
theorem j6_ (h:P:=by
 have hie:i=adj.length:=by omega
 subst hie
 have Hyes:=hid (Hall.out Hok.out)
 go_wp2
 go_ret
 exact ⟨congrArg (fun b=>Ending.returned (.bool b)) Hyes.out.symm,Hbr.out⟩):P:=h
theorem q7_ (h:P:=by
 intro v' w4 hown' hgrow
 have hb4:Below w.heap.size w5 w4:=((Below.refl _ w5).alloc hB3.size _).grown hgrow (by have:=hB3.size;simp;omega) (fun i hi=>(hown3.lt i hi).1)
 go_wp2
 go_roundw
 case rel=>exact ⟨k+1,by go_num,by omega,by rw [Hx.out,List.length_append];exact hown',hB3.trans hb4⟩
 case measure=>simp [intOf];omega):P:=h
theorem x7_ (h:P:=by
 subst h0
 go_wp2_with fail
 refine (mayset_is _ l true Hm.out _ Hru.out).mono ?_
 rintro e w1 ⟨rfl,hb1⟩
 have Hb1:=hid (Z0_ Hbr.out (le_refl _) hb1)
 clear hb1
 go_wp2
 go_roundw
 case rel=>exact ⟨i+1,by go_num,by omega,Hb1.out,Hnext.out hok1.out⟩
 case measure=>simp [intOf];omega):P:=h
theorem y7_ (h:P:=by
 go_wp2
 go_quiet (fail)
 go_wp2
 go_ret
 exact X7_ Hf.out rfl (Y2_ Hq.out _)):P:=h
theorem z7_ (h:P:=by
 go_wp2
 go_ret
 exact ⟨congrArg (fun b=>Ending.returned (.bool b)) Hyes.out.symm,Hbr.out⟩):P:=h
theorem j7_ (h:P:=by
 have k0:(w.alloc (.cells #[.slice A ms.length d] 22)).cell? ⟨w.heap.size,0,none⟩=some (.slice A ms.length d):=(Blk.new w _ _).cell 0
 go_enter Tryz.func33,Tryz.ntmps33
 go_wp2
 go_ret
 refine ⟨rfl,?_⟩
 first | exact Hb0.out | (rw [← HW0.out];exact Hb0.out)):P:=h
theorem q8_ (h:P:=by
 go_wp2
 go_ret
 exact ⟨rfl,Hb3.out⟩):P:=h
theorem x8_ (h:P:=by
 have Hblk1:=hid (Hblk2.out.below hb1 Hblk2.out.lt)
 clear hb1
 go_wp2
 go_roundw
 case rel =>
  refine ⟨max d D,i+1,?_,by go_num,by omega,?_,Hblk1.out,Hb1.out⟩
  ·exact congrArg (Value.int .i64) (by omega)
  ·rw [Hms.out,Hdm.out]
 case measure=>simp [intOf];omega):P:=h
theorem z8_ (h:P:=by
 rw [rounds_succ]
 go_wp2
 go_ret
 exact X7_ (Hno.out Hx.out) rfl ((Hwr.out).alloc (Hwr.out).size _)):P:=h
theorem k8_ (h:P:=by
 have Hx:=hid (Hno.out (by rw [Hc.out];decide))
 clear Hyes Hno
 go_wp2
 go_roundw
 case rel=>exact ⟨k+1,y :: r,by go_num,by omega,Hrr.out,D0_ Hsv.out,by rw [Hx.out];exact hown,hbr⟩
 case measure=>simp [intOf];omega):P:=h
theorem x9_ (h:P:=by
 go_wp2
 go_ret
 exact ⟨congrArg (fun b=>Ending.returned (.bool b)) Hno.out.symm,Hb1.out⟩):P:=h
theorem y9_ (h:P:=by
 go_wp2
 go_ret
 exact ⟨congrArg (fun b=>Ending.returned (.bool b)) Hno.out.symm,Hbr.out⟩):P:=h
theorem z9_ (h:P:=by
 go_wp2
 refine wp_loop_rounds 1 ?_
 rw [rounds_succ]
 go_wp2_with fail
 refine (Y8_ _ a _ ((Ha.out.below hB0).mono hB0.size) (by omega) Hma.out).mono ?_
 rintro e w1 ⟨rfl,hb1⟩
 have hB1:=hB0.trans (hb1.mono hB0.size)
 go_wp2
 go_ret
 exact Hout.out _ hB1):P:=h
theorem k9_ (h:P:=by
 rintro e w1 ⟨rfl,hb1⟩
 go_wp2
 go_ret
 exact ⟨rfl,hb1⟩):P:=h
theorem q10_ (h:P:=by
 go_wp2
 go_roundw
 case rel=>exact ⟨k+1,by go_num,by omega,by rw [Hx.out];exact hro,hbr⟩
 case measure=>simp [intOf];omega):P:=h
theorem x10_ (h:P:=by
 go_enter Tryz.func186,Tryz.ntmps186
 go_wp2
 go_ret
 exact X7_ Hno.out rfl (Below.refl _ _)):P:=h
theorem y10_ (h:P:=by
 have hd:Hid (dp (k+1) m=1):=by
  show dp (k+1) m=1
  rw [dp,if_neg (by unfold nest;omega)]
 go_enter Tryz.func114,Tryz.ntmps114
 go_wp2
 go_ret
 exact ⟨by rw [hd.out];rfl,Hb0.out⟩):P:=h
theorem j10_ (h:P:=by
 go_wp2
 refine wp_loop_rounds 1 ?_
 rw [rounds_succ]
 go_wp2
 go_ret
 exact Hout.out _ hB0):P:=h
theorem j11_ (h:P:=by
 rintro e w1 ⟨rfl,hb1⟩
 have Hb1:=hid (Z0_ Hbr.out (le_refl _) hb1)
 clear hb1
 go_wp2
 go_roundw
 case rel=>exact ⟨i+1,by go_num,by omega,Hb1.out,Hnext.out Hm.out⟩
 case measure=>simp [intOf];omega):P:=h
theorem k11_ (h:P:=by
 go_enter Tryz.func207,Tryz.ntmps207
 go_wp2
 go_ret
 exact N4_ _ _):P:=h
theorem q12_ (h:P:=by
 go_enter Tryz.func81,Tryz.ntmps81
 go_wp2
 refine wp_loop_rounds 1 ?_
 rw [rounds_succ]
 go_wp2
 go_ret
 exact ⟨by rw [hd.out];rfl,Hb0.out⟩):P:=h
theorem x12_ (h:P:=by
 have hie:i=m.i.length:=by omega
 subst hie
 go_wp2
 go_ret
 refine ⟨?_,Hbr.out⟩
 have e:dp (k+1) m=d+1:=by rw [hd.out,← Zo7];have:=Hdm.out;omega
 rw [e]
 rfl):P:=h
theorem q13_ (h:P:=by
 have hfx:=Zz2 x false (by simp [hx])
 go_wp2_with (go_at_call 124;refine (hfx _).mono ?_;rintro e w' ⟨rfl,rfl⟩)
 go_ret
 exact X7_ (Hfail.out (.inl hx)) rfl Hq.out):P:=h
theorem x13_ (h:P:=by
 go_wp2
 go_roundw
 case rel=>exact ⟨i+1,by go_num,by omega,Hl3.out,((Y2_ Hbw.out _).setCell Hgs.out _).setCell Hgs.out _⟩
 case measure=>simp [intOf];omega):P:=h
theorem y13_ (h:P:=by
 go_wp2
 go_roundw
 case rel=>exact ⟨k+1,by go_num,by omega,by rw [Hn.out,if_neg (by rw [hrf.out];decide),List.append_nil];exact Ho5.out,Hb5.out⟩
 case measure=>simp [intOf];omega):P:=h
theorem z13_ (h:P:=by
 go_wp2
 go_roundw
 case rel=>exact ⟨j+1,by go_num,by omega,by rw [Hn.out,if_neg (by rw [hrf.out];decide),List.append_nil];exact Ho5.out,Hb5.out⟩
 case measure=>simp [intOf];omega):P:=h
theorem j13_ (h:P:=by
 have hke:k=l.length:=by omega
 have Hfin:=hid (Xj9 l k hke Hset.out)
 subst hke
 go_wp2
 go_ret
 refine X7_ Hfin.out rfl ?_
 rw [Hwr.out];exact Y2_ (Below.refl _ _) q):P:=h
theorem q14_ (h:P:=by
 clear hD hxy
 go_enter Tryz.func69,Tryz.ntmps69
 go_wp2
 go_ret
 exact ⟨by rw [HR0.out];first | rfl | simp,Below.refl _ _⟩):P:=h
theorem y14_ (h:P:=by
 go_wp2
 go_ret
 exact X7_ (Hsz.out.trans Hb.out) rfl Hwr.out):P:=h
theorem z14_ (h:P:=by
 have Hb9:=hid (Z0_ Hb0.out (le_refl _) Hb.out)
 go_wp2
 go_ret
 exact ⟨_,rfl,Row.of_own Hown.out rfl,Hb9.out,fun g hg=>Nat.le_trans Hb0.out.size (Hown.out.lt g hg).1⟩):P:=h
theorem q15_ (h:P:=by
 go_wp2
 go_ret
 exact ⟨rfl,Hbr.out⟩):P:=h
theorem y15_ (h:P:=by
 rintro e w2 ⟨rfl,hb2⟩
 rw [hmb]
 go_wp2
 go_ret
 exact ⟨_,rfl,by rw [Hr.out];exact Row.nil_ _ _,hb1.trans (hb2.mono hb1.size),fun g hg=>by cases hg⟩):P:=h
theorem z15_ (h:P:=by
 go_wp2_with fail
 go_roundw
 case rel=>exact ⟨k+1,_,by go_num,by omega,HS8.out,HR8.out⟩
 case measure=>simp [intOf];omega):P:=h
theorem q16_ (h:P:=by
 go_wp2
 go_roundw
 case rel=>exact ⟨k+1,by go_num,by omega,by rw [Htk.out,Hlen.out];exact hown',hbr.trans hb6⟩
 case measure=>simp [intOf];omega):P:=h
theorem q17_ (h:P:=by
 refine wpQuiet_nil ?_
 intro V hV
 have Hb9:=hid (Z0_ Hb0.out (le_refl _) hV)
 clear hV
 go_wp2
 go_ret
 exact ⟨by first | rfl | simp,Hb9.out⟩):P:=h
theorem x17_ (h:P:=by
 subst hke
 go_wp2
 go_ret
 exact ⟨_,rfl,.inl ⟨rfl,Hz.out⟩,Hb.out⟩):P:=h
theorem y17_ (h:P:=by
 clear hsv
 go_wp2
 go_ret
 exact ⟨by rw [Hr.out];rfl,HBr.out⟩):P:=h
theorem q18_ (h:P:=by
 have hke:k=a.length:=by omega
 subst hke
 rw [Hall.out] at hown
 go_wp2
 go_ret
 exact ⟨_,rfl,Row.of_own hown rfl,hbr⟩):P:=h
theorem x19_ (h:P:=by
 rintro e w1 ⟨rfl,hb1⟩
 rw [hma]
 go_wp2
 go_ret
 exact ⟨_,rfl,by rw [Hr.out];exact Row.nil_ _ _,hb1,fun g hg=>by cases hg⟩):P:=h
theorem y19_ (h:P:=by
 go_enter Tryz.func77,Tryz.ntmps77
 go_wp2
 rw [← HW0.out]
 go_ret
 exact ⟨rfl,Hb0.out⟩):P:=h
theorem x20_ (h:P:=by
 go_wp2
 refine wp_loop_rounds 1 ?_
 rw [rounds_succ]
 go_wp2
 go_ret
 exact W0_ Hno.out Hq.out Hend.out Hb1.out):P:=h
theorem k20_ (h:P:=by
 refine wpQuiet_nil ?_
 intro w5 hB5
 have Hb5:=hid (Z0_ Hb3.out (le_refl _) hB5)
 clear hB5
 go_wp2
 go_ret
 exact ⟨rfl,Hb5.out⟩):P:=h
theorem k21_ (h:P:=by
 go_enter Tryz.func63,Tryz.ntmps63
 go_wp2
 go_ret
 exact T2_ w (Below.refl _ _) Hf.out):P:=h
theorem q22_ (h:P:=by
 have h0':r<0:=by omega
 go_wp2
 go_ret
 refine ⟨?_,hb⟩
 rw [← Hf.out,decide_eq_false (by omega)]
 rfl):P:=h
theorem y24_ (h:P:=by
 clear hall
 go_wp2
 go_ret
 exact ⟨by rw [Hr.out];first | rfl | simp [h1],HBr.out⟩):P:=h
theorem z25_ (h:P:=by
 clear hl
 go_wp2
 go_ret
 refine ⟨?_,Below.refl _ _⟩
 simp [Hl.out]):P:=h
theorem q26_ (h:P:=by
 clear hlt hk
 subst hke
 go_wp2
 go_ret
 exact ⟨_,rfl,HS.out.1,HS.out.2⟩):P:=h
theorem y26_ (h:P:=by
 obtain rfl:=Hr.out
 go_wp2
 go_ret
 exact ⟨by simp,Below.refl _ _⟩):P:=h
theorem j26_ (h:P:=by
 go_wp2
 go_ret
 refine ⟨?_,hb⟩
 rw [← Hf.out,decide_eq_true h0]
 rfl):P:=h
theorem x28_ (h:P:=by
 go_wp2
 go_ret
 exact W0_ Hno.out ⟨hq1,hq4⟩ Hend.out Hbr.out):P:=h
theorem k29_ (h:P:=by
 go_wp2
 go_ret
 exact ⟨by rw [← Hb.out,Hc.out];rfl,rfl⟩):P:=h
theorem j30_ (h:P:=by
 clear hf
 have Hlim:=hid hlim
 have HL:=hid hl
 have HE:=hid hE
 have HR:=hid hr
 have Hb0:=hid (Below.refl w.heap.size w)
 obtain ⟨Al,dl,rfl,-⟩:=id hl
 obtain ⟨Au,cu,rfl,-⟩:=id hr
 clear hl hr hE hlim
 go_enter Tryz.func3,Tryz.ntmps3
 go_wp2_with fail
 refine (P6_ ms _ 4 6 _ HL.out Hlim.out.2 Hlim.out.1).mono ?_
 rintro e w1 ⟨rfl,hb1⟩
 rw [Hf.out]
 replace HE:=hid (HE.out.up hb1)
 replace HL:=hid (HL.out.up hb1)
 replace HR:=hid (HR.out.up hb1)
 replace Hb0:=hid (Z0_ Hb0.out (le_refl _) hb1)
 clear hb1
 go_wp2_with fail
 refine (M5_ E _ HE.out).mono ?_
 rintro e w2 ⟨rfl,hb2⟩
 replace HE:=hid (HE.out.up hb2)
 replace HL:=hid (HL.out.up hb2)
 replace HR:=hid (HR.out.up hb2)
 replace Hb0:=hid (Z0_ Hb0.out (le_refl _) hb2)
 clear hb2
 exact k2_):P:=h
theorem y31_ (h:P:=by
 have Hb1:=hid (Z0_ Hb0.out (le_refl _) hb1)
 clear hb1 g0 g1 g2 g3 g4 g5
 exact j1_):P:=h
theorem z31_ (h:P:=by
 go_enter Tryz.func81,Tryz.ntmps81
 go_wp2
 refine wp_loop_rounds 1 ?_
 rw [rounds_succ]
 exact k2_):P:=h
theorem j31_ (h:P:=by
 go_enter Tryz.func109,Tryz.ntmps109
 exact k2_):P:=h
theorem k31_ (h:P:=by
 have Hb1:=hid (Z0_ Hb0.out (le_refl _) hb1)
 clear hb1
 exact j1_):P:=h
theorem q32_ (h:P:=by
 clear hb1
 exact j1_):P:=h
theorem x32_ (h:P:=by
 go_enter Tryz.func129,Tryz.ntmps129
 exact y4_):P:=h
theorem y32_ (h:P:=by
 go_enter Tryz.func117,Tryz.ntmps117
 exact k2_):P:=h
theorem z32_ (h:P:=by
 go_wp2
 refine wp_loop_rounds 1 ?_
 rw [rounds_succ]
 exact k2_):P:=h
theorem j32_ (h:P:=by
 clear hv hn hci hki gb h2
 have e1:(m.b != 0)=false:=by simpa using q1
 clear q1
 have e2:(m.a != 0)=false:=by simpa using q2
 have e4:¬ (m.i.length:Int)<1:=by omega
 have e5:¬ (8:Int)<(m.i.length:Int):=by omega
 have e6:¬ (1:Int)<(m.i.length:Int):=by omega
 clear q2 q4
 exact k0_):P:=h
theorem k32_ (h:P:=by
 go_enter Tryz.func78,Tryz.ntmps78
 exact k2_):P:=h
theorem x33_ (h:P:=by
 rw [decide_eq_true hl,Bool.true_or]
 obtain ⟨A,c,rfl,_⟩:=hr
 have hne:((zs.length:Int) != rows)=true:=by simpa using hl
 clear hl hp
 go_enter Tryz.func161,Tryz.ntmps161
 exact y4_):P:=h
theorem y33_ (h:P:=by
 have e4:¬ (m.i.length:Int)<1:=by omega
 have e5:¬ (8:Int)<(m.i.length:Int):=by omega
 have e6:(1:Int)<(m.i.length:Int):=by omega
 have e7:(m.t != 9)=true:=by simpa using q6
 clear q4 q5 q6
 exact z0_):P:=h
theorem z33_ (h:P:=by
 rw [hf]
 clear hf
 go_enter Tryz.func124,Tryz.ntmps124
 exact j4_):P:=h
theorem j33_ (h:P:=by
 have Hf:=hid (Hfail.out (.inl fun h=>hx1 h.2))
 have d0:decide (x<0)=false:=by simp;omega
 have d1:1099511627776<x:=by omega
 clear hx1
 exact y7_):P:=h
theorem k33_ (h:P:=by
 go_enter Tryz.func198,Tryz.ntmps198
 exact j4_):P:=h
theorem x34_ (h:P:=by
 go_enter Tryz.func189,Tryz.ntmps189
 exact j4_):P:=h
theorem y34_ (h:P:=by
 go_enter Tryz.func193,Tryz.ntmps193
 go_wp2_with fail
 refine (K9_ p _ h).mono ?_
 rintro e w' ⟨rfl,rfl⟩
 exact j4_):P:=h
theorem z34_ (h:P:=by
 have Hb2:=hid (Z0_ Hb1.out (le_refl _) hb2)
 clear hb2 g0 g1 g2 g3 g4 g5
 exact z2_):P:=h
theorem k34_ (h:P:=by
 have hxr2:right≤x:=by omega
 have Hno:=hid (Hmiss.out (Hlast.out.trans (decide_eq_false hxr)))
 exact x9_):P:=h
theorem q35_ (h:P:=by
 rw [hf]
 clear hf
 go_enter Tryz.func166,Tryz.ntmps166
 exact j4_):P:=h
theorem x35_ (h:P:=by
 have Hf:=hid (Hfail.out (.inl fun h=>hx0 h.1))
 have d0:x<0:=by omega
 clear hx0
 exact y7_):P:=h
theorem y35_ (h:P:=by
 rw [decide_eq_true (Or.inl h1)]
 go_enter Tryz.func159,Tryz.ntmps159
 exact y4_):P:=h
theorem z35_ (h:P:=by
 clear h h1
 go_enter Tryz.func24,Tryz.ntmps24
 exact j10_):P:=h
theorem j35_ (h:P:=by
 have e4:¬ (m.i.length:Int)<1:=by omega
 have e5:(8:Int)<(m.i.length:Int):=by omega
 clear q4
 exact z0_):P:=h
theorem x36_ (h:P:=by
 rw [decide_eq_false (show ¬ (0≤rows∧rows≤64) by omega)]
 simp only [Bool.false_and]
 exact j5_):P:=h
theorem y36_ (h:P:=by
 go_wp2
 refine wp_loop_rounds 3 ?_
 rw [rounds_succ]
 go_wp2
 exact z8_):P:=h
theorem z36_ (h:P:=by
 go_enter Tryz.func108,Tryz.ntmps108
 exact y4_):P:=h
theorem j36_ (h:P:=by
 go_enter Tryz.func114,Tryz.ntmps114
 exact k2_):P:=h
theorem k36_ (h:P:=by
 go_enter Tryz.func194,Tryz.ntmps194
 exact j4_):P:=h
theorem q37_ (h:P:=by
 go_enter Tryz.func149,Tryz.ntmps149
 exact k2_):P:=h
theorem x37_ (h:P:=by
 obtain rfl:=Hr.out
 exact j1_):P:=h
theorem y37_ (h:P:=by
 go_wp2_with fail
 refine (HC.out _ _ _ HL.out HR.out).mono ?_
 exact x5_):P:=h
theorem j37_ (h:P:=by
 rintro e w1 ⟨rfl,hb1⟩
 have Hb1:=hid (Z0_ Hbr.out (le_refl _) hb1)
 exact q32_):P:=h
theorem k37_ (h:P:=by
 rintro e w1 ⟨rfl,hb1⟩
 have Hb1:=hid hb1
 exact q32_):P:=h
theorem q38_ (h:P:=by
 rintro e w1 ⟨rfl,hb1⟩
 have Hb1:=hid (Z0_ Hb0.out (Nat.le_refl _) hb1)
 exact q32_):P:=h
theorem x38_ (h:P:=by
 rintro e w1 ⟨rfl,hb1⟩
 have Hb1:=hid hb1
 have g1:=(hb1.cell (p:=al.add (L - 1)) (by rw [Z2_];exact halb)).trans Hcx.out
 exact q32_):P:=h
theorem y38_ (h:P:=by
 rintro e w1 ⟨rfl,hb1⟩
 rw [Hcc.out]
 exact k31_):P:=h
theorem z38_ (h:P:=by
 go_wp2_with fail
 refine (P5_ m _ _ s _ Hv0.out Hs.out Hr0.out).mono ?_
 rintro e w1 ⟨rfl,hb1⟩
 rw [Hm.out]
 exact y31_):P:=h
theorem j38_ (h:P:=by
 rintro e w1 ⟨rfl,hb1⟩
 exact k31_):P:=h
theorem k38_ (h:P:=by
 rw [decide_eq_false h1,Bool.false_and]
 have h1':((l.length:Int)==n)=false:=by simpa using h1
 exact j31_):P:=h
theorem y39_ (h:P:=by
 go_enter Tryz.func114,Tryz.ntmps114
 exact z32_):P:=h
theorem z39_ (h:P:=by
 rintro e w1 ⟨rfl,hb1⟩
 rw [HD.out]
 exact y31_):P:=h
theorem j39_ (h:P:=by
 go_enter Tryz.func44,Tryz.ntmps44
 go_wp2_with fail
 refine (Y8_ _ l w Hr.out hlm Hm.out).mono ?_
 exact k37_):P:=h
theorem k39_ (h:P:=by
 go_wp2_with fail
 refine (mayset_is _ l false Hm.out _ Hru.out).mono ?_
 exact j37_):P:=h
theorem x40_ (h:P:=by kernel_rfl):P:=h
theorem x41_ (h:P:=by go_num):P:=h
end Go.Proofs.YtheeajnkiniopaaGreatDoor.Wp
