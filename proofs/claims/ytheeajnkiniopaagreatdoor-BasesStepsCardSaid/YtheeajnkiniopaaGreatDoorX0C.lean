/- Closing steps that stand often, by their scripts (in walks of regions). -/
import Derived.BigQuiet
import Derived.Laws.AppendOwnNone
import Derived.Laws.EntriesVeiled
import Derived.Lib.Hide
import Derived.Lib.OwnBridge
import Derived.Lib.RabinKarpLaws
import Derived.Lib.TrailingZeros
import Derived.Maps.AppendAt
import Derived.Test.YtheeajnkiniopaaGreatDoorProg
namespace Go.Proofs.YtheeajnkiniopaaGreatDoor.Wp
variable {P:Prop}
theorem j1_ (h:P:=by
 rw [show n=m.n by rw [hm];rfl] at hsub
 clear hm
 have Hc:=hid hc
 have Hsub:=hid hsub
 obtain ⟨lv,iv,hve,hl2,hi2⟩:=hv.open
 have Hb0:=hid (Z1_ w m lv iv)
 have Hv:=hid (hv.up Hb0.out)
 have HE:=hid (hE.up Hb0.out)
 have Hblk:=hid (Z3_ w m lv iv)
 have gb:=Hblk.out.cell
 have g0:=gb 0
 have g1:=gb 1
 have g2:=gb 2
 have g3:=gb 3
 have g4:=gb 4
 have g5:=gb 5
 subst hve
 unfold boxed at *
 rw [hmt] at g0
 have Hsv:=hid (hr.up Hb0.out)
 have hal:=E6_ m.n
 clear hv hE gb hl2 hi2 hc hsub hr
 go_enter Tryz.func134,Tryz.ntmps134
 rw [hmt] at Hv Hblk Hb0 HE Hsv
 rw [hmt]
 go_wp2_with fail
 refine (Q7_ E m _ _ Hv.out hs HE.out).mono ?_
 rintro e w1 ⟨rfl,hb1⟩
 rw [Hc.out]
 have Hb1:=hid (Z0_ Hb0.out (le_refl _) hb1)
 have Hblk1:=hid (Hblk.out.below hb1 (by simp))
 have Hsv1:=hid (Hsv.out.up hb1)
 have c1:=Hblk1.out.cell 1
 clear hb1 g0 g1 g2 g3 g4 g5
 go_wp2_with fail
 refine (A5_ _ _).mono ?_
 rintro e w2 ⟨v2,rfl,hr2,hb2⟩
 have Hb2:=hid (Z0_ Hb1.out (le_refl _) hb2)
 have Hblk2:=hid (Hblk1.out.below hb2 Hblk1.out.lt)
 have Hsv2:=hid (Hsv1.out.up hb2)
 have Hr2:=hid hr2
 clear hb2 hr2 c1
 go_wp2_with fail
 refine (R9_ _ _ s (allL m.n) _ Hsv2.out Hr2.out hsl hal).mono ?_
 rintro e w3 ⟨rfl,hb3⟩
 rw [Hsub.out]
 have Hb3:=hid (Z0_ Hb2.out (le_refl _) hb3)
 clear hb3
 go_wp2
 go_ret2
 exact K4_ w _ Hb3.out):P:=h
theorem k2_ (h:P:=by
 clear hD hm hc
 obtain ⟨lv,iv,hve,hl2,hi2⟩:=hv.open
 have Hb0:=hid (Z1_ w m lv iv)
 have Hv:=hid (hv.up Hb0.out)
 have HE:=hid (hE.up Hb0.out)
 have Hblk:=hid (Z3_ w m lv iv)
 have gb:=Hblk.out.cell
 have g0:=gb 0
 have g1:=gb 1
 have g2:=gb 2
 have g3:=gb 3
 have g4:=gb 4
 have g5:=gb 5
 subst hve
 unfold boxed at *
 rw [hmt] at g0
 clear hv hE gb hl2 hi2
 go_enter Tryz.func134,Tryz.ntmps134
 rw [hmt] at Hv Hblk Hb0 HE
 rw [hmt]
 go_wp2_with fail
 refine (Q7_ E m _ _ Hv.out hs HE.out).mono ?_
 rintro e w1 ⟨rfl,hb1⟩
 rw [Hc.out]
 have Hb1:=hid (Z0_ Hb0.out (le_refl _) hb1)
 clear hb1 g0 g1 g2 g3 g4 g5
 go_wp2
 go_ret2
 exact K4_ w _ Hb1.out):P:=h
theorem x7_ (h:P:=by
 go_enter Tryz.func53,Tryz.ntmps53
 go_wp2
 refine bodyPost_ret (v:=.tuple #[.slice none 0 0,.slice none 0 0,.int .i64 1]) (by simp [results,Tryz.results53,go_sem]) rfl ?_
 exact ⟨rfl,Hb0.out⟩):P:=h
theorem j22_ (h:P:=by
 go_enter Tryz.func131,Tryz.ntmps131
 go_wp2_with fail
 refine (prime_is p true HP.out _ (HM.out.up Hb0.out)).mono ?_
 rintro e w1 ⟨rfl,hb1⟩
 have c0:w1.cell? ⟨w.heap.size,0,none⟩=some (.int .i64 p):=(hb1.cell (p:=⟨w.heap.size,0,none⟩) (by simp;omega)).trans (by simp [go_sem])
 have c1:w1.cell? ⟨w.heap.size+1,0,none⟩=some (.int .i64 rows):=(hb1.cell (p:=⟨w.heap.size+1,0,none⟩) (by simp)).trans (by simp [go_sem])
 have Hb1:=hid (Z0_ Hb0.out (Nat.le_refl _) hb1)
 have Hs1:Hid (w.heap.size+1<w1.heap.size):=j5_
 clear hb1
 exact z1_):P:=h
theorem k22_ (h:P:=by
 go_enter Tryz.func131,Tryz.ntmps131
 go_wp2_with fail
 refine (prime_is p true HP.out _ (HM.out.up Hb0.out)).mono ?_
 rintro e w1 ⟨rfl,hb1⟩
 have c0:w1.cell? ⟨w.heap.size,0,none⟩=some (.int .i64 p):=(hb1.cell (p:=⟨w.heap.size,0,none⟩) (by simp;omega)).trans (by simp [go_sem])
 have c1:w1.cell? ⟨w.heap.size+1,0,none⟩=some (.int .i64 rows):=(hb1.cell (p:=⟨w.heap.size+1,0,none⟩) (by simp)).trans (by simp [go_sem])
 have Hb1:=hid (Z0_ Hb0.out (le_refl _) hb1)
 have Hs1:Hid (w.heap.size+1<w1.heap.size):=j5_
 clear hb1
 exact z1_):P:=h
theorem x29_ (h:P:=by
 rw [decide_eq_false (show ¬ (0≤rows∧rows≤64) by omega)]
 simp only [Bool.false_and]
 exact j22_):P:=h
theorem y29_ (h:P:=by
 rw [decide_eq_false (show ¬ (0≤rows∧rows≤64) by omega)]
 simp only [Bool.false_and]
 exact k22_):P:=h
theorem z34_ (h:P:=by simp [results,Tryz.results35,go_sem]):P:=h
theorem x35_ (h:P:=by simp [results,Tryz.results27,go_sem]):P:=h
end Go.Proofs.YtheeajnkiniopaaGreatDoor.Wp
