/- The calls whose answers the document fixes, walked: they are as it fixes them. -/
import Derived.Test.YtcdfjhmlpdhelaaOQ
import Derived.Test.YtcdfjhmlpdhelaaOGreat
import Derived.Test.YtcdfjhmlpdhelaaSSame
import Derived.Test.YtcdfjhmlpdhelaaKLit
namespace Go.Proofs.Ytcdfjhmlpdhelaa
open Go.RowKit
namespace Wp

set_option maxHeartbeats 8000000 in
set_option maxRecDepth 100000 in
theorem ofixed_any (w : World) : Calls Try.prog 24 #[] w (Truly w) := by
  have HB0 := Lib.hid (Below.refl w.heap.size w)
  go_enter Try.func24, Try.ntmps24
  go_wp2_with fail
  refine (qnew_any _).mono ?_
  rintro e w1 ⟨rfl, hq2, hb3, hz4⟩
  unfold qV
  have HQ5 := Lib.hid hq2
  have HB6 := Lib.hid (below_next HB0.out (Nat.le_refl _) hb3)
  clear hb3 HB0 hq2 hz4
  go_wp2_with fail
  refine (qpush_any (fun i => i < w.heap.size) _ [] (5) 2 (by decide) _ HQ5.out).mono ?_
  rintro e w7 ⟨rfl, hq8, hk9⟩
  have HQ10 := Lib.hid hq8
  have HB11 := Lib.hid (HB6.out.trans (hk9.below HB6.out.size (fun i hi => hi)))
  clear HB6 HQ5 hq8 hk9
  go_wp2_with fail
  refine (qpush_any (fun i => i < w.heap.size) _ [(5, 2)] (5) 1 (by decide) _ HQ10.out).mono ?_
  rintro e w12 ⟨rfl, hq13, hk14⟩
  have HQ15 := Lib.hid hq13
  have HB16 := Lib.hid (HB11.out.trans (hk14.below HB11.out.size (fun i hi => hi)))
  clear HB11 HQ10 hq13 hk14
  go_wp2_with fail
  refine (qpush_any (fun i => i < w.heap.size) _ [(5, 1), (5, 2)] (-3) 9 (by decide) _ HQ15.out).mono ?_
  rintro e w17 ⟨rfl, hq18, hk19⟩
  have HQ20 := Lib.hid hq18
  have HB21 := Lib.hid (HB16.out.trans (hk19.below HB16.out.size (fun i hi => hi)))
  clear HB16 HQ15 hq18 hk19
  go_wp2_with fail
  refine (qpop_any (fun i => i < w.heap.size) _ [(-3, 9), (5, 1), (5, 2)] [(5, 1), (5, 2)] (-3, 9) (by decide) (by decide) (by decide) _ HQ20.out).mono ?_
  rintro e w22 ⟨rfl, hq23, hk24⟩
  have HQ25 := Lib.hid hq23
  have HB26 := Lib.hid (HB21.out.trans (hk24.below HB21.out.size (fun i hi => hi)))
  clear HB21 HQ20 hq23 hk24
  go_wp2_with fail
  refine (qpop_any (fun i => i < w.heap.size) _ [(5, 1), (5, 2)] [(5, 2)] (5, 1) (by decide) (by decide) (by decide) _ HQ25.out).mono ?_
  rintro e w27 ⟨rfl, hq28, hk29⟩
  have HQ30 := Lib.hid hq28
  have HB31 := Lib.hid (HB26.out.trans (hk29.below HB26.out.size (fun i hi => hi)))
  clear HB26 HQ25 hq28 hk29
  go_wp2_with fail
  refine (qpush_nil 1 1 _).mono ?_
  rintro e w32 ⟨rfl, hw33⟩
  replace hw33 := hw33.symm
  subst hw33
  go_wp2_with fail
  refine (qpop_nil _).mono ?_
  rintro e w34 ⟨rfl, hw35⟩
  replace hw35 := hw35.symm
  subst hw35
  go_wp2_with fail
  refine (qlen_any (fun i => i < w.heap.size) _ [(5, 2)] _ HQ30.out).mono ?_
  rintro e w36 ⟨rfl, hw37⟩
  replace hw37 := hw37.symm
  subst hw37
  go_wp2_with fail
  refine (qlen_nil _).mono ?_
  rintro e w38 ⟨rfl, hw39⟩
  replace hw39 := hw39.symm
  subst hw39
  clear HQ30
  have HB40 := Lib.hid (HB31.out.alloc HB31.out.size (.cells #[.int .i64 5, .int .i64 9, .int .i64 5] 3))
  clear HB31
  have f_41 := Lib.hid (Row.at3 w27 (w27.heap.size) (by simp) 5 9 5)
  go_wp2_with fail
  refine (great_any _ [5, 9, 5] _ f_41.out (by decide)).mono ?_
  rintro e w44 ⟨v42, rfl, r43, hb45⟩
  have f_46 := Lib.hid (f_41.out.up hb45)
  clear f_41
  have HB47 := Lib.hid (below_next HB40.out (Nat.le_refl _) hb45)
  clear hb45 HB40
  have r_48 := Lib.hid (r43)
  clear r43
  clear f_46
  have r_49 := Lib.hid (r_48.out.upA (.cells #[.int .i64 1, .int .i64 0, .int .i64 2] 3))
  clear r_48
  have HB50 := Lib.hid (HB47.out.alloc HB47.out.size (.cells #[.int .i64 1, .int .i64 0, .int .i64 2] 3))
  clear HB47
  have l_51 := Lib.hid (Row.at3 w44 (w44.heap.size) (by simp) 1 0 2)
  go_wp2_with fail
  refine (same_is _ _ (greatL [5, 9, 5]) [1, 0, 2] _ r_49.out l_51.out (by decide) (by decide) (same_true (by decide))).mono ?_
  rintro e w52 ⟨rfl, hb53⟩
  have r_54 := Lib.hid (r_49.out.up hb53)
  clear r_49
  have l_55 := Lib.hid (l_51.out.up hb53)
  clear l_51
  have HB56 := Lib.hid (below_next HB50.out (Nat.le_refl _) hb53)
  clear hb53 HB50
  clear l_55
  clear r_54
  go_wp2
  go_ret
  exact ⟨rfl, HB56.out⟩

end Wp
end Go.Proofs.Ytcdfjhmlpdhelaa
