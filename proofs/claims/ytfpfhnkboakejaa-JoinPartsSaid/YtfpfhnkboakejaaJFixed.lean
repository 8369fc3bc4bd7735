/- The calls whose answers the document fixes, walked: they are as it fixes them. -/
import Derived.Test.YtfpfhnkboakejaaJLaw
namespace Go.Proofs.Ytfpfhnkboakejaa
open Go.RowKit
namespace Wp

set_option maxHeartbeats 8000000 in
set_option maxRecDepth 100000 in
theorem fixed_any (w : World) : Calls Try.prog 8 #[] w (Truly w) := by
  go_enter Try.func8, Try.ntmps8
  have re : Edges (w.alloc (.cells #[.int .i64 0, .int .i64 2] 37)) (w.alloc (.cells #[.int .i64 0, .int .i64 2] 37)).heap.size (.slice (some ⟨w.heap.size, 0, none⟩) 1 1) (castE [(0, 2)]) := Edges.lit1 w 0 2
  have hB0 : Below w.heap.size w (w.alloc (.cells #[.int .i64 0, .int .i64 2] 37)) := (Below.refl _ w).alloc (Nat.le_refl _) _
  go_wp2_with fail
  refine (comps_is 3 _ [(0, 2)] _ re (by decide)).mono ?_
  rintro e w1 ⟨v_rl, rfl, rl, hb1⟩
  have hB1 : Below w.heap.size w w1 := hB0.trans (hb1.mono hB0.size)
  have re' := re.up hb1
  clear re
  have re := re'
  clear re'
  clear hb1 hB0
  go_wp2_with fail
  refine (parts_is 3 _ [(0, 2)] _ re (by decide) (pp := [[0, 2], [1]]) (by decide)).mono ?_
  rintro e w2 ⟨v_rp, rfl, rp, hb2⟩
  have hB2 : Below w.heap.size w w2 := hB1.trans (hb2.mono hB1.size)
  have re' := re.up hb2
  clear re
  have re := re'
  clear re'
  have rl' := rl.up hb2
  clear rl
  have rl := rl'
  clear rl'
  clear hb2 hB1
  have hB3 : Below w.heap.size w (w2.alloc (.cells #[.int .i64 0, .int .i64 3] 37)) := hB2.alloc hB2.size _
  clear hB2
  have re' := re.upA (.cells #[.int .i64 0, .int .i64 3] 37)
  clear re
  have re := re'
  clear re'
  have rl' := rl.upA (.cells #[.int .i64 0, .int .i64 3] 37)
  clear rl
  have rl := rl'
  clear rl'
  have rp' := rp.upA (.cells #[.int .i64 0, .int .i64 3] 37)
  clear rp
  have rp := rp'
  clear rp'
  have rf := Edges.lit1 w2 0 3
  go_wp2_with fail
  refine (comps_no 3 _ [(0, 3)] _ rf (by decide) (by decide)).mono ?_
  rintro e w4 ⟨rfl, hb4⟩
  have hB4 : Below w.heap.size w w4 := hB3.trans (hb4.mono hB3.size)
  have re' := re.up hb4
  clear re
  have re := re'
  clear re'
  have rl' := rl.up hb4
  clear rl
  have rl := rl'
  clear rl'
  have rp' := rp.up hb4
  clear rp
  have rp := rp'
  clear rp'
  have rf' := rf.up hb4
  clear rf
  have rf := rf'
  clear rf'
  clear hb4 hB3
  clear rf
  go_wp2_with fail
  refine (parts_bad 0 _ [] _ (Edges.nil_ _ _) (by decide) (by decide)).mono ?_
  rintro e w5 ⟨rfl, hb5⟩
  have hB5 : Below w.heap.size w w5 := hB4.trans (hb5.mono hB4.size)
  have re' := re.up hb5
  clear re
  have re := re'
  clear re'
  have rl' := rl.up hb5
  clear rl
  have rl := rl'
  clear rl'
  have rp' := rp.up hb5
  clear rp
  have rp := rp'
  clear rp'
  clear hb5 hB4
  have hB6 : Below w.heap.size w (w5.alloc (.cells #[.int .i64 0, .int .i64 1, .int .i64 0] 3)) := hB5.alloc hB5.size _
  clear hB5
  have re' := re.upA (.cells #[.int .i64 0, .int .i64 1, .int .i64 0] 3)
  clear re
  have re := re'
  clear re'
  have rl' := rl.upA (.cells #[.int .i64 0, .int .i64 1, .int .i64 0] 3)
  clear rl
  have rl := rl'
  clear rl'
  have rp' := rp.upA (.cells #[.int .i64 0, .int .i64 1, .int .i64 0] 3)
  clear rp
  have rp := rp'
  clear rp'
  have rs := (Row.lit3 w5 0 1 0).here
  go_wp2_with fail
  refine (same_is _ _ _ [0, 1, 0] _ rl rs (by decide) (by decide) (same_true (by decide))).mono ?_
  rintro e w7 ⟨rfl, hb7⟩
  have hB7 : Below w.heap.size w w7 := hB6.trans (hb7.mono hB6.size)
  have re' := re.up hb7
  clear re
  have re := re'
  clear re'
  have rl' := rl.up hb7
  clear rl
  have rl := rl'
  clear rl'
  have rp' := rp.up hb7
  clear rp
  have rp := rp'
  clear rp'
  have rs' := rs.up hb7
  clear rs
  have rs := rs'
  clear rs'
  clear hb7 hB6
  clear rl
  clear rs
  have hB8 : Below w.heap.size w (w7.alloc (.cells #[.int .i64 0, .int .i64 2] 3)) := hB7.alloc hB7.size _
  clear hB7
  have re' := re.upA (.cells #[.int .i64 0, .int .i64 2] 3)
  clear re
  have re := re'
  clear re'
  have rp' := rp.upA (.cells #[.int .i64 0, .int .i64 2] 3)
  clear rp
  have rp := rp'
  clear rp'
  have rx := (Row.lit2 w7 0 2).here
  have hB9 : Below w.heap.size w ((w7.alloc (.cells #[.int .i64 0, .int .i64 2] 3)).alloc (.cells #[.int .i64 1] 3)) := hB8.alloc hB8.size _
  clear hB8
  have re' := re.upA (.cells #[.int .i64 1] 3)
  clear re
  have re := re'
  clear re'
  have rp' := rp.upA (.cells #[.int .i64 1] 3)
  clear rp
  have rp := rp'
  clear rp'
  have rx' := rx.upA (.cells #[.int .i64 1] 3)
  clear rx
  have rx := rx'
  clear rx'
  have ry := (Row.lit1 (w7.alloc (.cells #[.int .i64 0, .int .i64 2] 3)) 1).here
  rw [show (w7.alloc (.cells #[.int .i64 0, .int .i64 2] 3)).heap.size = w7.heap.size + 1 from by simp] at ry
  have hB10 : Below w.heap.size w (((w7.alloc (.cells #[.int .i64 0, .int .i64 2] 3)).alloc (.cells #[.int .i64 1] 3)).alloc (.cells #[.slice (some ⟨w7.heap.size, 0, none⟩) 2 2, .slice (some ⟨w7.heap.size + 1, 0, none⟩) 1 1] 24)) := hB9.alloc hB9.size _
  clear hB9
  have rx0 := rx
  have ry0 := ry
  have re' := re.upA (.cells #[.slice (some ⟨w7.heap.size, 0, none⟩) 2 2, .slice (some ⟨w7.heap.size + 1, 0, none⟩) 1 1] 24)
  clear re
  have re := re'
  clear re'
  have rp' := rp.upA (.cells #[.slice (some ⟨w7.heap.size, 0, none⟩) 2 2, .slice (some ⟨w7.heap.size + 1, 0, none⟩) 1 1] 24)
  clear rp
  have rp := rp'
  clear rp'
  have rx' := rx.upA (.cells #[.slice (some ⟨w7.heap.size, 0, none⟩) 2 2, .slice (some ⟨w7.heap.size + 1, 0, none⟩) 1 1] 24)
  clear rx
  have rx := rx'
  clear rx'
  have ry' := ry.upA (.cells #[.slice (some ⟨w7.heap.size, 0, none⟩) 2 2, .slice (some ⟨w7.heap.size + 1, 0, none⟩) 1 1] 24)
  clear ry
  have ry := ry'
  clear ry'
  have rz := Rows2.lit2 _ rx0 ry0
  rw [show ((w7.alloc (.cells #[.int .i64 0, .int .i64 2] 3)).alloc (.cells #[.int .i64 1] 3)).heap.size = w7.heap.size + 1 + 1 from by simp] at rz
  clear rx
  clear ry
  clear rx0 ry0
  go_wp2_with fail
  refine (sets_same _ _ [[0, 2], [1]] _ rp rz (by decide) (by decide)).mono ?_
  rintro e w11 ⟨rfl, hb11⟩
  have hB11 : Below w.heap.size w w11 := hB10.trans (hb11.mono hB10.size)
  have re' := re.up hb11
  clear re
  have re := re'
  clear re'
  have rp' := rp.up hb11
  clear rp
  have rp := rp'
  clear rp'
  have rz' := rz.up hb11
  clear rz
  have rz := rz'
  clear rz'
  clear hb11 hB10
  clear rp
  clear rz
  go_wp2_with fail
  refine (rank_is 3 _ [(0, 2)] _ re (by decide) (x := 1) (by decide)).mono ?_
  rintro e w12 ⟨rfl, hb12⟩
  have hB12 : Below w.heap.size w w12 := hB11.trans (hb12.mono hB11.size)
  have re' := re.up hb12
  clear re
  have re := re'
  clear re'
  clear hb12 hB11
  go_wp2_with fail
  refine (forest_is 3 _ [(0, 2)] _ re (by decide) (b := true) (by decide)).mono ?_
  rintro e w13 ⟨rfl, hb13⟩
  have hB13 : Below w.heap.size w w13 := hB12.trans (hb13.mono hB12.size)
  have re' := re.up hb13
  clear re
  have re := re'
  clear re'
  clear hb13 hB12
  clear re
  have hB14 : Below w.heap.size w (w13.alloc (.cells #[.int .i64 0, .int .i64 2, .int .i64 2, .int .i64 0] 37)) := hB13.alloc hB13.size _
  clear hB13
  have rf := Edges.lit2 w13 0 2 2 0
  go_wp2_with fail
  refine (forest_is 3 _ [(0, 2), (2, 0)] _ rf (by decide) (b := false) (by decide)).mono ?_
  rintro e w15 ⟨rfl, hb15⟩
  have hB15 : Below w.heap.size w w15 := hB14.trans (hb15.mono hB14.size)
  have rf' := rf.up hb15
  clear rf
  have rf := rf'
  clear rf'
  clear hb15 hB14
  clear rf
  have hB16 : Below w.heap.size w (w15.alloc (.cells #[.int .i64 0, .int .i64 0] 37)) := hB15.alloc hB15.size _
  clear hB15
  have rf := Edges.lit1 w15 0 0
  go_wp2_with fail
  refine (forest_is 1 _ [(0, 0)] _ rf (by decide) (b := false) (by decide)).mono ?_
  rintro e w17 ⟨rfl, hb17⟩
  have hB17 : Below w.heap.size w w17 := hB16.trans (hb17.mono hB16.size)
  have rf' := rf.up hb17
  clear rf
  have rf := rf'
  clear rf'
  clear hb17 hB16
  clear rf
  go_wp2_with fail
  refine (rank_bad 65 _ [] _ (Edges.nil_ _ _) (by decide) (by decide)).mono ?_
  rintro e w18 ⟨rfl, hb18⟩
  have hB18 : Below w.heap.size w w18 := hB17.trans (hb18.mono hB17.size)
  clear hb18 hB17
  go_wp2
  go_ret
  exact ⟨rfl, hB18⟩

end Wp
end Go.Proofs.Ytfpfhnkboakejaa
