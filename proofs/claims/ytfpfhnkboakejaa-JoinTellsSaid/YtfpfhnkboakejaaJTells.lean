/- The law on what is told of a graph, walked: it answers true. -/
import Derived.Test.YtfpfhnkboakejaaJFixed
namespace Go.Proofs.Ytfpfhnkboakejaa
open Go.RowKit
namespace Wp

set_option maxHeartbeats 8000000 in
set_option maxRecDepth 100000 in
theorem tells_out (v : Value) (n : Int) (es : List (Int × Int)) (w : World) (re : Edges w w.heap.size v es) (hl : 100 < es.length) : Calls Try.prog 3 #[.int .i64 n, v] w (Truly w) := by
  obtain ⟨A, c, rfl, hlen, _⟩ := re
  have hl' : 100 < (es.length : Int) := by omega
  have hl2 : (es.length : Int) ≤ 9223372036854775807 := by have := hlen.1; have := hlen.2.1; unfold maxLen at this; omega
  clear hlen
  go_enter Try.func3, Try.ntmps3
  go_wp2_with fail
  refine (fixed_any _).mono ?_
  rintro e w1 ⟨rfl, hb1⟩
  have hB1 : Below w.heap.size w w1 := hb1
  clear hb1
  go_wp2
  go_ret
  exact ⟨rfl, hB1⟩

set_option maxHeartbeats 8000000 in
set_option maxRecDepth 100000 in
theorem tells_no (v : Value) (n : Int) (es : List (Int × Int)) (w : World) (re : Edges w w.heap.size v es) (hl : es.length ≤ 100) (hb : isG n es = false) : Calls Try.prog 3 #[.int .i64 n, v] w (Truly w) := by
  have Hb := Lib.hid hb
  have re0 := re
  obtain ⟨A, c, rfl, _⟩ := re0
  have hl' : (es.length : Int) ≤ 100 := by omega
  clear hb
  go_enter Try.func3, Try.ntmps3
  go_wp2_with fail
  refine (comps_no n _ es _ re (by omega) Hb.out).mono ?_
  rintro e w1 ⟨rfl, hb1⟩
  have hB1 : Below w.heap.size w w1 := hb1
  have re' := re.up hb1
  clear re
  have re := re'
  clear re'
  clear hb1
  go_wp2_with fail
  refine (refcomps_no n _ es _ re (by omega) Hb.out).mono ?_
  rintro e w2 ⟨rfl, hb2⟩
  have hB2 : Below w.heap.size w w2 := hB1.trans (hb2.mono hB1.size)
  have re' := re.up hb2
  clear re
  have re := re'
  clear re'
  clear hb2 hB1
  go_wp2_with fail
  refine (parts_bad n _ es _ re (by omega) Hb.out).mono ?_
  rintro e w3 ⟨rfl, hb3⟩
  have hB3 : Below w.heap.size w w3 := hB2.trans (hb3.mono hB2.size)
  have re' := re.up hb3
  clear re
  have re := re'
  clear re'
  clear hb3 hB2
  go_wp2_with fail
  refine (refparts_bad n _ es _ re (by omega) Hb.out).mono ?_
  rintro e w4 ⟨rfl, hb4⟩
  have hB4 : Below w.heap.size w w4 := hB3.trans (hb4.mono hB3.size)
  have re' := re.up hb4
  clear re
  have re := re'
  clear re'
  clear hb4 hB3
  go_wp2_with fail
  refine (fixed_any _).mono ?_
  rintro e w5 ⟨rfl, hb5⟩
  have hB5 : Below w.heap.size w w5 := hB4.trans (hb5.mono hB4.size)
  have re' := re.up hb5
  clear re
  have re := re'
  clear re'
  clear hb5 hB4
  go_wp2_with fail
  refine (same_is _ _ [] [] _ (Row.nil_ _ _) (Row.nil_ _ _) (by decide) (by decide) (same_true rfl)).mono ?_
  rintro e w6 ⟨rfl, hb6⟩
  have hB6 : Below w.heap.size w w6 := hB5.trans (hb6.mono hB5.size)
  have re' := re.up hb6
  clear re
  have re := re'
  clear re'
  clear hb6 hB5
  go_wp2_with fail
  refine (sets_same _ _ [] _ (Rows2.nil_ _ _) (Rows2.nil_ _ _) (by decide) (by decide)).mono ?_
  rintro e w7 ⟨rfl, hb7⟩
  have hB7 : Below w.heap.size w w7 := hB6.trans (hb7.mono hB6.size)
  have re' := re.up hb7
  clear re
  have re := re'
  clear re'
  clear hb7 hB6
  go_wp2_with fail
  refine (rank_bad n _ es _ re (by omega) Hb.out).mono ?_
  rintro e w8 ⟨rfl, hb8⟩
  have hB8 : Below w.heap.size w w8 := hB7.trans (hb8.mono hB7.size)
  have re' := re.up hb8
  clear re
  have re := re'
  clear re'
  clear hb8 hB7
  go_wp2_with fail
  refine (refrank_bad n _ es _ re (by omega) Hb.out).mono ?_
  rintro e w9 ⟨rfl, hb9⟩
  have hB9 : Below w.heap.size w w9 := hB8.trans (hb9.mono hB8.size)
  have re' := re.up hb9
  clear re
  have re := re'
  clear re'
  clear hb9 hB8
  go_wp2_with fail
  refine (forest_bad n _ es _ re (by omega) Hb.out).mono ?_
  rintro e w10 ⟨rfl, hb10⟩
  have hB10 : Below w.heap.size w w10 := hB9.trans (hb10.mono hB9.size)
  have re' := re.up hb10
  clear re
  have re := re'
  clear re'
  clear hb10 hB9
  go_wp2_with fail
  refine (refforest_bad n _ es _ re (by omega) Hb.out).mono ?_
  rintro e w11 ⟨rfl, hb11⟩
  have hB11 : Below w.heap.size w w11 := hB10.trans (hb11.mono hB10.size)
  have re' := re.up hb11
  clear re
  have re := re'
  clear re'
  clear hb11 hB10
  go_wp2
  go_ret
  exact ⟨rfl, hB11⟩

set_option maxHeartbeats 8000000 in
set_option maxRecDepth 100000 in
theorem tells_in (v : Value) (m : Nat) (ns : List (Nat × Nat)) (w : World) (re : Edges w w.heap.size v (castE ns)) (hl : ns.length ≤ 100) (hg : GraphN m ns) : Calls Try.prog 3 #[.int .i64 m, v] w (Truly w) := by
  have Hg := Lib.hid hg
  have hlen := castE_length ns
  have re0 := re
  obtain ⟨A, c, rfl, _⟩ := re0
  have hl' : ((castE ns).length : Int) ≤ 100 := by omega
  have hm : m ≤ 64 := hg.2.1
  clear hg hlen
  have Hpl : Hid ((castP (partsL m (compF ns))).length ≤ 1048576) := by
    show _ ≤ _
    rw [castP_length, parts_length]
    have := cnt_le (rootB (compF ns)) m
    omega
  have Hpp : Hid (∀ p ∈ castP (partsL m (compF ns)), p.length ≤ 1048576) := by
    show ∀ p ∈ _, _
    intro p hp
    obtain ⟨q, hq, rfl⟩ := List.mem_map.1 hp
    obtain ⟨r, _, rfl⟩ := List.mem_map.1 hq
    rw [castL_length]
    have := partAt_length m (compF ns) r
    omega
  go_enter Try.func3, Try.ntmps3
  go_wp2_with fail
  refine (comps_is m _ ns _ re Hg.out).mono ?_
  rintro e w1 ⟨v_rl, rfl, rl, hb1⟩
  have hB1 : Below w.heap.size w w1 := hb1
  have re' := re.up hb1
  clear re
  have re := re'
  clear re'
  clear hb1
  go_wp2_with fail
  refine (refcomps_is m _ ns _ re Hg.out).mono ?_
  rintro e w2 ⟨v_rm, rfl, rm, hb2⟩
  have hB2 : Below w.heap.size w w2 := hB1.trans (hb2.mono hB1.size)
  have re' := re.up hb2
  clear re
  have re := re'
  clear re'
  have rl' := rl.up hb2
  clear rl
  have rl := rl'
  clear rl'
  clear hb2 hB1
  go_wp2_with fail
  refine (parts_is m _ ns _ re Hg.out rfl).mono ?_
  rintro e w3 ⟨v_rp, rfl, rp, hb3⟩
  have hB3 : Below w.heap.size w w3 := hB2.trans (hb3.mono hB2.size)
  have re' := re.up hb3
  clear re
  have re := re'
  clear re'
  have rl' := rl.up hb3
  clear rl
  have rl := rl'
  clear rl'
  have rm' := rm.up hb3
  clear rm
  have rm := rm'
  clear rm'
  clear hb3 hB2
  go_wp2_with fail
  refine (refparts_is m _ ns _ re Hg.out rfl).mono ?_
  rintro e w4 ⟨v_rq, rfl, rq, hb4⟩
  have hB4 : Below w.heap.size w w4 := hB3.trans (hb4.mono hB3.size)
  have re' := re.up hb4
  clear re
  have re := re'
  clear re'
  have rl' := rl.up hb4
  clear rl
  have rl := rl'
  clear rl'
  have rm' := rm.up hb4
  clear rm
  have rm := rm'
  clear rm'
  have rp' := rp.up hb4
  clear rp
  have rp := rp'
  clear rp'
  clear hb4 hB3
  go_wp2_with fail
  refine (fixed_any _).mono ?_
  rintro e w5 ⟨rfl, hb5⟩
  have hB5 : Below w.heap.size w w5 := hB4.trans (hb5.mono hB4.size)
  have re' := re.up hb5
  clear re
  have re := re'
  clear re'
  have rl' := rl.up hb5
  clear rl
  have rl := rl'
  clear rl'
  have rm' := rm.up hb5
  clear rm
  have rm := rm'
  clear rm'
  have rp' := rp.up hb5
  clear rp
  have rp := rp'
  clear rp'
  have rq' := rq.up hb5
  clear rq
  have rq := rq'
  clear rq'
  clear hb5 hB4
  go_wp2_with fail
  refine (same_is _ _ _ _ _ rl rm (by rw [compL_length]; omega) (by rw [compL_length]; omega) (same_true rfl)).mono ?_
  rintro e w6 ⟨rfl, hb6⟩
  have hB6 : Below w.heap.size w w6 := hB5.trans (hb6.mono hB5.size)
  have re' := re.up hb6
  clear re
  have re := re'
  clear re'
  have rl' := rl.up hb6
  clear rl
  have rl := rl'
  clear rl'
  have rm' := rm.up hb6
  clear rm
  have rm := rm'
  clear rm'
  have rp' := rp.up hb6
  clear rp
  have rp := rp'
  clear rp'
  have rq' := rq.up hb6
  clear rq
  have rq := rq'
  clear rq'
  clear hb6 hB5
  clear rl
  clear rm
  go_wp2_with fail
  refine (sets_same _ _ _ _ rp rq Hpl.out Hpp.out).mono ?_
  rintro e w7 ⟨rfl, hb7⟩
  have hB7 : Below w.heap.size w w7 := hB6.trans (hb7.mono hB6.size)
  have re' := re.up hb7
  clear re
  have re := re'
  clear re'
  have rp' := rp.up hb7
  clear rp
  have rp := rp'
  clear rp'
  have rq' := rq.up hb7
  clear rq
  have rq := rq'
  clear rq'
  clear hb7 hB6
  clear rp
  clear rq
  go_wp2_with fail
  refine (rank_is m _ ns _ re Hg.out rfl).mono ?_
  rintro e w8 ⟨rfl, hb8⟩
  have hB8 : Below w.heap.size w w8 := hB7.trans (hb8.mono hB7.size)
  have re' := re.up hb8
  clear re
  have re := re'
  clear re'
  clear hb8 hB7
  go_wp2_with fail
  refine (refrank_is m _ ns _ re Hg.out rfl).mono ?_
  rintro e w9 ⟨rfl, hb9⟩
  have hB9 : Below w.heap.size w w9 := hB8.trans (hb9.mono hB8.size)
  have re' := re.up hb9
  clear re
  have re := re'
  clear re'
  clear hb9 hB8
  go_wp2_with fail
  refine (forest_is m _ ns _ re Hg.out rfl).mono ?_
  rintro e w10 ⟨rfl, hb10⟩
  have hB10 : Below w.heap.size w w10 := hB9.trans (hb10.mono hB9.size)
  have re' := re.up hb10
  clear re
  have re := re'
  clear re'
  clear hb10 hB9
  go_wp2_with fail
  refine (refforest_is m _ ns _ re Hg.out rfl).mono ?_
  rintro e w11 ⟨rfl, hb11⟩
  have hB11 : Below w.heap.size w w11 := hB10.trans (hb11.mono hB10.size)
  have re' := re.up hb11
  clear re
  have re := re'
  clear re'
  clear hb11 hB10
  go_wp2
  go_ret
  exact ⟨rfl, hB11⟩

theorem tells_any (v : Value) (n : Int) (es : List (Int × Int)) (w : World) (re : Edges w w.heap.size v es) : Calls Try.prog 3 #[.int .i64 n, v] w (Truly w) := by
  by_cases hl : 100 < es.length
  · exact tells_out v n es w re hl
  · rcases hb : isG n es with _ | _
    · exact tells_no v n es w re (by omega) hb
    · obtain ⟨m, ns, rfl, rfl, h1, h2, h3, h4⟩ := isG_nat hb
      rw [castE_length] at hl
      exact tells_in v m ns w re (by omega) ⟨h1, h2, h3, h4⟩

end Wp
end Go.Proofs.Ytfpfhnkboakejaa
